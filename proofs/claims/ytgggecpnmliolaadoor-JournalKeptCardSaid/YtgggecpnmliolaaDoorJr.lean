/- A journal in memory: its cells; what its operations leave alone; what it counts. -/
import Derived.Test.YtgggecpnmliolaaDoorLaw4
import Derived.Test.YtgggecpnmliolaaDoorScan
import Derived.Test.YtgggecpnmliolaaDoorRScan
import Derived.Defers
namespace Go.Proofs.YtgggecpnmliolaaDoor
open Go Go.RowKit Frm
set_option linter.unusedVariables false
set_option linter.unusedSimpArgs false

/-- a journal's two cells in block j: its disk lies in block g, and it counts n -/
def Jrn (g j : Nat) (n : Int) (w : World) : Prop := w.heap[j]? = some (Obj.cells #[.pointer (some ⟨g, 0, none⟩), .int .i64 n] 59 (0, 0))

theorem Jrn.lt {g j : Nat} {n : Int} {w : World} (h : Jrn g j n w) : j < w.heap.size := (Array.getElem?_eq_some_iff.1 h).1
theorem Jrn.cells {g j : Nat} {n : Int} {w : World} (h : Jrn g j n w) : w.cell? ⟨j, 0, none⟩ = some (.pointer (some ⟨g, 0, none⟩)) ∧ w.cell? ⟨j, 1, none⟩ = some (.int .i64 n) := by
  unfold Jrn at h
  exact ⟨by simp [World.cell?, h], by simp [World.cell?, h]⟩
theorem Jrn.free {g j : Nat} {n : Int} {w : World} (h : Jrn g j n w) (k : Nat) : w.frozen? ⟨j, k, none⟩ = false := by
  unfold Jrn at h
  simp [World.frozen?, h]
theorem Jrn.later {g j : Nat} {n : Int} {w w' : World} (h : Jrn g j n w) (hb : Below w.heap.size w w') : Jrn g j n w' := by
  unfold Jrn
  rw [hb.block j h.lt]
  exact h
theorem Jrn.tame {B g j : Nat} {n : Int} {w w' : World} (h : Jrn g j n w) (ht : Tame B w w') : Jrn g j n w' := by
  unfold Jrn
  rw [ht.keeps j _ _ _ h (by decide) (by decide)]
  exact h
theorem Jrn.put {g j : Nat} {n : Int} {w : World} (h : Jrn g j n w) (m : Int) : Jrn g j m (w.setCell ⟨j, 1, none⟩ (.int .i64 m)) ∧ Only j w (w.setCell ⟨j, 1, none⟩ (.int .i64 m)) := by
  have ho := only_setCell w j 1 _ _ (.int .i64 m) h
  exact ⟨by unfold Jrn; rw [ho.2]; simp, ho.1⟩

/-- what a journal's operation leaves alone -/
structure Jame (B : Nat) (w w' : World) : Prop where
  below : Below B w w'
  keeps : ∀ (k : Nat) (cs : Array Value) (t : TypeId) (fr : Nat × Nat), w.heap[k]? = some (Obj.cells cs t fr) → t ≠ 5 → t ≠ 54 → t ≠ 59 → w'.heap[k]? = w.heap[k]?

theorem Tame.jame {B : Nat} {w w' : World} (h : Tame B w w') : Jame B w w' := ⟨h.below, fun k cs t fr hk h1 h2 _ => h.keeps k cs t fr hk h1 h2⟩
theorem Jame.size {B : Nat} {w w' : World} (h : Jame B w w') : w.heap.size ≤ w'.heap.size := h.below.size
theorem Jame.refl (B : Nat) (w : World) : Jame B w w := (Tame.refl B w).jame
theorem Jame.trans {B : Nat} {a b c : World} (h : Jame B a b) (k : Jame B b c) : Jame B a c :=
  ⟨h.below.trans k.below, fun i cs t fr hi h1 h2 h3 => by
    have e := h.keeps i cs t fr hi h1 h2 h3
    rw [k.keeps i cs t fr (by rw [e]; exact hi) h1 h2 h3, e]⟩
theorem Jame.new {B : Nat} {w w' : World} (h : Below w.heap.size w w') (hB : B ≤ w.heap.size) : Jame B w w' := (Tame.new h hB).jame
theorem Jame.only {B g j : Nat} {n : Int} {w w' : World} (hj : Jrn g j n w) (ho : Only j w w') (hg : B ≤ j) (hB : B ≤ w.heap.size) : Jame B w w' :=
  ⟨ho.below hg hB, fun k cs t fr hk _ _ h3 => ho.block k (Array.getElem?_eq_some_iff.1 hk).1 (fun e => by
    cases e
    unfold Jrn at hj
    rw [hj] at hk
    simp only [Option.some.injEq, Obj.cells.injEq] at hk
    exact h3 hk.2.1.symm)⟩
theorem Jame.own {B b n s : Nat} {e : TypeId} {v : Value} {xs : List Value} {w w' : World} (h : Jame B w w') (ho : w.ownsRow b e s v n xs) (h1 : e ≠ 5) (h2 : e ≠ 54) (h3 : e ≠ 59) : w'.ownsRow b e s v n xs := by
  refine ⟨ho.1, ?_⟩
  rcases ho.2 with h0 | ⟨g', cap, cur, hv, hb, hg, hr⟩
  · exact .inl h0
  · exact .inr ⟨g', cap, cur, hv, hb, by rw [h.keeps g' _ _ _ hg h1 h2 h3]; exact hg, hr⟩
/-- a cell of another type -/
theorem Tame.cell {B k o : Nat} {w w' : World} {cs : Array Value} {t : TypeId} {fr : Nat × Nat} {v : Value} (h : Tame B w w') (hk : w.heap[k]? = some (Obj.cells cs t fr)) (h1 : t ≠ 5) (h2 : t ≠ 54) (hv : w.cell? ⟨k, o, none⟩ = some v) : w'.cell? ⟨k, o, none⟩ = some v := by
  have e := h.keeps k cs t fr hk h1 h2
  rw [← hv]
  simp only [World.cell?, e]

theorem count_any {g j : Nat} {n : Int} {w : World} (h : Jrn g j n w) : Calls Tryd.prog 20 #[.pointer (some ⟨j, 0, none⟩)] w fun e w' => e = .returned (.int .i64 n) ∧ w = w' := by
  obtain ⟨-, c1⟩ := h.cells
  clear h
  go_enter Tryd.func20, Tryd.ntmps20
  go_wp2
  go_ret
  exact ⟨rfl, rfl⟩

/-- a variable of its own in block k -/
def Box (k : Nat) (t : TypeId) (v : Value) (w : World) : Prop := w.heap[k]? = some (Obj.cells #[v] t (0, 0))

theorem Box.lt {k : Nat} {t : TypeId} {v : Value} {w : World} (h : Box k t v w) : k < w.heap.size := (Array.getElem?_eq_some_iff.1 h).1
theorem Box.cell {k : Nat} {t : TypeId} {v : Value} {w : World} (h : Box k t v w) : w.cell? ⟨k, 0, none⟩ = some v := by
  unfold Box at h
  simp [World.cell?, h]
theorem Box.free {k : Nat} {t : TypeId} {v : Value} {w : World} (h : Box k t v w) : w.frozen? ⟨k, 0, none⟩ = false := by
  unfold Box at h
  simp [World.frozen?, h]
theorem Box.later {k : Nat} {t : TypeId} {v : Value} {w w' : World} (h : Box k t v w) (hb : Below w.heap.size w w') : Box k t v w' := by
  unfold Box
  rw [hb.block k h.lt]
  exact h
theorem Box.below {k B : Nat} {t : TypeId} {v : Value} {w w' : World} (h : Box k t v w) (hb : Below B w w') (hk : k < B) : Box k t v w' := by
  unfold Box
  rw [hb.block k hk]
  exact h
theorem Box.tame {k B : Nat} {t : TypeId} {v : Value} {w w' : World} (h : Box k t v w) (hb : Tame B w w') (h1 : t ≠ 5) (h2 : t ≠ 54) : Box k t v w' := by
  unfold Box
  rw [hb.keeps k _ _ _ h h1 h2]
  exact h
theorem Box.only {k r : Nat} {t : TypeId} {v : Value} {w w' : World} (h : Box k t v w) (hb : Only r w w') (hk : k ≠ r) : Box k t v w' := by
  unfold Box
  rw [hb.block k h.lt (fun e => hk (Option.some.inj e))]
  exact h
theorem Box.put {k : Nat} {t : TypeId} {v : Value} {w : World} (h : Box k t v w) (u : Value) : Box k t u (w.setCell ⟨k, 0, none⟩ u) ∧ Only k w (w.setCell ⟨k, 0, none⟩ u) := by
  have ho := only_setCell w k 0 _ _ u h
  exact ⟨by unfold Box; exact ho.2, ho.1⟩
theorem Box.new (w : World) (t : TypeId) (v : Value) : Box w.heap.size t v (w.alloc (Obj.cells #[v] t)) := heap_alloc_new _ _
theorem Box.past {k : Nat} {t : TypeId} {v : Value} {w : World} (h : Box k t v w) (o : Obj) : Box k t v (w.alloc o) := h.later ((Below.refl _ _).alloc (Nat.le_refl _) o)

theorem Has.aside {B g p : Nat} {d : Dk} {w w' : World} {cs : Array Value} {t : TypeId} {fr : Nat × Nat} (h : Has B g d w) (hk : w.heap[p]? = some (Obj.cells cs t fr)) (h1 : t ≠ 5) (h2 : t ≠ 54) (ho : Only p w w') : Has B g d w' := by
  obtain ⟨hs, lv, sv, h⟩ := h
  have hr : ∀ {n : Nat} {v : Value} {xs : List Value}, w.ownsRow B 5 1 v n xs → v.ownBlock ≠ some p := fun hv e => by
    rcases hv.2 with ⟨rfl, _⟩ | ⟨g', cap, cur, rfl, _, hg, _⟩
    · simp [Value.ownBlock] at e
    · simp only [Value.ownBlock, Option.some.injEq] at e
      subst e
      rw [hg] at hk
      simp only [Option.some.injEq, Obj.cells.injEq] at hk
      exact h1 hk.2.1.symm
  refine ⟨hs, lv, sv, ?_, h.old, own_only h.log ho (hr h.log), own_only h.snap ho (hr h.snap), h.two, h.fit, h.small, h.few, h.stop, h.lby, h.sby⟩
  rw [ho.block g h.lt (fun e => by
    cases e
    rw [h.row] at hk
    simp only [Option.some.injEq, Obj.cells.injEq] at hk
    exact h2 hk.2.1.symm)]
  exact h.row

theorem Jame.side {B p : Nat} {w w1 w2 : World} (h : Jame B w w1) (ho : Only p w1 w2) (hp : w.heap.size ≤ p) (hB : B ≤ w.heap.size) : Jame B w w2 :=
  ⟨h.below.trans (ho.below (Nat.le_trans hB hp) (Nat.le_trans hB h.size)), fun k cs t fr hk h1 h2 h3 => by
    have e := h.keeps k cs t fr hk h1 h2 h3
    have hlt := (Array.getElem?_eq_some_iff.1 hk).1
    rw [ho.block k (Nat.lt_of_lt_of_le hlt h.size) (fun e => by cases e; omega), e]⟩

theorem Jrn.only {g j p : Nat} {n : Int} {w w' : World} (h : Jrn g j n w) (ho : Only p w w') (hne : j ≠ p) : Jrn g j n w' := by
  unfold Jrn
  rw [ho.block j h.lt (fun e => hne (Option.some.inj e))]
  exact h

theorem boxes3 (w : World) (t s r : TypeId) (v u x : Value) : Below w.heap.size w (((w.alloc (Obj.cells #[v] t)).alloc (Obj.cells #[u] s)).alloc (Obj.cells #[x] r)) ∧ Box w.heap.size t v (((w.alloc (Obj.cells #[v] t)).alloc (Obj.cells #[u] s)).alloc (Obj.cells #[x] r)) ∧
    Box (w.heap.size + 1) s u (((w.alloc (Obj.cells #[v] t)).alloc (Obj.cells #[u] s)).alloc (Obj.cells #[x] r)) ∧ Box (w.heap.size + 1 + 1) r x (((w.alloc (Obj.cells #[v] t)).alloc (Obj.cells #[u] s)).alloc (Obj.cells #[x] r)) := by
  have hs1 : (w.alloc (Obj.cells #[v] t)).heap.size = w.heap.size + 1 := by simp
  have hs2 : ((w.alloc (Obj.cells #[v] t)).alloc (Obj.cells #[u] s)).heap.size = w.heap.size + 1 + 1 := by simp
  refine ⟨(((Below.refl _ w).alloc (Nat.le_refl _) _).alloc (by omega) _).alloc (by omega) _, ((Box.new w _ _).past _).past _, ?_, ?_⟩
  · have h := Box.new (w.alloc (Obj.cells #[v] t)) s u
    rw [hs1] at h
    exact h.past _
  · have h := Box.new ((w.alloc (Obj.cells #[v] t)).alloc (Obj.cells #[u] s)) r x
    rw [hs2] at h
    exact h

/-- what is done behind a write, wherever it ended -/
theorem done_any (p q r g j : Nat) (E n m : Int) (u : FrameMode) (w : World) (he : w.cell? ⟨p, 0, none⟩ = some (.int .i64 E)) (hn : w.cell? ⟨q, 0, none⟩ = some (.int .i64 n)) (hj : w.cell? ⟨r, 0, none⟩ = some (.pointer (some ⟨j, 0, none⟩))) (hJ : Jrn g j m w) :
    CallsD Tryd.prog 51 #[.pointer (some ⟨p, 0, none⟩), .pointer (some ⟨q, 0, none⟩), .pointer (some ⟨r, 0, none⟩)] u w fun e u' w' => u' = u ∧ e = .returned (.tuple #[]) ∧ w' = if E = 0 then w.setCell ⟨j, 1, none⟩ (.int .i64 n) else w := by
  have c1 := hJ.cells.2
  have f1 := hJ.free 1
  clear hJ
  by_cases h0 : E = 0
  · subst h0
    go_enter_d Tryd.func51, Tryd.ntmps51
    go_wp2
    go_end0
    exact ⟨rfl, rfl⟩
  · go_enter_d Tryd.func51, Tryd.ntmps51
    go_wp2
    go_end0
    exact ⟨rfl, rfl⟩
end Go.Proofs.YtgggecpnmliolaaDoor
