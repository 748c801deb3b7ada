/- What a disk's operation leaves alone: all that is older than B, and all cells that are neither bytes nor a disk's. -/
import Derived.Test.YtgggecpnmliolaaDoorDk
namespace Go.Proofs.YtgggecpnmliolaaDoor
open Go Go.RowKit
set_option linter.unusedVariables false
set_option linter.unusedSimpArgs false

structure Tame (B : Nat) (w w' : World) : Prop where
  below : Below B w w'
  keeps : ∀ (k : Nat) (cs : Array Value) (t : TypeId) (fr : Nat × Nat), w.heap[k]? = some (Obj.cells cs t fr) → t ≠ 5 → t ≠ 54 → w'.heap[k]? = w.heap[k]?

theorem Tame.size {B : Nat} {w w' : World} (h : Tame B w w') : w.heap.size ≤ w'.heap.size := h.below.size
theorem Tame.refl (B : Nat) (w : World) : Tame B w w := ⟨Below.refl _ _, fun _ _ _ _ _ _ _ => rfl⟩
theorem Tame.trans {B : Nat} {a b c : World} (h : Tame B a b) (k : Tame B b c) : Tame B a c :=
  ⟨h.below.trans k.below, fun i cs t fr hi h1 h2 => by
    have e := h.keeps i cs t fr hi h1 h2
    rw [k.keeps i cs t fr (by rw [e]; exact hi) h1 h2, e]⟩
theorem Tame.drew {B : Nat} {a w : World} (h : Tame B a w) : Tame B a w.drew := ⟨h.below.drew, h.keeps⟩
theorem Tame.new {B : Nat} {w w' : World} (h : Below w.heap.size w w') (hB : B ≤ w.heap.size) : Tame B w w' :=
  ⟨h.mono hB, fun k cs t fr hk _ _ => h.block k (Array.getElem?_eq_some_iff.1 hk).1⟩
theorem Tame.drewN {B : Nat} {a w : World} (h : Tame B a w) (hB : B ≤ w.heap.size) (k : Nat) : Tame B a (w.drewN k) := h.trans (.new (below_drewN (Below.refl _ _) k) hB)
theorem Tame.only {B g : Nat} {d : Dk} {lv sv : Value} {w w' : World} (hd : Dsk B g d lv sv w) (ho : Only g w w') (hB : B ≤ w.heap.size) : Tame B w w' :=
  ⟨ho.below hd.old hB, fun k cs t fr hk _ h2 => ho.block k (Array.getElem?_eq_some_iff.1 hk).1 (fun e => by
    cases e
    rw [hd.row] at hk
    simp only [Option.some.injEq, Obj.cells.injEq] at hk
    exact h2 hk.2.1.symm)⟩
theorem Tame.row {B g : Nat} {cs0 : Array Value} {w w' : World} (hr : w.heap[g]? = some (.cells cs0 54 (0, 0))) (ho : Only g w w') (hg : B ≤ g) (hB : B ≤ w.heap.size) : Tame B w w' :=
  ⟨ho.below hg hB, fun k cs t fr hk _ h2 => ho.block k (Array.getElem?_eq_some_iff.1 hk).1 (fun e => by
    cases e
    rw [hr] at hk
    simp only [Option.some.injEq, Obj.cells.injEq] at hk
    exact h2 hk.2.1.symm)⟩
theorem Tame.grown {B n : Nat} {v : Value} {xs : List Value} {w w' : World} (hr : w.ownsRow B 5 1 v n xs) (hg : w.grownBy w' v.ownBlock) (hB : B ≤ w.heap.size) : Tame B w w' :=
  ⟨(Below.refl B w).grown hg hB (fun k hk => (hr.lt k hk).1), fun k cs t fr hk h1 _ => hg.block k (Array.getElem?_eq_some_iff.1 hk).1 (fun e => by
    rcases hr.2 with ⟨rfl, _⟩ | ⟨g', cap, cur, rfl, _, hg', _⟩
    · simp [Value.ownBlock] at e
    · simp only [Value.ownBlock, Option.some.injEq] at e
      subst e
      rw [hg'] at hk
      simp only [Option.some.injEq, Obj.cells.injEq] at hk
      exact h1 hk.2.1.symm)⟩
theorem Tame.own {B b n s : Nat} {e : TypeId} {v : Value} {xs : List Value} {w w' : World} (h : Tame B w w') (ho : w.ownsRow b e s v n xs) (h1 : e ≠ 5) (h2 : e ≠ 54) : w'.ownsRow b e s v n xs := by
  refine ⟨ho.1, ?_⟩
  rcases ho.2 with h0 | ⟨g', cap, cur, hv, hb, hg, hr⟩
  · exact .inl h0
  · exact .inr ⟨g', cap, cur, hv, hb, by rw [h.keeps g' _ _ _ hg h1 h2]; exact hg, hr⟩
end Go.Proofs.YtgggecpnmliolaaDoor
