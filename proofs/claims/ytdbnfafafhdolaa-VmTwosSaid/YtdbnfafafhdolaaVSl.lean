/- Slices cut anew. -/
import Derived.Test.YtdbnfafafhdolaaVMac
import Derived.BigQuiet
import Derived.Deep.QuietTactic
namespace Go.Proofs.Ytdbnfafafhdolaa
open Go Go.RowKit
set_option linter.unusedVariables false
set_option linter.unusedSimpArgs false

/-- where a slice begins that was cut -/
def cutAt (a : Option Addr) (cap p : Nat) : Option Addr := if cap = p then a else Option.map (fun x => x.add p) a

theorem slice_from22 (a : Option Addr) (len cap p : Nat) (hp : p ≤ len) (n : Int) (hn : n = (p : Int)) (w : World) :
    (Instr.sliceAt 22 (.slice a len cap) (some (.int .i64 n)) none none).run Try.prog w = .ok (.slice (cutAt a cap p) (len - p) (cap - p)) w := by
  subst hn
  have e := run_slice_l (P := Try.prog) (a := a) (len := len) (cap := cap) w 22 (by kernel_rfl) .i64 (p : Int) (by omega) (by omega)
  have hs : (sizeOf (Try.prog.elem 22)).run Try.prog w = .ok 1 w := by kernel_rfl
  rw [run_sliceAt_slice _ _ _ _ _ _ (by kernel_rfl), e, hs]
  simp [sliced, cutAt]
theorem slice_from23 (a : Option Addr) (len cap p : Nat) (hp : p ≤ len) (n : Int) (hn : n = (p : Int)) (w : World) :
    (Instr.sliceAt 23 (.slice a len cap) (some (.int .i64 n)) none none).run Try.prog w = .ok (.slice (cutAt a cap p) (len - p) (cap - p)) w := by
  subst hn
  have e := run_slice_l (P := Try.prog) (a := a) (len := len) (cap := cap) w 23 (by kernel_rfl) .i64 (p : Int) (by omega) (by omega)
  have hs : (sizeOf (Try.prog.elem 23)).run Try.prog w = .ok 1 w := by kernel_rfl
  rw [run_sliceAt_slice _ _ _ _ _ _ (by kernel_rfl), e, hs]
  simp [sliced, cutAt]
theorem slice_mid22 (a : Option Addr) (len cap p q : Nat) (hp : p ≤ q) (hq : q ≤ cap) (n m : Int) (hn : n = (p : Int)) (hm : m = (q : Int)) (w : World) :
    (Instr.sliceAt 22 (.slice a len cap) (some (.int .i64 n)) (some (.int .i64 m)) none).run Try.prog w = .ok (.slice (cutAt a cap p) (q - p) (cap - p)) w := by
  subst hn
  subst hm
  have e := run_slice_lh (P := Try.prog) (a := a) (len := len) (cap := cap) w 22 (by kernel_rfl) .i64 .i64 (p : Int) (q : Int) (by omega) (by omega) (by omega)
  have hs : (sizeOf (Try.prog.elem 22)).run Try.prog w = .ok 1 w := by kernel_rfl
  rw [run_sliceAt_slice _ _ _ _ _ _ (by kernel_rfl), e, hs]
  simp [sliced, cutAt]
theorem slice_mid23 (a : Option Addr) (len cap p q : Nat) (hp : p ≤ q) (hq : q ≤ cap) (n m : Int) (hn : n = (p : Int)) (hm : m = (q : Int)) (w : World) :
    (Instr.sliceAt 23 (.slice a len cap) (some (.int .i64 n)) (some (.int .i64 m)) none).run Try.prog w = .ok (.slice (cutAt a cap p) (q - p) (cap - p)) w := by
  subst hn
  subst hm
  have e := run_slice_lh (P := Try.prog) (a := a) (len := len) (cap := cap) w 23 (by kernel_rfl) .i64 .i64 (p : Int) (q : Int) (by omega) (by omega) (by omega)
  have hs : (sizeOf (Try.prog.elem 23)).run Try.prog w = .ok 1 w := by kernel_rfl
  rw [run_sliceAt_slice _ _ _ _ _ _ (by kernel_rfl), e, hs]
  simp [sliced, cutAt]
theorem slice_to22 (a : Option Addr) (len cap q : Nat) (hq : q ≤ cap) (m : Int) (hm : m = (q : Int)) (w : World) :
    (Instr.sliceAt 22 (.slice a len cap) none (some (.int .i64 m)) none).run Try.prog w = .ok (.slice a q cap) w := by
  subst hm
  have e := run_slice_h (P := Try.prog) (a := a) (len := len) (cap := cap) w 22 (by kernel_rfl) .i64 (q : Int) (by omega) (by omega)
  have hs : (sizeOf (Try.prog.elem 22)).run Try.prog w = .ok 1 w := by kernel_rfl
  rw [run_sliceAt_slice _ _ _ _ _ _ (by kernel_rfl), e, hs]
  simp [sliced]
  intro _
  cases a <;> simp [Addr.add]
theorem slice_to23 (a : Option Addr) (len cap q : Nat) (hq : q ≤ cap) (m : Int) (hm : m = (q : Int)) (w : World) :
    (Instr.sliceAt 23 (.slice a len cap) none (some (.int .i64 m)) none).run Try.prog w = .ok (.slice a q cap) w := by
  subst hm
  have e := run_slice_h (P := Try.prog) (a := a) (len := len) (cap := cap) w 23 (by kernel_rfl) .i64 (q : Int) (by omega) (by omega)
  have hs : (sizeOf (Try.prog.elem 23)).run Try.prog w = .ok 1 w := by kernel_rfl
  rw [run_sliceAt_slice _ _ _ _ _ _ (by kernel_rfl), e, hs]
  simp [sliced]
  intro _
  cases a <;> simp [Addr.add]
theorem came_sub {w : World} {a : Option Addr} {len cap : Nat} {z : List Int} (h : Came w a len cap z) (p v : Nat) (hv : p + v ≤ len) : Came w (cutAt a cap p) v (cap - p) ((z.drop p).take v) := by
  have h1 := slice_reads h.reads h.nil hv h.le
  have h2 := h.le
  have h3 := h.small
  exact ⟨h1.1, by omega, by omega, h1.2, fun c hc => h.bytes c (List.mem_of_mem_drop (List.mem_of_mem_take hc))⟩
theorem came_drop {w : World} {a : Option Addr} {len cap : Nat} {z : List Int} (h : Came w a len cap z) (p : Nat) (hv : p ≤ len) : Came w (cutAt a cap p) (len - p) (cap - p) (z.drop p) := by
  have h1 := came_sub h p (len - p) (by omega)
  rwa [List.take_of_length_le (by rw [List.length_drop, h.reads.1]; exact Nat.le_refl _)] at h1
theorem came_take {w : World} {a : Option Addr} {len cap : Nat} {z : List Int} (h : Came w a len cap z) (v : Nat) (hv : v ≤ len) : Came w a v cap (z.take v) := by
  refine ⟨h.reads.take hv, Nat.le_trans hv h.le, h.small, fun ha => ?_, fun c hc => h.bytes c (List.mem_of_mem_take hc)⟩
  have h1 := h.nil ha
  exact ⟨by omega, h1.2⟩

/-- numbers of a row that is one's own, from a place on -/
theorem own_from {w : World} {B n cap : Nat} {a : Option Addr} {xs : List Int} (h : w.ownsRow B 3 1 (.slice a n cap) n (nts xs)) (hb : ∀ z ∈ xs, I64 z) (p : Nat) (hp : p ≤ n) :
    Nums w (cutAt a cap p) (n - p) (cap - p) (xs.drop p) ∧ (p < n → ∃ gs k, cutAt a cap p = some ⟨gs, k, none⟩) := by
  have hl := h.1
  rw [nts_length, Nat.mul_one] at hl
  rcases h.2 with ⟨h1, h0⟩ | ⟨g, cap', cur, h1, h2, h3, h4, h5, h6⟩
  · subst h0
    have e : xs = [] := List.eq_nil_of_length_eq_zero hl
    subst e
    have hp0 : p = 0 := by omega
    subst hp0
    simp only [Value.slice.injEq] at h1
    obtain ⟨rfl, -, rfl⟩ := h1
    exact ⟨⟨rfl, by omega, by unfold maxLen; omega, fun i hi => absurd hi (by omega), by simp⟩, fun h => absurd h (by omega)⟩
  · simp only [Value.slice.injEq] at h1
    obtain ⟨rfl, -, rfl⟩ := h1
    unfold maxLen at h5
    refine ⟨⟨by rw [List.length_drop]; omega, by omega, by unfold maxLen; omega, fun i hi => ?_, fun z hz => hb z (List.mem_of_mem_drop hz)⟩, fun hlt => ?_⟩
    · have hc := h.cells rfl (p + i) _ (nts_at (by omega))
      refine ⟨(⟨g, 0, none⟩ : Addr).add p, by unfold cutAt; rw [if_neg (by omega)]; rfl, ?_⟩
      rw [Addr.add_add, hc]
      simp [List.getD, List.getElem?_drop]
    · refine ⟨g, p, ?_⟩
      unfold cutAt
      rw [if_neg (by omega)]
      by_cases h0 : p = 0
      · subst h0; rfl
      · simp [Addr.add, h0]

/-- the front of a row that is one's own -/
theorem own_front {w : World} {B n cap : Nat} {a : Option Addr} {xs : List Int} (h : w.ownsRow B 3 1 (.slice a n cap) n (nts xs)) (p : Nat) (hp : p ≤ n) :
    w.ownsRow B 3 1 (.slice a p cap) p (nts (xs.take p)) := by
  have hl := h.1
  rw [nts_length, Nat.mul_one] at hl
  refine ⟨by rw [nts_length, List.length_take]; omega, ?_⟩
  rcases h.2 with ⟨h1, h0⟩ | ⟨g, cap', cur, h1, h2, h3, h4, h5, h6, h7⟩
  · subst h0
    have hp0 : p = 0 := by omega
    subst hp0
    exact .inl ⟨h1, rfl⟩
  · simp only [Value.slice.injEq] at h1
    obtain ⟨rfl, -, rfl⟩ := h1
    refine .inr ⟨g, cap, cur, rfl, h2, h3, by omega, h5, h6, ?_⟩
    rw [Nat.mul_one] at h7 ⊢
    have e : nts (xs.take p) = (nts xs).take p := by simp [nts, List.map_take]
    rw [e, ← h7, List.take_take, Nat.min_eq_left hp]

/-- a slice cut in a region that only reads, by its equation -/
theorem quiet_slice {P : Program} {ops : Array Oper} {C : World → Prop} {K : Act → Prop} {a : Act} {o : Oper} {E : Prop} (t : TypeId) (x : Operand) (lo hi : Option Operand) (ho : o.op = .slice t x lo hi none) (hg : o.guard = none) (v : Value)
    (hrun : ∀ w, (Instr.sliceAt t (a.eval x) (lo.map a.eval) (hi.map a.eval) none).run P w = .ok v w) (hk : K (a.put o.dst v)) : if Region.wanted o (yielded ops a.tmps) = true then o.quiet P a C K else E := by
  have hw : Region.wanted o (yielded ops a.tmps) = true := by simp [Region.wanted, hg]
  rw [if_pos hw]
  refine ⟨v, fun w hC => ?_, hk⟩
  have e : (execOp a.eval o).run P w = .ok (.value v) w := by
    unfold execOp
    rw [ho]
    simp only [Sem.run_bind, Option.map_none, hrun, Result.andThen]
    rfl
  unfold Oper.quietAt
  rw [e]
  exact ⟨rfl, rfl⟩

theorem slice_exec {P : Program} {a : Act} {o : Oper} (t : TypeId) (x : Operand) (lo hi : Option Operand) (ho : o.op = .slice t x lo hi none) (v : Value)
    (hrun : ∀ w, (Instr.sliceAt t (a.eval x) (lo.map a.eval) (hi.map a.eval) none).run P w = .ok v w) (w : World) : (execOp a.eval o).run P w = .ok (.value v) w := by
  unfold execOp
  rw [ho]
  simp only [Sem.run_bind, Option.map_none, hrun, Result.andThen]
  rfl

theorem slice_two0 (k : Nat) (w : World) : (Instr.sliceAt 65 (.pointer (some ⟨k, 0, none⟩)) none (some (.int .i64 0)) none).run Try.prog w = .ok (.slice (some ⟨k, 0, none⟩) 0 2) w := by kernel_rfl
theorem slice_two1 (k : Nat) (w : World) : (Instr.sliceAt 65 (.pointer (some ⟨k, 0, none⟩)) none (some (.int .i64 1)) none).run Try.prog w = .ok (.slice (some ⟨k, 0, none⟩) 1 2) w := by kernel_rfl
theorem slice_two2 (k : Nat) (w : World) : (Instr.sliceAt 65 (.pointer (some ⟨k, 0, none⟩)) none (some (.int .i64 2)) none).run Try.prog w = .ok (.slice (some ⟨k, 0, none⟩) 2 2) w := by kernel_rfl
/-- the front of an array of two -/
theorem slice_two (k u : Nat) (hu : u ≤ 2) (w : World) : (Instr.sliceAt 65 (.pointer (some ⟨k, 0, none⟩)) none (some (.int .i64 (u : Int))) none).run Try.prog w = .ok (.slice (some ⟨k, 0, none⟩) u 2) w := by
  have h : u = 0 ∨ u = 1 ∨ u = 2 := by omega
  rcases h with rfl | rfl | rfl
  · exact slice_two0 k w
  · exact slice_two1 k w
  · exact slice_two2 k w

theorem Try.infoInt : (Try.prog.info? 3).map (fun i => (i.zero, i.size, i.bytes)) = some (some (.int .i64 0), 1, 8) := by kernel_rfl

/-- append of numbers to what the call owns, as a step of a region that draws its order -/
theorem step_append_nums {ops : Array Oper} {o : Oper} {a : Act} {w : World} {K : Act → World → Prop} {Q : Exit → Act → World → Prop} {E : Prop}
    (hg : o.guard = none) (s x : Operand) (ho : o.op = Op.call { callee := Callee.builtin Builtin.append, args := #[s, x], argTypes := #[23, 23] })
    (base : Nat) (v : Value) (n : Nat) (xs : List Int) (hs : a.eval s = v) (hown : w.ownsRow base 3 1 v n (nts xs)) (ad : Addr) (m c : Nat) (ys : List Int) (hx : a.eval x = .slice (some ad) m c)
    (hy : ys.length = m) (hr : ∀ j u, (nts ys)[j]? = some u → w.cell? (ad.add j) = some u) (hn : n + m ≤ 1000000) (hbase : base ≤ w.heap.size)
    (h : ∀ v' w', w'.ownsRow base 3 1 v' (n + m) (nts (xs ++ ys)) → w.grownBy w' v.ownBlock → K (a.put o.dst v') w') :
    if Region.wanted o (yielded ops a.tmps) = true then Oper.wp Try.prog o a w K Q else E := by
  have hw : Region.wanted o (yielded ops a.tmps) = true := by simp [Region.wanted, hg]
  rw [if_pos hw]
  obtain ⟨i, hi, hz, hsize, hby⟩ := info_parts Try.infoInt
  refine wp_append_own w s x 23 ho base 3 i (.int .i64 0) 1 8 Try.underlying23 hi hz hsize hby rfl (by decide) v n (nts xs) hs hown ad m c (nts ys) hx (by rw [nts_length]; omega) hr (nts_one _) (by unfold maxLen; omega) (by omega) hbase ?_
  intro v' w' h1 h2 _
  exact h v' w' (by rw [nts_append]; exact h1) h2

theorem Mac.finish {t : TypeId} {B g : Nat} {c : List Int} {arg data : Int} {m : Ms} {cv sv sv' : Value} {w : World} {st : List Int} (hr : w.heap[g]? = some (.cells (mcl cv sv arg data m) t (0, 0))) (kind : t = 34 ∨ t = 37)
    (hc : w.ownsRow B 5 1 cv c.length (bts c)) (hs : w.ownsRow B 3 1 sv' st.length (nts st)) (V : Nat) (x : Int) (hx : x = (V : Int)) :
    Mac t B g c arg data { m with pc := V, stk := st } cv sv' ((w.setCell ⟨g, 3, none⟩ (.int .i64 x)).setCell ⟨g, 4, none⟩ sv') ∧ Only g w ((w.setCell ⟨g, 3, none⟩ (.int .i64 x)).setCell ⟨g, 4, none⟩ sv') := by
  subst hx
  have h1 := only_setCell w g 3 _ _ (.int .i64 (V : Int)) hr
  have h2 := only_setCell _ g 4 _ _ sv' h1.2
  have ho := h1.1.trans h2.1
  have k8 : 5 ≠ t := by rcases kind with rfl | rfl <;> decide
  have k64 : 3 ≠ t := by rcases kind with rfl | rfl <;> decide
  exact ⟨⟨h2.2, kind, own_only hc ho (own_not hc hr k8), own_only hs ho (own_not hs hr k64)⟩, ho⟩
end Go.Proofs.Ytdbnfafafhdolaa
