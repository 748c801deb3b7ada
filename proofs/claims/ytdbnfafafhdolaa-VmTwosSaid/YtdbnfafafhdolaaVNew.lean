/- A machine ahead of its first step. -/
import Derived.Test.YtdbnfafafhdolaaVPaid
namespace Go.Proofs.Ytdbnfafafhdolaa
open Go Go.RowKit
set_option linter.unusedVariables false
set_option linter.unusedSimpArgs false

/-- make of numbers, with a length and a capacity -/
theorem wpList_make_int {P : Program} (w : World) {ops : Array Oper} {rest : List Oper} {o : Oper} {a : Act} {Q : Exit → Act → World → Prop}
    (hg : o.guard = none) (l c : Operand) (t : TypeId) (hop : o.op = Op.makeSlice t l c)
    (e : TypeId) (i : TypeInfo) (z : Value) (h1 : P.underlying t = some (.slice e)) (h2 : P.info? e = some i) (h3 : i.zero = some z) (h4 : i.size = 1) (h5 : i.bytes = 8)
    (kl kc : IntKind) (L C : Int) (n m : Nat) (hl : a.eval l = .int kl L) (hc : a.eval c = .int kc C) (hL : L = (n : Int)) (hC : C = (m : Int)) (hnm : n ≤ m) (b2 : m ≤ 10000000)
    (hK : ∀ w', w'.heap[w.heap.size]? = some (.cells (madeCells z.cells m).toList.toArray e (0, 0)) → w'.heap.size = w.heap.size + 1 → Below w.heap.size w w' →
      wpList P ops Q rest (a.put o.dst (.slice (some ⟨w.heap.size, 0, none⟩) n m)) w') :
    wpList P ops Q (o :: rest) a w := by
  refine wpList_plain hg fun K hK' => ?_
  subst hL
  subst hC
  have hrun := run_make (P := P) w t e i z h1 h2 h3 kl kc (n : Int) (m : Int) (by omega) (by omega) (by rw [h5]; omega) (by omega)
  simp only [Int.toNat_natCast, h4, Nat.mul_one] at hrun
  unfold Oper.wp
  simp [execOp, hop, hl, hc, hrun, Result.andThen]
  exact hK' _ _ (hK _ (by rw [heap_alloc_new]) (by simp) ((Below.refl _ _).alloc (Nat.le_refl _) _))

theorem Try.sizeInt : (Try.prog.info? 3).map (·.size) = some 1 := by kernel_rfl

theorem nums_lift {w w' : World} {a : Option Addr} {n c : Nat} {xs : List Int} (h : Nums w a n c xs) (hb : Below w.heap.size w w') (hp : 0 < n) : ∃ ad, a = some ad ∧ ∀ j v, (nts xs)[j]? = some v → w'.cell? (ad.add j) = some v := by
  obtain ⟨ad, ha, -⟩ := h.cell 0 hp
  refine ⟨ad, ha, fun j v hv => ?_⟩
  have hj := (List.getElem?_eq_some_iff.1 hv).1
  rw [nts_length, h.sz] at hj
  obtain ⟨ad', ha', hc⟩ := (h.below hb).cell j hj
  rw [ha] at ha'
  obtain rfl := Option.some.inj ha'
  rw [nts_at (by rw [h.sz]; exact hj)] at hv
  rw [hc]
  exact hv

set_option maxHeartbeats 400000 in
theorem copiedb_any (a : Option Addr) (n c : Nat) (xs : List Int) (w : World) (hr : Reads w a n xs) (hn : n ≤ 9000000) :
    Calls Try.prog 27 #[.slice a n c] w fun e w' => ∃ v, e = .returned v ∧ w'.ownsRow w.heap.size 5 1 v n (bts xs) ∧ Below w.heap.size w w' := by
  obtain ⟨i0, hi, hz0, hz1, hz2⟩ := info_parts Try.infoByte
  go_enter Try.func27, Try.ntmps27
  have hml : (madeCells (Value.int IntKind.u8 0).cells n).toList.length = n := by simp [size_madeCells]
  obtain ⟨cur, hcur⟩ : ∃ cur, cur = (madeCells (Value.int IntKind.u8 0).cells n).toList := ⟨_, rfl⟩
  rw [← hcur] at hml
  have HC := Lib.hid hcur
  clear hcur
  go_wp2_with (first | (at_make; refine wpList_make_any _ rfl _ _ 22 rfl 5 i0 _ Try.underlying22 hi hz0 hz1 hz2 _ _ _ _ n n rfl rfl (by omega) (by omega) (by omega) (by omega) ?_; intro w1 hg hs hb; rw [← HC.out] at hg) | (refine wpList_copy_splice rfl (.tmp 7) (.tmp 8) 22 22 rfl 5 Try.underlying22 Try.sizeByte _ _ n n n c rfl rfl w.heap.size 0 cur 5 hg (bts xs) (by rw [bts_length, hr.1]; exact (Nat.min_self n).symm) (fun hp => ⟨rfl, hr.lift hb (by rw [bts_length, hr.1] at hp; exact hp)⟩) (by rw [bts_length, hr.1]; omega) (bts_one xs) w.heap.size w hb (Nat.le_refl _) ?_; intro w2 HG hB2))
  go_ret
  have hx : (bts xs).length = n := by rw [bts_length, hr.1]
  refine ⟨_, rfl, ⟨by rw [hx]; omega, .inr ⟨w.heap.size, n, _, rfl, Nat.le_refl _, HG.out, Nat.le_refl _, by unfold maxLen; omega, ?_, ?_⟩⟩, hB2⟩
  · rw [List.size_toArray, length_splice _ _ _ (by omega)]; simp [hml]
  · simp [splice, ← hx]

set_option maxHeartbeats 400000 in
theorem copiedi_any (a : Option Addr) (n c : Nat) (xs : List Int) (w : World) (hr : Nums w a n c xs) (hn : n ≤ 9000000) :
    Calls Try.prog 28 #[.slice a n c] w fun e w' => ∃ v, e = .returned v ∧ w'.ownsRow w.heap.size 3 1 v n (nts xs) ∧ Below w.heap.size w w' := by
  obtain ⟨i0, hi, hz0, hz1, hz2⟩ := info_parts Try.infoInt
  go_enter Try.func28, Try.ntmps28
  have hml : (madeCells (Value.int IntKind.i64 0).cells n).toList.length = n := by simp [size_madeCells]
  obtain ⟨cur, hcur⟩ : ∃ cur, cur = (madeCells (Value.int IntKind.i64 0).cells n).toList := ⟨_, rfl⟩
  rw [← hcur] at hml
  have HC := Lib.hid hcur
  clear hcur
  go_wp2_with (first | (at_make; refine wpList_make_int _ rfl _ _ 23 rfl 3 i0 _ Try.underlying23 hi hz0 hz1 hz2 _ _ _ _ n n rfl rfl (by omega) (by omega) (by omega) (by omega) ?_; intro w1 hg hs hb; rw [← HC.out] at hg) | (refine wpList_copy_splice rfl (.tmp 7) (.tmp 8) 23 23 rfl 3 Try.underlying23 Try.sizeInt _ _ n n n c rfl rfl w.heap.size 0 cur 3 hg (nts xs) (by rw [nts_length, hr.sz]; exact (Nat.min_self n).symm) (fun hp => ⟨rfl, nums_lift hr hb (by rw [nts_length, hr.sz] at hp; exact hp)⟩) (by rw [nts_length, hr.sz]; omega) (nts_one xs) w.heap.size w hb (Nat.le_refl _) ?_; intro w2 HG hB2))
  go_ret
  have hx : (nts xs).length = n := by rw [nts_length, hr.sz]
  refine ⟨_, rfl, ⟨by rw [hx]; omega, .inr ⟨w.heap.size, n, _, rfl, Nat.le_refl _, HG.out, Nat.le_refl _, by unfold maxLen; omega, ?_, ?_⟩⟩, hB2⟩
  · rw [List.size_toArray, length_splice _ _ _ (by omega)]; simp [hml]
  · simp [splice, ← hx]


theorem size_vm : (Try.prog.info? 34).map (·.size) = some 8 := by kernel_rfl
theorem size_ref : (Try.prog.info? 37).map (·.size) = some 8 := by kernel_rfl

/-- a struct stored over a block of its own -/
theorem store_agg {P : Program} {ops : Array Oper} {rest : List Oper} {o : Oper} {a : Act} {w : World} {Q : Exit → Act → World → Prop} (hgd : o.guard = none) (T : TypeId) (x y : Operand) (ho : o.op = .store T x y) (hd : o.dst = none)
    (g : Nat) (cells : Array Value) (hx : a.eval x = .pointer (some ⟨g, 0, none⟩)) (hy : a.eval y = .agg cells) (t : TypeId) (old : Array Value) (hg : w.heap[g]? = some (.cells old t (0, 0))) (hi : (P.info? T).map (·.size) = some cells.size)
    (hold : old.size = cells.size) (h1 : cells.all (·.oneCell') = true)
    (h : ∀ w', w'.heap[g]? = some (.cells cells t (0, 0)) → Only g w w' → wpList P ops Q rest a w') : wpList P ops Q (o :: rest) a w :=
  wpList_store_row hgd T x y ho g cells hx hy t old hg hi hold h1 (by rw [hd]; exact h _ (setRow_heap _ _ _ _ _ _ hg) ⟨rfl, rfl, rfl, by simp, fun k hk hne => setRow_other w g k _ (fun e => hne (by simp [e]))⟩)

theorem mcl_one (a b : Option Addr) (n k c d : Nat) (arg data : Int) (m : Ms) : (mcl (.slice a n c) (.slice b k d) arg data m).all (·.oneCell') = true := by simp [mcl, Value.oneCell']

def noMac (v s : Value) : Array Value := #[v, .int .i64 0, .int .i64 0, .int .i64 0, s, .int .i64 0, .bool false, .int .i64 0]

set_option maxHeartbeats 1000000 in
theorem new_any (a : Option Addr) (n c : Nat) (xs : List Int) (arg data gas : Int) (w : World) (hr : Reads w a n xs) (hn : n ≤ 64) :
    Calls Try.prog 24 #[.slice a n c, .int .i64 arg, .int .i64 data, .int .i64 gas] w fun e w' => ∃ v, e = .returned (.agg (mcl v (.slice none 0 0) arg data ⟨0, [], gas, false, 0⟩)) ∧ w'.ownsRow w.heap.size 5 1 v n (bts xs) ∧ Below w.heap.size w w' := by
  have HR := Lib.hid hr
  clear hr
  go_enter Try.func24, Try.ntmps24
  go_wp2_with fail
  have hb0 : ∀ o, Below w.heap.size w (w.alloc o) := fun o => (Below.refl _ _).alloc (Nat.le_refl _) o
  refine (copiedb_any a n c xs _ (HR.out.below (hb0 _)) (by omega)).mono ?_
  rintro _ w1 ⟨v, rfl, ho, hb⟩
  obtain ⟨a1, c1, rfl⟩ := own_slice ho
  have hr1 : w1.heap[w.heap.size]? = some (Obj.cells (noMac (.slice none 0 0) (.slice none 0 0)) 34 (0, 0)) := by
    rw [hb.block w.heap.size (by simp)]
    exact heap_alloc_new _ _
  have HO := Lib.hid (own_mono (B := w.heap.size) ho (by simp))
  have HB := Lib.hid ((hb0 _).trans (hb.mono (by simp)))
  have HR1 := Lib.hid hr1
  clear ho hb hb0 hr1
  go_wp2_with (refine store_agg rfl 34 (.tmp 8) (.tmp 14) rfl rfl w.heap.size (mcl (.slice a1 n c1) (.slice none 0 0) arg data ⟨0, [], gas, false, 0⟩) rfl rfl 34 _ HR1.out size_vm rfl (mcl_one _ _ _ _ _ _ _ _ _) ?_; intro w2 hrow hon)
  refine bodyPost_ret (v := .agg (mcl (.slice a1 n c1) (.slice none 0 0) arg data ⟨0, [], gas, false, 0⟩)) (results_cell_row (P := Try.prog) rfl _ _ w.heap.size 34 _ (0, 0) _ rfl hrow Try.underlying34 rfl size_vm) rfl ⟨_, rfl, ?_, ?_⟩
  · exact own_only HO.out hon (own_not HO.out HR1.out (by decide))
  · exact HB.out.trans (hon.below (Nat.le_refl _) HB.out.size)
end Go.Proofs.Ytdbnfafafhdolaa
