/- VmOnes: conversions keep what they keep. -/
import Derived.Test.YtdbnfafafhdolaaVStep
import Derived.Test.YtdbnfafafhdolaaVLaw
namespace Go.Proofs.Ytdbnfafafhdolaa
open Go Go.RowKit
set_option linter.unusedVariables false
set_option linter.unusedSimpArgs false

theorem and_255 (n : Int) : bits .and .i64 n 255 = n % 256 := by
  show IntKind.i64.wrap ((BitVec.ofInt 64 n &&& BitVec.ofInt 64 255).toNat : Int) = _
  have h1 : (BitVec.ofInt 64 255).toNat = 255 := by decide
  have h2 : (BitVec.ofInt 64 n).toNat = (n % 18446744073709551616).toNat := by rw [BitVec.toNat_ofInt]; rfl
  have h3 := Nat.and_two_pow_sub_one_eq_mod (n % 18446744073709551616).toNat 8
  rw [show (2 : Nat) ^ 8 - 1 = 255 from rfl] at h3
  rw [BitVec.toNat_and, h1, h2, h3, IntKind.wrap_i64]
  omega

/-- numbers in a block made just now -/
theorem nums_new (w : World) (xs : List Int) (hb : ∀ c ∈ xs, I64 c) (hl : xs.length ≤ 1000) : Nums (w.alloc (Obj.cells (nts xs).toArray 3)) (some ⟨w.heap.size, 0, none⟩) xs.length xs.length xs := by
  refine ⟨rfl, Nat.le_refl _, by unfold maxLen; omega, fun i hi => ⟨_, rfl, ?_⟩, hb⟩
  rw [Addr.add_lit, Nat.zero_add]
  simp only [World.cell?, heap_alloc_new]
  have := nts_at hi
  simpa using this

/-- a row of one: where it lies -/
theorem own_one {w : World} {B k : Nat} {a : Option Addr} {x : Int} (h : w.ownsRow B 3 1 (.slice a 1 k) 1 (nts [x])) : ∃ g, a = some ⟨g, 0, none⟩ ∧ w.cell? ⟨g, 0, none⟩ = some (.int .i64 x) := by
  rcases h.2 with ⟨_, h0⟩ | ⟨g, cap, cur, h1, _⟩
  · cases h0
  · have h2 := h
    simp only [Value.slice.injEq] at h1
    obtain ⟨rfl, -, rfl⟩ := h1
    exact ⟨g, rfl, h2.cells rfl 0 _ rfl⟩

theorem ones_14 (a : Int) : stepP [14] 0 0 ⟨0, [a], 1, false, 0⟩ = ⟨1, [wrap64 (wrap32 a)], 0, false, 0⟩ := by kernel_rfl
theorem ones_15 (a : Int) : stepP [15] 0 0 ⟨0, [a], 1, false, 0⟩ = ⟨1, [a % 256], 0, false, 0⟩ := by kernel_rfl

theorem ones_fit (s a : Int) (hs : Byte s) (ha : I64 a) : Fit [s] 0 0 ⟨0, [a], 1, false, 0⟩ :=
  ⟨by intro x hx; simp only [List.mem_cons, List.not_mem_nil, or_false] at hx; subst hx; exact hs, by simp, ⟨by decide, by decide⟩, ⟨by decide, by decide⟩, Nat.zero_le _, by simp, by intro x hx; simp only [List.mem_cons, List.not_mem_nil, or_false] at hx; subst hx; exact ha, by show (0 : Int) ≤ 1 ∧ (1 : Int) ≤ 200; omega⟩

/-- a step of one sign upon one number -/
theorem ones_step (s a : Int) (w : World) (hs : Byte s) (ha : I64 a) :
    Calls Try.prog 19 #[.agg #[.slice (some ⟨w.heap.size, 0, none⟩) 1 1, .int .i64 0, .int .i64 0, .int .i64 0, .slice (some ⟨w.heap.size + 1, 0, none⟩) 1 1, .int .i64 1, .bool false, .int .i64 0]]
      ((w.alloc (Obj.cells #[.int .u8 s] 5)).alloc (Obj.cells #[.int .i64 a] 3)) fun e w' =>
      ∃ b k1 d k2, e = .returned (.agg (mcl (.slice b 1 k1) (.slice d (stepP [s] 0 0 ⟨0, [a], 1, false, 0⟩).stk.length k2) 0 0 (stepP [s] 0 0 ⟨0, [a], 1, false, 0⟩))) ∧
        w'.ownsRow w.heap.size 3 1 (.slice d (stepP [s] 0 0 ⟨0, [a], 1, false, 0⟩).stk.length k2) (stepP [s] 0 0 ⟨0, [a], 1, false, 0⟩).stk.length (nts (stepP [s] 0 0 ⟨0, [a], 1, false, 0⟩).stk) ∧ Below w.heap.size w w' := by
  have hF := ones_fit s a hs ha
  have hc := (came_new w [s] hF.bytes (by simp)).below ((Below.refl _ _).alloc (Nat.le_refl _) (Obj.cells #[.int .i64 a] 3))
  have hn := nums_new (w.alloc (Obj.cells #[.int .u8 s] 5)) [a] hF.nums (by simp)
  rw [show (w.alloc (Obj.cells #[.int .u8 s] 5)).heap.size = w.heap.size + 1 by simp] at hn
  have hb : Below w.heap.size w ((w.alloc (Obj.cells #[.int .u8 s] 5)).alloc (Obj.cells #[.int .i64 a] 3)) := ((Below.refl _ _).alloc (Nat.le_refl _) _).alloc (by simp) _
  refine (vstep_any (m := ⟨0, [a], 1, false, 0⟩) hc hn hF).mono ?_
  rintro _ w' ⟨cv, sv, rfl, h1, h2, h3⟩
  obtain ⟨b, k1, rfl⟩ := own_slice h1
  obtain ⟨d, k2, rfl⟩ := own_slice h2
  exact ⟨b, k1, d, k2, rfl, own_mono h2 (by simp; omega), hb.trans (h3.mono hb.size)⟩

set_option maxRecDepth 100000 in
set_option maxHeartbeats 4000000 in
theorem lones_any (a : Int) (w : World) (ha : I64 a) :
    Calls Try.prog 5 #[.int .i64 a] w fun e w' => e = .returned (.bool true) ∧ Below w.heap.size w w' := by
  have HA := Lib.hid ha
  have ha1 := ha.1
  have ha2 := ha.2
  have h255 := and_255 a
  clear ha
  go_enter Try.func5, Try.ntmps5
  go_wp2_with fail
  refine (known_any w).mono ?_
  rintro _ w1 ⟨rfl, hb1⟩
  have HB := Lib.hid hb1
  clear hb1
  go_wp2_with fail
  refine (ones_step 14 a w1 ⟨by decide, by decide⟩ HA.out).mono ?_
  rintro _ w2 ⟨b2, k2, d2, e2, rfl, ho2, hb2⟩
  rw [ones_14] at ho2 ⊢
  have HO2 := Lib.hid ho2
  have HB2 := Lib.hid (HB.out.trans (hb2.mono HB.out.size))
  clear ho2 hb2 HB
  go_wp2_with (refine store_agg rfl 34 (.tmp 3) (.tmp 11) rfl rfl w2.heap.size (mcl (.slice b2 1 k2) (.slice d2 1 e2) 0 0 ⟨1, [wrap64 (wrap32 a)], 0, false, 0⟩) rfl rfl 34 _ (heap_alloc_new _ _) size_vm rfl (mcl_one _ _ _ _ _ _ _ _ _) ?_; intro w3 hrow3 hon3)
  have hb3 : Below w2.heap.size w2 w3 := ((Below.refl _ _).alloc (Nat.le_refl _) _).trans (hon3.below (Nat.le_refl _) (by simp))
  have HO3 := Lib.hid (own_later HO2.out hb3)
  have HB3 := Lib.hid (HB2.out.trans (hb3.mono HB2.out.size))
  have HG3 : Hid (w2.heap.size < w3.heap.size) := (Array.getElem?_eq_some_iff.1 hrow3).1
  have HR3 := Lib.hid hrow3
  clear hrow3 hon3 hb3 HO2 HB2
  refine (ones_step 15 a w3 ⟨by decide, by decide⟩ HA.out).mono ?_
  rintro _ w4 ⟨b4, k4, d4, e4, rfl, ho4, hb4⟩
  rw [ones_15] at ho4 ⊢
  have HO4 := Lib.hid ho4
  have HO4' := Lib.hid (own_later HO3.out hb4)
  have HR4 : Hid (w4.heap[w2.heap.size]? = _) := (hb4.block w2.heap.size HG3.out).trans HR3.out
  have HB4 := Lib.hid (HB3.out.trans (hb4.mono HB3.out.size))
  have HG4 : Hid (w2.heap.size < w4.heap.size) := Nat.lt_of_lt_of_le HG3.out hb4.size
  clear ho4 hb4 HO3 HR3 HB3 HG3
  go_wp2_with (refine store_agg rfl 34 (.tmp 4) (.tmp 16) rfl rfl w4.heap.size (mcl (.slice b4 1 k4) (.slice d4 1 e4) 0 0 ⟨1, [a % 256], 0, false, 0⟩) rfl rfl 34 _ (heap_alloc_new _ _) size_vm rfl (mcl_one _ _ _ _ _ _ _ _ _) ?_; intro w5 hrow5 hon5; have hb5 : Below w4.heap.size w4 w5 := (((Below.refl _ _).alloc (Nat.le_refl _) _).trans (hon5.below (Nat.le_refl _) (by simp))); obtain ⟨g1, rfl, hx1⟩ := own_one (own_later HO4'.out hb5); obtain ⟨g2, rfl, hx2⟩ := own_one (own_later HO4.out hb5); have HB5 := Lib.hid (HB4.out.trans (hb5.mono HB4.out.size)); have hr5 := (hb5.block w2.heap.size HG4.out).trans HR4.out; have f1 : w5.cell? ⟨w2.heap.size, 4, none⟩ = some (.slice (some ⟨g1, 0, none⟩) 1 e2) := mcl_cell hr5 rfl; have f2 : w5.cell? ⟨w4.heap.size, 4, none⟩ = some (.slice (some ⟨g2, 0, none⟩) 1 e4) := mcl_cell hrow5 rfl; clear hrow5 hon5 hb5 hr5 HO4 HO4' HR4 HB4 HG4)
  go_ret
  exact ⟨rfl, HB5.out⟩
end Go.Proofs.Ytdbnfafafhdolaa
