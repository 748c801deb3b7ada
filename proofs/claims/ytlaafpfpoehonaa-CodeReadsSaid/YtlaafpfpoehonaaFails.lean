/- P102: the first error stays, and behind it nothing is read: the walk of CodeFails. -/
import Derived.Test.YtlaafpfpoehonaaArr
namespace Go.Proofs.Ytlaafpfpoehonaa
open Go.RowKit Num
set_option linter.unusedVariables false
set_option linter.unusedSimpArgs false

theorem Below.step {B r : Nat} {w w1 w2 : World} (hb : Below B w w1) (ho : Only r w1 w2) (hr : B ≤ r) (hB : B ≤ w.heap.size) : Below B w w2 :=
  hb.trans (ho.below hr (Nat.le_trans hB hb.size))

theorem rdInt_err {e : Int} (h : e ≠ 0) (bs : List Int) : rdInt e bs = (e, bs, 0) := by simp [rdInt, h]
theorem rdText_err {e : Int} (h : e ≠ 0) (bs : List Int) : rdText e bs = (e, bs, []) := by simp [rdText, h]
theorem rdHash_err {e : Int} (h : e ≠ 0) (bs : List Int) : rdHash e bs = (e, bs, zeros) := by simp [rdHash, h]

theorem zeros_only {cs : Array Value} (h : Sum cs zeros) : cs = noughts.toArray := by
  have := h.cells
  apply Array.ext'
  rw [this]; rfl

set_option maxRecDepth 100000 in
set_option maxHeartbeats 4000000 in
theorem fails_any (a0 : Option Addr) (len0 cap0 : Nat) (z0 : List Int) (a1 a2 : Int) (w : World) (h0 : Came w a0 len0 cap0 z0) (h1 : I64 a1) (h2 : I64 a2) :
    Calls Try.prog 8 #[.slice a0 len0 cap0, .int .i64 a1, .int .i64 a2] w fun e w' => e = .returned (.bool true) ∧ Below w.heap.size w w' := by
  have H0 := Lib.hid h0
  have hz0 : z0.length = len0 := h0.reads.1
  have HL0 := Lib.hid hz0
  clear h0 h1 h2 hz0
  go_enter Try.func8, Try.ntmps8
  go_wp2_with fail
  refine (known_any _).mono ?_
  rintro e w1 ⟨rfl, hb1⟩
  have HB1 := Lib.hid hb1
  clear hb1
  by_cases hl : 100 < len0
  · go_wp2
    go_ret
    exact ⟨rfl, HB1.out⟩
  · go_wp2_with fail
    refine (within_any a1 22 _ (by omega) (by omega)).mono ?_
    rintro e w2 ⟨rfl, rfl⟩
    obtain ⟨p, hp⟩ : ∃ p : Int, p = a1 % 22 := ⟨_, rfl⟩
    have hp1 : 0 ≤ p ∧ p < 22 := by omega
    rw [← hp]
    clear hp
    go_wp2_with fail
    refine (within_any a2 22 _ (by omega) (by omega)).mono ?_
    rintro e w2 ⟨rfl, rfl⟩
    obtain ⟨q, hq⟩ : ∃ q : Int, q = a2 % 22 := ⟨_, rfl⟩
    have hq1 : 0 ≤ q ∧ q < 22 := by omega
    rw [← hq]
    clear hq
    obtain ⟨hp1, hp2⟩ := hp1
    obtain ⟨hq1, hq2⟩ := hq1
    go_wp2_with fail
    refine (new_any a0 len0 cap0 z0 _ (H0.out.reads.below HB1.out) (by omega)).mono ?_
    rintro e w2 ⟨r, rfl, hrd, hrr, hb⟩
    have HRD := Lib.hid hrd
    have HRR := Lib.hid (Nat.le_trans HB1.out.size hrr)
    have HB2 := Lib.hid (HB1.out.trans (hb.mono HB1.out.size))
    clear hrd hrr hb
    go_wp2_with fail
    refine (fail_any r 0 0 _ _ HRD.out).mono ?_
    rintro e w3 ⟨rfl, hrd, ho⟩
    have HRD3 : Hid (Rd w3 r 0 z0) := hrd
    have HB3 := Lib.hid (Below.step HB2.out ho HRR.out (Nat.le_refl _))
    clear hrd ho
    go_wp2_with fail
    refine (end_any r 0 _ _ HRD3.out).mono ?_
    rintro e w4 ⟨rfl, rfl⟩
    obtain ⟨E, hE⟩ : ∃ E, E = endOf 0 z0 := ⟨_, rfl⟩
    rw [← hE]
    have hEq : ((E == 0) == ((len0 : Int) == 0)) = true := by
      rw [hE]
      unfold endOf
      have := HL0.out
      by_cases hz : z0 = []
      · subst hz; simp at this; subst this; simp
      · have hlen : ¬ len0 = 0 := by intro h; apply hz; apply List.eq_nil_of_length_eq_zero; omega
        simp [hz]; omega
    clear hE
    go_wp2_with fail
    refine (fail_any r 0 (1 + p) _ _ HRD3.out).mono ?_
    rintro e w5 ⟨rfl, hrd, ho⟩
    have HRD5 : Hid (Rd w5 r (1 + p) z0) := by have := hrd; rw [errOf, if_pos rfl] at this; exact this
    have HB5 := Lib.hid (Below.step HB3.out ho HRR.out (Nat.le_refl _))
    clear hrd ho
    have hne : ¬ (1 + p) = 0 := by omega
    have HNE := Lib.hid hne
    clear hne
    go_wp2_with fail
    refine (fail_any r (1 + p) (1 + q) _ _ HRD5.out).mono ?_
    rintro e w6 ⟨rfl, hrd, ho⟩
    have HRD6 : Hid (Rd w6 r (1 + p) z0) := by have := hrd; rw [errOf, if_neg HNE.out] at this; exact this
    have HB6 := Lib.hid (Below.step HB5.out ho HRR.out (Nat.le_refl _))
    clear hrd ho
    go_wp2_with fail
    refine (rint_any r (1 + p) z0 _ HRD6.out H0.out.bytes).mono ?_
    rintro e w7 ⟨hx, hrd, ho⟩
    rw [rdInt_err HNE.out] at hx hrd
    subst hx
    have HRD7 : Hid (Rd w7 r (1 + p) z0) := hrd
    have HB7 := Lib.hid (Below.step HB6.out ho HRR.out (Nat.le_refl _))
    clear hrd ho
    go_wp2_with fail
    refine (rtext_any r (1 + p) z0 _ HRD7.out H0.out.bytes).mono ?_
    rintro e w8 ⟨a8, c8, hx, -, hrd, ho⟩
    rw [rdText_err HNE.out] at hx hrd
    subst hx
    have HRD8 : Hid (Rd w8 r (1 + p) z0) := hrd
    have HB8 := Lib.hid (Below.step HB7.out ho HRR.out (Nat.le_refl _))
    clear hrd ho
    go_wp2_with fail
    refine (rhash_any r (1 + p) z0 _ HRD8.out H0.out.bytes).mono ?_
    rintro e w9 ⟨cs, hx, hsum, hrd, ho⟩
    rw [rdHash_err HNE.out] at hsum hrd
    obtain rfl := zeros_only hsum
    subst hx
    have HRD9 : Hid (Rd w9 r (1 + p) z0) := hrd
    have HB9 := Lib.hid (Below.step HB8.out ho HRR.out (Nat.le_refl _))
    clear hrd ho hsum
    have hN := one_mk w9
    rw [noughts_eq] at hN
    have HN9 := Lib.hid hN
    clear hN
    go_wp2_with (refine wpList_store_sum rfl (.tmp 11) (.tmp 41) rfl w9.heap.size noughts.toArray zeros rfl rfl zeros_sum _ HN9.out.2.2 rfl ?_; intro w10 hN10 hb10)
    have hbx : Below w9.heap.size w9 w10 := HN9.out.1.trans hb10
    have HRD10 := Lib.hid (HRD9.out.kept hbx HRD9.out.lt)
    have HB10 := Lib.hid (HB9.out.trans (hbx.mono HB9.out.size))
    have HC10 := Lib.hid hN10
    clear hbx hb10 hN10
    refine (new_any none 0 0 [] _ (reads_nil _) (by omega)).mono ?_
    rintro e w11 ⟨r2, rfl, hrd, hrr, hb⟩
    have HRX := Lib.hid hrd
    have HR2 := Lib.hid hrr
    have HRD11 := Lib.hid (HRD10.out.kept hb HRD10.out.lt)
    have HB11 := Lib.hid (HB10.out.trans (hb.mono HB10.out.size))
    have HC11 := Lib.hid ((hb.block _ (Array.getElem?_eq_some_iff.1 HC10.out).1).trans HC10.out)
    have HLT : Hid (r < r2 ∧ w9.heap.size < r2 ∧ w.heap.size ≤ r2) := ⟨Nat.lt_of_lt_of_le HRD10.out.lt hrr, Nat.lt_of_lt_of_le (Array.getElem?_eq_some_iff.1 HC10.out).1 hrr, Nat.le_trans HB10.out.size hrr⟩
    clear hrd hrr hb
    go_wp2_with fail
    refine (rint_any r2 0 [] _ HRX.out (by simp)).mono ?_
    rintro e w12 ⟨hx, hrd, ho⟩
    have e12 : rdInt 0 [] = (8, [], 0) := by simp [rdInt, num]
    rw [e12] at hx hrd
    subst hx
    have HRX12 : Hid (Rd w12 r2 8 []) := hrd
    have HB12 := Lib.hid (Below.step HB11.out ho HLT.out.2.2 (Nat.le_refl _))
    have HRD12 := Lib.hid (HRD11.out.kept (ho.below (B := r + 1) (by have := HLT.out; omega) (by have := HRD11.out.lt; omega)) (by omega))
    have HC12 := Lib.hid ((ho.block _ (Array.getElem?_eq_some_iff.1 HC11.out).1 (fun h => by have := Option.some.inj h; have := HLT.out; omega)).trans HC11.out)
    clear hrd ho e12
    go_wp2_with fail
    refine (fail_any r2 8 (1 + q) _ _ HRX12.out).mono ?_
    rintro e w13 ⟨rfl, hrd, ho⟩
    have HRX13 : Hid (Rd w13 r2 8 []) := by have := hrd; rw [errOf, if_neg (by decide)] at this; exact this
    have HB13 := Lib.hid (Below.step HB12.out ho HLT.out.2.2 (Nat.le_refl _))
    have HRD13 := Lib.hid (HRD12.out.kept (ho.below (B := r + 1) (by have := HLT.out; omega) (by have := HRD12.out.lt; omega)) (by omega))
    have HC13 := Lib.hid ((ho.block _ (Array.getElem?_eq_some_iff.1 HC12.out).1 (fun h => by have := Option.some.inj h; have := HLT.out; omega)).trans HC12.out)
    clear hrd ho
    go_wp2_with fail
    refine (end_any r (1 + p) _ _ HRD13.out).mono ?_
    rintro e w14 ⟨rfl, rfl⟩
    have e14 : endOf (1 + p) z0 = 1 + p := by rw [endOf, if_neg (fun h => HNE.out h.1)]
    rw [e14]
    clear e14
    have hgd := eqGuard_sum
    have heq := eql_noughts
    go_wp2_with (first | (refine wpList_load_sum_if (by kernel_rfl) (.tmp 11) rfl w9.heap.size noughts.toArray zeros rfl HC13.out zeros_sum ?_))
    refine (end_any r2 8 _ _ HRX13.out).mono ?_
    rintro e w15 ⟨rfl, rfl⟩
    have e15 : endOf 8 [] = 8 := rfl
    rw [e15]
    go_wp2
    go_ret
    exact ⟨rfl, HB13.out⟩

end Go.Proofs.Ytlaafpfpoehonaa
