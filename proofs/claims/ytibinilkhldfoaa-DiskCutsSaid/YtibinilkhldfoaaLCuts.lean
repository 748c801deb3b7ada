/- DiskCuts: the walk. -/
import Derived.Test.YtibinilkhldfoaaLaw4
namespace Go.Proofs.Ytibinilkhldfoaa
open Go Go.RowKit
set_option linter.unusedVariables false
set_option linter.unusedSimpArgs false

set_option maxRecDepth 100000 in
set_option maxHeartbeats 4000000 in
theorem lcuts_any (a0 : Option Addr) (len0 cap0 : Nat) (x : List Int) (a1 : Option Addr) (len1 cap1 : Nat) (y : List Int) (n : Int) (p : Int) (w : World) (hx : Came w a0 len0 cap0 x) (hr0 : cap0 ≤ 140737488351232) (hy : Came w a1 len1 cap1 y) (hr1 : cap1 ≤ 140737488351232) (hn : I64 n) (hp : I64 p) :
    Calls Try.prog 7 #[.slice a0 len0 cap0, .slice a1 len1 cap1, .int .i64 n, .int .i64 p] w fun e w' => e = .returned (.bool true) ∧ Below w.heap.size w w' := by
  have hle := hx.le
  have hle1 := hy.le
  have HX := Lib.hid hx
  have HY := Lib.hid hy
  have HXL := Lib.hid hx.reads.1
  have HYL := Lib.hid hy.reads.1
  clear hx hy
  go_enter Try.func7, Try.ntmps7
  go_wp2_with fail
  refine (known_any w).mono ?_
  rintro _ w1 ⟨rfl, hb1⟩
  have HB1 := Lib.hid hb1
  clear hb1
  by_cases hbig : 300 < len0 + len1
  · have hbig' : (300 : Int) < (len0 : Int) + (len1 : Int) := by omega
    go_wp2_with fail
    go_ret
    exact ⟨rfl, HB1.out⟩
  · have hbig' : ¬ (300 : Int) < (len0 : Int) + (len1 : Int) := by omega
    go_wp2_with fail
    refine (new_any w1 w.heap.size HB1.out.size 1000 (by omega) (by omega)).mono ?_
    rintro _ w2 ⟨g, rfl, h2, hg, hb2⟩
    have HB2 := Lib.hid (HB1.out.trans (hb2.mono HB1.out.size))
    have H2 := Lib.hid h2
    clear h2 hb2
    go_wp2_with fail
    refine (append_any H2.out HB2.out.size (by show 0 < 1000; omega) (HX.out.below HB2.out)).mono ?_
    rintro _ w3 ⟨rfl, h3, hb3⟩
    have e3 := Dk.append_free (d := Dk.new 1000) rfl (by show ((0 : Nat) : Int) + 1 ≠ 0; omega) x len0 HXL.out (by show 0 + 0 + len0 ≤ 1000; omega)
    rw [e3.1] at h3
    have H3 : Hid (Has w.heap.size g ⟨x, 0, [], false, 0, 1, 1000⟩ w3) := h3
    have HB3 := Lib.hid (HB2.out.trans hb3)
    clear h3 hb3 e3
    have hcv : (convert 22 9 (.slice a0 len0 cap0)).run Try.prog w3 = .ok (.string (strOfNums x)) w3 := conv_reads (HX.out.below HB3.out).reads cap0
    have hsz : (strOfNums x).size = len0 := by rw [strOfNums_size, HXL.out]
    go_wp2_with fail
    refine (within_any n ((len0 : Int) + 1) w3 (by omega) (by omega)).mono ?_
    rintro _ _ ⟨rfl, rfl⟩
    have hm0 : 0 ≤ n % ((len0 : Int) + 1) := Int.emod_nonneg _ (by omega)
    have hm1 : n % ((len0 : Int) + 1) < (len0 : Int) + 1 := Int.emod_lt_of_pos _ (by omega)
    obtain ⟨N, hN⟩ : ∃ N : Nat, n % ((len0 : Int) + 1) = (N : Int) := ⟨(n % ((len0 : Int) + 1)).toNat, by omega⟩
    rw [hN] at hm0 hm1 ⊢
    have hNl : N ≤ len0 := by omega
    clear hN hcv hsz
    have e4 := Dk.cuts_free (d := ⟨x, 0, [], false, 0, 1, 1000⟩) rfl (by show ((1 : Nat) : Int) + 1 ≠ 0; omega) N (by show N ≤ x.length; rw [HXL.out]; exact hNl)
    have E4 := Lib.hid e4.1
    have hst := str_to x N (by rw [HXL.out]; exact hNl)
    have hne := nums_neq (x.take N)
    have hcall := cuts_any (H3.out.later (Below.refl _ _).drew) (by have := HB3.out.drew.size; exact this) (by show 1 < 1000; omega) (N : Int) (by unfold I64; omega)
    rw [e4.2, e4.1] at hcall
    have HCALL := Lib.hid hcall
    clear e4 hcall
    have HTL : Hid ((x.take N).length = N) := by show _ = _; rw [List.length_take, HXL.out]; omega
    go_wp2_with fail
    go_region_with (first | (go_at_call 17; refine HCALL.out.mono ?_; rintro _ w4 ⟨rfl, h4, hb4⟩) | (go_at_call 13; refine (logs_len h4 (x.take N) N rfl HTL.out).mono ?_; rintro _ w5 ⟨ax, cx, rfl, hc5, hb5⟩; have hconv := conv_reads hc5.reads cx))
    have HB5 := Lib.hid (((HB3.out.drew).trans hb4).trans (hb5.mono ((HB3.out.drew).trans hb4).size))
    have H5 := Lib.hid (h4.later hb5)
    clear h4 hb4 hc5 hb5 hconv HCALL H3 HB3 hne E4
    go_wp2_with fail
    refine (append_any H5.out HB5.out.size (by show 2 < 1000; omega) (HY.out.below HB5.out)).mono ?_
    rintro _ w6 ⟨rfl, h6, hb6⟩
    have e6 := Dk.append_free (d := ⟨x.take N, N, [], false, 0, 2, 1000⟩) rfl (by show ((2 : Nat) : Int) + 1 ≠ 0; omega) y len1 HYL.out (by show (x.take N).length + 0 + len1 ≤ 1000; rw [HTL.out]; omega)
    rw [e6.1] at h6
    have H6 : Hid (Has w.heap.size g ⟨x.take N ++ y, N, [], false, 0, 3, 1000⟩ w6) := h6
    have HB6 := Lib.hid (HB5.out.trans hb6)
    clear h6 hb6 e6
    go_wp2_with fail
    refine (crash_any H6.out p hp).mono ?_
    rintro _ w7 ⟨rfl, h7, ho7⟩
    obtain ⟨k, hk⟩ : ∃ k, k = Dk.stays ⟨x.take N ++ y, N, [], false, 0, 3, 1000⟩ p := ⟨_, rfl⟩
    have hkl : k ≤ len1 := by
      have hl : (x.take N ++ y).length = N + len1 := by rw [List.length_append, HTL.out, HYL.out]
      have h1 : 0 ≤ p % (((x.take N ++ y).length : Int) - (N : Int) + 1) := Int.emod_nonneg _ (by omega)
      have h2 : p % (((x.take N ++ y).length : Int) - (N : Int) + 1) < ((x.take N ++ y).length : Int) - (N : Int) + 1 := Int.emod_lt_of_pos _ (by omega)
      have h3 : k = (p % (((x.take N ++ y).length : Int) - (N : Int) + 1)).toNat := hk
      omega
    have e7 : Dk.crash p ⟨x.take N ++ y, N, [], false, 0, 3, 1000⟩ = ⟨x.take N ++ y.take k, N + k, [], false, 0, 0, 1000⟩ := by
      show Dk.mk ((x.take N ++ y).take (N + Dk.stays ⟨x.take N ++ y, N, [], false, 0, 3, 1000⟩ p)) (N + Dk.stays ⟨x.take N ++ y, N, [], false, 0, 3, 1000⟩ p) [] false 0 0 1000 = _
      rw [← hk, List.take_append, HTL.out, List.take_of_length_le (by rw [HTL.out]; omega), Nat.add_sub_cancel_left]
    rw [← hk]
    rw [e7] at h7
    have H7 := Lib.hid (h7.later (Below.refl _ _).drew)
    have HB7 := Lib.hid ((HB6.out.trans (ho7.below (Nat.le_trans HB1.out.size hg) HB6.out.size)).drew)
    have HYK := Lib.hid (came_take (HY.out.below HB7.out) k hkl)
    clear h7 ho7 e7 hk H6 H5 HB6 HB5
    have hsl : ∀ w, (Instr.sliceAt 22 (.slice a1 len1 cap1) none (some (.int .i64 (k : Int))) none).run Try.prog w = .ok (.slice a1 k cap1) w := fun w => slice_to22 a1 len1 cap1 k (by omega) k rfl w
    have hyc := conv_reads HYK.out.reads cap1
    have HCV := Lib.hid hyc
    clear hyc
    have hcat := cat_nums (x.take N) (y.take k)
    have hcs : ¬ 9223372036854775807 < (strOfNums (x.take N)).size + (strOfNums (y.take k)).size := by rw [strOfNums_size, strOfNums_size, HTL.out, List.length_take]; omega
    have heq := nums_eql (x.take N ++ y.take k)
    have HLL : Hid ((x.take N ++ y.take k).length = N + k) := by show _ = _; rw [List.length_append, HTL.out, List.length_take, HYL.out]; omega
    have hk0 : (0 : Int) ≤ (k : Int) := by omega
    have hk1 : (k : Int) ≤ (len1 : Int) := by omega
    have hd1 : decide ((0 : Int) ≤ (k : Int)) = true := decide_eq_true hk0
    have hd2 : decide (k ≤ len1) = true := decide_eq_true hkl
    go_wp2_with fail
    refine anyS_start (by kernel_rfl) ?_
    generalize w7.drew = W at *
    have hgs : Hid ((convert 22 9 (.slice a1 k cap1)).run Try.prog W = .ok (.string (strOfNums (y.take k))) W) := HCV.out
    (refine anyS_free (i := 0) (v := ?_) rfl (by kernel_rfl) (by kernel_rfl) (by kernel_rfl) (fun _ _ _ h => h) (fun _ => by simp) (Or.inl ⟨by rfl, fun w' _ => ?_⟩) ?_; rotate_left; (· go_simp; try with_reducible rfl))
    try simp only [Act.put, List.setIfInBounds_toArray, List.set_cons_zero, List.set_cons_succ]
    (refine anyS_free (i := 1) (v := ?_) rfl (by kernel_rfl) (by kernel_rfl) (by kernel_rfl) (fun _ _ _ h => h) (fun _ => by simp) (Or.inl ⟨by rfl, fun w' _ => ?_⟩) ?_; rotate_left; (· go_simp; try with_reducible rfl))
    try simp only [Act.put, List.setIfInBounds_toArray, List.set_cons_zero, List.set_cons_succ]
    (refine anyS_free (i := 2) (v := ?_) rfl (by kernel_rfl) (by kernel_rfl) (by kernel_rfl) (fun _ _ _ h => h) (fun _ => by simp) (Or.inl ⟨by rfl, fun w' _ => ?_⟩) ?_; rotate_left; (· go_simp; try with_reducible rfl))
    try simp only [Act.put, List.setIfInBounds_toArray, List.set_cons_zero, List.set_cons_succ]
    (refine anyS_free (i := 3) (v := ?_) rfl (by kernel_rfl) (by kernel_rfl) (by kernel_rfl) (fun _ _ _ h => h) (fun _ => by simp) (Or.inl ⟨by rfl, fun w' _ => ?_⟩) ?_; rotate_left; (· go_simp; try with_reducible rfl))
    try simp only [Act.put, List.setIfInBounds_toArray, List.set_cons_zero, List.set_cons_succ]
    (refine anyS_free (i := 4) (v := ?_) rfl (by kernel_rfl) (by kernel_rfl) (by kernel_rfl) (fun _ _ _ h => h) (fun _ => by simp) (Or.inl ⟨by rfl, fun w' _ => ?_⟩) ?_; rotate_left; (· go_simp; try with_reducible rfl))
    try simp only [Act.put, List.setIfInBounds_toArray, List.set_cons_zero, List.set_cons_succ]
    (refine anyS_free (i := 5) (v := ?_) rfl (by kernel_rfl) (by kernel_rfl) (by kernel_rfl) (fun _ _ _ h => h) (fun _ => by simp) (Or.inl ⟨by rfl, fun w' _ => ?_⟩) ?_; rotate_left; (· go_simp; try with_reducible rfl))
    try simp only [Act.put, List.setIfInBounds_toArray, List.set_cons_zero, List.set_cons_succ]
    (refine anyS_free (i := 6) (v := ?_) rfl (by kernel_rfl) (by kernel_rfl) (by kernel_rfl) (fun _ _ _ h => h) (fun _ => by simp) (Or.inl ⟨by rfl, fun w' _ => ?_⟩) ?_; rotate_left; (· go_simp; try with_reducible rfl))
    try simp only [Act.put, List.setIfInBounds_toArray, List.set_cons_zero, List.set_cons_succ]
    (refine anyS_free (i := 7) (v := ?_) rfl (by kernel_rfl) (by kernel_rfl) (by kernel_rfl) (fun _ _ _ h => h) (fun _ => by simp) (Or.inl ⟨by rfl, fun w' _ => ?_⟩) ?_; rotate_left; (· go_simp; try with_reducible rfl))
    try simp only [Act.put, List.setIfInBounds_toArray, List.set_cons_zero, List.set_cons_succ]
    (refine anyS_free (i := 8) (v := ?_) rfl (by kernel_rfl) (by kernel_rfl) (by kernel_rfl) (fun _ _ _ h => h) (fun _ => by simp) (Or.inl ⟨by rfl, fun w' _ => ?_⟩) ?_; rotate_left; (· go_simp; try with_reducible rfl))
    try simp only [Act.put, List.setIfInBounds_toArray, List.set_cons_zero, List.set_cons_succ]
    (refine anyS_free (i := 9) (v := ?_) rfl (by kernel_rfl) (by kernel_rfl) (by kernel_rfl) (fun _ _ _ h => h) (fun _ => by simp) (Or.inl ⟨by rfl, fun w' _ => ?_⟩) ?_; rotate_left; (· go_simp; try with_reducible rfl))
    try simp only [Act.put, List.setIfInBounds_toArray, List.set_cons_zero, List.set_cons_succ]
    (refine anyS_free (i := 12) (v := ?_) rfl (by kernel_rfl) (by kernel_rfl) (by kernel_rfl) (fun _ _ _ h => h) (fun _ => by simp) (Or.inl ⟨by rfl, fun w' _ => ?_⟩) ?_; rotate_left; (· go_simp; try with_reducible rfl))
    try simp only [Act.put, List.setIfInBounds_toArray, List.set_cons_zero, List.set_cons_succ]
    (refine anyS_free (i := 13) (v := ?_) rfl (by kernel_rfl) (by kernel_rfl) (by kernel_rfl) (fun _ _ _ h => h) (fun _ => by simp) (Or.inl ⟨by rfl, fun w' _ => ?_⟩) ?_; rotate_left; (· go_simp; try with_reducible rfl))
    try simp only [Act.put, List.setIfInBounds_toArray, List.set_cons_zero, List.set_cons_succ]
    (refine anyS_free (i := 14) (v := ?_) rfl (by kernel_rfl) (by kernel_rfl) (by kernel_rfl) (fun _ _ _ h => h) (fun _ => by simp) (Or.inl ⟨by rfl, fun w' _ => ?_⟩) ?_; rotate_left; (· go_simp; try with_reducible rfl))
    try simp only [Act.put, List.setIfInBounds_toArray, List.set_cons_zero, List.set_cons_succ]
    (refine anyS_free (i := 15) (v := ?_) rfl (by kernel_rfl) (by kernel_rfl) (by kernel_rfl) (fun _ _ _ h => h) (fun _ => by simp) (Or.inl ⟨by rfl, fun w' _ => ?_⟩) ?_; rotate_left; (· go_simp; try with_reducible rfl))
    try simp only [Act.put, List.setIfInBounds_toArray, List.set_cons_zero, List.set_cons_succ]
    (refine anyS_free (i := 16) (v := ?_) rfl (by kernel_rfl) (by kernel_rfl) (by kernel_rfl) (fun _ _ _ h => h) (fun _ => by simp) (Or.inl ⟨by rfl, fun w' _ => ?_⟩) ?_; rotate_left; (· go_simp; try with_reducible rfl))
    try simp only [Act.put, List.setIfInBounds_toArray, List.set_cons_zero, List.set_cons_succ]
    (refine anyS_free (i := 17) (v := ?_) rfl (by kernel_rfl) (by kernel_rfl) (by kernel_rfl) (fun _ _ _ h => h) (fun _ => by simp) (Or.inl ⟨by rfl, fun w' _ => ?_⟩) ?_; rotate_left; (· go_simp; try with_reducible rfl))
    try simp only [Act.put, List.setIfInBounds_toArray, List.set_cons_zero, List.set_cons_succ]
    (refine anyS_takeNew (i := 18) (v := .string (strOfNums (y.take k))) (fun w' => (convert 22 9 (.slice a1 k cap1)).run Try.prog w' = .ok (.string (strOfNums (y.take k))) w') [10, 11] HCV.out rfl (by kernel_rfl) (by kernel_rfl) (by kernel_rfl) (by kernel_rfl) (fun _ _ _ h => h) (fun _ _ => by simp) (Or.inl ⟨by rfl, fun w' hw' => ?_⟩) ?_; (· go_simp))
    try simp only [Act.put, List.setIfInBounds_toArray, List.set_cons_zero, List.set_cons_succ]
    (refine anyS_free (i := 19) (v := ?_) rfl (by kernel_rfl) (by kernel_rfl) (by kernel_rfl) (fun _ _ _ h => h) (fun _ => by simp) (Or.inl ⟨by rfl, fun w' _ => ?_⟩) ?_; rotate_left; (· go_simp; try with_reducible rfl))
    try simp only [Act.put, List.setIfInBounds_toArray, List.set_cons_zero, List.set_cons_succ]
    refine anyS_one 10 (by kernel_rfl) rfl (fun K hK => ?_)
    go_simp
    go_at_call 13
    refine (logs_len H7.out (x.take N ++ y.take k) (N + k) rfl HLL.out).mono ?_
    rintro _ w8 ⟨ax2, cx2, rfl, hc8, hb8⟩
    have hconv := conv_reads hc8.reads cx2
    have HYC := Lib.hid (conv_reads (HYK.out.below hb8).reads cap1)
    have HB8 := Lib.hid (HB7.out.trans (hb8.mono HB7.out.size))
    clear hc8 hb8
    refine hK.out _ _ (⟨trivial, fun _ => HYC.out⟩) ?_
    clear hK K
    try simp only [Act.put, List.setIfInBounds_toArray, List.set_cons_zero, List.set_cons_succ]
    refine anyS_one 11 (by kernel_rfl) rfl (fun K hK => ?_)
    go_simp
    refine hK.out _ _ (⟨trivial, fun _ => HYC.out⟩) ?_
    clear hK K
    try simp only [Act.put, List.setIfInBounds_toArray, List.set_cons_zero, List.set_cons_succ]
    refine anyS_one 20 (by kernel_rfl) rfl (fun K hK => ?_)
    go_simp
    refine hK.out _ _ (by simp) ?_
    clear hK K
    try simp only [Act.put, List.setIfInBounds_toArray, List.set_cons_zero, List.set_cons_succ]
    refine anyS_one 21 (by kernel_rfl) rfl (fun K hK => ?_)
    go_simp
    refine hK.out _ _ (by simp) ?_
    clear hK K
    try simp only [Act.put, List.setIfInBounds_toArray, List.set_cons_zero, List.set_cons_succ]
    refine anyS_one 22 (by kernel_rfl) rfl (fun K hK => ?_)
    go_simp
    refine hK.out _ _ (by simp) ?_
    clear hK K
    try simp only [Act.put, List.setIfInBounds_toArray, List.set_cons_zero, List.set_cons_succ]
    refine anyS_done (by kernel_rfl) ?_ _
    refine NoPanic.normal ?_
    go_wp2_with fail
    go_ret
    exact ⟨rfl, HB8.out⟩
end Go.Proofs.Ytibinilkhldfoaa
