/- JournalBad: the walk. -/
import Derived.Test.YtgggecpnmliolaaDoorLaw5
namespace Go.Proofs.YtgggecpnmliolaaDoor
open Go Go.RowKit Frm
set_option linter.unusedVariables false
set_option linter.unusedSimpArgs false

set_option maxRecDepth 100000 in
set_option maxHeartbeats 4000000 in
theorem lbad_any (a0 : Option Addr) (len0 cap0 : Nat) (x : List Int) (a1 : Option Addr) (len1 cap1 : Nat) (y : List Int) (w : World) (hx : Came w a0 len0 cap0 x) (hy : Came w a1 len1 cap1 y) (hlaid : Laid w) :
    Calls Tryd.prog 5 #[.slice a0 len0 cap0, .slice a1 len1 cap1] w fun e w' => e = .returned (.bool true) ∧ Below w.heap.size w w' := by
  have hle := hx.le
  have hle1 := hy.le
  have hmx := hx.small
  have hmy := hy.small
  unfold maxLen at hmx hmy
  have HX := Lib.hid hx
  have HY := Lib.hid hy
  have HXL := Lib.hid hx.reads.1
  have HYL := Lib.hid hy.reads.1
  have HLA := Lib.hid hlaid
  clear hx hy hlaid
  go_enter Tryd.func5, Tryd.ntmps5
  go_wp2_with fail
  refine (known_any w HLA.out).mono ?_
  rintro _ w1 ⟨rfl, hb1⟩
  have HB1 := Lib.hid hb1
  clear hb1
  by_cases h0 : len0 = 0
  · subst h0
    go_wp2_with fail
    go_ret
    exact ⟨rfl, HB1.out⟩
  by_cases h2 : 200 < len0
  · go_wp2_with fail
    go_ret
    exact ⟨rfl, HB1.out⟩
  by_cases h3 : 100 < len1
  · go_wp2_with fail
    go_ret
    exact ⟨rfl, HB1.out⟩
  have hd0 : ((len0 : Int) == 0) = false := by simp; omega
  have hd1 : decide ((200 : Int) < (len0 : Int)) = false := by simp; omega
  have hd2 : decide ((100 : Int) < (len1 : Int)) = false := by simp; omega
  go_wp2_with fail
  refine (ronep_any (HX.out.below HB1.out) (by omega)).mono ?_
  rintro _ w2 ⟨v2, rfl, -, hb2⟩
  obtain ⟨q, hq⟩ : ∃ q, q = oneE x := ⟨_, rfl⟩
  have hql := oneE_lt x
  rw [← hq] at hql ⊢
  have HQ : Hid (oneE x = q) := hq.symm
  have HB2 := Lib.hid (HB1.out.trans (hb2.mono HB1.out.size))
  clear hb2 hq
  by_cases hq0 : q = 0
  · subst hq0
    go_wp2_with fail
    go_ret
    exact ⟨rfl, HB2.out⟩
  have HSN : Hid (snE x = 10) := by unfold Hid snE; rw [if_neg (by rw [HXL.out]; exact h0), HQ.out, if_neg hq0]
  go_wp2_with fail
  refine (new_any w2 w.heap.size HB2.out.size 10000 (by omega) (by omega)).mono ?_
  rintro _ w3 ⟨g, rfl, h3a, hg, hb3⟩
  have HB3 := Lib.hid (HB2.out.trans (hb3.mono HB2.out.size))
  have H3 := Lib.hid h3a
  clear h3a hb3
  go_wp2_with fail
  refine (swaps_any H3.out HB3.out.size (by show 0 < 1000; omega) (HX.out.below HB3.out)).mono ?_
  rintro _ w4 ⟨rfl, h4, hb4⟩
  have e4 := Dk.swaps_free (d := Dk.new 10000) rfl (by show ((0 : Nat) : Int) + 1 ≠ 0; omega) x len0 HXL.out (by show len0 ≤ 10000; omega)
  rw [e4.1] at h4
  have H4 : Hid (Has w.heap.size g ⟨[], 0, x, false, 0, 1, 10000⟩ w4) := h4
  have HB4 := Lib.hid (HB3.out.trans hb4.below)
  clear h4 hb4 e4 H3
  go_wp2_with fail
  refine (append_any H4.out HB4.out.size (by show 1 < 1000; omega) (HY.out.below HB4.out)).mono ?_
  rintro _ w5 ⟨rfl, h5, hb5⟩
  have e5 := Dk.append_free (d := ⟨[], 0, x, false, 0, 1, 10000⟩) rfl (by show ((1 : Nat) : Int) + 1 ≠ 0; omega) y len1 HYL.out (by show 0 + x.length + len1 ≤ 10000; rw [HXL.out]; omega)
  rw [e5.1] at h5
  have H5 : Hid (Has w.heap.size g ⟨y, 0, x, false, 0, 2, 10000⟩ w5) := h5
  have HB5 := Lib.hid (HB4.out.trans hb5.below)
  clear h5 hb5 e5 H4
  go_wp2_with fail
  refine (open_bad H5.out HB5.out.size (HLA.out.keep HB5.out) rfl HSN.out).mono ?_
  rintro _ w6 ⟨rfl, h6, ht6⟩
  have H6 := Lib.hid (h6.later (Below.refl _ _).drew)
  have HB6 := Lib.hid ((HB5.out.trans ht6.below).drew)
  have HX6 := Lib.hid (HX.out.below HB6.out)
  have HY6 := Lib.hid (HY.out.below HB6.out)
  have heqy := nums_eql y
  have heqx := nums_eql x
  clear h6 ht6 H5
  go_wp2_with fail
  refine anyS_start (by kernel_rfl) ?_
  generalize w6.drew = W at *
  (refine anyS_free (i := 0) (v := ?_) rfl (by kernel_rfl) (by kernel_rfl) (by kernel_rfl) (fun _ _ _ h => h) (fun _ => by simp) (Or.inl ⟨by rfl, fun w' _ => ?_⟩) ?_; rotate_left; (· go_simp; try with_reducible rfl))
  try simp only [Act.put, List.setIfInBounds_toArray, List.set_cons_zero, List.set_cons_succ]
  (refine anyS_free (i := 1) (v := ?_) rfl (by kernel_rfl) (by kernel_rfl) (by kernel_rfl) (fun _ _ _ h => h) (fun _ => by simp) (Or.inl ⟨by rfl, fun w' _ => ?_⟩) ?_; rotate_left; (· go_simp; try with_reducible rfl))
  try simp only [Act.put, List.setIfInBounds_toArray, List.set_cons_zero, List.set_cons_succ]
  (refine anyS_free (i := 2) (v := ?_) rfl (by kernel_rfl) (by kernel_rfl) (by kernel_rfl) (fun _ _ _ h => h) (fun _ => by simp) (Or.inl ⟨by rfl, fun w' _ => ?_⟩) ?_; rotate_left; (· go_simp; try with_reducible rfl))
  try simp only [Act.put, List.setIfInBounds_toArray, List.set_cons_zero, List.set_cons_succ]
  (refine anyS_free (i := 3) (v := ?_) rfl (by kernel_rfl) (by kernel_rfl) (by kernel_rfl) (fun _ _ _ h => h) (fun _ => by simp) (Or.inl ⟨by rfl, fun w' _ => ?_⟩) ?_; rotate_left; (· go_simp; try with_reducible rfl))
  try simp only [Act.put, List.setIfInBounds_toArray, List.set_cons_zero, List.set_cons_succ]
  (refine anyS_free (i := 4) (v := ?_) rfl (by kernel_rfl) (by kernel_rfl) (by kernel_rfl) (fun _ _ _ h => h) (fun _ => by simp) (Or.inl ⟨by rfl, fun w' _ => ?_⟩) ?_; rotate_left; (· go_simp; try with_reducible rfl))
  try simp only [Act.put, List.setIfInBounds_toArray, List.set_cons_zero, List.set_cons_succ]
  (refine anyS_free (i := 5) (v := ?_) rfl (by kernel_rfl) (by kernel_rfl) (by kernel_rfl) (fun _ _ _ h => h) (fun _ => by simp) (Or.inl ⟨by rfl, fun w' _ => ?_⟩) ?_; rotate_left; (· go_simp; try with_reducible rfl))
  try simp only [Act.put, List.setIfInBounds_toArray, List.set_cons_zero, List.set_cons_succ]
  (refine anyS_free (i := 6) (v := ?_) rfl (by kernel_rfl) (by kernel_rfl) (by kernel_rfl) (fun _ _ _ h => h) (fun _ => by simp) (Or.inl ⟨by rfl, fun w' _ => ?_⟩) ?_; rotate_left; (· go_simp; try with_reducible rfl))
  try simp only [Act.put, List.setIfInBounds_toArray, List.set_cons_zero, List.set_cons_succ]
  (refine anyS_free (i := 7) (v := ?_) rfl (by kernel_rfl) (by kernel_rfl) (by kernel_rfl) (fun _ _ _ h => h) (fun _ => by simp) (Or.inl ⟨by rfl, fun w' _ => ?_⟩) ?_; rotate_left; (· go_simp; try with_reducible rfl))
  try simp only [Act.put, List.setIfInBounds_toArray, List.set_cons_zero, List.set_cons_succ]
  (refine anyS_free (i := 8) (v := ?_) rfl (by kernel_rfl) (by kernel_rfl) (by kernel_rfl) (fun _ _ _ h => h) (fun _ => by simp) (Or.inl ⟨by rfl, fun w' _ => ?_⟩) ?_; rotate_left; (· go_simp; try with_reducible rfl))
  try simp only [Act.put, List.setIfInBounds_toArray, List.set_cons_zero, List.set_cons_succ]
  (refine anyS_free (i := 9) (v := ?_) rfl (by kernel_rfl) (by kernel_rfl) (by kernel_rfl) (fun _ _ _ h => h) (fun _ => by simp) (Or.inl ⟨by rfl, fun w' _ => ?_⟩) ?_; rotate_left; (· go_simp; try with_reducible rfl))
  try simp only [Act.put, List.setIfInBounds_toArray, List.set_cons_zero, List.set_cons_succ]
  (refine anyS_free (i := 10) (v := ?_) rfl (by kernel_rfl) (by kernel_rfl) (by kernel_rfl) (fun _ _ _ h => h) (fun _ => by simp) (Or.inl ⟨by rfl, fun w' _ => ?_⟩) ?_; rotate_left; (· go_simp; try with_reducible rfl))
  try simp only [Act.put, List.setIfInBounds_toArray, List.set_cons_zero, List.set_cons_succ]
  (refine anyS_free (i := 11) (v := ?_) rfl (by kernel_rfl) (by kernel_rfl) (by kernel_rfl) (fun _ _ _ h => h) (fun _ => by simp) (Or.inl ⟨by rfl, fun w' _ => ?_⟩) ?_; rotate_left; (· go_simp; try with_reducible rfl))
  try simp only [Act.put, List.setIfInBounds_toArray, List.set_cons_zero, List.set_cons_succ]
  (refine anyS_free (i := 12) (v := ?_) rfl (by kernel_rfl) (by kernel_rfl) (by kernel_rfl) (fun _ _ _ h => h) (fun _ => by simp) (Or.inl ⟨by rfl, fun w' _ => ?_⟩) ?_; rotate_left; (· go_simp; try with_reducible rfl))
  try simp only [Act.put, List.setIfInBounds_toArray, List.set_cons_zero, List.set_cons_succ]
  (refine anyS_free (i := 13) (v := ?_) rfl (by kernel_rfl) (by kernel_rfl) (by kernel_rfl) (fun _ _ _ h => h) (fun _ => by simp) (Or.inl ⟨by rfl, fun w' _ => ?_⟩) ?_; rotate_left; (· go_simp; try with_reducible rfl))
  try simp only [Act.put, List.setIfInBounds_toArray, List.set_cons_zero, List.set_cons_succ]
  (refine anyS_free (i := 14) (v := ?_) rfl (by kernel_rfl) (by kernel_rfl) (by kernel_rfl) (fun _ _ _ h => h) (fun _ => by simp) (Or.inl ⟨by rfl, fun w' _ => ?_⟩) ?_; rotate_left; (· go_simp; try with_reducible rfl))
  try simp only [Act.put, List.setIfInBounds_toArray, List.set_cons_zero, List.set_cons_succ]
  (refine anyS_free (i := 15) (v := ?_) rfl (by kernel_rfl) (by kernel_rfl) (by kernel_rfl) (fun _ _ _ h => h) (fun _ => by simp) (Or.inl ⟨by rfl, fun w' _ => ?_⟩) ?_; rotate_left; (· go_simp; try with_reducible rfl))
  try simp only [Act.put, List.setIfInBounds_toArray, List.set_cons_zero, List.set_cons_succ]
  (refine anyS_free (i := 16) (v := ?_) rfl (by kernel_rfl) (by kernel_rfl) (by kernel_rfl) (fun _ _ _ h => h) (fun _ => by simp) (Or.inl ⟨by rfl, fun w' _ => ?_⟩) ?_; rotate_left; (· go_simp; try with_reducible rfl))
  try simp only [Act.put, List.setIfInBounds_toArray, List.set_cons_zero, List.set_cons_succ]
  (refine anyS_free (i := 17) (v := ?_) rfl (by kernel_rfl) (by kernel_rfl) (by kernel_rfl) (fun _ _ _ h => h) (fun _ => by simp) (Or.inl ⟨by rfl, fun w' _ => ?_⟩) ?_; rotate_left; (· go_simp; try with_reducible rfl))
  try simp only [Act.put, List.setIfInBounds_toArray, List.set_cons_zero, List.set_cons_succ]
  (refine anyS_free (i := 20) (v := ?_) rfl (by kernel_rfl) (by kernel_rfl) (by kernel_rfl) (fun _ _ _ h => h) (fun _ => by simp) (Or.inl ⟨by rfl, fun w' _ => ?_⟩) ?_; rotate_left; (· go_simp; try with_reducible rfl))
  try simp only [Act.put, List.setIfInBounds_toArray, List.set_cons_zero, List.set_cons_succ]
  have HCY := Lib.hid (conv_reads HY6.out.reads cap1)
  (refine anyS_takeNew (i := 21) (v := .string (strOfNums y)) (fun w' => (convert 30 9 (.slice a1 len1 cap1)).run Tryd.prog w' = .ok (.string (strOfNums y)) w') [18, 19] HCY.out rfl (by kernel_rfl) (by kernel_rfl) (by kernel_rfl) (by kernel_rfl) (fun _ _ _ h => h) (fun _ _ => by simp) (Or.inl ⟨by rfl, fun w' hw' => ?_⟩) ?_; (· go_simp))
  try simp only [Act.put, List.setIfInBounds_toArray, List.set_cons_zero, List.set_cons_succ]
  refine anyS_one 18 (by kernel_rfl) rfl (fun K hK => ?_)
  go_simp
  go_at_call 19
  refine (logs_len H6.out y len1 rfl HYL.out).mono ?_
  rintro _ w7 ⟨ax, cx, rfl, hc7, hb7⟩
  have hconv := conv_reads hc7.reads cx
  have HCY2 := Lib.hid (conv_reads (HY6.out.below hb7).reads cap1)
  have HB7 := Lib.hid (HB6.out.trans (hb7.mono HB6.out.size))
  have H7 := Lib.hid (H6.out.later hb7)
  have HX7 := Lib.hid (HX6.out.below hb7)
  clear hc7 hb7 HCY H6 HX6 HY6
  refine hK.out _ _ (⟨trivial, fun _ => HCY2.out⟩) ?_
  clear hK K
  try simp only [Act.put, List.setIfInBounds_toArray, List.set_cons_zero, List.set_cons_succ]
  refine anyS_one 19 (by kernel_rfl) rfl (fun K hK => ?_)
  go_simp
  refine hK.out _ _ (⟨trivial, fun _ => HCY2.out⟩) ?_
  clear hK K
  try simp only [Act.put, List.setIfInBounds_toArray, List.set_cons_zero, List.set_cons_succ]
  clear hconv
  (refine anyS_free (i := 22) (v := ?_) rfl (by kernel_rfl) (by kernel_rfl) (by kernel_rfl) (fun _ _ _ h => h) (fun _ => by simp) (Or.inl ⟨by rfl, fun w' _ => ?_⟩) ?_; rotate_left; (· go_simp; try with_reducible rfl))
  try simp only [Act.put, List.setIfInBounds_toArray, List.set_cons_zero, List.set_cons_succ]
  (refine anyS_free (i := 23) (v := ?_) rfl (by kernel_rfl) (by kernel_rfl) (by kernel_rfl) (fun _ _ _ h => h) (fun _ => by simp) (Or.inl ⟨by rfl, fun w' _ => ?_⟩) ?_; rotate_left; (· go_simp; try with_reducible rfl))
  try simp only [Act.put, List.setIfInBounds_toArray, List.set_cons_zero, List.set_cons_succ]
  (refine anyS_free (i := 24) (v := ?_) rfl (by kernel_rfl) (by kernel_rfl) (by kernel_rfl) (fun _ _ _ h => h) (fun _ => by simp) (Or.inl ⟨by rfl, fun w' _ => ?_⟩) ?_; rotate_left; (· go_simp; try with_reducible rfl))
  try simp only [Act.put, List.setIfInBounds_toArray, List.set_cons_zero, List.set_cons_succ]
  (refine anyS_free (i := 25) (v := ?_) rfl (by kernel_rfl) (by kernel_rfl) (by kernel_rfl) (fun _ _ _ h => h) (fun _ => by simp) (Or.inl ⟨by rfl, fun w' _ => ?_⟩) ?_; rotate_left; (· go_simp; try with_reducible rfl))
  try simp only [Act.put, List.setIfInBounds_toArray, List.set_cons_zero, List.set_cons_succ]
  (refine anyS_free (i := 28) (v := ?_) rfl (by kernel_rfl) (by kernel_rfl) (by kernel_rfl) (fun _ _ _ h => h) (fun _ => by simp) (Or.inl ⟨by rfl, fun w' _ => ?_⟩) ?_; rotate_left; (· go_simp; try with_reducible rfl))
  try simp only [Act.put, List.setIfInBounds_toArray, List.set_cons_zero, List.set_cons_succ]
  have HCX := Lib.hid (conv_reads HX7.out.reads cap0)
  (refine anyS_takeNew (i := 29) (v := .string (strOfNums x)) (fun w' => (convert 30 9 (.slice a0 len0 cap0)).run Tryd.prog w' = .ok (.string (strOfNums x)) w') [26, 27] HCX.out rfl (by kernel_rfl) (by kernel_rfl) (by kernel_rfl) (by kernel_rfl) (fun _ _ _ h => h) (fun _ _ => by simp) (Or.inl ⟨by rfl, fun w' hw' => ?_⟩) ?_; (· go_simp))
  try simp only [Act.put, List.setIfInBounds_toArray, List.set_cons_zero, List.set_cons_succ]
  refine anyS_one 26 (by kernel_rfl) rfl (fun K hK => ?_)
  go_simp
  go_at_call 23
  refine (snaps_len H7.out x len0 rfl HXL.out).mono ?_
  rintro _ w8 ⟨ax2, cx2, rfl, hc8, hb8⟩
  have hconv := conv_reads hc8.reads cx2
  have HCX2 := Lib.hid (conv_reads (HX7.out.below hb8).reads cap0)
  have HB8 := Lib.hid (HB7.out.trans (hb8.mono HB7.out.size))
  clear hc8 hb8 HCX H7 HX7
  refine hK.out _ _ (⟨⟨trivial, fun h => absurd h (by decide)⟩, fun _ => HCX2.out⟩) ?_
  clear hK K
  try simp only [Act.put, List.setIfInBounds_toArray, List.set_cons_zero, List.set_cons_succ]
  refine anyS_one 27 (by kernel_rfl) rfl (fun K hK => ?_)
  go_simp
  refine hK.out _ _ (⟨⟨trivial, fun h => absurd h (by decide)⟩, fun _ => HCX2.out⟩) ?_
  clear hK K
  try simp only [Act.put, List.setIfInBounds_toArray, List.set_cons_zero, List.set_cons_succ]
  (refine anyS_free (i := 30) (v := ?_) rfl (by kernel_rfl) (by kernel_rfl) (by kernel_rfl) (fun _ _ _ h => h) (fun _ => by simp) (Or.inl ⟨by rfl, fun w' _ => ?_⟩) ?_; rotate_left; (· go_simp; try with_reducible rfl))
  try simp only [Act.put, List.setIfInBounds_toArray, List.set_cons_zero, List.set_cons_succ]
  (refine anyS_free (i := 31) (v := ?_) rfl (by kernel_rfl) (by kernel_rfl) (by kernel_rfl) (fun _ _ _ h => h) (fun _ => by simp) (Or.inl ⟨by rfl, fun w' _ => ?_⟩) ?_; rotate_left; (· go_simp; try with_reducible rfl))
  try simp only [Act.put, List.setIfInBounds_toArray, List.set_cons_zero, List.set_cons_succ]
  refine anyS_one 32 (by kernel_rfl) rfl (fun K hK => ?_)
  go_simp
  refine hK.out _ _ (by repeat' (first | exact trivial | exact fun h => absurd h (by decide) | refine ⟨?_, ?_⟩)) ?_
  clear hK K
  try simp only [Act.put, List.setIfInBounds_toArray, List.set_cons_zero, List.set_cons_succ]
  refine anyS_done (by kernel_rfl) ?_ _
  refine NoPanic.normal ?_
  go_wp2_with fail
  go_ret
  exact ⟨rfl, HB8.out⟩
end Go.Proofs.YtgggecpnmliolaaDoor
