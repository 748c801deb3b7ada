/- What the document makes of two numbers. -/
import Derived.Test.YtdbnfafafhdolaaPair
namespace Go.Proofs.Ytdbnfafafhdolaa
open Go Go.RowKit
set_option linter.unusedVariables false
set_option linter.unusedSimpArgs false

theorem shl_far {a b : Int} (hb : 63 < b) : shlP a b = 0 := by
  unfold shlP
  rw [show min b.toNat 64 = 64 by omega, IntKind.wrap_i64]
  omega
theorem shr_far {a b : Int} (ha : I64 a) (hb : 63 < b) : shrP a b = if a < 0 then -1 else 0 := by
  unfold shrP
  rw [show min b.toNat 64 = 64 by omega]
  unfold I64 at ha
  split <;> omega

theorem shiftr_any (a b : Int) (l : Bool) (w : World) (ha : I64 a) (hb : I64 b) (h0 : 0 ≤ b) :
    Calls Try.prog 37 #[.int .i64 a, .int .i64 b, .bool l] w fun e w' => e = .returned (.int .i64 (if l then shlP a b else shrP a b)) ∧ w = w' := by
  by_cases h : 63 < b
  · cases l
    · have hp := Lib.hid (shr_far ha h)
      by_cases hn : a < 0
      · go_enter Try.func37, Try.ntmps37
        go_wp2
        go_ret
        exact ⟨by rw [hp.out, if_pos hn]; rfl, rfl⟩
      · go_enter Try.func37, Try.ntmps37
        go_wp2
        go_ret
        exact ⟨by rw [hp.out, if_neg (by omega)]; rfl, rfl⟩
    · have hp := Lib.hid (shl_far (a := a) h)
      go_enter Try.func37, Try.ntmps37
      go_wp2
      go_ret
      exact ⟨by rw [hp.out]; rfl, rfl⟩
  · cases l
    · have hp : Hid (shrP a b = a / 2 ^ b.toNat) := by unfold shrP; rw [show min b.toNat 64 = b.toNat by omega]; exact rfl
      go_enter Try.func37, Try.ntmps37
      go_wp2
      go_ret
      exact ⟨by rw [← hp.out]; rfl, rfl⟩
    · have hp : Hid (shlP a b = wrap64 (a * 2 ^ b.toNat)) := by unfold shlP wrap64; rw [show min b.toNat 64 = b.toNat by omega, IntKind.wrap_i64]; exact rfl
      go_enter Try.func37, Try.ntmps37
      go_wp2
      go_ret
      exact ⟨by rw [← hp.out]; rfl, rfl⟩

theorem wrap64_id {n : Int} (h : I64 n) : wrap64 n = n := by unfold wrap64; unfold I64 at h; omega

theorem tmod_small (c b : Int) (hb : b ≠ 0) : -(b.natAbs : Int) < c.tmod b ∧ c.tmod b < b.natAbs := by
  by_cases h : b < 0
  · have e : c.tmod b = c.tmod (-b) := by rw [Int.tmod_neg]
    have h1 := Int.tmod_lt_of_pos c (show 0 < -b by omega)
    have h2 := Int.lt_tmod_of_pos c (show 0 < -b by omega)
    rw [← e] at h1 h2
    omega
  · have h1 := Int.tmod_lt_of_pos c (show 0 < b by omega)
    have h2 := Int.lt_tmod_of_pos c (show 0 < b by omega)
    omega

theorem quo_mul {a b : Int} (ha : I64 a) (hb : I64 b) (h0 : b ≠ 0) : ((wrap64 (a * b)).tdiv b = a) ↔ I64 (a * b) := by
  obtain ⟨P, hP⟩ : ∃ P, P = a * b := ⟨_, rfl⟩
  have hw : ∃ k, wrap64 P = P + 18446744073709551616 * k := by
    unfold wrap64
    exact ⟨-((P + 9223372036854775808) / 18446744073709551616), by omega⟩
  constructor
  · intro h
    have hd := Int.mul_tdiv_add_tmod (wrap64 (a * b)) b
    rw [h] at hd
    have hr := tmod_small (wrap64 (a * b)) b h0
    rw [← hP] at h hd hr ⊢
    rw [show b * a = P by rw [hP, Int.mul_comm]] at hd
    obtain ⟨k, hk⟩ := hw
    obtain ⟨h1, h2⟩ := hb
    have hx : I64 (wrap64 P) := by unfold wrap64; exact ⟨by omega, by omega⟩
    have e : wrap64 P = P := by omega
    rw [← e]
    exact hx
  · intro h
    rw [← hP] at h ⊢
    have e : wrap64 P = P := by unfold wrap64; unfold I64 at h; omega
    rw [e, hP]
    exact Int.mul_tdiv_cancel a h0

theorem quo_in {a b : Int} (ha : I64 a) (hb : I64 b) (h0 : b ≠ 0) (h1 : ¬ (b = -1 ∧ a = -9223372036854775808)) : I64 ((wrap64 (a * b)).tdiv b) := by
  have hx : I64 (wrap64 (a * b)) := by unfold wrap64; exact ⟨by omega, by omega⟩
  have h2 : ((wrap64 (a * b)).tdiv b).natAbs = (wrap64 (a * b)).natAbs / b.natAbs := Int.natAbs_tdiv _ _
  by_cases hm : b = -1
  · subst hm
    have e : wrap64 (a * -1) = -a := by
      rw [Int.mul_neg_one]
      unfold wrap64 I64 at *
      omega
    rw [e]
    have e2 : (-a).tdiv (-1) = a := by
      rw [Int.neg_tdiv_neg]; simp
    rw [e2]
    exact ha
  · by_cases h1' : b = 1
    · subst h1'
      rw [Int.tdiv_one]
      exact hx
    · have h3 : (wrap64 (a * b)).natAbs / b.natAbs ≤ (wrap64 (a * b)).natAbs / 2 := Nat.div_le_div_left (by omega) (by omega)
      unfold I64 at *
      omega

instance decI64 (n : Int) : Decidable (I64 n) := inferInstanceAs (Decidable (_ ∧ _))

theorem times_any (a b : Int) (w : World) (ha : I64 a) (hb : I64 b) :
    Calls Try.prog 36 #[.int .i64 a, .int .i64 b] w fun e w' => (∃ c, e = .returned (.tuple #[.int .i64 c, .bool (decide (I64 (a * b)))]) ∧ (I64 (a * b) → c = a * b)) ∧ ∃ k, w' = w.drewN k := by
  by_cases h0 : a = 0
  · subst h0
    have hd : decide (I64 (0 * b)) = true := by rw [Int.zero_mul]; decide
    rw [hd, Int.zero_mul]
    clear hd
    go_enter Try.func36, Try.ntmps36
    go_wp2
    go_ret2
    exact ⟨⟨0, rfl, fun _ => rfl⟩, 0, rfl⟩
  by_cases h1 : b = 0
  · subst h1
    have hd : decide (I64 (a * 0)) = true := by rw [Int.mul_zero]; decide
    rw [hd, Int.mul_zero]
    clear hd
    go_enter Try.func36, Try.ntmps36
    go_wp2
    go_ret2
    exact ⟨⟨0, rfl, fun _ => rfl⟩, 0, rfl⟩
  by_cases h2 : a = -1 ∧ b = -9223372036854775808
  · obtain ⟨rfl, rfl⟩ := h2
    go_enter Try.func36, Try.ntmps36
    go_wp2
    go_ret2
    exact ⟨⟨0, rfl, fun h => absurd h (by decide)⟩, 0, rfl⟩
  by_cases h3 : b = -1 ∧ a = -9223372036854775808
  · obtain ⟨rfl, rfl⟩ := h3
    go_enter Try.func36, Try.ntmps36
    go_wp2
    go_ret2
    exact ⟨⟨0, rfl, fun h => absurd h (by decide)⟩, 0, rfl⟩
  have hk := quo_mul ha hb h1
  have hq := quo_in ha hb h1 h3
  have hdd : (wrap64 ((wrap64 (a * b)).tdiv b) == a) = decide (I64 (a * b)) := by
    rw [wrap64_id hq]
    by_cases hI : I64 (a * b)
    · rw [decide_eq_true hI]; simp only [beq_iff_eq]; exact hk.2 hI
    · rw [decide_eq_false hI]; simp only [beq_eq_false_iff_ne, ne_eq]; exact fun h => hI (hk.1 h)
  have hval : I64 (a * b) → wrap64 (a * b) = a * b := fun h => by unfold wrap64; unfold I64 at h; omega
  have HK := Lib.hid hdd
  have HV := Lib.hid hval
  clear hdd hval hk
  have arm : ∀ p1 p2 p3 p4 : Bool, (a == -1) = p1 → (b == -1) = p2 → (a == -9223372036854775808) = p3 → (b == -9223372036854775808) = p4 → (p1 && p4) = false → (p2 && p3) = false →
      Calls Try.prog 36 #[.int .i64 a, .int .i64 b] w fun e w' => (∃ c, e = .returned (.tuple #[.int .i64 c, .bool (decide (I64 (a * b)))]) ∧ (I64 (a * b) → c = a * b)) ∧ ∃ k, w' = w.drewN k := by
    intro p1 p2 p3 p4 e1 e2 e3 e4 n1 n2
    have z1 : (a == 0) = false := by simp only [beq_eq_false_iff_ne, ne_eq]; exact h0
    have z2 : (b == 0) = false := by simp only [beq_eq_false_iff_ne, ne_eq]; exact h1
    clear h2 h3
    cases p1 <;> cases p2 <;> cases p3 <;> cases p4 <;> first | (simp at n1; done) | (simp at n2; done) | skip
    all_goals
      clear n1 n2
      go_enter Try.func36, Try.ntmps36
      go_wp2_with fail
      go_quiet (fail)
      go_wp2_with fail
      go_ret2
      exact ⟨⟨_, by rw [← HK.out]; rfl, HV.out⟩, _, rfl⟩
  refine arm _ _ _ _ rfl rfl rfl rfl ?_ ?_
  · rw [Bool.and_eq_false_iff]
    by_cases h : a = -1
    · exact .inr (by simp; exact fun x => h2 ⟨h, x⟩)
    · exact .inl (by simp; exact h)
  · rw [Bool.and_eq_false_iff]
    by_cases h : b = -1
    · exact .inr (by simp; exact fun x => h3 ⟨h, x⟩)
    · exact .inl (by simp; exact h)

theorem over_cases (n : Int) : (I64 n ∧ over n = (n, 0)) ∨ (¬ I64 n ∧ over n = (0, 11)) := by
  by_cases h : I64 n
  · exact .inl ⟨h, over_in h⟩
  · exact .inr ⟨h, over_out h⟩

/-- the ways in which a sum may be too great, or not -/
theorem add_ways {a b : Int} (ha : I64 a) (hb : I64 b) : (I64 (a + b) ∧ over (a + b) = (a + b, 0) ∧ wrap64 (a + b) = a + b) ∨ (over (a + b) = (0, 11) ∧ 0 < b ∧ wrap64 (a + b) = a + b - 18446744073709551616) ∨ (over (a + b) = (0, 11) ∧ b < 0 ∧ wrap64 (a + b) = a + b + 18446744073709551616) := by
  unfold I64 at *
  rcases over_cases (a + b) with ⟨h1, h2⟩ | ⟨h1, h2⟩
  · exact .inl ⟨h1, h2, by unfold wrap64 I64 at *; omega⟩
  · unfold I64 at h1
    by_cases h : 0 < b
    · exact .inr (.inl ⟨h2, h, by unfold wrap64; omega⟩)
    · exact .inr (.inr ⟨h2, by omega, by unfold wrap64; omega⟩)
theorem sub_ways {a b : Int} (ha : I64 a) (hb : I64 b) : (I64 (a - b) ∧ over (a - b) = (a - b, 0) ∧ wrap64 (a - b) = a - b) ∨ (over (a - b) = (0, 11) ∧ 0 < b ∧ wrap64 (a - b) = a - b + 18446744073709551616) ∨ (over (a - b) = (0, 11) ∧ b < 0 ∧ wrap64 (a - b) = a - b - 18446744073709551616) := by
  unfold I64 at *
  rcases over_cases (a - b) with ⟨h1, h2⟩ | ⟨h1, h2⟩
  · exact .inl ⟨h1, h2, by unfold wrap64 I64 at *; omega⟩
  · unfold I64 at h1
    by_cases h : 0 < b
    · exact .inr (.inl ⟨h2, h, by unfold wrap64; omega⟩)
    · exact .inr (.inr ⟨h2, by omega, by unfold wrap64; omega⟩)

def TwoPost (s a b : Int) (w : World) (e : Ending) (w' : World) : Prop := e = .returned (.tuple #[.int .i64 (pairP s a b).1, .int .i64 (pairP s a b).2]) ∧ ∃ k, w' = w.drewN k

theorem two2_any (a b : Int) (w : World) (ha : I64 a) (hb : I64 b) :
    Calls Try.prog 33 #[.int .u8 2, .int .i64 a, .int .i64 b] w (TwoPost 2 a b w) := by
  have hp : Hid (pairP 2 a b = over (a + b)) := by unfold pairP; rw [if_pos rfl]; exact rfl
  rcases add_ways ha hb with ⟨h1, h2, h3⟩ | ⟨h2, h1, h3⟩ | ⟨h2, h1, h3⟩
  · have h2 := Lib.hid h2
    unfold I64 at h1 ha hb
    have hg : (decide (a < a + b) != decide (0 < b)) = false := by
      simp only [bne_eq_false_iff_eq, decide_eq_decide]
      omega
    go_enter Try.func33, Try.ntmps33
    go_wp2_with fail
    go_ret2
    unfold TwoPost
    rw [hp.out, h2.out]
    exact ⟨rfl, 0, rfl⟩
  · have h2 := Lib.hid h2
    have hd1 : decide (a < wrap64 (a + b)) = false := by
      rw [h3]
      unfold I64 at ha hb
      exact decide_eq_false (by omega)
    have hd2 : decide (0 < b) = true := decide_eq_true (by omega)
    have hd3 : (b != 0) = true := by simp only [bne_iff_ne, ne_eq]; omega
    clear h3
    go_enter Try.func33, Try.ntmps33
    go_wp2_with fail
    go_ret2
    unfold TwoPost
    rw [hp.out, h2.out]
    exact ⟨rfl, 0, rfl⟩
  · have h2 := Lib.hid h2
    have hd1 : decide (a < wrap64 (a + b)) = true := by
      rw [h3]
      unfold I64 at ha hb
      exact decide_eq_true (by omega)
    have hd2 : decide (0 < b) = false := decide_eq_false (by omega)
    have hd3 : (b != 0) = true := by simp only [bne_iff_ne, ne_eq]; omega
    clear h3
    go_enter Try.func33, Try.ntmps33
    go_wp2_with fail
    go_ret2
    unfold TwoPost
    rw [hp.out, h2.out]
    exact ⟨rfl, 0, rfl⟩

theorem two3_any (a b : Int) (w : World) (ha : I64 a) (hb : I64 b) :
    Calls Try.prog 33 #[.int .u8 3, .int .i64 a, .int .i64 b] w (TwoPost 3 a b w) := by
  have hp : Hid (pairP 3 a b = over (a - b)) := by unfold pairP; rw [if_neg (by omega), if_pos rfl]; exact rfl
  rcases sub_ways ha hb with ⟨h1, h2, h3⟩ | ⟨h2, h1, h3⟩ | ⟨h2, h1, h3⟩
  · have h2 := Lib.hid h2
    unfold I64 at h1 ha hb
    have hg : (decide (a - b < a) != decide (0 < b)) = false := by
      simp only [bne_eq_false_iff_eq, decide_eq_decide]
      omega
    go_enter Try.func33, Try.ntmps33
    go_wp2_with fail
    go_ret2
    unfold TwoPost
    rw [hp.out, h2.out]
    exact ⟨rfl, 0, rfl⟩
  · have h2 := Lib.hid h2
    have hd1 : decide (wrap64 (a - b) < a) = false := by
      rw [h3]
      unfold I64 at ha hb
      exact decide_eq_false (by omega)
    have hd2 : decide (0 < b) = true := decide_eq_true (by omega)
    have hd3 : (b != 0) = true := by simp only [bne_iff_ne, ne_eq]; omega
    clear h3
    go_enter Try.func33, Try.ntmps33
    go_wp2_with fail
    go_ret2
    unfold TwoPost
    rw [hp.out, h2.out]
    exact ⟨rfl, 0, rfl⟩
  · have h2 := Lib.hid h2
    have hd1 : decide (wrap64 (a - b) < a) = true := by
      rw [h3]
      unfold I64 at ha hb
      exact decide_eq_true (by omega)
    have hd2 : decide (0 < b) = false := decide_eq_false (by omega)
    have hd3 : (b != 0) = true := by simp only [bne_iff_ne, ne_eq]; omega
    clear h3
    go_enter Try.func33, Try.ntmps33
    go_wp2_with fail
    go_ret2
    unfold TwoPost
    rw [hp.out, h2.out]
    exact ⟨rfl, 0, rfl⟩

theorem two4_any (a b : Int) (w : World) (ha : I64 a) (hb : I64 b) :
    Calls Try.prog 33 #[.int .u8 4, .int .i64 a, .int .i64 b] w (TwoPost 4 a b w) := by
  have hp : Hid (pairP 4 a b = over (a * b)) := by unfold pairP; rw [if_neg (by omega), if_neg (by omega), if_pos rfl]; exact rfl
  go_enter Try.func33, Try.ntmps33
  go_wp2_with fail
  refine (times_any a b w ha hb).mono ?_
  rintro _ _ ⟨⟨c, rfl, hc⟩, k, rfl⟩
  obtain ⟨t, ht⟩ : ∃ t, t = decide (I64 (a * b)) := ⟨_, rfl⟩
  have HC := Lib.hid hc
  have HT := Lib.hid ht
  rw [← ht]
  clear hc ht
  cases t
  · go_wp2_with fail
    go_ret2
    unfold TwoPost
    rw [hp.out, over_out (of_decide_eq_false HT.out.symm)]
    exact ⟨rfl, k, rfl⟩
  · go_wp2_with fail
    go_ret2
    unfold TwoPost
    rw [hp.out, over_in (of_decide_eq_true HT.out.symm), ← HC.out (of_decide_eq_true HT.out.symm)]
    exact ⟨rfl, k, rfl⟩

theorem two56_any (s a b : Int) (w : World) (ha : I64 a) (hb : I64 b) (hs : s = 5 ∨ s = 6) :
    Calls Try.prog 33 #[.int .u8 s, .int .i64 a, .int .i64 b] w (TwoPost s a b w) := by
  have hp : Hid (pairP s a b = shiftP s a b) := by unfold pairP; rw [if_neg (by omega), if_neg (by omega), if_neg (by omega), if_pos hs]; exact rfl
  by_cases h0 : b < 0
  · have hp2 : Hid (shiftP s a b = (0, 1)) := by unfold shiftP; rw [if_pos h0]; exact rfl
    rcases hs with rfl | rfl
    · go_enter Try.func33, Try.ntmps33
      go_wp2_with fail
      go_ret2
      unfold TwoPost
      rw [hp.out, hp2.out]
      exact ⟨rfl, 0, rfl⟩
    · go_enter Try.func33, Try.ntmps33
      go_wp2_with fail
      go_ret2
      unfold TwoPost
      rw [hp.out, hp2.out]
      exact ⟨rfl, 0, rfl⟩
  · rcases hs with rfl | rfl
    · have hp2 : Hid (shiftP 5 a b = (shlP a b, 0)) := by unfold shiftP; rw [if_neg h0, if_pos rfl]; exact rfl
      go_enter Try.func33, Try.ntmps33
      go_wp2_with fail
      refine (shiftr_any a b true w ha hb (by omega)).mono ?_
      rintro _ _ ⟨rfl, rfl⟩
      go_wp2_with fail
      go_ret2
      unfold TwoPost
      rw [hp.out, hp2.out]
      exact ⟨rfl, 0, rfl⟩
    · have hp2 : Hid (shiftP 6 a b = (shrP a b, 0)) := by unfold shiftP; rw [if_neg h0, if_neg (by omega)]; exact rfl
      go_enter Try.func33, Try.ntmps33
      go_wp2_with fail
      refine (shiftr_any a b false w ha hb (by omega)).mono ?_
      rintro _ _ ⟨rfl, rfl⟩
      go_wp2_with fail
      go_ret2
      unfold TwoPost
      rw [hp.out, hp2.out]
      exact ⟨rfl, 0, rfl⟩

theorem two7_any (a b : Int) (w : World) (ha : I64 a) (hb : I64 b) :
    Calls Try.prog 33 #[.int .u8 7, .int .i64 a, .int .i64 b] w (TwoPost 7 a b w) := by
  have hp : Hid (pairP 7 a b = (bits .and .i64 a b, 0)) := by unfold pairP; rw [if_neg (by omega), if_neg (by omega), if_neg (by omega), if_neg (by omega)]; exact rfl
  go_enter Try.func33, Try.ntmps33
  go_wp2_with fail
  go_ret2
  unfold TwoPost
  rw [hp.out]
  exact ⟨rfl, 0, rfl⟩

theorem two_any (s a b : Int) (w : World) (ha : I64 a) (hb : I64 b) (hs : 2 ≤ s ∧ s ≤ 7) :
    Calls Try.prog 33 #[.int .u8 s, .int .i64 a, .int .i64 b] w (TwoPost s a b w) := by
  have h : s = 2 ∨ s = 3 ∨ s = 4 ∨ (s = 5 ∨ s = 6) ∨ s = 7 := by omega
  clear hs
  rcases h with rfl | rfl | rfl | h | rfl
  · exact two2_any a b w ha hb
  · exact two3_any a b w ha hb
  · exact two4_any a b w ha hb
  · exact two56_any s a b w ha hb h
  · exact two7_any a b w ha hb
end Go.Proofs.Ytdbnfafafhdolaa
