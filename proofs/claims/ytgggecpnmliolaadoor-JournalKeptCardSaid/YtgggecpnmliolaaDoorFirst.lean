/- The first error of several checks: One's five, Scan's four. -/
import Derived.Test.YtgggecpnmliolaaDoorBad
namespace Go.Proofs.YtgggecpnmliolaaDoor
open Go.RowKit Frm
set_option linter.unusedVariables false
set_option linter.unusedSimpArgs false

/-- what a frame that stands in front may be refused for -/
def scanE (b : List Int) : Nat :=
  if b.length < 8 then 8 else if 4194304 < num b then 5 else if b.length < 8 + num b then 8
  else if (crc ((b.drop 8).take (num b))).toNat ≠ num (b.drop 4) then 10 else 0

/-- what the first checks found -/
def oneCond (len0 : Nat) (z : List Int) (j : Nat) : Prop := (1 ≤ j → ¬ len0 < 8) ∧ (2 ≤ j → ¬ 4194304 < num z) ∧ (3 ≤ j → ¬ len0 < 8 + num z) ∧ (4 ≤ j → ¬ 8 + num z < len0) ∧ (5 ≤ j → ¬ (crc ((z.drop 8).take (num z))).toNat ≠ num (z.drop 4))

set_option maxRecDepth 100000 in
set_option maxHeartbeats 4000000 in
theorem one_any {a0 : Option Addr} {len0 cap0 : Nat} {z : List Int} {w : World} (hc : Came w a0 len0 cap0 z) (hlaid : Laid w) (g : Nat) (h0 : w.cell? ⟨g, 0, none⟩ = some (.func (.func 43) #[.slice a0 len0 cap0] #[])) (h1 : w.cell? ⟨g, 1, none⟩ = some (.func (.func 44) #[.slice a0 len0 cap0] #[])) (h2 : w.cell? ⟨g, 2, none⟩ = some (.func (.func 45) #[.slice a0 len0 cap0] #[])) (h3 : w.cell? ⟨g, 3, none⟩ = some (.func (.func 55) #[.slice a0 len0 cap0] #[])) (h4 : w.cell? ⟨g, 4, none⟩ = some (.func (.func 46) #[.slice a0 len0 cap0] #[])) :
    Calls Tryd.prog 42 #[.slice (some ⟨g, 0, none⟩) 5 5] w fun e w' => e = .returned (.int .i64 (oneE z : Int)) ∧ ∃ k, w' = w.drewN k := by
  have hlen := Lib.hid hc.reads.1
  have HC0 := Lib.hid hc
  have HL0 := Lib.hid hlaid
  clear hc hlaid
  have H0 := Lib.hid h0
  have H1 := Lib.hid h1
  have H2 := Lib.hid h2
  have H3 := Lib.hid h3
  have H4 := Lib.hid h4
  clear h0 h1 h2 h3 h4
  go_enter Tryd.func42, Tryd.ntmps42
  go_wp2_with fail
  go_loopw [8] (fun v X => ∃ j : Nat, j ≤ 5 ∧ v = .int .i64 (j : Int) ∧ Hid (oneCond len0 z j) ∧ Hid (∃ k, X = w.drewN k)) (fun v _ => (5 - intOf v).toNat)
  case atStart => exact ⟨0, by omega, rfl, by unfold Hid oneCond; omega, 0, rfl⟩
  case round =>
    obtain ⟨j, hj, rfl, HP, HX⟩ := hrel
    obtain ⟨kk, hkk⟩ := HX.out
    have HC : Came wr a0 len0 cap0 z := by rw [hkk]; exact HC0.out.drewN kk
    have HLA : Laid wr := by rw [hkk]; exact HL0.out.drewN kk
    by_cases hlt : j < 5
    · have hjj : j = 0 ∨ j = 1 ∨ j = 2 ∨ j = 3 ∨ j = 4 := by omega
      rcases hjj with rfl | rfl | rfl | rfl | rfl
      · have hcell : wr.cell? ⟨g, 0, none⟩ = some (.func (.func 43) #[.slice a0 len0 cap0] #[]) := by rw [hkk]; exact H0.out
        have hP := HP.out
        unfold oneCond at hP
        have hcall := headless_any HC
        have HCALL := Lib.hid hcall
        have HKK := Lib.hid hkk
        have HPP := Lib.hid hP
        clear hP hcall hkk HC HLA
        go_wp2_with fail
        refine HCALL.out.mono ?_
        rintro _ w2 ⟨rfl, hw2⟩
        have HX2 : Hid (∃ k, w2 = w.drewN k) := ⟨kk, by rw [← hw2, HKK.out]⟩
        clear hw2
        by_cases hq : len0 < 8
        · have HE : Hid ((oneE z : Int) = 8) := by
            have hP := HPP.out
            have hl := hlen.out
            unfold oneE
            rw [hl]
            rw [if_pos hq]
            rfl
          rw [show (decide (len0 < 8)) = true from decide_eq_true hq, show chk true 8 = 8 from rfl]
          clear hq HPP
          go_wp2_with fail
          go_ret
          exact ⟨ret_i64 HE.out.symm, HX2.out⟩
        · have HE : Hid (oneCond len0 z 1) := by
            have hP := HPP.out
            unfold Hid oneCond
            omega
          rw [show (decide (len0 < 8)) = false from decide_eq_false hq, show chk false 8 = 0 from rfl]
          clear hq HPP
          go_wp2_with fail
          try go_roundw
          case rel => exact ⟨1, by omega, by go_num, HE, HX2⟩
          case measure => simp [intOf]
      · have hcell : wr.cell? ⟨g, 1, none⟩ = some (.func (.func 44) #[.slice a0 len0 cap0] #[]) := by rw [hkk]; exact H1.out
        have hP := HP.out
        unfold oneCond at hP
        have hcall := long_any HC (by omega)
        have HCALL := Lib.hid hcall
        have HKK := Lib.hid hkk
        have HPP := Lib.hid hP
        clear hP hcall hkk HC HLA
        go_wp2_with fail
        refine HCALL.out.mono ?_
        rintro _ w2 ⟨rfl, hw2⟩
        have HX2 : Hid (∃ k, w2 = w.drewN k) := ⟨kk, by rw [← hw2, HKK.out]⟩
        clear hw2
        by_cases hq : 4194304 < num z
        · have HE : Hid ((oneE z : Int) = 5) := by
            have hP := HPP.out
            have hl := hlen.out
            unfold oneE
            rw [hl]
            rw [if_neg (by omega)]
            rw [if_pos hq]
            rfl
          rw [show (decide (4194304 < num z)) = true from decide_eq_true hq, show chk true 5 = 5 from rfl]
          clear hq HPP
          go_wp2_with fail
          go_ret
          exact ⟨ret_i64 HE.out.symm, HX2.out⟩
        · have HE : Hid (oneCond len0 z 2) := by
            have hP := HPP.out
            unfold Hid oneCond
            omega
          rw [show (decide (4194304 < num z)) = false from decide_eq_false hq, show chk false 5 = 0 from rfl]
          clear hq HPP
          go_wp2_with fail
          try go_roundw
          case rel => exact ⟨2, by omega, by go_num, HE, HX2⟩
          case measure => simp [intOf]
      · have hcell : wr.cell? ⟨g, 2, none⟩ = some (.func (.func 45) #[.slice a0 len0 cap0] #[]) := by rw [hkk]; exact H2.out
        have hP := HP.out
        unfold oneCond at hP
        have hcall := cut_any HC (by omega)
        have HCALL := Lib.hid hcall
        have HKK := Lib.hid hkk
        have HPP := Lib.hid hP
        clear hP hcall hkk HC HLA
        go_wp2_with fail
        refine HCALL.out.mono ?_
        rintro _ w2 ⟨rfl, hw2⟩
        have HX2 : Hid (∃ k, w2 = w.drewN k) := ⟨kk, by rw [← hw2, HKK.out]⟩
        clear hw2
        by_cases hq : len0 < 8 + num z
        · have HE : Hid ((oneE z : Int) = 8) := by
            have hP := HPP.out
            have hl := hlen.out
            unfold oneE
            rw [hl]
            rw [if_neg (by omega)]
            rw [if_neg (by omega)]
            rw [if_pos hq]
            rfl
          rw [show (decide (len0 < 8 + num z)) = true from decide_eq_true hq, show chk true 8 = 8 from rfl]
          clear hq HPP
          go_wp2_with fail
          go_ret
          exact ⟨ret_i64 HE.out.symm, HX2.out⟩
        · have HE : Hid (oneCond len0 z 3) := by
            have hP := HPP.out
            unfold Hid oneCond
            omega
          rw [show (decide (len0 < 8 + num z)) = false from decide_eq_false hq, show chk false 8 = 0 from rfl]
          clear hq HPP
          go_wp2_with fail
          try go_roundw
          case rel => exact ⟨3, by omega, by go_num, HE, HX2⟩
          case measure => simp [intOf]
      · have hcell : wr.cell? ⟨g, 3, none⟩ = some (.func (.func 55) #[.slice a0 len0 cap0] #[]) := by rw [hkk]; exact H3.out
        have hP := HP.out
        unfold oneCond at hP
        have hcall := more_any HC (by omega)
        have HCALL := Lib.hid hcall
        have HKK := Lib.hid hkk
        have HPP := Lib.hid hP
        clear hP hcall hkk HC HLA
        go_wp2_with fail
        refine HCALL.out.mono ?_
        rintro _ w2 ⟨rfl, hw2⟩
        have HX2 : Hid (∃ k, w2 = w.drewN k) := ⟨kk, by rw [← hw2, HKK.out]⟩
        clear hw2
        by_cases hq : 8 + num z < len0
        · have HE : Hid ((oneE z : Int) = 9) := by
            have hP := HPP.out
            have hl := hlen.out
            unfold oneE
            rw [hl]
            rw [if_neg (by omega)]
            rw [if_neg (by omega)]
            rw [if_neg (by omega)]
            rw [if_pos hq]
            rfl
          rw [show (decide (8 + num z < len0)) = true from decide_eq_true hq, show chk true 9 = 9 from rfl]
          clear hq HPP
          go_wp2_with fail
          go_ret
          exact ⟨ret_i64 HE.out.symm, HX2.out⟩
        · have HE : Hid (oneCond len0 z 4) := by
            have hP := HPP.out
            unfold Hid oneCond
            omega
          rw [show (decide (8 + num z < len0)) = false from decide_eq_false hq, show chk false 9 = 0 from rfl]
          clear hq HPP
          go_wp2_with fail
          try go_roundw
          case rel => exact ⟨4, by omega, by go_num, HE, HX2⟩
          case measure => simp [intOf]
      · have hcell : wr.cell? ⟨g, 4, none⟩ = some (.func (.func 46) #[.slice a0 len0 cap0] #[]) := by rw [hkk]; exact H4.out
        have hP := HP.out
        unfold oneCond at hP
        have hcall := bad_any HC (by omega) HLA
        have HCALL := Lib.hid hcall
        have HKK := Lib.hid hkk
        have HPP := Lib.hid hP
        clear hP hcall hkk HC HLA
        go_wp2_with fail
        refine HCALL.out.mono ?_
        rintro _ w2 ⟨rfl, k2, hk2⟩
        have HX2 : Hid (∃ k, w2 = w.drewN k) := ⟨kk + k2, by rw [hk2, HKK.out, World.drewN_drewN]⟩
        clear hk2
        by_cases hq : (crc ((z.drop 8).take (num z))).toNat ≠ num (z.drop 4)
        · have HE : Hid ((oneE z : Int) = 10) := by
            have hP := HPP.out
            have hl := hlen.out
            unfold oneE
            rw [hl]
            rw [if_neg (by omega)]
            rw [if_neg (by omega)]
            rw [if_neg (by omega)]
            rw [if_neg (by omega)]
            rw [show z.drop 8 = (z.drop 8).take (num z) from (List.take_of_length_le (by rw [List.length_drop]; omega)).symm]
            rw [if_pos hq]
            rfl
          rw [show (decide ((crc ((z.drop 8).take (num z))).toNat ≠ num (z.drop 4))) = true from decide_eq_true hq, show chk true 10 = 10 from rfl]
          clear hq HPP
          go_wp2_with fail
          go_ret
          exact ⟨ret_i64 HE.out.symm, HX2.out⟩
        · have HE : Hid (oneCond len0 z 5) := by
            have hP := HPP.out
            unfold Hid oneCond
            omega
          rw [show (decide ((crc ((z.drop 8).take (num z))).toNat ≠ num (z.drop 4))) = false from decide_eq_false hq, show chk false 10 = 0 from rfl]
          clear hq HPP
          go_wp2_with fail
          try go_roundw
          case rel => exact ⟨5, by omega, by go_num, HE, HX2⟩
          case measure => simp [intOf]
    · obtain rfl : j = 5 := by omega
      have HE : Hid ((oneE z : Int) = 0) := by
        have hP := HP.out
        have hl := hlen.out
        unfold oneCond at hP
        unfold oneE
        rw [hl]
        rw [if_neg (by omega)]
        rw [if_neg (by omega)]
        rw [if_neg (by omega)]
        rw [if_neg (by omega)]
        rw [show z.drop 8 = (z.drop 8).take (num z) from (List.take_of_length_le (by rw [List.length_drop]; omega)).symm]
        rw [if_neg (by omega)]
        rfl
      clear HC HLA hkk
      go_wp2_with fail
      go_ret
      exact ⟨ret_i64 HE.out.symm, HX.out⟩

/-- what the first checks found -/
def scanCond (len0 : Nat) (z : List Int) (j : Nat) : Prop := (1 ≤ j → ¬ len0 < 8) ∧ (2 ≤ j → ¬ 4194304 < num z) ∧ (3 ≤ j → ¬ len0 < 8 + num z) ∧ (4 ≤ j → ¬ (crc ((z.drop 8).take (num z))).toNat ≠ num (z.drop 4))

set_option maxRecDepth 100000 in
set_option maxHeartbeats 4000000 in
theorem scan_any {a0 : Option Addr} {len0 cap0 : Nat} {z : List Int} {w : World} (hc : Came w a0 len0 cap0 z) (hlaid : Laid w) (g : Nat) (h0 : w.cell? ⟨g, 0, none⟩ = some (.func (.func 43) #[.slice a0 len0 cap0] #[])) (h1 : w.cell? ⟨g, 1, none⟩ = some (.func (.func 44) #[.slice a0 len0 cap0] #[])) (h2 : w.cell? ⟨g, 2, none⟩ = some (.func (.func 45) #[.slice a0 len0 cap0] #[])) (h3 : w.cell? ⟨g, 3, none⟩ = some (.func (.func 46) #[.slice a0 len0 cap0] #[])) :
    Calls Tryd.prog 42 #[.slice (some ⟨g, 0, none⟩) 4 4] w fun e w' => e = .returned (.int .i64 (scanE z : Int)) ∧ ∃ k, w' = w.drewN k := by
  have hlen := Lib.hid hc.reads.1
  have HC0 := Lib.hid hc
  have HL0 := Lib.hid hlaid
  clear hc hlaid
  have H0 := Lib.hid h0
  have H1 := Lib.hid h1
  have H2 := Lib.hid h2
  have H3 := Lib.hid h3
  clear h0 h1 h2 h3
  go_enter Tryd.func42, Tryd.ntmps42
  go_wp2_with fail
  go_loopw [8] (fun v X => ∃ j : Nat, j ≤ 4 ∧ v = .int .i64 (j : Int) ∧ Hid (scanCond len0 z j) ∧ Hid (∃ k, X = w.drewN k)) (fun v _ => (4 - intOf v).toNat)
  case atStart => exact ⟨0, by omega, rfl, by unfold Hid scanCond; omega, 0, rfl⟩
  case round =>
    obtain ⟨j, hj, rfl, HP, HX⟩ := hrel
    obtain ⟨kk, hkk⟩ := HX.out
    have HC : Came wr a0 len0 cap0 z := by rw [hkk]; exact HC0.out.drewN kk
    have HLA : Laid wr := by rw [hkk]; exact HL0.out.drewN kk
    by_cases hlt : j < 4
    · have hjj : j = 0 ∨ j = 1 ∨ j = 2 ∨ j = 3 := by omega
      rcases hjj with rfl | rfl | rfl | rfl
      · have hcell : wr.cell? ⟨g, 0, none⟩ = some (.func (.func 43) #[.slice a0 len0 cap0] #[]) := by rw [hkk]; exact H0.out
        have hP := HP.out
        unfold scanCond at hP
        have hcall := headless_any HC
        have HCALL := Lib.hid hcall
        have HKK := Lib.hid hkk
        have HPP := Lib.hid hP
        clear hP hcall hkk HC HLA
        go_wp2_with fail
        refine HCALL.out.mono ?_
        rintro _ w2 ⟨rfl, hw2⟩
        have HX2 : Hid (∃ k, w2 = w.drewN k) := ⟨kk, by rw [← hw2, HKK.out]⟩
        clear hw2
        by_cases hq : len0 < 8
        · have HE : Hid ((scanE z : Int) = 8) := by
            have hP := HPP.out
            have hl := hlen.out
            unfold scanE
            rw [hl]
            rw [if_pos hq]
            rfl
          rw [show (decide (len0 < 8)) = true from decide_eq_true hq, show chk true 8 = 8 from rfl]
          clear hq HPP
          go_wp2_with fail
          go_ret
          exact ⟨ret_i64 HE.out.symm, HX2.out⟩
        · have HE : Hid (scanCond len0 z 1) := by
            have hP := HPP.out
            unfold Hid scanCond
            omega
          rw [show (decide (len0 < 8)) = false from decide_eq_false hq, show chk false 8 = 0 from rfl]
          clear hq HPP
          go_wp2_with fail
          try go_roundw
          case rel => exact ⟨1, by omega, by go_num, HE, HX2⟩
          case measure => simp [intOf]
      · have hcell : wr.cell? ⟨g, 1, none⟩ = some (.func (.func 44) #[.slice a0 len0 cap0] #[]) := by rw [hkk]; exact H1.out
        have hP := HP.out
        unfold scanCond at hP
        have hcall := long_any HC (by omega)
        have HCALL := Lib.hid hcall
        have HKK := Lib.hid hkk
        have HPP := Lib.hid hP
        clear hP hcall hkk HC HLA
        go_wp2_with fail
        refine HCALL.out.mono ?_
        rintro _ w2 ⟨rfl, hw2⟩
        have HX2 : Hid (∃ k, w2 = w.drewN k) := ⟨kk, by rw [← hw2, HKK.out]⟩
        clear hw2
        by_cases hq : 4194304 < num z
        · have HE : Hid ((scanE z : Int) = 5) := by
            have hP := HPP.out
            have hl := hlen.out
            unfold scanE
            rw [hl]
            rw [if_neg (by omega)]
            rw [if_pos hq]
            rfl
          rw [show (decide (4194304 < num z)) = true from decide_eq_true hq, show chk true 5 = 5 from rfl]
          clear hq HPP
          go_wp2_with fail
          go_ret
          exact ⟨ret_i64 HE.out.symm, HX2.out⟩
        · have HE : Hid (scanCond len0 z 2) := by
            have hP := HPP.out
            unfold Hid scanCond
            omega
          rw [show (decide (4194304 < num z)) = false from decide_eq_false hq, show chk false 5 = 0 from rfl]
          clear hq HPP
          go_wp2_with fail
          try go_roundw
          case rel => exact ⟨2, by omega, by go_num, HE, HX2⟩
          case measure => simp [intOf]
      · have hcell : wr.cell? ⟨g, 2, none⟩ = some (.func (.func 45) #[.slice a0 len0 cap0] #[]) := by rw [hkk]; exact H2.out
        have hP := HP.out
        unfold scanCond at hP
        have hcall := cut_any HC (by omega)
        have HCALL := Lib.hid hcall
        have HKK := Lib.hid hkk
        have HPP := Lib.hid hP
        clear hP hcall hkk HC HLA
        go_wp2_with fail
        refine HCALL.out.mono ?_
        rintro _ w2 ⟨rfl, hw2⟩
        have HX2 : Hid (∃ k, w2 = w.drewN k) := ⟨kk, by rw [← hw2, HKK.out]⟩
        clear hw2
        by_cases hq : len0 < 8 + num z
        · have HE : Hid ((scanE z : Int) = 8) := by
            have hP := HPP.out
            have hl := hlen.out
            unfold scanE
            rw [hl]
            rw [if_neg (by omega)]
            rw [if_neg (by omega)]
            rw [if_pos hq]
            rfl
          rw [show (decide (len0 < 8 + num z)) = true from decide_eq_true hq, show chk true 8 = 8 from rfl]
          clear hq HPP
          go_wp2_with fail
          go_ret
          exact ⟨ret_i64 HE.out.symm, HX2.out⟩
        · have HE : Hid (scanCond len0 z 3) := by
            have hP := HPP.out
            unfold Hid scanCond
            omega
          rw [show (decide (len0 < 8 + num z)) = false from decide_eq_false hq, show chk false 8 = 0 from rfl]
          clear hq HPP
          go_wp2_with fail
          try go_roundw
          case rel => exact ⟨3, by omega, by go_num, HE, HX2⟩
          case measure => simp [intOf]
      · have hcell : wr.cell? ⟨g, 3, none⟩ = some (.func (.func 46) #[.slice a0 len0 cap0] #[]) := by rw [hkk]; exact H3.out
        have hP := HP.out
        unfold scanCond at hP
        have hcall := bad_any HC (by omega) HLA
        have HCALL := Lib.hid hcall
        have HKK := Lib.hid hkk
        have HPP := Lib.hid hP
        clear hP hcall hkk HC HLA
        go_wp2_with fail
        refine HCALL.out.mono ?_
        rintro _ w2 ⟨rfl, k2, hk2⟩
        have HX2 : Hid (∃ k, w2 = w.drewN k) := ⟨kk + k2, by rw [hk2, HKK.out, World.drewN_drewN]⟩
        clear hk2
        by_cases hq : (crc ((z.drop 8).take (num z))).toNat ≠ num (z.drop 4)
        · have HE : Hid ((scanE z : Int) = 10) := by
            have hP := HPP.out
            have hl := hlen.out
            unfold scanE
            rw [hl]
            rw [if_neg (by omega)]
            rw [if_neg (by omega)]
            rw [if_neg (by omega)]
            rw [if_pos hq]
            rfl
          rw [show (decide ((crc ((z.drop 8).take (num z))).toNat ≠ num (z.drop 4))) = true from decide_eq_true hq, show chk true 10 = 10 from rfl]
          clear hq HPP
          go_wp2_with fail
          go_ret
          exact ⟨ret_i64 HE.out.symm, HX2.out⟩
        · have HE : Hid (scanCond len0 z 4) := by
            have hP := HPP.out
            unfold Hid scanCond
            omega
          rw [show (decide ((crc ((z.drop 8).take (num z))).toNat ≠ num (z.drop 4))) = false from decide_eq_false hq, show chk false 10 = 0 from rfl]
          clear hq HPP
          go_wp2_with fail
          try go_roundw
          case rel => exact ⟨4, by omega, by go_num, HE, HX2⟩
          case measure => simp [intOf]
    · obtain rfl : j = 4 := by omega
      have HE : Hid ((scanE z : Int) = 0) := by
        have hP := HP.out
        have hl := hlen.out
        unfold scanCond at hP
        unfold scanE
        rw [hl]
        rw [if_neg (by omega)]
        rw [if_neg (by omega)]
        rw [if_neg (by omega)]
        rw [if_neg (by omega)]
        rfl
      clear HC HLA hkk
      go_wp2_with fail
      go_ret
      exact ⟨ret_i64 HE.out.symm, HX.out⟩
end Go.Proofs.YtgggecpnmliolaaDoor
