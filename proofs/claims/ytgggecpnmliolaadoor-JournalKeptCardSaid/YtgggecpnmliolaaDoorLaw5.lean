/- The chapter's example; rows held against each other. -/
import Derived.Test.YtgggecpnmliolaaDoorOpenB
namespace Go.Proofs.YtgggecpnmliolaaDoor
open Go Go.RowKit Frm
set_option linter.unusedVariables false
set_option linter.unusedSimpArgs false

theorem scan_nil : scan [] = [] := scan_none (by decide)
theorem opened_new (room : Nat) : (Dk.new room).opened = Dk.new room := by
  unfold Dk.opened
  rw [show (Dk.new room).log = [] from rfl, scan_nil]
  rfl

/-- what an opening answers, taken apart -/
theorem OpenPost.parts {B g : Nat} {d : Dk} {w w' : World} {e : Ending} (h : OpenPost B g d w e w') (s : List Int) (l : List (List Int)) (d' : Dk) (hs : snR d.snap = s) (hl : scan d.log = l) (hd : d.opened = d') (sn ln : Nat) (hsn : s.length = sn) (hln : l.length = ln)
    (hsb : ∀ c ∈ s, Byte c) :
    ∃ j a c a' c', e = .returned (.tuple #[.pointer (some ⟨j, 0, none⟩), .slice a sn c, .slice a' ln c', .int .i64 0]) ∧ Hid (Came w' a sn c s) ∧ Hid (Mat w' a' ln c' l) ∧ Hid (Jrn g j (ln : Int) w') ∧ w.heap.size ≤ j ∧ Hid (Has B g d' w') ∧ Hid (Tame B w w') := by
  obtain ⟨j, v, vv, vs, rfl, ho, hr, hj, hlt, hh, ht⟩ := h
  subst hs hl hd hsn hln
  obtain ⟨a, c, rfl, hc⟩ := own_came ho hsb
  obtain ⟨a', c', rfl, hm⟩ := hr.mat
  exact ⟨j, a, c, a', c', rfl, hc, hm, hj, hlt, hh, ht⟩

set_option maxRecDepth 100000 in
set_option maxHeartbeats 2000000 in
theorem known_any (w : World) (hlaid : Laid w) : Calls Tryd.prog 7 #[] w fun e w' => e = .returned (.bool true) ∧ Below w.heap.size w w' := by
  have HLA := Lib.hid hlaid
  clear hlaid
  go_enter Tryd.func7, Tryd.ntmps7
  go_wp2_with fail
  refine (new_any w w.heap.size (Nat.le_refl _) 1000 (by omega) (by omega)).mono ?_
  rintro _ w1 ⟨g, rfl, h1, hg, hb1⟩
  have H1 := Lib.hid h1
  have HB1 := Lib.hid hb1
  clear h1 hb1
  go_wp2_with fail
  refine (open_any H1.out HB1.out.size (HLA.out.keep HB1.out) rfl (by show ((0 : Nat) : Int) + 1 ≠ 0; omega) (by show 0 < 1000; omega) (by decide)).mono ?_
  intro e w2 hp
  obtain ⟨j, a, c, a', c', rfl, HC2, HM2, HJ2, hj, H2, HT2⟩ := hp.parts [] [] (Dk.new 1000) (by rfl) scan_nil (opened_new _) 0 0 rfl rfl (by simp)
  have HB2 := Lib.hid (HB1.out.trans HT2.out.below)
  clear hp
  go_wp2_with fail
  refine (count_any HJ2.out).mono ?_
  rintro _ _ ⟨rfl, rfl⟩
  go_wp2_with fail
  go_ret
  exact ⟨rfl, HB2.out⟩

set_option maxRecDepth 100000 in
set_option maxHeartbeats 4000000 in
theorem rows_true {a0 b0 : Option Addr} {n ca cb : Nat} {zss : List (List Int)} {w : World} (hm : Mat w a0 n ca zss) (hk : Mat w b0 n cb zss) :
    Calls Tryd.prog 18 #[.slice a0 n ca, .slice b0 n cb] w fun e w' => e = .returned (.bool true) ∧ ∃ k, w' = w.drewN k := by
  have HM := Lib.hid hm
  have HK := Lib.hid hk
  have hbig : n ≤ 9223372036854775807 := by have h1 := hm.le; have h2 := hm.small; unfold maxLen at h2; omega
  clear hm hk
  go_enter Tryd.func18, Tryd.ntmps18
  go_wp2_with fail
  go_loopw [5] (fun v X => ∃ i : Nat, i ≤ n ∧ v = .int .i64 (i : Int) ∧ Hid (∃ k, X = w.drewN k)) (fun v _ => ((n : Int) - intOf v).toNat)
  case atStart => exact ⟨0, by omega, rfl, 0, rfl⟩
  case round =>
    obtain ⟨i, hi, rfl, HX⟩ := hrel
    by_cases hlt : i < n
    · obtain ⟨ad, rfl, b1, l1, c1, hcell1, hcame1⟩ := HM.out.row i hlt
      obtain ⟨bd, rfl, b2, l2, c2, hcell2, hcame2⟩ := HK.out.row i hlt
      obtain ⟨kk, hkk⟩ := HX.out
      obtain ⟨z, hz⟩ : ∃ z, z = zss.getD i [] := ⟨_, rfl⟩
      rw [← hz] at hcame1 hcame2
      have hg1 : ∀ q, (wr.drewN q).cell? (ad.add i) = some (.slice b1 l1 c1) := fun q => by rw [hkk]; exact hcell1
      have hg2 : ∀ q, (wr.drewN q).cell? (bd.add i) = some (.slice b2 l2 c2) := fun q => by rw [hkk]; exact hcell2
      have hc1 : wr.cell? (ad.add i) = some (.slice b1 l1 c1) := by rw [hkk]; exact hcell1
      have hc2 : wr.cell? (bd.add i) = some (.slice b2 l2 c2) := by rw [hkk]; exact hcell2
      have hv1 : ∀ q, (convert 30 9 (.slice b1 l1 c1)).run Tryd.prog (wr.drewN q) = .ok (.string (strOfNums z)) (wr.drewN q) := fun q => conv_reads (by rw [hkk]; exact ((hcame1.drewN kk).drewN q).reads) c1
      have hv2 : ∀ q, (convert 30 9 (.slice b2 l2 c2)).run Tryd.prog (wr.drewN q) = .ok (.string (strOfNums z)) (wr.drewN q) := fun q => conv_reads (by rw [hkk]; exact ((hcame2.drewN kk).drewN q).reads) c2
      have hne := nums_neq z
      have HKK := Lib.hid hkk
      clear hz hcell1 hcell2 hcame1 hcame2 hkk
      go_upto_region 6 with (fail)
      go_quiet (fail)
      go_wp2_with fail
      try go_roundw
      case rel => exact ⟨i + 1, by omega, by go_num, kk + nq, by rw [HKK.out, World.drewN_drewN]⟩
      case measure => simp [intOf]; omega
    · obtain rfl : i = n := by omega
      go_wp2_with fail
      go_ret
      exact ⟨rfl, HX.out⟩
end Go.Proofs.YtgggecpnmliolaaDoor
