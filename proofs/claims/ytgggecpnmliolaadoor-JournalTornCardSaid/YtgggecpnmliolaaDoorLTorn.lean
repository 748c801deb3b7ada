/- JournalTorn: the walk. -/
import Derived.Test.YtgggecpnmliolaaDoorKep
namespace Go.Proofs.YtgggecpnmliolaaDoor
open Go Go.RowKit Frm
set_option linter.unusedVariables false
set_option linter.unusedSimpArgs false

set_option maxRecDepth 100000 in
set_option maxHeartbeats 8000000 in
theorem ltorn_any (a0 : Option Addr) (len0 cap0 : Nat) (zss : List (List Int)) (a1 : Option Addr) (len1 cap1 : Nat) (y : List Int) (a2 : Option Addr) (len2 cap2 : Nat) (x : List Int) (w : World) (hm : Mat w a0 len0 cap0 zss) (hy : Came w a1 len1 cap1 y) (hx : Came w a2 len2 cap2 x) (hlaid : Laid w) :
    Calls Tryd.prog 4 #[.slice a0 len0 cap0, .slice a1 len1 cap1, .slice a2 len2 cap2] w fun e w' => e = .returned (.bool true) ∧ Below w.heap.size w w' := by
  have hle := hm.le
  have hmx := hm.small
  have hle1 := hy.le
  have hmx1 := hy.small
  have hle2 := hx.le
  have hmx2 := hx.small
  unfold maxLen at hmx hmx1 hmx2
  have HM := Lib.hid hm
  have HY := Lib.hid hy
  have HX := Lib.hid hx
  have HYL := Lib.hid hy.reads.1
  have HXL := Lib.hid hx.reads.1
  have HLA := Lib.hid hlaid
  clear hm hy hx hlaid
  go_enter Tryd.func4, Tryd.ntmps4
  go_wp2_with fail
  refine (known_any w HLA.out).mono ?_
  rintro _ w1 ⟨rfl, hb1⟩
  have HB1 := Lib.hid hb1
  clear hb1
  by_cases c0 : 10 < len0
  · go_wp2_with fail
    go_ret
    exact ⟨rfl, HB1.out⟩
  by_cases c1 : 100 < len1
  · go_wp2_with fail
    go_ret
    exact ⟨rfl, HB1.out⟩
  by_cases c2 : 100 < len2
  · go_wp2_with fail
    go_ret
    exact ⟨rfl, HB1.out⟩
  have hd0 : decide ((10 : Int) < (len0 : Int)) = false := by simp; omega
  have hd1 : decide ((100 : Int) < (len1 : Int)) = false := by simp; omega
  have hd2 : decide ((100 : Int) < (len2 : Int)) = false := by simp; omega
  go_wp2_with fail
  refine (new_any w1 w.heap.size HB1.out.size 100000 (by omega) (by omega)).mono ?_
  rintro _ w2 ⟨g, rfl, h2, hg, hb2⟩
  have HB2 := Lib.hid (HB1.out.trans (hb2.mono HB1.out.size))
  have H2 := Lib.hid h2
  clear h2 hb2 hd0 hd1 hd2
  go_wp2_with fail
  refine (open_any H2.out HB2.out.size (HLA.out.keep HB2.out) rfl (by show ((0 : Nat) : Int) + 1 ≠ 0; omega) (by show 0 < 1000; omega) (by decide)).mono ?_
  intro e w3 hp
  obtain ⟨j, a3, c3, a3', c3', rfl, -, -, HJ3, hj, H3, HT3⟩ := hp.parts [] [] (Dk.new 100000) (by rfl) scan_nil (opened_new _) 0 0 rfl rfl (by simp)
  have HB3 := Lib.hid (HB2.out.trans HT3.out.below)
  have hBj : w.heap.size ≤ j := Nat.le_trans HB2.out.size hj
  clear hp HB2 H2 HT3
  go_wp2_with fail
  go_loopw [13, 14] (fun t v X => ∃ (i : Nat) (d : Dk), i ≤ len0 ∧ v = .int .i64 (i : Int) ∧ t = .int .i64 (bulk (zss.take i) : Int) ∧ d.count ≤ 2 * i ∧ d.dead = false ∧ d.stop = 0 ∧
    Hid (Kep 100000 [] (zss.take i) d) ∧ Hid (Has w.heap.size g d X) ∧ Hid (Jrn g j (i : Int) X) ∧ Hid (Below w.heap.size w X)) (fun _ v _ => ((len0 : Int) - intOf v).toNat)
  case atStart => exact ⟨0, Dk.new 100000, by omega, rfl, rfl, by show 0 ≤ _; omega, rfl, rfl, Kep.new _, H3.out, HJ3.out, HB3.out⟩
  case round =>
    obtain ⟨i, d, hi, rfl, rfl, hct, hdd, hst, HK, HH, HJ, HB⟩ := hrel
    clear HJ3 H3 HB3
    have htl : (zss.take i).length = i := by rw [List.length_take, HM.out.sz]; omega
    have hbk := bulk_rows HK.out.rows
    rw [htl] at hbk
    have HTL := Lib.hid htl
    obtain ⟨m, hmm⟩ : ∃ m, m = bulk (zss.take i) := ⟨_, rfl⟩
    rw [← hmm] at hbk ⊢
    have HMM := Lib.hid hmm
    clear hmm htl
    by_cases hlt : i < len0
    · obtain ⟨ad, rfl, b, l, c, hcell, hcame⟩ := HM.out.row i hlt
      have hcell' : wr.cell? (ad.add i) = some (.slice b l c) := by rw [HB.out.cell (World.block_lt_of_cell? w _ hcell)]; exact hcell
      have HCELL := Lib.hid hcell
      have HCM := Lib.hid hcame
      have hlb := hcame.le
      have hcs := hcame.small
      unfold maxLen at hcs
      have hnx := take_next (zss := zss) (i := i) (by rw [HM.out.sz]; exact hlt)
      obtain ⟨z, hz⟩ : ∃ z, z = zss.getD i [] := ⟨_, rfl⟩
      rw [← hz] at HCM hnx
      have HNX := Lib.hid hnx
      have HZL := Lib.hid HCM.out.reads.1
      clear hcell hcame hz hnx
      by_cases h200 : 200 < l
      · have hd2 : decide ((200 : Int) < (l : Int)) = true := by simp; omega
        go_wp2_with fail
        go_ret
        exact ⟨rfl, HB.out⟩
      have hd2 : decide ((200 : Int) < (l : Int)) = false := by simp; omega
      have e1 := HK.out.add_free hdd (by rw [hst]; omega) (by rw [hst]; omega) HZL.out (by omega) HCM.out.bytes (by rw [HTL.out]; omega)
      have HE1 := Lib.hid e1
      have HCW := Lib.hid (HCM.out.below HB.out)
      clear e1
      go_wp2_with fail
      refine (jadd_any HH.out HB.out.size (by omega) HJ.out hBj HCW.out (by omega) (HLA.out.keep HB.out) (by omega) (by omega) ((i : Int) + 1) (by rw [HE1.out.1]; rfl)).mono ?_
      rintro _ w4 ⟨rfl, h4, hj4, ht4⟩
      rw [HE1.out.2.1] at h4
      rw [HE1.out.1]
      have hk4 := HE1.out.2.2
      obtain ⟨d4, hd4⟩ : ∃ d4, d4 = ({ d with log := d.log ++ frame z, syn := (d.log ++ frame z).length, count := d.count + 2 } : Dk) := ⟨_, rfl⟩
      have hdd4 : d4.dead = false := by rw [hd4]; exact hdd
      have hst4 : d4.stop = 0 := by rw [hd4]; exact hst
      have hct4 : d4.count = d.count + 2 := by rw [hd4]
      rw [← hd4] at h4 hk4
      have HK4 := Lib.hid hk4
      have H4 := Lib.hid h4
      have HJ4 : Hid (Jrn g j ((i + 1 : Nat) : Int) w4) := hj4
      have HB4 := Lib.hid (HB.out.trans ht4.below)
      have hc4 : w4.cell? (ad.add i) = some (.slice b l c) := by rw [HB4.out.cell (World.block_lt_of_cell? w _ HCELL.out)]; exact HCELL.out
      clear h4 hj4 ht4 hk4 hd4 HE1 HK HH HJ HB hcell'
      go_wp2_with fail
      try go_roundw
      case rel =>
        refine ⟨i + 1, d4, by omega, by go_num, ?_, by omega, hdd4, hst4, by rw [HNX.out]; exact HK4.out, H4.out, HJ4.out, HB4.out⟩
        rw [HNX.out, bulk_append, ← HMM.out]
        simp only [bulk]
        rw [HZL.out]
        go_num
      case measure => simp [intOf]; omega
    · obtain rfl : i = len0 := by omega
      have eT : zss.take i = zss := List.take_of_length_le (by rw [HM.out.sz]; omega)
      rw [eT] at HK HTL HMM
      clear eT
      go_wp2_with fail
      refine (rscanp_any (HY.out.below HB.out) (by omega)).mono ?_
      rintro _ w5 ⟨v5, vs5, rfl, hr5, hb5⟩
      obtain ⟨b5, c5, rfl, -⟩ := hr5.mat
      have HB5 := Lib.hid (HB.out.trans (hb5.mono HB.out.size))
      have H5 := Lib.hid (HH.out.later hb5)
      have HJ5 := Lib.hid (HJ.out.later hb5)
      obtain ⟨q, hq⟩ : ∃ q, q = (scan y).length := ⟨_, rfl⟩
      have hq2 := bulk_ge (scan y)
      have hq3 := scan_bulk y
      rw [HYL.out] at hq3
      rw [← hq] at hq2 ⊢
      have HQ := Lib.hid hq
      have hq4 : q ≤ 100 := by omega
      clear hq hq2 hq3 hr5 hb5 HB HH HJ
      by_cases hq0 : 0 < q
      · go_wp2_with fail
        go_ret
        exact ⟨rfl, HB5.out⟩
      have HS0 : Hid (scan y = []) := List.eq_nil_of_length_eq_zero (by have := HQ.out; omega)
      have hlen := HK.out.len
      have HLEN := Lib.hid hlen
      clear hlen
      go_wp2_with fail
      refine (append_any H5.out HB5.out.size (by omega) (HY.out.below HB5.out)).mono ?_
      rintro _ w6 ⟨rfl, h6, ht6⟩
      have e6 := Dk.append_free hdd (by rw [hst]; omega) y len1 HYL.out (by rw [HK.out.room]; have := HLEN.out; rw [HTL.out] at this; omega)
      rw [e6.1] at h6
      have ht := HK.out.torn HS0.out { d with log := d.log ++ y, count := d.count + 1 } rfl rfl rfl rfl hdd (by rw [hst]; show ((d.count + 1 : Nat) : Int) + 1 ≠ 0; omega)
      have hsy := snap_says (d := { d with log := d.log ++ y, count := d.count + 1 }) HK.out.snap (by simp)
      obtain ⟨d6, hd6⟩ : ∃ d6, d6 = ({ d with log := d.log ++ y, count := d.count + 1 } : Dk) := ⟨_, rfl⟩
      have hdd6 : d6.dead = false := by rw [hd6]; exact hdd
      have hst6 : d6.stop = 0 := by rw [hd6]; exact hst
      have hct6 : d6.count = d.count + 1 := by rw [hd6]
      rw [← hd6] at h6 ht hsy
      obtain ⟨hsc7, hk7, hdd7, hst7, hct7⟩ := ht
      rw [hst6] at hst7
      obtain ⟨d7, hd7⟩ : ∃ d7, d7 = d6.opened := ⟨_, rfl⟩
      rw [← hd7] at hk7 hdd7 hst7 hct7
      have H6 := Lib.hid h6
      have HJ6 := Lib.hid (HJ5.out.tame ht6)
      have HB6 := Lib.hid (HB5.out.trans ht6.below)
      have HK7 := Lib.hid hk7
      have HSC := Lib.hid hsc7
      have HSY := Lib.hid hsy
      have HD7 := Lib.hid hd7
      clear h6 e6 ht6 hd6 hk7 hsc7 hsy hd7 HK H5 HJ5 HB5
      go_wp2_with fail
      refine (open_any H6.out HB6.out.size (HLA.out.keep HB6.out) hdd6 (by rw [hst6]; omega) (by omega) HSY.out.1).mono ?_
      intro e w7 hp
      obtain ⟨k, a7, c7, a7', c7', rfl, -, HM7, HJ7, hk, H7, HT7⟩ := hp.parts [] zss d7 HSY.out.2 HSC.out HD7.out.symm 0 i rfl HM.out.sz (by simp)
      have HB7 := Lib.hid (HB6.out.trans HT7.out.below)
      have hBk : w.heap.size ≤ k := Nat.le_trans HB6.out.size hk
      clear hp H6 HJ6 HB6 HT7
      go_wp2_with fail
      refine (rows_true HM7.out (HM.out.below HB7.out)).mono ?_
      rintro _ w8 ⟨rfl, k8, hk8⟩
      have hb8 : Below w7.heap.size w7 w8 := by rw [hk8]; exact below_drewN (Below.refl _ _) _
      have HB8 := Lib.hid (HB7.out.trans (hb8.mono HB7.out.size))
      have H8 := Lib.hid (H7.out.later hb8)
      have HJ8 := Lib.hid (HJ7.out.later hb8)
      have HL7 : Hid (d7.log.length = m) := by show _ = _; rw [HK7.out.log, frames_length, HMM.out]
      clear hk8 hb8 H7 HJ7 HM7 HB7
      go_wp2_with fail
      refine (logs_len H8.out d7.log m rfl HL7.out).mono ?_
      rintro _ w9 ⟨a9, c9, rfl, -, hb9⟩
      have HB9 := Lib.hid (HB8.out.trans (hb9.mono HB8.out.size))
      have H9 := Lib.hid (H8.out.later hb9)
      have HJ9 := Lib.hid (HJ8.out.later hb9)
      clear hb9 H8 HJ8 HB8
      go_wp2_with fail
      refine (count_any HJ9.out).mono ?_
      rintro _ _ ⟨rfl, rfl⟩
      have e9 := HK7.out.add_free hdd7 (by rw [hst7]; omega) (by rw [hst7]; omega) HXL.out (by omega) HX.out.bytes (by rw [HTL.out]; omega)
      have HE9 := Lib.hid e9
      clear e9
      go_wp2_with fail
      refine (jadd_any H9.out HB9.out.size (by omega) HJ9.out hBk (HX.out.below HB9.out) (by omega) (HLA.out.keep HB9.out) (by omega) (by omega) ((i : Int) + 1) (by rw [HE9.out.1]; rfl)).mono ?_
      rintro _ w10 ⟨rfl, h10, -, ht10⟩
      rw [HE9.out.2.1] at h10
      rw [HE9.out.1]
      have hk10 := HE9.out.2.2
      obtain ⟨d10, hd10⟩ : ∃ d10, d10 = ({ d7 with log := d7.log ++ frame x, syn := (d7.log ++ frame x).length, count := d7.count + 2 } : Dk) := ⟨_, rfl⟩
      have hdd10 : d10.dead = false := by rw [hd10]; exact hdd7
      have hst10 : d10.stop = 0 := by rw [hd10]; exact hst7
      have hct10 : d10.count = d7.count + 2 := by rw [hd10]
      rw [← hd10] at h10 hk10
      have HK10 := Lib.hid hk10
      have H10 := Lib.hid h10
      have HB10 := Lib.hid (HB9.out.trans ht10.below)
      clear h10 ht10 hk10 hd10 HE9 H9 HJ9 HB9 HK7
      go_wp2_with fail
      refine (open_any H10.out HB10.out.size (HLA.out.keep HB10.out) hdd10 (by rw [hst10]; omega) (by omega) HK10.out.says.1).mono ?_
      intro e w11 hp
      obtain ⟨k2, a11, c11, a11', c11', rfl, -, HM11, -, -, -, HT11⟩ := hp.parts [] (zss ++ [x]) d10 HK10.out.says.2 HK10.out.scans HK10.out.opened 0 (i + 1) rfl (by rw [List.length_append, HM.out.sz]; rfl) (by simp)
      have HB11 := Lib.hid (HB10.out.trans HT11.out.below)
      have HX11 := Lib.hid (HX.out.below HB11.out)
      clear hp H10 HB10 HT11
      obtain ⟨ad, rfl, b14, l14, c14, hcell, hcz⟩ := HM11.out.row i (by omega)
      have ey : (zss ++ [x]).getD i [] = x := by rw [← HM.out.sz]; simp [List.getD]
      rw [ey] at hcz
      have HCZ := Lib.hid hcz
      clear hcz ey
      have hc1 : w11.cell? (ad.add i) = some (.slice b14 l14 c14) := hcell
      have hg1 : ∀ q, (w11.drewN q).cell? (ad.add i) = some (.slice b14 l14 c14) := fun q => hcell
      have hv1 : ∀ q, (convert 30 9 (.slice b14 l14 c14)).run Tryd.prog (w11.drewN q) = .ok (.string (strOfNums x)) (w11.drewN q) := fun q => conv_reads ((HCZ.out.drewN q).reads) c14
      have hv2 : ∀ q, (convert 30 9 (.slice a2 len2 cap2)).run Tryd.prog (w11.drewN q) = .ok (.string (strOfNums x)) (w11.drewN q) := fun q => conv_reads ((HX11.out.drewN q).reads) cap2
      have heq := nums_eql x
      go_upto_region 22 with (fail)
      go_quiet (fail)
      go_wp2_with fail
      go_ret
      exact ⟨rfl, below_drewN HB11.out _⟩
end Go.Proofs.YtgggecpnmliolaaDoor
