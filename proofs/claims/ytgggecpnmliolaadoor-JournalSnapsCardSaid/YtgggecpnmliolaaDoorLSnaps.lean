/- JournalSnaps: the walk. -/
import Derived.Test.YtgggecpnmliolaaDoorKep
namespace Go.Proofs.YtgggecpnmliolaaDoor
open Go Go.RowKit Frm
set_option linter.unusedVariables false
set_option linter.unusedSimpArgs false

set_option maxRecDepth 100000 in
set_option maxHeartbeats 4000000 in
theorem lsnaps_any (a0 : Option Addr) (len0 cap0 : Nat) (zss : List (List Int)) (ev : Int) (w : World) (hm : Mat w a0 len0 cap0 zss) (hev : I64 ev) (hlaid : Laid w) :
    Calls Tryd.prog 6 #[.slice a0 len0 cap0, .int .i64 ev] w fun e w' => e = .returned (.bool true) ∧ Below w.heap.size w w' := by
  have hle := hm.le
  have hmx := hm.small
  unfold maxLen at hmx
  have HM := Lib.hid hm
  have HLA := Lib.hid hlaid
  clear hm hlaid
  go_enter Tryd.func6, Tryd.ntmps6
  go_wp2_with fail
  refine (known_any w HLA.out).mono ?_
  rintro _ w1 ⟨rfl, hb1⟩
  have HB1 := Lib.hid hb1
  clear hb1
  by_cases h20 : 20 < len0
  · go_wp2_with fail
    go_ret
    exact ⟨rfl, HB1.out⟩
  go_wp2_with fail
  refine (within_any ev 5 w1 (by omega) (by omega)).mono ?_
  rintro _ _ ⟨rfl, rfl⟩
  have he0 : 0 ≤ ev % 5 := Int.emod_nonneg _ (by omega)
  have he1 : ev % 5 < 5 := Int.emod_lt_of_pos _ (by omega)
  obtain ⟨E, hE⟩ : ∃ E : Nat, ev % 5 = (E : Int) := ⟨(ev % 5).toNat, by omega⟩
  rw [hE] at he0 he1 ⊢
  clear hE
  go_wp2_with fail
  refine (new_any w1 w.heap.size HB1.out.size 100000 (by omega) (by omega)).mono ?_
  rintro _ w2 ⟨g, rfl, h2, hg, hb2⟩
  have HB2 := Lib.hid (HB1.out.trans (hb2.mono HB1.out.size))
  have H2 := Lib.hid h2
  clear h2 hb2
  go_wp2_with fail
  refine (open_any H2.out HB2.out.size (HLA.out.keep HB2.out) rfl (by show ((0 : Nat) : Int) + 1 ≠ 0; omega) (by show 0 < 1000; omega) (by decide)).mono ?_
  intro e w3 hp
  obtain ⟨j, a3, c3, a3', c3', rfl, -, -, HJ3, hj, H3, HT3⟩ := hp.parts [] [] (Dk.new 100000) (by rfl) scan_nil (opened_new _) 0 0 rfl rfl (by simp)
  have HB3 := Lib.hid (HB2.out.trans HT3.out.below)
  have hBj : w.heap.size ≤ j := Nat.le_trans HB2.out.size hj
  have hs0 : (⟨#[]⟩ : ByteArray) = strOfNums [] := rfl
  clear hp HB2 H2 HT3
  rw [show ((0 : Nat) : Int) = (([] : List (List Int)).length : Int) from rfl] at HJ3
  go_wp2_with fail
  go_loopw [11, 12, 13] (fun t n v X => ∃ (i : Nat) (s : List Int) (rs : List (List Int)) (d : Dk), i ≤ len0 ∧ v = .int .i64 (i : Int) ∧ t = .string (strOfNums s) ∧ n = .int .i64 (rs.length : Int) ∧ d.count ≤ 3 * i ∧ rs.length ≤ i ∧ d.dead = false ∧ d.stop = 0 ∧
    Hid (Kep 100000 s rs d) ∧ Hid (Has w.heap.size g d X) ∧ Hid (Jrn g j (rs.length : Int) X) ∧ Hid (Below w.heap.size w X)) (fun _ _ v _ => ((len0 : Int) - intOf v).toNat)
  case atStart => exact ⟨0, [], [], Dk.new 100000, by omega, rfl, by rw [← hs0], rfl, by show 0 ≤ _; omega, by simp, rfl, rfl, Kep.new _, H3.out, HJ3.out, HB3.out⟩
  case round =>
    obtain ⟨i, s, rs, d, hi, rfl, rfl, rfl, hct, hrs, hdd, hst, HK, HH, HJ, HB⟩ := hrel
    clear HJ3 H3 HB3 hs0
    obtain ⟨n, hn⟩ : ∃ n, n = rs.length := ⟨_, rfl⟩
    rw [← hn] at hrs HJ ⊢
    have HN := Lib.hid hn
    clear hn
    by_cases hlt : i < len0
    · obtain ⟨ad, rfl, b, l, c, hcell, hcame⟩ := HM.out.row i hlt
      have hcell' : wr.cell? (ad.add i) = some (.slice b l c) := by rw [HB.out.cell (World.block_lt_of_cell? w _ hcell)]; exact hcell
      have HCELL := Lib.hid hcell
      have HCM := Lib.hid hcame
      have hlb := hcame.le
      have hcs := hcame.small
      unfold maxLen at hcs
      obtain ⟨z, hz⟩ : ∃ z, z = zss.getD i [] := ⟨_, rfl⟩
      rw [← hz] at HCM
      clear hcell hcame hz
      by_cases h200 : 200 < l
      · go_wp2_with fail
        go_ret
        exact ⟨rfl, HB.out⟩
      have HZL := Lib.hid HCM.out.reads.1
      by_cases hev2 : (i : Int) % (1 + (E : Int)) = 1 + (E : Int) - 1
      · have hq : ((i : Int) % (1 + (E : Int)) == 1 + (E : Int) - 1) = true := by simpa using hev2
        have e1 := HK.out.snap_free hdd (by rw [hst]; omega) HZL.out (by omega) HCM.out.bytes (by omega)
        have HCW := Lib.hid (HCM.out.below HB.out)
        go_wp2_with fail
        refine (jsnap_any HH.out HB.out.size (by omega) HJ.out hBj HCW.out (by omega) (HLA.out.keep HB.out) 0 (by rw [e1.1]; rfl)).mono ?_
        rintro _ w4 ⟨rfl, h4, hj4, ht4⟩
        rw [e1.2.1] at h4
        rw [e1.1]
        have hk4 := e1.2.2
        obtain ⟨d4, hd4⟩ : ∃ d4, d4 = ({ d with log := [], syn := 0, snap := frame z, count := d.count + 1 } : Dk) := ⟨_, rfl⟩
        have hdd4 : d4.dead = false := by rw [hd4]; exact hdd
        have hst4 : d4.stop = 0 := by rw [hd4]; exact hst
        have hct4 : d4.count = d.count + 1 := by rw [hd4]
        rw [← hd4] at h4 hk4
        have HK4 := Lib.hid hk4
        have H4 := Lib.hid h4
        have HJ4 := Lib.hid hj4
        have HB4 := Lib.hid (HB.out.trans ht4.below)
        obtain ⟨SN, hSN⟩ : ∃ SN, SN = l := ⟨_, rfl⟩
        have HSN : Hid (z.length = SN) := by rw [hSN]; exact HZL.out
        have hc4 : w4.cell? (ad.add i) = some (.slice b l c) := by rw [HB4.out.cell (World.block_lt_of_cell? w _ HCELL.out)]; exact HCELL.out
        have hcv4 := conv_reads (HCM.out.below HB4.out).reads c
        clear h4 hj4 ht4 hk4 hd4 e1 HK HH HJ HB hcell' hq hSN
        go_wp2_with fail
        clear hc4 hcv4
        refine (open_any H4.out HB4.out.size (HLA.out.keep HB4.out) hdd4 (by rw [hst4]; omega) (by omega) HK4.out.says.1).mono ?_
        intro e w5 hp
        obtain ⟨k, a5, c5, a5', c5', rfl, HC5, HM5, HJk, hk, H5, HT5⟩ := hp.parts (z) ([]) d4 HK4.out.says.2 HK4.out.scans HK4.out.opened SN 0 HSN.out rfl HK4.out.sb
        have HJ5 := Lib.hid (HJ4.out.tame HT5.out)
        have HB5 := Lib.hid (HB4.out.trans HT5.out.below)
        have hcv5 := conv_reads HC5.out.reads c5
        have hne5 := nums_neq (z)
        clear hp H4 HJ4 HB4 HT5 HM5 HC5
        go_wp2_with fail
        refine (count_any HJ5.out).mono ?_
        rintro _ _ ⟨rfl, rfl⟩
        go_wp2_with fail
        refine (count_any HJk.out).mono ?_
        rintro _ _ ⟨rfl, rfl⟩
        go_wp2_with fail
        try go_roundw
        case rel => exact ⟨i + 1, z, [], d4, by omega, by go_num, rfl, rfl, by omega, by simp, hdd4, hst4, HK4.out, H5.out, HJ5.out, HB5.out⟩
        case measure => simp [intOf]; omega
      · have hq : ((i : Int) % (1 + (E : Int)) == 1 + (E : Int) - 1) = false := by simpa using hev2
        have e1 := HK.out.add_free hdd (by rw [hst]; omega) (by rw [hst]; omega) HZL.out (by omega) HCM.out.bytes (by rw [← HN.out]; omega)
        have HCW := Lib.hid (HCM.out.below HB.out)
        go_wp2_with fail
        refine (jadd_any HH.out HB.out.size (by omega) HJ.out hBj HCW.out (by omega) (HLA.out.keep HB.out) (by omega) (by omega) ((n : Int) + 1) (by rw [e1.1]; rfl)).mono ?_
        rintro _ w4 ⟨rfl, h4, hj4, ht4⟩
        rw [e1.2.1] at h4
        rw [e1.1]
        have hk4 := e1.2.2
        obtain ⟨d4, hd4⟩ : ∃ d4, d4 = ({ d with log := d.log ++ frame z, syn := (d.log ++ frame z).length, count := d.count + 2 } : Dk) := ⟨_, rfl⟩
        have hdd4 : d4.dead = false := by rw [hd4]; exact hdd
        have hst4 : d4.stop = 0 := by rw [hd4]; exact hst
        have hct4 : d4.count = d.count + 2 := by rw [hd4]
        rw [← hd4] at h4 hk4
        have HK4 := Lib.hid hk4
        have H4 := Lib.hid h4
        have HJ4 : Hid (Jrn g j ((n + 1 : Nat) : Int) w4) := hj4
        have HB4 := Lib.hid (HB.out.trans ht4.below)
        obtain ⟨SN, hSN⟩ : ∃ SN, s.length = SN := ⟨_, rfl⟩
        have HSN := Lib.hid hSN
        clear h4 hj4 ht4 hk4 hd4 e1 HK HH HJ HB hcell' hq hSN
        go_wp2_with fail
        refine (open_any H4.out HB4.out.size (HLA.out.keep HB4.out) hdd4 (by rw [hst4]; omega) (by omega) HK4.out.says.1).mono ?_
        intro e w5 hp
        obtain ⟨k, a5, c5, a5', c5', rfl, HC5, HM5, HJk, hk, H5, HT5⟩ := hp.parts (s) (rs ++ [z]) d4 HK4.out.says.2 HK4.out.scans HK4.out.opened SN (n + 1) HSN.out (by rw [List.length_append, ← HN.out]; rfl) HK4.out.sb
        have HJ5 := Lib.hid (HJ4.out.tame HT5.out)
        have HB5 := Lib.hid (HB4.out.trans HT5.out.below)
        have hcv5 := conv_reads HC5.out.reads c5
        have hne5 := nums_neq (s)
        clear hp H4 HJ4 HB4 HT5 HM5 HC5
        go_wp2_with fail
        refine (count_any HJ5.out).mono ?_
        rintro _ _ ⟨rfl, rfl⟩
        go_wp2_with fail
        refine (count_any HJk.out).mono ?_
        rintro _ _ ⟨rfl, rfl⟩
        go_wp2_with fail
        try go_roundw
        case rel => exact ⟨i + 1, s, rs ++ [z], d4, by omega, by go_num, rfl, by rw [List.length_append, ← HN.out]; first | rfl | go_num, by omega, by rw [List.length_append, ← HN.out]; show n + 1 ≤ i + 1; omega, hdd4, hst4, HK4.out, H5.out, by have h := HJ5.out; rw [List.length_append, ← HN.out]; exact h, HB5.out⟩
        case measure => simp [intOf]; omega
    · obtain rfl : i = len0 := by omega
      go_wp2_with fail
      go_ret
      exact ⟨rfl, HB.out⟩
end Go.Proofs.YtgggecpnmliolaaDoor
