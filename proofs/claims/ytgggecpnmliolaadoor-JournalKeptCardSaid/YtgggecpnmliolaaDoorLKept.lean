/- JournalKept: the walk. -/
import Derived.Test.YtgggecpnmliolaaDoorTxt
import Derived.Deep.CutBlock
namespace Go.Proofs.YtgggecpnmliolaaDoor
open Go Go.RowKit Frm
set_option linter.unusedVariables false
set_option linter.unusedSimpArgs false

set_option maxRecDepth 100000 in
set_option maxHeartbeats 16000000 in
theorem lkept_any (a0 : Option Addr) (len0 cap0 : Nat) (zss : List (List Int)) (a1 : Option Addr) (len1 cap1 : Nat) (ns : List Int) (st pk : Int) (w : World) (hm : Mat w a0 len0 cap0 zss) (hn : Nums w a1 len1 cap1 ns) (hst : I64 st) (hpk : I64 pk) (hlaid : Laid w) :
    Calls Tryd.prog 3 #[.slice a0 len0 cap0, .slice a1 len1 cap1, .int .i64 st, .int .i64 pk] w fun e w' => e = .returned (.bool true) ∧ Below w.heap.size w w' := by
  obtain ⟨i0, hi0, hz0, hz1, hz2⟩ := info_parts Tryd.infoStr
  have hle := hm.le
  have hmx := hm.small
  have hle1 := hn.le
  have hmx1 := hn.small
  unfold maxLen at hmx hmx1
  have HM := Lib.hid hm
  have HN := Lib.hid hn
  have HLA := Lib.hid hlaid
  clear hm hn hlaid hst
  go_enter Tryd.func3, Tryd.ntmps3
  go_wp2_with fail
  refine (known_any w HLA.out).mono ?_
  rintro _ w1 ⟨rfl, hb1⟩
  have HB1 := Lib.hid hb1
  clear hb1
  go_wp2_with fail
  refine (new_any w1 w.heap.size HB1.out.size 1048576 (by omega) (by omega)).mono ?_
  rintro _ w2 ⟨g, rfl, h2, hg, hb2⟩
  have HB2 := Lib.hid (HB1.out.trans (hb2.mono HB1.out.size))
  have H2 := Lib.hid h2
  clear h2 hb2
  have hBg : w.heap.size ≤ g := Nat.le_trans HB1.out.size hg
  go_wp2_with fail
  refine (open_any H2.out HB2.out.size (HLA.out.keep HB2.out) rfl (by show ((0 : Nat) : Int) + 1 ≠ 0; omega) (by show 0 < 1000; omega) (by decide)).mono ?_
  intro e w3 hp
  obtain ⟨j, a3, c3, a3', c3', rfl, -, -, HJ3, hj, H3, HT3⟩ := hp.parts [] [] (Dk.new 1048576) (by rfl) scan_nil (opened_new _) 0 0 rfl rfl (by simp)
  have HB3 := Lib.hid (HB2.out.trans HT3.out.below)
  have hBj : w.heap.size ≤ j := Nat.le_trans HB2.out.size hj
  have hs0 : (⟨#[]⟩ : ByteArray) = strOfNums [] := rfl
  clear hp HB2 H2 HT3
  go_wp2_with fail
  refine (within_any st 40 w3 (by omega) (by omega)).mono ?_
  rintro _ _ ⟨rfl, rfl⟩
  have he0 : 0 ≤ st % 40 := Int.emod_nonneg _ (by omega)
  have he1 : st % 40 < 40 := Int.emod_lt_of_pos _ (by omega)
  obtain ⟨T, hT⟩ : ∃ T : Int, T = 1 + st % 40 := ⟨_, rfl⟩
  have hT0 : 1 ≤ T := by omega
  have hT1 : T ≤ 40 := by omega
  go_wp2_with fail
  rw [← hT]
  have HTT := Lib.hid hT
  clear he0 he1 hT
  refine (has_stop H3.out T (by unfold I64; omega)).mono ?_
  rintro _ w4 ⟨rfl, h4, ho4⟩
  have hne : j ≠ g := by have h1 := hj; have h2 := HJ3.out.lt; intro e; subst e; have h3 := HJ3.out; obtain ⟨-, lv, sv, hd⟩ := H3.out; unfold Jrn at h3; rw [hd.row] at h3; simp only [Option.some.injEq, Obj.cells.injEq] at h3; exact absurd h3.2.1 (by decide)
  have H4 := Lib.hid h4
  have HJ4 := Lib.hid (HJ3.out.only ho4 hne)
  have HB4 := Lib.hid (HB3.out.trans (ho4.below hBg HB3.out.size))
  have HS4 : Hid (Stat T [] [] ({ Dk.new 1048576 with stop := T, count := 0 }) (strOfNums []) false) := .alive _ _ rfl ⟨rfl, rfl, rfl, .inl ⟨rfl, rfl⟩, by simp, by simp, by simp, by simp⟩ rfl (by show ((0 : Nat) : Int) + 1 ≤ T; omega)
  have HK4 : Hid (w4.ownsRow w.heap.size 9 1 (.slice none 0 0) 0 (txts [])) := World.ownsRow_nil _ _ _ _
  clear h4 ho4 H3 HJ3 HB3
  go_upto_block 0 with (fail)
  go_cut [15, 16, 17, 18, 19] from 46 to 115 (fun us uk um uw ui wx => ∃ (s : List Int) (rs : List (List Int)) (d : Dk) (mo : ByteArray) (sw : Bool), us = .string (strOfNums s) ∧ um = .string mo ∧ uw = .bool sw ∧ rs.length ≤ 30 ∧
    Hid (wx.ownsRow w.heap.size 9 1 uk rs.length (txts rs)) ∧ Hid (Stat T s rs d mo sw) ∧ Hid (Has w.heap.size g d wx) ∧ Hid (Below w.heap.size w wx))
  case first =>
    go_wp2_with fail
    go_loopw [15, 16, 17, 18, 19] (fun us uk um uw v X => ∃ (i : Nat) (s : List Int) (rs : List (List Int)) (d : Dk) (mo : ByteArray) (sw : Bool) (m : Int), i ≤ len0 ∧ i ≤ 30 ∧ v = .int .i64 (i : Int) ∧ us = .string (strOfNums s) ∧ um = .string mo ∧ uw = .bool sw ∧ rs.length ≤ i ∧ 0 ≤ m ∧ m ≤ (i : Int) ∧
      Hid (X.ownsRow w.heap.size 9 1 uk rs.length (txts rs)) ∧ Hid (Stat T s rs d mo sw) ∧ Hid (Has w.heap.size g d X) ∧ Hid (Jrn g j m X) ∧ Hid (Below w.heap.size w X)) (fun _ _ _ _ v _ => ((len0 : Int) - intOf v).toNat)
    case atStart => exact ⟨0, [], [], _, strOfNums [], false, 0, by omega, by omega, rfl, by rw [← hs0], by rw [← hs0], rfl, by simp, by omega, by omega, HK4, HS4, H4, HJ4, HB4⟩
    case round =>
      obtain ⟨i, s, rs, d, mo, sw, m, hi, hi30, rfl, rfl, rfl, rfl, hrs, hm0, hm1, HK, HS, HH, HJ, HB⟩ := hrel
      obtain ⟨xk, yk, hvk⟩ := own_slice2 HK.out
      subst hvk
      obtain ⟨n, hnn⟩ : ∃ n, n = rs.length := ⟨_, rfl⟩
      rw [← hnn] at hrs HK ⊢
      have HNN := Lib.hid hnn
      clear HJ4 H4 HB4 HS4 HK4 hs0 hnn
      by_cases hlt : i < len0
      · by_cases hl30 : i < 30
        · have hd1 : decide ((i : Int) < (len0 : Int)) = true := by simp; omega
          have hd2 : decide ((i : Int) < 30) = true := by simp; omega
          obtain ⟨dd, hdd⟩ : ∃ dd, d.dead = dd := ⟨_, rfl⟩
          go_wp2_with fail
          refine (has_dead HH.out dd hdd).mono ?_
          rintro _ _ ⟨rfl, rfl⟩
          cases dd with
          | true =>
            go_wp2_with fail
            go_meet
            case rel => exact ⟨s, rs, d, mo, sw, rfl, rfl, rfl, by rw [← HNN.out]; omega, by rw [← HNN.out]; exact HK.out, HS.out, HH.out, HB.out⟩
          | false =>
            have hlive := HS.out.live hdd
            obtain ⟨rfl, hkp, hdst, hdc⟩ := hlive
            have HKP := Lib.hid hkp
            obtain ⟨ad, rfl, b, l, c, hcell, hcame⟩ := HM.out.row i hlt
            have hcell' : wr.cell? (ad.add i) = some (.slice b l c) := by rw [HB.out.cell (World.block_lt_of_cell? w _ hcell)]; exact hcell
            have HCELL := Lib.hid hcell
            have HCM := Lib.hid hcame
            have hlb := hcame.le
            have hcs := hcame.small
            unfold maxLen at hcs
            obtain ⟨z, hz⟩ : ∃ z, z = zss.getD i [] := ⟨_, rfl⟩
            rw [← hz] at HCM
            have HZL := Lib.hid HCM.out.reads.1
            have HCW := Lib.hid (HCM.out.below HB.out)
            clear hcell hcame hz hkp HS
            by_cases h200 : 200 < l
            · go_wp2_with fail
              go_ret
              exact ⟨rfl, HB.out⟩
            by_cases hin : i < len1
            · have hd3 : decide ((i : Int) < (len1 : Int)) = true := by simp; omega
              obtain ⟨ad1, rfl, hcelln⟩ := (HN.out.below HB.out).cell i hin
              obtain ⟨q, hq⟩ : ∃ q, q = ns.getD i 0 := ⟨_, rfl⟩
              rw [← hq] at hcelln
              clear hq
              by_cases hr4 : q.tmod 4 = 0
              · have hq4 : (q.tmod 4 == 0) = true := by simpa using hr4
                go_wp2_with fail
                rcases alive_snap hdd HKP.out hdst hdc HZL.out (by omega) HCM.out.bytes mo with ⟨hE, hS⟩ | ⟨hE, hS⟩
                · refine (jsnap_any HH.out HB.out.size (by omega) HJ.out hBj HCW.out (by omega) (HLA.out.keep HB.out) 0 (by rw [hE]; rfl)).mono ?_
                  rintro _ w5 ⟨rfl, h5, hj5, ht5⟩
                  rw [hE]
                  have HB5 := Lib.hid (HB.out.trans ht5.below)
                  have HK5 := Lib.hid (ht5.own HK.out (by decide) (by decide) (by decide))
                  have H5 := Lib.hid h5
                  have HJ5 := Lib.hid hj5
                  have HS5 := Lib.hid hS
                  have hc5 : w5.cell? (ad.add i) = some (.slice b l c) := by rw [HB5.out.cell (World.block_lt_of_cell? w _ HCELL.out)]; exact HCELL.out
                  have hcv5 := conv_reads (HCM.out.below HB5.out).reads c
                  clear h5 hj5 ht5 hS hE hcell' HK HH HJ HB HCW
                  go_wp2_with fail
                  try go_roundw
                  case rel => exact ⟨i + 1, z, [], _, mo, false, 0, by omega, by omega, by go_num, rfl, rfl, rfl, by simp, by omega, by omega, World.ownsRow_nil _ _ _ _, HS5.out, H5.out, HJ5.out, HB5.out⟩
                  case measure => simp [intOf]; omega
                · refine (jsnap_any HH.out HB.out.size (by omega) HJ.out hBj HCW.out (by omega) (HLA.out.keep HB.out) m (by rw [hE]; rfl)).mono ?_
                  rintro _ w5 ⟨rfl, h5, hj5, ht5⟩
                  rw [hE]
                  have HB5 := Lib.hid (HB.out.trans ht5.below)
                  have HK5 := Lib.hid (ht5.own HK.out (by decide) (by decide) (by decide))
                  have H5 := Lib.hid h5
                  have HJ5 := Lib.hid hj5
                  have HS5 := Lib.hid hS
                  have hc5 : w5.cell? (ad.add i) = some (.slice b l c) := by rw [HB5.out.cell (World.block_lt_of_cell? w _ HCELL.out)]; exact HCELL.out
                  have hcv5 := conv_reads (HCM.out.below HB5.out).reads c
                  clear h5 hj5 ht5 hS hE hcell' HK HH HJ HB HCW
                  go_wp2_with fail
                  try go_roundw
                  case rel => exact ⟨i + 1, s, rs, _, strOfNums z, true, m, by omega, by omega, by go_num, rfl, rfl, rfl, by rw [← HNN.out]; omega, by omega, by omega, by rw [← HNN.out]; exact HK5.out, HS5.out, H5.out, HJ5.out, HB5.out⟩
                  case measure => simp [intOf]; omega
              · have hq4 : (q.tmod 4 == 0) = false := by simpa using hr4
                go_wp2_with fail
                rcases alive_add hdd HKP.out hdst hdc HZL.out (by omega) HCM.out.bytes (by rw [← HNN.out]; omega) mo with ⟨hE, hS⟩ | ⟨hE, hS⟩
                · refine (jadd_any HH.out HB.out.size (by omega) HJ.out hBj HCW.out (by omega) (HLA.out.keep HB.out) hm0 (by omega) (m + 1) (by rw [hE]; rfl)).mono ?_
                  rintro _ w5 ⟨rfl, h5, hj5, ht5⟩
                  rw [hE]
                  have HB5 := Lib.hid (HB.out.trans ht5.below)
                  have HK5 := Lib.hid (ht5.own HK.out (by decide) (by decide) (by decide))
                  have H5 := Lib.hid h5
                  have HJ5 := Lib.hid hj5
                  have HS5 := Lib.hid hS
                  have hc5 : w5.cell? (ad.add i) = some (.slice b l c) := by rw [HB5.out.cell (World.block_lt_of_cell? w _ HCELL.out)]; exact HCELL.out
                  have hcv5 := conv_reads (HCM.out.below HB5.out).reads c
                  clear h5 hj5 ht5 hS hE hcell' HK HH HJ HB HCW
                  have HKa := Lib.hid (own_later HK5.out ((Below.refl w5.heap.size w5).alloc (Nat.le_refl _) (Obj.cells #[.string (strOfNums z)] 9)))
                  have HBa := Lib.hid (HB5.out.alloc HB5.out.size (Obj.cells #[.string (strOfNums z)] 9))
                  have Ha := Lib.hid (H5.out.later ((Below.refl w5.heap.size w5).alloc (Nat.le_refl _) (Obj.cells #[.string (strOfNums z)] 9)))
                  have HJa := Lib.hid (HJ5.out.later ((Below.refl w5.heap.size w5).alloc (Nat.le_refl _) (Obj.cells #[.string (strOfNums z)] 9)))
                  go_wp2_with (at_builtin; go_must (refine wpList_append_own _ rfl _ _ 35 rfl w.heap.size 9 i0 (.string ⟨#[]⟩) 1 16 Tryd.underlying35 hi0 hz0 hz1 hz2 rfl (by decide) (.slice xk n yk) n (txts rs) rfl HKa.out ⟨w5.heap.size, 0, none⟩ 1 1 [.string (strOfNums z)] rfl rfl ?d1 ?d2 ?d3 ?d4 ?d5 ?_))
                  case d1 => exact cell_one_new _ _ _
                  case d2 => simp [Value.oneCell']
                  case d3 => unfold maxLen; omega
                  case d4 => omega
                  case d5 => exact HBa.out.size
                  intro v' w6 hown' hgrow _
                  have HB6 := Lib.hid (HBa.out.grown hgrow HBa.out.size (fun k hk => (HKa.out.lt k hk).1))
                  have H6 := Lib.hid (Ha.out.grown HKa.out (by decide) (by decide) hgrow)
                  have HJ6 := Lib.hid (HJa.out.grown HKa.out (by decide) hgrow)
                  have HK6 : Hid (w6.ownsRow w.heap.size 9 1 v' (rs ++ [z]).length (txts (rs ++ [z]))) := by
                    show w6.ownsRow _ _ _ _ _ _
                    rw [txts_append, List.length_append, ← HNN.out]
                    exact hown'
                  clear hown' hgrow HKa HBa Ha HJa HK5 HB5 H5 HJ5 hc5 hcv5
                  go_wp2_with fail
                  try go_roundw
                  case rel => exact ⟨i + 1, s, rs ++ [z], _, mo, false, (m + 1), by omega, by omega, by go_num, rfl, rfl, rfl, by rw [List.length_append, ← HNN.out]; show n + 1 ≤ i + 1; omega, by omega, by omega, HK6.out, HS5.out, H6.out, HJ6.out, HB6.out⟩
                  case measure => simp [intOf]; omega
                · refine (jadd_any HH.out HB.out.size (by omega) HJ.out hBj HCW.out (by omega) (HLA.out.keep HB.out) hm0 (by omega) m (by rw [hE]; rfl)).mono ?_
                  rintro _ w5 ⟨rfl, h5, hj5, ht5⟩
                  rw [hE]
                  have HB5 := Lib.hid (HB.out.trans ht5.below)
                  have HK5 := Lib.hid (ht5.own HK.out (by decide) (by decide) (by decide))
                  have H5 := Lib.hid h5
                  have HJ5 := Lib.hid hj5
                  have HS5 := Lib.hid hS
                  have hc5 : w5.cell? (ad.add i) = some (.slice b l c) := by rw [HB5.out.cell (World.block_lt_of_cell? w _ HCELL.out)]; exact HCELL.out
                  have hcv5 := conv_reads (HCM.out.below HB5.out).reads c
                  clear h5 hj5 ht5 hS hE hcell' HK HH HJ HB HCW
                  go_wp2_with fail
                  try go_roundw
                  case rel => exact ⟨i + 1, s, rs, _, strOfNums z, false, m, by omega, by omega, by go_num, rfl, rfl, rfl, by rw [← HNN.out]; omega, by omega, by omega, by rw [← HNN.out]; exact HK5.out, HS5.out, H5.out, HJ5.out, HB5.out⟩
                  case measure => simp [intOf]; omega
            · have hd3 : decide ((i : Int) < (len1 : Int)) = false := by simp; omega
              go_wp2_with fail
              rcases alive_add hdd HKP.out hdst hdc HZL.out (by omega) HCM.out.bytes (by rw [← HNN.out]; omega) mo with ⟨hE, hS⟩ | ⟨hE, hS⟩
              · refine (jadd_any HH.out HB.out.size (by omega) HJ.out hBj HCW.out (by omega) (HLA.out.keep HB.out) hm0 (by omega) (m + 1) (by rw [hE]; rfl)).mono ?_
                rintro _ w5 ⟨rfl, h5, hj5, ht5⟩
                rw [hE]
                have HB5 := Lib.hid (HB.out.trans ht5.below)
                have HK5 := Lib.hid (ht5.own HK.out (by decide) (by decide) (by decide))
                have H5 := Lib.hid h5
                have HJ5 := Lib.hid hj5
                have HS5 := Lib.hid hS
                have hc5 : w5.cell? (ad.add i) = some (.slice b l c) := by rw [HB5.out.cell (World.block_lt_of_cell? w _ HCELL.out)]; exact HCELL.out
                have hcv5 := conv_reads (HCM.out.below HB5.out).reads c
                clear h5 hj5 ht5 hS hE hcell' HK HH HJ HB HCW
                have HKa := Lib.hid (own_later HK5.out ((Below.refl w5.heap.size w5).alloc (Nat.le_refl _) (Obj.cells #[.string (strOfNums z)] 9)))
                have HBa := Lib.hid (HB5.out.alloc HB5.out.size (Obj.cells #[.string (strOfNums z)] 9))
                have Ha := Lib.hid (H5.out.later ((Below.refl w5.heap.size w5).alloc (Nat.le_refl _) (Obj.cells #[.string (strOfNums z)] 9)))
                have HJa := Lib.hid (HJ5.out.later ((Below.refl w5.heap.size w5).alloc (Nat.le_refl _) (Obj.cells #[.string (strOfNums z)] 9)))
                go_wp2_with (at_builtin; go_must (refine wpList_append_own _ rfl _ _ 35 rfl w.heap.size 9 i0 (.string ⟨#[]⟩) 1 16 Tryd.underlying35 hi0 hz0 hz1 hz2 rfl (by decide) (.slice xk n yk) n (txts rs) rfl HKa.out ⟨w5.heap.size, 0, none⟩ 1 1 [.string (strOfNums z)] rfl rfl ?d1 ?d2 ?d3 ?d4 ?d5 ?_))
                case d1 => exact cell_one_new _ _ _
                case d2 => simp [Value.oneCell']
                case d3 => unfold maxLen; omega
                case d4 => omega
                case d5 => exact HBa.out.size
                intro v' w6 hown' hgrow _
                have HB6 := Lib.hid (HBa.out.grown hgrow HBa.out.size (fun k hk => (HKa.out.lt k hk).1))
                have H6 := Lib.hid (Ha.out.grown HKa.out (by decide) (by decide) hgrow)
                have HJ6 := Lib.hid (HJa.out.grown HKa.out (by decide) hgrow)
                have HK6 : Hid (w6.ownsRow w.heap.size 9 1 v' (rs ++ [z]).length (txts (rs ++ [z]))) := by
                  show w6.ownsRow _ _ _ _ _ _
                  rw [txts_append, List.length_append, ← HNN.out]
                  exact hown'
                clear hown' hgrow HKa HBa Ha HJa HK5 HB5 H5 HJ5 hc5 hcv5
                go_wp2_with fail
                try go_roundw
                case rel => exact ⟨i + 1, s, rs ++ [z], _, mo, false, (m + 1), by omega, by omega, by go_num, rfl, rfl, rfl, by rw [List.length_append, ← HNN.out]; show n + 1 ≤ i + 1; omega, by omega, by omega, HK6.out, HS5.out, H6.out, HJ6.out, HB6.out⟩
                case measure => simp [intOf]; omega
              · refine (jadd_any HH.out HB.out.size (by omega) HJ.out hBj HCW.out (by omega) (HLA.out.keep HB.out) hm0 (by omega) m (by rw [hE]; rfl)).mono ?_
                rintro _ w5 ⟨rfl, h5, hj5, ht5⟩
                rw [hE]
                have HB5 := Lib.hid (HB.out.trans ht5.below)
                have HK5 := Lib.hid (ht5.own HK.out (by decide) (by decide) (by decide))
                have H5 := Lib.hid h5
                have HJ5 := Lib.hid hj5
                have HS5 := Lib.hid hS
                have hc5 : w5.cell? (ad.add i) = some (.slice b l c) := by rw [HB5.out.cell (World.block_lt_of_cell? w _ HCELL.out)]; exact HCELL.out
                have hcv5 := conv_reads (HCM.out.below HB5.out).reads c
                clear h5 hj5 ht5 hS hE hcell' HK HH HJ HB HCW
                go_wp2_with fail
                try go_roundw
                case rel => exact ⟨i + 1, s, rs, _, strOfNums z, false, m, by omega, by omega, by go_num, rfl, rfl, rfl, by rw [← HNN.out]; omega, by omega, by omega, by rw [← HNN.out]; exact HK5.out, HS5.out, H5.out, HJ5.out, HB5.out⟩
                case measure => simp [intOf]; omega
        · have hd1 : decide ((i : Int) < (len0 : Int)) = true := by simp; omega
          have hd2 : decide ((i : Int) < 30) = false := by simp; omega
          go_wp2_with fail
          go_meet
          case rel => exact ⟨s, rs, d, mo, sw, rfl, rfl, rfl, by rw [← HNN.out]; omega, by rw [← HNN.out]; exact HK.out, HS.out, HH.out, HB.out⟩
      · have hd1 : decide ((i : Int) < (len0 : Int)) = false := by simp; omega
        go_wp2_with fail
        go_meet
        case rel => exact ⟨s, rs, d, mo, sw, rfl, rfl, rfl, by rw [← HNN.out]; omega, by rw [← HNN.out]; exact HK.out, HS.out, HH.out, HB.out⟩
  case rest =>
    obtain ⟨s, rs, d, mo, sw, rfl, rfl, rfl, hr30, HK, HS, HH, HB⟩ := hcut
    obtain ⟨xk, yk, hvk⟩ := own_slice2 HK.out
    subst hvk
    obtain ⟨dd, hdd⟩ : ∃ dd, d.dead = dd := ⟨_, rfl⟩
    obtain ⟨sn, rl, hs1, hs2, hs3, hfin, hsb⟩ := HS.out.fin pk
    rw [hdd] at hfin
    have HS1 := Lib.hid hs1
    have HS2 := Lib.hid hs2
    have HS3 := Lib.hid hs3
    have HFIN := Lib.hid hfin
    have HSB := Lib.hid hsb
    obtain ⟨n, hnn⟩ : ∃ n, n = rs.length := ⟨_, rfl⟩
    rw [← hnn] at hr30 HK ⊢
    have HNN := Lib.hid hnn
    clear H4 HJ4 HB4 HS4 HK4 hs0 HS hs1 hs2 hs3 hfin hsb hnn
    go_wp2_with fail
    refine (has_dead HH.out dd hdd).mono ?_
    rintro _ _ ⟨rfl, rfl⟩
    go_wp2_with fail
    refine (has_stop HH.out 0 (by unfold I64; omega)).mono ?_
    rintro _ w5 ⟨rfl, h5, ho5⟩
    obtain ⟨-, lv, sv, hdk⟩ := HH.out
    have HT5 := Lib.hid (Tame.only hdk ho5 HB.out.size)
    have H5 := Lib.hid h5
    have HB5 := Lib.hid (HB.out.trans HT5.out.below)
    have HK5 := Lib.hid (HT5.out.own HK.out (by decide) (by decide))
    clear h5 ho5 hdk HH HK HB HT5
    go_wp2_with fail
    refine (crash_any H5.out pk hpk).mono ?_
    rintro _ w6 ⟨rfl, h6, ho6⟩
    obtain ⟨-, lv5, sv5, hdk⟩ := H5.out
    have HT6 := Lib.hid (Tame.only hdk ho6 HB5.out.size)
    have H6 := Lib.hid h6
    have HB6 := Lib.hid (HB5.out.trans HT6.out.below)
    have HK6 := Lib.hid (HT6.out.own HK5.out (by decide) (by decide))
    clear h6 ho6 hdk H5 HB5 HK5 HT6
    go_wp2_with fail
    refine (open_any H6.out HB6.out.size (HLA.out.keep HB6.out) rfl (by show ((0 : Nat) : Int) + 1 ≠ 0; omega) (by show 0 < 1000; omega) HS1.out).mono ?_
    intro e w7 hp
    obtain ⟨SN, hSN⟩ : ∃ SN, sn.length = SN := ⟨_, rfl⟩
    obtain ⟨LN, hLN⟩ : ∃ LN, rl.length = LN := ⟨_, rfl⟩
    obtain ⟨k, a7, c7, a7', c7', rfl, HC7, HM7, -, -, -, HT7⟩ := hp.parts sn rl _ HS2.out HS3.out rfl SN LN hSN hLN HSB.out
    have HB7 := Lib.hid (HB6.out.trans HT7.out.below)
    have HK7 := Lib.hid (HT7.out.own HK6.out (by decide) (by decide))
    have HLN := Lib.hid hLN
    have hmz := HM7.out.small
    have hmz2 := HM7.out.le
    unfold maxLen at hmz
    clear hp H6 HB6 HK6 HT7 hSN hLN
    have hcv := conv_reads HC7.out.reads c7
    go_upto_region 29 with (fail)
    go_cut [146] from 132 to 145 (fun u wx => ∃ bb : Bool, u = .bool bb ∧ wx = w7 ∧ (bb = false → ¬ (dd = true ∧ sw = true ∧ strOfNums sn = mo ∧ rl.length = 0)))
    case first =>
      cases dd with
      | false =>
        go_wp2_with fail
        go_meet
        case rel => exact ⟨_, rfl, rfl, fun _ h => by cases h.1⟩
      | true =>
        cases sw with
        | false =>
          go_wp2_with fail
          go_meet
          case rel => exact ⟨_, rfl, rfl, fun _ h => by cases h.2.1⟩
        | true =>
          by_cases hme : strOfNums sn = mo
          · have hd1 := str_same hme
            go_wp2_with fail
            go_meet
            case rel => exact ⟨((LN : Int) == 0), rfl, rfl, fun h hh => by have h1 := HLN.out; rw [hh.2.2.2] at h1; subst h1; cases h⟩
          · have hd1 := str_ne hme
            go_wp2_with fail
            go_meet
            case rel => exact ⟨false, rfl, rfl, fun _ h => hme h.2.2.1⟩
    case rest =>
      obtain ⟨bb, rfl, rfl, hab⟩ := hcut
      cases bb with
      | true =>
        go_wp2_with fail
        go_ret
        exact ⟨rfl, HB7.out⟩
      | false =>
        obtain ⟨rfl, hab2⟩ := HFIN.out.ab (hab rfl)
        have HAB := Lib.hid hab2
        have hlen : n ≤ LN ∧ LN ≤ n + 1 := by
          rw [← HLN.out, HNN.out]
          rcases hab2 with h | ⟨_, _, z, h, _⟩
          · rw [h]; omega
          · rw [h, List.length_append]; show _ ∧ rs.length + 1 ≤ _; omega
        have hrow : ∀ q, q < n → rl.getD q [] = rs.getD q [] := by
          intro q hq
          rcases hab2 with h | ⟨_, _, z, h, _⟩
          · rw [h]
          · rw [h]; simp [List.getD, List.getElem?_append_left (show q < rs.length by rw [← HNN.out]; exact hq)]
        have HROW := Lib.hid hrow
        have hne7 := nums_neq sn
        have hl1 := hlen.1
        have hl2 := hlen.2
        have hd1 : decide ((LN : Int) < (n : Int)) = false := by simp; omega
        have hd2 : decide ((n : Int) + 1 < (LN : Int)) = false := by simp; omega
        clear hab hab2 hrow HFIN hlen
        go_wp2_with fail
        clear hcv hne7 hd1 hd2
        go_loopw [25] (fun v X => ∃ q : Nat, q ≤ n ∧ v = .int .i64 (q : Int) ∧ Hid (∃ k, X = wc.drewN k)) (fun v _ => ((n : Int) - intOf v).toNat)
        case atStart => exact ⟨0, by omega, rfl, 0, rfl⟩
        case round =>
          obtain ⟨q, hq, rfl, HX⟩ := hrel
          obtain ⟨kk, hkk⟩ := HX.out
          have HBX : Hid (Below wc.heap.size wc wr) := by rw [hkk]; exact below_drewN (Below.refl _ _) kk
          have HMX := Lib.hid (HM7.out.below HBX.out)
          have HKX := Lib.hid (own_later HK7.out HBX.out)
          have HKK := Lib.hid hkk
          clear hkk
          by_cases hlt : q < n
          · obtain ⟨ad, rfl, b14, l14, c14, hcell, hcz⟩ := HMX.out.row q (by omega)
            obtain ⟨ak, ck, hv, hk1, hk2, hkc⟩ := own_txt HKX.out hlt
            cases hv
            rw [HROW.out q hlt] at hcz
            obtain ⟨z, hz⟩ : ∃ z, z = rs.getD q [] := ⟨_, rfl⟩
            rw [← hz] at hcz hkc
            have HCZ := Lib.hid hcz
            unfold maxLen at hk2
            clear hcz hz
            have hg1 : ∀ p, (wr.drewN p).cell? (ad.add q) = some (.slice b14 l14 c14) := fun p => hcell
            have hg2 : ∀ p, (wr.drewN p).cell? (ak.add q) = some (.string (strOfNums z)) := fun p => hkc
            have hv1 : ∀ p, (convert 30 9 (.slice b14 l14 c14)).run Tryd.prog (wr.drewN p) = .ok (.string (strOfNums z)) (wr.drewN p) := fun p => conv_reads ((HCZ.out.drewN p).reads) c14
            have hne := nums_neq z
            go_upto_region 36 with (fail)
            go_quiet (fail)
            go_wp2_with fail
            try go_roundw
            case rel => exact ⟨q + 1, by omega, by go_num, kk + nq, by rw [HKK.out, World.drewN_drewN]⟩
            case measure => simp [intOf]; omega
          · obtain rfl : q = n := by omega
            have HBW : Hid (Below w.heap.size w wr) := HB7.out.trans (HBX.out.mono HB7.out.size)
            rcases HAB.out with h | ⟨rfl, rfl, z, h, rfl⟩
            · obtain rfl : LN = q := by have h1 := HLN.out; have h2 := HNN.out; rw [h] at h1; omega
              go_wp2_with fail
              go_ret
              exact ⟨rfl, HBW.out⟩
            · obtain rfl : LN = q + 1 := by have h1 := HLN.out; have h2 := HNN.out; rw [h, List.length_append] at h1; have h3 : [z].length = 1 := rfl; omega
              obtain ⟨ad, rfl, b14, l14, c14, hcell, hcz⟩ := HMX.out.row q (by omega)
              have ez : rl.getD q [] = z := by rw [h, HNN.out]; simp [List.getD]
              rw [ez] at hcz
              have hcv := conv_reads hcz.reads c14
              have heq := nums_eql z
              clear hcz h
              have hd1 : (((q + 1 : Nat) : Int) == (q : Int)) = false := by simp; omega
              go_wp2_with fail
              go_ret
              exact ⟨rfl, HBW.out⟩
end Go.Proofs.YtgggecpnmliolaaDoor
