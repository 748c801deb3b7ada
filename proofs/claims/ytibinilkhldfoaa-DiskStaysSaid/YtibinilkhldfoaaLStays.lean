/- DiskStays: the walk. -/
import Derived.Test.YtibinilkhldfoaaLaw4
namespace Go.Proofs.Ytibinilkhldfoaa
open Go Go.RowKit
set_option linter.unusedVariables false
set_option linter.unusedSimpArgs false

/-- x was synced, and stands in front; so many rounds have been made -/
structure Stay (x : List Int) (n i : Nat) (d : Dk) : Prop where
  front : d.log.take n = x
  syn : n ≤ d.syn
  log : d.log.length ≤ 300 + 300 * i
  snap : d.snap = []
  dead : d.dead = false
  stop : d.stop = 0
  count : d.count ≤ i + 2
  room : d.room = 100000

theorem Stay.more {x : List Int} {n i : Nat} {d : Dk} (h : Stay x n i d) : Stay x n (i + 1) d := by
  have h1 := h.log
  have h2 := h.count
  exact ⟨h.front, h.syn, by omega, h.snap, h.dead, h.stop, by omega, h.room⟩

theorem Stay.append {x : List Int} {n i l : Nat} {d : Dk} (h : Stay x n i d) (hs : d.syn ≤ d.log.length) (hi : i < 20) (r : List Int) (hr : r.length = l) (hl : l ≤ 300) : Stay x n (i + 1) (d.append r) ∧ d.appendE l = 0 := by
  have h1 := h.log
  have h2 := h.count
  have h3 := h.syn
  have e := Dk.append_free h.dead (by rw [h.stop]; omega) r l hr (by rw [h.snap, h.room]; show d.log.length + 0 + l ≤ 100000; omega)
  refine ⟨?_, e.2⟩
  rw [e.1]
  refine ⟨?_, h.syn, ?_, h.snap, h.dead, h.stop, ?_, h.room⟩
  · show (d.log ++ r).take n = x
    rw [List.take_append_of_le_length (by omega)]
    exact h.front
  · show (d.log ++ r).length ≤ _
    rw [List.length_append]
    omega
  · show d.count + 1 ≤ _
    omega

theorem Stay.crash {x : List Int} {n i : Nat} {d : Dk} (h : Stay x n i d) (p : Int) : Stay x n i (d.crash p) := by
  have h1 := h.log
  have h3 := h.syn
  refine ⟨?_, ?_, ?_, h.snap, rfl, rfl, Nat.zero_le _, h.room⟩
  · show (d.log.take (d.syn + d.stays p)).take n = x
    rw [List.take_take, Nat.min_eq_left (by omega)]
    exact h.front
  · show n ≤ d.syn + d.stays p
    omega
  · show (d.log.take (d.syn + d.stays p)).length ≤ _
    rw [List.length_take]
    omega

set_option maxRecDepth 100000 in
set_option maxHeartbeats 8000000 in
theorem lstays_any (a0 : Option Addr) (len0 cap0 : Nat) (x : List Int) (a1 : Option Addr) (len1 cap1 : Nat) (zss : List (List Int)) (a2 : Option Addr) (len2 cap2 : Nat) (ps : List Int) (w : World) (hx : Came w a0 len0 cap0 x) (hm : Mat w a1 len1 cap1 zss) (hp : Nums w a2 len2 cap2 ps) :
    Calls Try.prog 3 #[.slice a0 len0 cap0, .slice a1 len1 cap1, .slice a2 len2 cap2] w fun e w' => e = .returned (.bool true) ∧ Below w.heap.size w w' := by
  have hbig1 : len1 ≤ 9223372036854775807 := by have h1 := hm.le; have h2 := hm.small; unfold maxLen at h2; omega
  have hbig2 : len2 ≤ 9223372036854775807 := by have h1 := hp.le; have h2 := hp.small; unfold maxLen at h2; omega
  have HX := Lib.hid hx
  have HM := Lib.hid hm
  have HP := Lib.hid hp
  have HXL := Lib.hid hx.reads.1
  clear hx hm hp
  go_enter Try.func3, Try.ntmps3
  go_wp2_with fail
  refine (known_any w).mono ?_
  rintro _ w1 ⟨rfl, hb1⟩
  have HB1 := Lib.hid hb1
  clear hb1
  by_cases hbig : 300 < len0
  · go_wp2_with fail
    go_ret
    exact ⟨rfl, HB1.out⟩
  · go_wp2_with fail
    refine (new_any w1 w.heap.size HB1.out.size 100000 (by omega) (by omega)).mono ?_
    rintro _ w2 ⟨g, rfl, h2, hg, hb2⟩
    have HB2 := Lib.hid (HB1.out.trans (hb2.mono HB1.out.size))
    have H2 := Lib.hid h2
    clear h2 hb2
    go_wp2_with fail
    refine (append_any H2.out HB2.out.size (by show 0 < 1000; omega) (HX.out.below HB2.out)).mono ?_
    rintro _ w3 ⟨rfl, h3, hb3⟩
    have e3 := Dk.append_free (d := Dk.new 100000) rfl (by show ((0 : Nat) : Int) + 1 ≠ 0; omega) x len0 HXL.out (by show 0 + 0 + len0 ≤ 100000; omega)
    rw [e3.1] at h3
    rw [e3.2]
    have H3 : Hid (Has w.heap.size g ⟨x, 0, [], false, 0, 1, 100000⟩ w3) := h3
    have HB3 := Lib.hid (HB2.out.trans hb3)
    clear h3 hb3 e3
    go_wp2_with fail
    refine (syncs_any H3.out HB3.out.size (by show 1 < 1000; omega)).mono ?_
    rintro _ w4 ⟨rfl, h4, hb4⟩
    have e4 := Dk.syncs_free (d := ⟨x, 0, [], false, 0, 1, 100000⟩) rfl (by show ((1 : Nat) : Int) + 1 ≠ 0; omega)
    rw [e4.1] at h4
    rw [e4.2]
    have H4 : Hid (Has w.heap.size g ⟨x, x.length, [], false, 0, 2, 100000⟩ w4) := h4
    have HB4 := Lib.hid (HB3.out.trans hb4)
    clear h4 hb4 e4 H2 H3 HB2 HB3
    have HS : Hid (Stay x len0 0 ⟨x, x.length, [], false, 0, 2, 100000⟩) :=
      ⟨List.take_of_length_le (by rw [HXL.out]; exact Nat.le_refl _), by show len0 ≤ x.length; rw [HXL.out]; exact Nat.le_refl _, by show x.length ≤ _; rw [HXL.out]; omega, rfl, rfl, rfl, by show 2 ≤ 2; omega, rfl⟩
    have hgB : w.heap.size ≤ g := Nat.le_trans HB1.out.size hg
    go_wp2_with fail
    go_loopw [9] (fun v X => ∃ i : Nat, i ≤ len1 ∧ i ≤ 20 ∧ v = .int .i64 (i : Int) ∧ Hid (∃ d, Stay x len0 i d ∧ Has w.heap.size g d X) ∧ Hid (Below w.heap.size w X)) (fun v _ => ((len1 : Int) - intOf v).toNat)
    case atStart => exact ⟨0, by omega, by omega, rfl, ⟨_, HS.out, H4.out⟩, HB4⟩
    case round =>
      obtain ⟨i, hi, hi20, rfl, HD, HBI⟩ := hrel
      clear HS H4 HB4
      by_cases hlt : i < len1
      · by_cases hl20 : i < 20
        · obtain ⟨d, hS, hd⟩ := HD.out
          obtain ⟨ad, rfl, b, l, c, hcell, hcame⟩ := (HM.out.below HBI.out).row i hlt
          obtain ⟨r, hr⟩ : ∃ r, r = zss.getD i [] := ⟨_, rfl⟩
          rw [← hr] at hcame
          have HR := Lib.hid hcame.reads.1
          have HCR := Lib.hid hcame
          have H5 := Lib.hid hd
          have HS5 := Lib.hid hS
          clear hcame hd hS hr HD
          by_cases h3 : 300 < l
          · go_wp2_with fail
            try go_roundw
            case rel => exact ⟨i + 1, by omega, by omega, by go_num, ⟨d, HS5.out.more, H5.out⟩, HBI⟩
            case measure => simp [intOf]; omega
          · go_wp2_with fail
            refine (append_any H5.out HBI.out.size (by have := HS5.out.count; omega) HCR.out).mono ?_
            rintro _ w6 ⟨rfl, h6, hb6⟩
            have e6 := HS5.out.append H5.out.1 hl20 r HR.out (by omega)
            rw [e6.2]
            obtain ⟨d6, hd6⟩ : ∃ d6, d6 = d.append r := ⟨_, rfl⟩
            rw [← hd6] at h6 e6
            have H6 := Lib.hid h6
            have HS6 := Lib.hid e6.1
            have HB6 := Lib.hid (HBI.out.trans hb6)
            clear h6 e6 hb6 hd6 hcell
            by_cases hl2 : i < len2
            · obtain ⟨ad2, rfl, hcell2⟩ := (HP.out.below HB6.out).cell i hl2
              have hp64 := HP.out.at i hl2
              obtain ⟨pk, hpk⟩ : ∃ pk, pk = ps.getD i 0 := ⟨_, rfl⟩
              rw [← hpk] at hcell2 hp64
              clear hpk
              by_cases hp0 : 0 ≤ pk
              · by_cases hodd : pk % 2 = 1
                · have hd2 : (pk % 2 == 1) = true := by rw [hodd]; rfl
                  have hp2 : I64 (pk / 2) := by unfold I64 at *; omega
                  have hpl := hp64.2
                  clear hodd
                  go_wp2_with fail
                  ((with_reducible refine (crash_any H6.out (pk / 2) hp2).mono ?_))
                  rintro _ w7 ⟨rfl, h7, ho7⟩
                  have H7 := Lib.hid h7
                  have HS7 := Lib.hid (HS6.out.crash (pk / 2))
                  have HB7 := Lib.hid (HB6.out.trans (ho7.below hgB HB6.out.size))
                  obtain ⟨d7, hd7⟩ : ∃ d7, d7 = d6.crash (pk / 2) := ⟨_, rfl⟩
                  rw [← hd7] at H7 HS7
                  clear h7 ho7 hd7 hcell2 H6 HS6 HB6
                  go_wp2_with fail
                  obtain ⟨m, hm⟩ : ∃ m, m = d7.log.length := ⟨_, rfl⟩
                  have hml : len0 ≤ m := by have h1 := H7.out.1; have h2 := HS7.out.syn; omega
                  have hmu : m ≤ 10000 := by have h1 := HS7.out.log; omega
                  have HM7 := Lib.hid hm
                  clear hm
                  refine (logs_len H7.out d7.log m rfl HM7.out.symm).mono ?_
                  rintro _ w8 ⟨ax, cx, rfl, hc8, hb8⟩
                  have HC8 := Lib.hid hc8
                  have H8 := Lib.hid (H7.out.later hb8)
                  have HB8 := Lib.hid (HB7.out.trans (hb8.mono HB7.out.size))
                  clear hc8 hb8
                  have hcap := HC8.out.le
                  have hd1 : decide (m < len0) = false := decide_eq_false (by omega)
                  have hsl : ∀ w, (Instr.sliceAt 22 (.slice ax m cx) none (some (.int .i64 (len0 : Int))) none).run Try.prog w = .ok (.slice ax len0 cx) w := fun w => slice_to22 ax m cx len0 (by omega) len0 rfl w
                  have hcv : ∀ q, (convert 22 9 (.slice ax len0 cx)).run Try.prog (w8.drewN q) = .ok (.string (strOfNums x)) (w8.drewN q) := fun q => by
                    have h1 := came_take (HC8.out.below (below_drewN (Below.refl _ _) q)) len0 hml
                    rw [HS7.out.front] at h1
                    exact conv_reads h1.reads cx
                  have hcw : ∀ q, (convert 22 9 (.slice a0 len0 cap0)).run Try.prog (w8.drewN q) = .ok (.string (strOfNums x)) (w8.drewN q) := fun q => conv_reads (HX.out.below (below_drewN HB8.out q)).reads cap0
                  have hne := nums_neq x
                  go_wp2_with fail
                  go_quiet (fail)
                  clear hcv hcw hne hsl hd1
                  go_wp2_with fail
                  try go_roundw
                  case rel => exact ⟨i + 1, by omega, by omega, by go_num, ⟨d7, HS7.out, H8.out.later (below_drewN (Below.refl _ _) nq)⟩, below_drewN HB8.out nq⟩
                  case measure => simp [intOf]; omega
                · have hd2 : (pk % 2 == 1) = false := by simpa using hodd
                  clear hodd
                  go_wp2_with fail
                  obtain ⟨m, hm⟩ : ∃ m, m = d6.log.length := ⟨_, rfl⟩
                  have hml : len0 ≤ m := by have h1 := H6.out.1; have h2 := HS6.out.syn; omega
                  have hmu : m ≤ 10000 := by have h1 := HS6.out.log; omega
                  have HM7 := Lib.hid hm
                  clear hm
                  refine (logs_len H6.out d6.log m rfl HM7.out.symm).mono ?_
                  rintro _ w8 ⟨ax, cx, rfl, hc8, hb8⟩
                  have HC8 := Lib.hid hc8
                  have H8 := Lib.hid (H6.out.later hb8)
                  have HB8 := Lib.hid (HB6.out.trans (hb8.mono HB6.out.size))
                  clear hc8 hb8
                  have hcap := HC8.out.le
                  have hd1 : decide (m < len0) = false := decide_eq_false (by omega)
                  have hsl : ∀ w, (Instr.sliceAt 22 (.slice ax m cx) none (some (.int .i64 (len0 : Int))) none).run Try.prog w = .ok (.slice ax len0 cx) w := fun w => slice_to22 ax m cx len0 (by omega) len0 rfl w
                  have hcv : ∀ q, (convert 22 9 (.slice ax len0 cx)).run Try.prog (w8.drewN q) = .ok (.string (strOfNums x)) (w8.drewN q) := fun q => by
                    have h1 := came_take (HC8.out.below (below_drewN (Below.refl _ _) q)) len0 hml
                    rw [HS6.out.front] at h1
                    exact conv_reads h1.reads cx
                  have hcw : ∀ q, (convert 22 9 (.slice a0 len0 cap0)).run Try.prog (w8.drewN q) = .ok (.string (strOfNums x)) (w8.drewN q) := fun q => conv_reads (HX.out.below (below_drewN HB8.out q)).reads cap0
                  have hne := nums_neq x
                  go_wp2_with fail
                  go_quiet (fail)
                  clear hcv hcw hne hsl hd1
                  go_wp2_with fail
                  try go_roundw
                  case rel => exact ⟨i + 1, by omega, by omega, by go_num, ⟨d6, HS6.out, H8.out.later (below_drewN (Below.refl _ _) nq)⟩, below_drewN HB8.out nq⟩
                  case measure => simp [intOf]; omega
              · have hd2 : (pk.tmod 2 == 1) = false := by
                  have h1 := mod_of_tmod pk 2 (by omega)
                  have h2 := tmod_bd pk 2 (by omega)
                  have h3 : pk.tmod 2 ≤ 0 := by
                    have h4 := Int.neg_tmod (-pk) 2
                    rw [Int.neg_neg] at h4
                    have h5 := Int.tmod_nonneg 2 (show 0 ≤ -pk by omega)
                    omega
                  simp; omega
                go_wp2_with fail
                obtain ⟨m, hm⟩ : ∃ m, m = d6.log.length := ⟨_, rfl⟩
                have hml : len0 ≤ m := by have h1 := H6.out.1; have h2 := HS6.out.syn; omega
                have hmu : m ≤ 10000 := by have h1 := HS6.out.log; omega
                have HM7 := Lib.hid hm
                clear hm
                refine (logs_len H6.out d6.log m rfl HM7.out.symm).mono ?_
                rintro _ w8 ⟨ax, cx, rfl, hc8, hb8⟩
                have HC8 := Lib.hid hc8
                have H8 := Lib.hid (H6.out.later hb8)
                have HB8 := Lib.hid (HB6.out.trans (hb8.mono HB6.out.size))
                clear hc8 hb8
                have hcap := HC8.out.le
                have hd1 : decide (m < len0) = false := decide_eq_false (by omega)
                have hsl : ∀ w, (Instr.sliceAt 22 (.slice ax m cx) none (some (.int .i64 (len0 : Int))) none).run Try.prog w = .ok (.slice ax len0 cx) w := fun w => slice_to22 ax m cx len0 (by omega) len0 rfl w
                have hcv : ∀ q, (convert 22 9 (.slice ax len0 cx)).run Try.prog (w8.drewN q) = .ok (.string (strOfNums x)) (w8.drewN q) := fun q => by
                  have h1 := came_take (HC8.out.below (below_drewN (Below.refl _ _) q)) len0 hml
                  rw [HS6.out.front] at h1
                  exact conv_reads h1.reads cx
                have hcw : ∀ q, (convert 22 9 (.slice a0 len0 cap0)).run Try.prog (w8.drewN q) = .ok (.string (strOfNums x)) (w8.drewN q) := fun q => conv_reads (HX.out.below (below_drewN HB8.out q)).reads cap0
                have hne := nums_neq x
                go_wp2_with fail
                go_quiet (fail)
                clear hcv hcw hne hsl hd1
                go_wp2_with fail
                try go_roundw
                case rel => exact ⟨i + 1, by omega, by omega, by go_num, ⟨d6, HS6.out, H8.out.later (below_drewN (Below.refl _ _) nq)⟩, below_drewN HB8.out nq⟩
                case measure => simp [intOf]; omega
            · go_wp2_with fail
              obtain ⟨m, hm⟩ : ∃ m, m = d6.log.length := ⟨_, rfl⟩
              have hml : len0 ≤ m := by have h1 := H6.out.1; have h2 := HS6.out.syn; omega
              have hmu : m ≤ 10000 := by have h1 := HS6.out.log; omega
              have HM7 := Lib.hid hm
              clear hm
              refine (logs_len H6.out d6.log m rfl HM7.out.symm).mono ?_
              rintro _ w8 ⟨ax, cx, rfl, hc8, hb8⟩
              have HC8 := Lib.hid hc8
              have H8 := Lib.hid (H6.out.later hb8)
              have HB8 := Lib.hid (HB6.out.trans (hb8.mono HB6.out.size))
              clear hc8 hb8
              have hcap := HC8.out.le
              have hd1 : decide (m < len0) = false := decide_eq_false (by omega)
              have hsl : ∀ w, (Instr.sliceAt 22 (.slice ax m cx) none (some (.int .i64 (len0 : Int))) none).run Try.prog w = .ok (.slice ax len0 cx) w := fun w => slice_to22 ax m cx len0 (by omega) len0 rfl w
              have hcv : ∀ q, (convert 22 9 (.slice ax len0 cx)).run Try.prog (w8.drewN q) = .ok (.string (strOfNums x)) (w8.drewN q) := fun q => by
                have h1 := came_take (HC8.out.below (below_drewN (Below.refl _ _) q)) len0 hml
                rw [HS6.out.front] at h1
                exact conv_reads h1.reads cx
              have hcw : ∀ q, (convert 22 9 (.slice a0 len0 cap0)).run Try.prog (w8.drewN q) = .ok (.string (strOfNums x)) (w8.drewN q) := fun q => conv_reads (HX.out.below (below_drewN HB8.out q)).reads cap0
              have hne := nums_neq x
              go_wp2_with fail
              go_quiet (fail)
              clear hcv hcw hne hsl hd1
              go_wp2_with fail
              try go_roundw
              case rel => exact ⟨i + 1, by omega, by omega, by go_num, ⟨d6, HS6.out, H8.out.later (below_drewN (Below.refl _ _) nq)⟩, below_drewN HB8.out nq⟩
              case measure => simp [intOf]; omega
        · obtain rfl : i = 20 := by omega
          go_wp2_with fail
          go_ret
          exact ⟨rfl, HBI.out⟩
      · obtain rfl : i = len1 := by omega
        go_wp2_with fail
        go_ret
        exact ⟨rfl, HBI.out⟩
end Go.Proofs.Ytibinilkhldfoaa
