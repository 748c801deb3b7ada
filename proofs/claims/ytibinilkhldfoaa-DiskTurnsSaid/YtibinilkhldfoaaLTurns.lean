/- DiskTurns: the walk. -/
import Derived.Test.YtibinilkhldfoaaLaw4
namespace Go.Proofs.Ytibinilkhldfoaa
open Go Go.RowKit
set_option linter.unusedVariables false
set_option linter.unusedSimpArgs false

set_option maxRecDepth 100000 in
set_option maxHeartbeats 8000000 in
theorem lturns_any (a0 : Option Addr) (len0 cap0 : Nat) (x : List Int) (a1 : Option Addr) (len1 cap1 : Nat) (y : List Int) (n : Int) (sw : Bool) (first : Int) (w : World) (hx : Came w a0 len0 cap0 x) (hy : Came w a1 len1 cap1 y) (hn : I64 n) (hf : I64 first) :
    Calls Try.prog 4 #[.slice a0 len0 cap0, .slice a1 len1 cap1, .int .i64 n, .bool sw, .int .i64 first] w fun e w' => e = .returned (.bool true) ∧ Below w.heap.size w w' := by
  have HX := Lib.hid hx
  have HY := Lib.hid hy
  have HXL := Lib.hid hx.reads.1
  have HYL := Lib.hid hy.reads.1
  clear hx hy
  go_enter Try.func4, Try.ntmps4
  go_wp2_with fail
  refine (known_any w).mono ?_
  rintro _ w1 ⟨rfl, hb1⟩
  have HB1 := Lib.hid hb1
  clear hb1
  by_cases hbig : 300 < len0
  · go_wp2_with fail
    go_ret
    exact ⟨rfl, HB1.out⟩
  · by_cases hbig1 : 300 < len1
    · go_wp2_with fail
      go_ret
      exact ⟨rfl, HB1.out⟩
    · go_wp2_with fail
      refine (new_any w1 w.heap.size HB1.out.size 100000 (by omega) (by omega)).mono ?_
      rintro _ w2 ⟨g, rfl, h2, hg, hb2⟩
      have HB2 := Lib.hid (HB1.out.trans (hb2.mono HB1.out.size))
      have H2 := Lib.hid h2
      clear h2 hb2
      go_wp2_with fail
      refine (append_any H2.out HB2.out.size (by show 0 < 1000; omega) (HX.out.below HB2.out)).mono ?_
      rintro _ w3 ⟨rfl, h3, hb3⟩
      have e3 := Dk.append_free (d := Dk.new 100000) rfl (by show ((0 : Nat) : Int) + 1 ≠ 0; omega) x len0 HXL.out (by show 0 + 0 + len0 ≤ 100000; omega)
      rw [e3.1] at h3
      have H3 : Hid (Has w.heap.size g ⟨x, 0, [], false, 0, 1, 100000⟩ w3) := h3
      have HB3 := Lib.hid (HB2.out.trans hb3)
      clear h3 hb3 e3
      go_wp2_with fail
      refine (syncs_any H3.out HB3.out.size (by show 1 < 1000; omega)).mono ?_
      rintro _ w4 ⟨rfl, h4, hb4⟩
      have e4 := Dk.syncs_free (d := ⟨x, 0, [], false, 0, 1, 100000⟩) rfl (by show ((1 : Nat) : Int) + 1 ≠ 0; omega)
      rw [e4.1] at h4
      have H4 : Hid (Has w.heap.size g ⟨x, x.length, [], false, 0, 2, 100000⟩ w4) := h4
      have HB4 := Lib.hid (HB3.out.trans hb4)
      clear h4 hb4 e4
      go_wp2_with fail
      refine (within_any first 3 w4 (by omega) (by omega)).mono ?_
      rintro _ _ ⟨rfl, rfl⟩
      have hm0 : 0 ≤ first % 3 := Int.emod_nonneg _ (by omega)
      have hm1 : first % 3 < 3 := Int.emod_lt_of_pos _ (by omega)
      obtain ⟨K, hK⟩ : ∃ K : Nat, first % 3 = (K : Int) := ⟨(first % 3).toNat, by omega⟩
      rw [hK] at hm0 hm1 ⊢
      have hK3 : K < 3 := by omega
      clear hK hm0 hm1
      go_wp2_with fail
      refine (has_stop H4.out ((K : Int) + 1) (by unfold I64; omega)).mono ?_
      rintro _ w5 ⟨rfl, h5, ho5⟩
      have H5 : Hid (Has w.heap.size g ⟨x, x.length, [], false, (K : Int) + 1, 0, 100000⟩ w5) := h5
      have HB5 := Lib.hid (HB4.out.trans (ho5.below (Nat.le_trans HB1.out.size hg) HB4.out.size))
      clear h5 ho5 H4 H3 H2 HB2 HB3 HB4
      go_wp2_with fail
      go_loopw [14] (fun v X => ∃ i : Nat, i ≤ K ∧ v = .int .i64 (i : Int) ∧ Hid (Has w.heap.size g ⟨x, x.length, [], false, (K : Int) + 1, i, 100000⟩ X) ∧ Hid (Below w.heap.size w X)) (fun v _ => ((K : Int) - intOf v).toNat)
      case atStart => exact ⟨0, by omega, rfl, H5, HB5⟩
      case round =>
        obtain ⟨i, hi, rfl, HI, HBI⟩ := hrel
        clear H5 HB5
        by_cases hlt : i < K
        · go_wp2_with fail
          refine (append_any HI.out HBI.out.size (by show i < 1000; omega) (b := []) (len0 := 0) (cap0 := 0) ⟨reads_nil _, Nat.le_refl _, by unfold maxLen; omega, fun _ => ⟨rfl, rfl⟩, by simp⟩).mono ?_
          rintro _ w6 ⟨rfl, h6, hb6⟩
          have e6 := Dk.append_free (d := ⟨x, x.length, [], false, (K : Int) + 1, i, 100000⟩) rfl (by show (i : Int) + 1 ≠ (K : Int) + 1; omega) [] 0 rfl (by show x.length + 0 + 0 ≤ 100000; rw [HXL.out]; omega)
          rw [e6.1] at h6
          have h6' : Has w.heap.size g ⟨x ++ [], x.length, [], false, (K : Int) + 1, i + 1, 100000⟩ w6 := h6
          rw [List.append_nil] at h6'
          have H6 := Lib.hid h6'
          have HB6 := Lib.hid (HBI.out.trans hb6)
          rw [e6.2]
          clear h6 h6' hb6 e6
          go_wp2_with fail
          try go_roundw
          case rel => exact ⟨i + 1, by omega, by go_num, H6, HB6⟩
          case measure => simp [intOf]; omega
        · obtain rfl : i = K := by omega
          go_wp2_with fail
          refine (within_any n ((len0 : Int) + 1) wr (by omega) (by omega)).mono ?_
          rintro _ _ ⟨rfl, rfl⟩
          have hm0 : 0 ≤ n % ((len0 : Int) + 1) := Int.emod_nonneg _ (by omega)
          have hm1 : n % ((len0 : Int) + 1) < (len0 : Int) + 1 := Int.emod_lt_of_pos _ (by omega)
          obtain ⟨N, hN⟩ : ∃ N : Nat, n % ((len0 : Int) + 1) = (N : Int) := ⟨(n % ((len0 : Int) + 1)).toNat, by omega⟩
          rw [hN] at hm0 hm1 ⊢
          have hNl : N ≤ len0 := by omega
          have HTL : Hid ((x.take N).length = N) := by show _ = _; rw [List.length_take, HXL.out]; omega
          clear hN
          by_cases hone : i = 1
          · cases sw
            · have hsp : ((i : Int) + 1) % 2 = 0 := by omega
              have HEV : Hid (Dk.even ⟨x, x.length, [], false, (i : Int) + 1, i, 100000⟩ = true) := by show (((i : Int) + 1).tmod 2 == 0) = true; rw [Int.tmod_eq_emod_of_nonneg (by omega), hsp]; rfl
              have hq : (((i : Int) + 1) % 2 == 0) = true := by rw [hsp]; rfl
              clear hsp
              have e7 := Dk.cuts_last (d := ⟨x, x.length, [], false, (i : Int) + 1, i, 100000⟩) rfl (by show (i : Int) + 1 = (i : Int) + 1; rfl) N (by show N ≤ x.length; rw [HXL.out]; exact hNl)
              rw [HEV.out] at e7
              have E7 := Lib.hid e7
              clear e7
              go_wp2_with fail
              refine (cuts_any HI.out HBI.out.size (by show i < 1000; omega) (N : Int) (by unfold I64; omega)).mono ?_
              rintro _ w7 ⟨rfl, h7, hb7⟩
              rw [E7.out.1] at h7
              rw [E7.out.2]
              have H7 : Hid (Has w.heap.size g ⟨x.take N, N, [], true, (i : Int) + 1, i + 1, 100000⟩ w7) := h7
              have HB7 := Lib.hid (HBI.out.trans hb7)
              clear h7 hb7 E7 HEV
              have hcx : (convert 22 9 (.slice a0 len0 cap0)).run Try.prog w7 = .ok (.string (strOfNums x)) w7 := conv_reads (HX.out.below HB7.out).reads cap0
              have hle0 := HX.out.le
              have hsl : ∀ w, (Instr.sliceAt 22 (.slice a0 len0 cap0) none (some (.int .i64 (N : Int))) none).run Try.prog w = .ok (.slice a0 N cap0) w := fun w => slice_to22 a0 len0 cap0 N (by omega) N rfl w
              have hcy : (convert 22 9 (.slice a0 N cap0)).run Try.prog w7 = .ok (.string (strOfNums (x.take N))) w7 := conv_reads (came_take (HX.out.below HB7.out) N hNl).reads cap0
              have H8 := H7
              have HB8 := HB7
              clear H7 HB7
              obtain ⟨w8, rfl⟩ : ∃ w8, w8 = w7 := ⟨_, rfl⟩
              go_wp2_with fail
              refine (has_dead H8.out true rfl).mono ?_
              rintro _ _ ⟨rfl, rfl⟩
              go_wp2_with fail
              refine (logs_len H8.out (x.take N) N rfl HTL.out).mono ?_
              rintro _ w9 ⟨ax, cx, rfl, hc9, hb9⟩
              have hconv : (convert 22 9 (.slice ax N cx)).run Try.prog w9 = .ok (.string (strOfNums (x.take N))) w9 := conv_reads hc9.reads cx
              have heq1 := str_eql (strOfNums (x.take N))
              have H9 := Lib.hid (H8.out.later hb9)
              have HB9 := Lib.hid (HB8.out.trans (hb9.mono HB8.out.size))
              clear hc9 hb9 H8 HB8
              go_wp2_with fail
              clear hconv
              refine (snaps_len H9.out ([]) 0 rfl rfl).mono ?_
              rintro _ w10 ⟨ay, cy, rfl, hc10, hb10⟩
              have hconv : (convert 22 9 (.slice ay 0 cy)).run Try.prog w10 = .ok (.string ({ data := #[] })) w10 := conv_reads hc10.reads cy
              have heq2 := str_eql ({ data := #[] })
              have H10 := Lib.hid (H9.out.later hb10)
              have HB10 := Lib.hid (HB9.out.trans (hb10.mono HB9.out.size))
              clear hc10 hb10 H9 HB9
              go_wp2_with fail
              clear hconv
              refine (syncs_any H10.out HB10.out.size (by show i + 1 < 1000; omega)).mono ?_
              rintro _ w11 ⟨rfl, h11, hb11⟩
              have e11 := Dk.syncs_gone (d := ⟨x.take N, N, [], true, (i : Int) + 1, i + 1, 100000⟩) rfl
              rw [e11.1] at h11
              rw [e11.2]
              have H11 := Lib.hid h11
              have HB11 := Lib.hid (HB10.out.trans hb11)
              clear e11 h11 hb11 H10 HB10
              go_wp2_with fail
              refine (cuts_any H11.out HB11.out.size (by show i + 1 < 1000; omega) 0 (by unfold I64; omega)).mono ?_
              rintro _ w12 ⟨rfl, h12, hb12⟩
              rw [(Dk.cuts_gone (d := ⟨x.take N, N, [], true, (i : Int) + 1, i + 1, 100000⟩) rfl 0).2]
              have HB12 := Lib.hid (HB11.out.trans hb12)
              clear h12 hb12 H11 HB11
              go_wp2_with fail
              go_ret
              exact ⟨rfl, HB12.out⟩
            · have hsp : ((i : Int) + 1) % 2 = 0 := by omega
              have HEV : Hid (Dk.even ⟨x, x.length, [], false, (i : Int) + 1, i, 100000⟩ = true) := by show (((i : Int) + 1).tmod 2 == 0) = true; rw [Int.tmod_eq_emod_of_nonneg (by omega), hsp]; rfl
              have hq : (((i : Int) + 1) % 2 == 0) = true := by rw [hsp]; rfl
              clear hsp
              have e7 := Dk.swaps_last (d := ⟨x, x.length, [], false, (i : Int) + 1, i, 100000⟩) rfl (by show (i : Int) + 1 = (i : Int) + 1; rfl) y len1 HYL.out (by show len1 ≤ 100000; omega)
              rw [HEV.out] at e7
              have E7 := Lib.hid e7
              clear e7
              go_wp2_with fail
              refine (swaps_any HI.out HBI.out.size (by show i < 1000; omega) (HY.out.below HBI.out)).mono ?_
              rintro _ w7 ⟨rfl, h7, hb7⟩
              rw [E7.out.1] at h7
              rw [E7.out.2]
              have H7 : Hid (Has w.heap.size g ⟨[], 0, y, true, (i : Int) + 1, i + 1, 100000⟩ w7) := h7
              have HB7 := Lib.hid (HBI.out.trans hb7)
              clear h7 hb7 E7 HEV
              have hcx : (convert 22 9 (.slice a0 len0 cap0)).run Try.prog w7 = .ok (.string (strOfNums x)) w7 := conv_reads (HX.out.below HB7.out).reads cap0
              have hcy : ∀ q, (convert 22 9 (.slice a1 len1 cap1)).run Try.prog (w7.drewN q) = .ok (.string (strOfNums y)) (w7.drewN q) := fun q => conv_reads ((HY.out.below HB7.out).below (below_drewN (Below.refl _ _) q)).reads cap1
              go_wp2_with fail
              go_quiet (fail)
              have H8 := Lib.hid (H7.out.later (below_drewN (Below.refl _ _) nq))
              have HB8 := Lib.hid (below_drewN HB7.out nq)
              clear hcy hcx H7 HB7
              generalize w7.drewN nq = w8 at *
              go_wp2_with fail
              refine (has_dead H8.out true rfl).mono ?_
              rintro _ _ ⟨rfl, rfl⟩
              go_wp2_with fail
              refine (logs_len H8.out ([]) 0 rfl rfl).mono ?_
              rintro _ w9 ⟨ax, cx, rfl, hc9, hb9⟩
              have hconv : (convert 22 9 (.slice ax 0 cx)).run Try.prog w9 = .ok (.string ({ data := #[] })) w9 := conv_reads hc9.reads cx
              have heq1 := str_eql ({ data := #[] })
              have H9 := Lib.hid (H8.out.later hb9)
              have HB9 := Lib.hid (HB8.out.trans (hb9.mono HB8.out.size))
              clear hc9 hb9 H8 HB8
              go_wp2_with fail
              clear hconv
              refine (snaps_len H9.out (y) len1 rfl HYL.out).mono ?_
              rintro _ w10 ⟨ay, cy, rfl, hc10, hb10⟩
              have hconv : (convert 22 9 (.slice ay len1 cy)).run Try.prog w10 = .ok (.string (strOfNums y)) w10 := conv_reads hc10.reads cy
              have heq2 := str_eql (strOfNums y)
              have H10 := Lib.hid (H9.out.later hb10)
              have HB10 := Lib.hid (HB9.out.trans (hb10.mono HB9.out.size))
              clear hc10 hb10 H9 HB9
              go_wp2_with fail
              clear hconv
              refine (syncs_any H10.out HB10.out.size (by show i + 1 < 1000; omega)).mono ?_
              rintro _ w11 ⟨rfl, h11, hb11⟩
              have e11 := Dk.syncs_gone (d := ⟨[], 0, y, true, (i : Int) + 1, i + 1, 100000⟩) rfl
              rw [e11.1] at h11
              rw [e11.2]
              have H11 := Lib.hid h11
              have HB11 := Lib.hid (HB10.out.trans hb11)
              clear e11 h11 hb11 H10 HB10
              go_wp2_with fail
              refine (cuts_any H11.out HB11.out.size (by show i + 1 < 1000; omega) 0 (by unfold I64; omega)).mono ?_
              rintro _ w12 ⟨rfl, h12, hb12⟩
              rw [(Dk.cuts_gone (d := ⟨[], 0, y, true, (i : Int) + 1, i + 1, 100000⟩) rfl 0).2]
              have HB12 := Lib.hid (HB11.out.trans hb12)
              clear h12 hb12 H11 HB11
              go_wp2_with fail
              go_ret
              exact ⟨rfl, HB12.out⟩
          · cases sw
            · have hsp : ((i : Int) + 1) % 2 = 1 := by omega
              have HEV : Hid (Dk.even ⟨x, x.length, [], false, (i : Int) + 1, i, 100000⟩ = false) := by show (((i : Int) + 1).tmod 2 == 0) = false; rw [Int.tmod_eq_emod_of_nonneg (by omega), hsp]; rfl
              have hq : (((i : Int) + 1) % 2 == 0) = false := by rw [hsp]; rfl
              clear hsp
              have e7 := Dk.cuts_last (d := ⟨x, x.length, [], false, (i : Int) + 1, i, 100000⟩) rfl (by show (i : Int) + 1 = (i : Int) + 1; rfl) N (by show N ≤ x.length; rw [HXL.out]; exact hNl)
              rw [HEV.out] at e7
              have E7 := Lib.hid e7
              clear e7
              go_wp2_with fail
              refine (cuts_any HI.out HBI.out.size (by show i < 1000; omega) (N : Int) (by unfold I64; omega)).mono ?_
              rintro _ w7 ⟨rfl, h7, hb7⟩
              rw [E7.out.1] at h7
              rw [E7.out.2]
              have H7 : Hid (Has w.heap.size g ⟨x, x.length, [], true, (i : Int) + 1, i + 1, 100000⟩ w7) := h7
              have HB7 := Lib.hid (HBI.out.trans hb7)
              clear h7 hb7 E7 HEV
              have hcx : (convert 22 9 (.slice a0 len0 cap0)).run Try.prog w7 = .ok (.string (strOfNums x)) w7 := conv_reads (HX.out.below HB7.out).reads cap0
              have H8 := H7
              have HB8 := HB7
              clear H7 HB7
              obtain ⟨w8, rfl⟩ : ∃ w8, w8 = w7 := ⟨_, rfl⟩
              go_wp2_with fail
              refine (has_dead H8.out true rfl).mono ?_
              rintro _ _ ⟨rfl, rfl⟩
              go_wp2_with fail
              refine (logs_len H8.out (x) len0 rfl HXL.out).mono ?_
              rintro _ w9 ⟨ax, cx, rfl, hc9, hb9⟩
              have hconv : (convert 22 9 (.slice ax len0 cx)).run Try.prog w9 = .ok (.string (strOfNums x)) w9 := conv_reads hc9.reads cx
              have heq1 := str_eql (strOfNums x)
              have H9 := Lib.hid (H8.out.later hb9)
              have HB9 := Lib.hid (HB8.out.trans (hb9.mono HB8.out.size))
              clear hc9 hb9 H8 HB8
              go_wp2_with fail
              clear hconv
              refine (snaps_len H9.out ([]) 0 rfl rfl).mono ?_
              rintro _ w10 ⟨ay, cy, rfl, hc10, hb10⟩
              have hconv : (convert 22 9 (.slice ay 0 cy)).run Try.prog w10 = .ok (.string ({ data := #[] })) w10 := conv_reads hc10.reads cy
              have heq2 := str_eql ({ data := #[] })
              have H10 := Lib.hid (H9.out.later hb10)
              have HB10 := Lib.hid (HB9.out.trans (hb10.mono HB9.out.size))
              clear hc10 hb10 H9 HB9
              go_wp2_with fail
              clear hconv
              refine (syncs_any H10.out HB10.out.size (by show i + 1 < 1000; omega)).mono ?_
              rintro _ w11 ⟨rfl, h11, hb11⟩
              have e11 := Dk.syncs_gone (d := ⟨x, x.length, [], true, (i : Int) + 1, i + 1, 100000⟩) rfl
              rw [e11.1] at h11
              rw [e11.2]
              have H11 := Lib.hid h11
              have HB11 := Lib.hid (HB10.out.trans hb11)
              clear e11 h11 hb11 H10 HB10
              go_wp2_with fail
              refine (cuts_any H11.out HB11.out.size (by show i + 1 < 1000; omega) 0 (by unfold I64; omega)).mono ?_
              rintro _ w12 ⟨rfl, h12, hb12⟩
              rw [(Dk.cuts_gone (d := ⟨x, x.length, [], true, (i : Int) + 1, i + 1, 100000⟩) rfl 0).2]
              have HB12 := Lib.hid (HB11.out.trans hb12)
              clear h12 hb12 H11 HB11
              go_wp2_with fail
              go_ret
              exact ⟨rfl, HB12.out⟩
            · have hsp : ((i : Int) + 1) % 2 = 1 := by omega
              have HEV : Hid (Dk.even ⟨x, x.length, [], false, (i : Int) + 1, i, 100000⟩ = false) := by show (((i : Int) + 1).tmod 2 == 0) = false; rw [Int.tmod_eq_emod_of_nonneg (by omega), hsp]; rfl
              have hq : (((i : Int) + 1) % 2 == 0) = false := by rw [hsp]; rfl
              clear hsp
              have e7 := Dk.swaps_last (d := ⟨x, x.length, [], false, (i : Int) + 1, i, 100000⟩) rfl (by show (i : Int) + 1 = (i : Int) + 1; rfl) y len1 HYL.out (by show len1 ≤ 100000; omega)
              rw [HEV.out] at e7
              have E7 := Lib.hid e7
              clear e7
              go_wp2_with fail
              refine (swaps_any HI.out HBI.out.size (by show i < 1000; omega) (HY.out.below HBI.out)).mono ?_
              rintro _ w7 ⟨rfl, h7, hb7⟩
              rw [E7.out.1] at h7
              rw [E7.out.2]
              have H7 : Hid (Has w.heap.size g ⟨x, x.length, [], true, (i : Int) + 1, i + 1, 100000⟩ w7) := h7
              have HB7 := Lib.hid (HBI.out.trans hb7)
              clear h7 hb7 E7 HEV
              have hcx : (convert 22 9 (.slice a0 len0 cap0)).run Try.prog w7 = .ok (.string (strOfNums x)) w7 := conv_reads (HX.out.below HB7.out).reads cap0
              have H8 := H7
              have HB8 := HB7
              clear H7 HB7
              obtain ⟨w8, rfl⟩ : ∃ w8, w8 = w7 := ⟨_, rfl⟩
              go_wp2_with fail
              refine (has_dead H8.out true rfl).mono ?_
              rintro _ _ ⟨rfl, rfl⟩
              go_wp2_with fail
              refine (logs_len H8.out (x) len0 rfl HXL.out).mono ?_
              rintro _ w9 ⟨ax, cx, rfl, hc9, hb9⟩
              have hconv : (convert 22 9 (.slice ax len0 cx)).run Try.prog w9 = .ok (.string (strOfNums x)) w9 := conv_reads hc9.reads cx
              have heq1 := str_eql (strOfNums x)
              have H9 := Lib.hid (H8.out.later hb9)
              have HB9 := Lib.hid (HB8.out.trans (hb9.mono HB8.out.size))
              clear hc9 hb9 H8 HB8
              go_wp2_with fail
              clear hconv
              refine (snaps_len H9.out ([]) 0 rfl rfl).mono ?_
              rintro _ w10 ⟨ay, cy, rfl, hc10, hb10⟩
              have hconv : (convert 22 9 (.slice ay 0 cy)).run Try.prog w10 = .ok (.string ({ data := #[] })) w10 := conv_reads hc10.reads cy
              have heq2 := str_eql ({ data := #[] })
              have H10 := Lib.hid (H9.out.later hb10)
              have HB10 := Lib.hid (HB9.out.trans (hb10.mono HB9.out.size))
              clear hc10 hb10 H9 HB9
              go_wp2_with fail
              clear hconv
              refine (syncs_any H10.out HB10.out.size (by show i + 1 < 1000; omega)).mono ?_
              rintro _ w11 ⟨rfl, h11, hb11⟩
              have e11 := Dk.syncs_gone (d := ⟨x, x.length, [], true, (i : Int) + 1, i + 1, 100000⟩) rfl
              rw [e11.1] at h11
              rw [e11.2]
              have H11 := Lib.hid h11
              have HB11 := Lib.hid (HB10.out.trans hb11)
              clear e11 h11 hb11 H10 HB10
              go_wp2_with fail
              refine (cuts_any H11.out HB11.out.size (by show i + 1 < 1000; omega) 0 (by unfold I64; omega)).mono ?_
              rintro _ w12 ⟨rfl, h12, hb12⟩
              rw [(Dk.cuts_gone (d := ⟨x, x.length, [], true, (i : Int) + 1, i + 1, 100000⟩) rfl 0).2]
              have HB12 := Lib.hid (HB11.out.trans hb12)
              clear h12 hb12 H11 HB11
              go_wp2_with fail
              go_ret
              exact ⟨rfl, HB12.out⟩
end Go.Proofs.Ytibinilkhldfoaa
