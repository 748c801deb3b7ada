/- FramesBack: the walk. -/
import Derived.Test.YtbgaekokjkdpiaaDoorLog
namespace Go.Proofs.YtbgaekokjkdpiaaDoor
open Go.RowKit Frm
set_option linter.unusedVariables false
set_option linter.unusedSimpArgs false

theorem bulk_rep (k : Nat) (z : List Int) : bulk (List.replicate k z) = k * (8 + z.length) := by
  induction k with
  | zero => simp [bulk]
  | succ k ih => rw [List.replicate_succ]; simp only [bulk]; rw [ih, Nat.succ_mul]; omega

theorem frames_rep (k : Nat) (z : List Int) : frames (List.replicate (k + 1) z) = frames (List.replicate k z) ++ frame z := by
  rw [List.replicate_succ', frames_append]
  simp [frames]

theorem scan_nil : scan [] = [] := scan_none (by decide)

theorem scan_logs {a : List (List Int)} (h : ∀ r ∈ a, r.length ≤ 4194304) : scan (frames a) = a := by
  have h1 := scan_frames h []
  rwa [List.append_nil, scan_nil, List.append_nil] at h1

set_option maxRecDepth 100000 in
set_option maxHeartbeats 8000000 in
theorem lback_any (a0 : Option Addr) (len0 cap0 : Nat) (z : List Int) (n : Int) (w : World) (hcame : Came w a0 len0 cap0 z) (hn : I64 n) (hlaid : Laid w) :
    Calls Tryd.prog 6 #[.slice a0 len0 cap0, .int .i64 n] w fun e w' => e = .returned (.bool true) ∧ Below w.heap.size w w' := by
  obtain ⟨i0, hi, hz0, hz1, hz2⟩ := info_parts Tryd.infoByte
  have HC := Lib.hid hcame
  have HLA := Lib.hid hlaid
  have HZ := Lib.hid hcame.reads.1
  clear hcame hlaid hn
  go_enter Tryd.func6, Tryd.ntmps6
  go_wp2_with fail
  refine (known_any w HLA.out).mono ?_
  rintro _ w1 ⟨rfl, hb1⟩
  have HB1 := Lib.hid hb1
  clear hb1
  by_cases hbig : 300 < len0
  · go_wp2_with fail
    go_ret
    exact ⟨rfl, HB1.out⟩
  · go_wp2_with fail
    refine (within_any n 4 w1 (by omega) (by omega)).mono ?_
    rintro _ _ ⟨rfl, rfl⟩
    have hk0 : 0 ≤ n % 4 := Int.emod_nonneg _ (by omega)
    have hk1 : n % 4 < 4 := Int.emod_lt_of_pos _ (by omega)
    obtain ⟨kN, hkN⟩ : ∃ kN : Nat, n % 4 = (kN : Int) := ⟨(n % 4).toNat, by omega⟩
    rw [hkN]
    rw [hkN] at hk0 hk1
    have hkl : kN ≤ 3 := by omega
    clear hkN hk0 hk1
    have HM := Lib.hid (World.ownsRow_made (base := w.heap.size) (e := 5) (size := 1) w1 #[] 0 HB1.out.size (by unfold maxLen; omega) rfl)
    have HBa : Hid (Below w.heap.size w (w1.alloc (.cells #[] 5))) := HB1.out.alloc HB1.out.size _
    go_wp2_with fail
    go_loopw [5, 6] (fun t v X => ∃ k : Nat, k ≤ kN ∧ v = .int .i64 (k : Int) ∧ Hid (X.ownsRow w.heap.size 5 1 t (k * (8 + len0)) (bts (frames (List.replicate k z)))) ∧ Hid (Below w.heap.size w X)) (fun _ v _ => ((kN : Int) - intOf v).toNat)
    case atStart => exact ⟨0, by omega, rfl, by rw [Nat.zero_mul]; exact HM.out, HBa⟩
    case round =>
      clear HM HBa HB1
      obtain ⟨k, hkk, rfl, HO, HB⟩ := hrel
      by_cases hlt : k < kN
      · have HC1 := Lib.hid (HC.out.below HB.out)
        go_wp2_with fail
        refine (frame_any a0 len0 cap0 z wr HC1.out (by omega) (HLA.out.keep HB.out)).mono ?_
        rintro _ w2 ⟨v, rfl, ho, hb⟩
        obtain ⟨b3, c3, rfl, hcv⟩ := own_came ho (frame_byte HC.out.bytes)
        have HCV := Lib.hid hcv
        have HO1 := Lib.hid (own_later HO.out hb)
        have HB2 := Lib.hid (HB.out.trans (hb.mono HB.out.size))
        clear ho hb hcv HO
        go_wp2_with fail
        refine (onep_any HCV.out (HLA.out.keep HB2.out)).mono ?_
        rintro _ w3 ⟨v, rfl, ho, hb⟩
        have hone := one_frame (b := z) (by rw [HZ.out]; omega)
        rw [hone.2] at ho
        rw [hone.1]
        obtain ⟨b4, c4, rfl, hcw⟩ := own_came ho HC.out.bytes
        have HO3 := Lib.hid (own_later HO1.out hb)
        have HB3 := Lib.hid (HB2.out.trans (hb.mono HB2.out.size))
        have HX3 := Lib.hid (HCV.out.below hb)
        have hv1 := conv_reads hcw.reads c4
        have hv2 := conv_reads (HC.out.below HB3.out).reads cap0
        have hne := nums_neq z w3
        rw [HZ.out] at hv1 ⊢
        clear ho hb hcw hone HO1 HCV HB HC1
        rw [show ((0 : Nat) : Int) = 0 from rfl]
        have hmb : k * (8 + len0) ≤ 3 * 308 := Nat.mul_le_mul (by omega) (by omega)
        obtain ⟨m, hm⟩ : ∃ m, m = k * (8 + len0) := ⟨_, rfl⟩
        rw [← hm] at HO3 hmb
        have HMM := Lib.hid hm
        clear hm
        go_wp2_with (at_builtin; go_must (refine wpList_append_reads rfl _ _ 22 rfl w.heap.size 5 i0 Tryd.underlying22 hi hz0 hz1 hz2 u5 m (frames (List.replicate k z)) rfl HO3.out b3 (8 + len0) c3 (frame z) rfl HX3.out.reads HX3.out.nil ?d4 ?d5 ?_))
        case d4 => omega
        case d5 => exact HB3.out.size
        intro v5 w5 ho5 hg5
        have hb5 := HB3.out.grown hg5 HB3.out.size (fun k hk => (HO3.out.lt k hk).1)
        have HO5 := Lib.hid ho5
        have HB5 := Lib.hid hb5
        clear ho5 hb5 hg5 hv1 hv2 hne
        go_wp2_with fail
        try go_roundw
        case rel =>
          refine ⟨k + 1, by omega, by go_num, ?_, HB5⟩
          have h := HO5.out
          rw [frames_rep, Nat.succ_mul, ← HMM.out]
          exact h
        case measure => simp [intOf]; omega
      · obtain rfl : k = kN := by omega
        have hmb : k * (8 + len0) ≤ 3 * 308 := Nat.mul_le_mul (by omega) (by omega)
        have hby : ∀ c ∈ frames (List.replicate k z), Byte c := frames_byte (fun r hr => by rw [List.eq_of_mem_replicate hr]; exact HC.out.bytes)
        obtain ⟨b6, c6, rfl, hcv⟩ := own_came HO.out hby
        have HCV := Lib.hid hcv
        have HSC : Hid (scan (frames (List.replicate k z)) = List.replicate k z) := scan_logs (fun r hr => by rw [List.eq_of_mem_replicate hr, HZ.out]; omega)
        have HBK : Hid (bulk (List.replicate k z) = k * (8 + len0)) := by have h := bulk_rep k z; rw [HZ.out] at h; exact h
        obtain ⟨m, hm⟩ : ∃ m, m = k * (8 + len0) := ⟨_, rfl⟩
        rw [← hm] at HCV HBK hmb ⊢
        clear hcv hby hm HO
        go_wp2_with fail
        refine (scanp_any HCV.out (HLA.out.keep HB.out) (by omega)).mono ?_
        rintro _ w7 ⟨v, vs, rfl, hr, hb⟩
        rw [HSC.out] at hr ⊢
        rw [HBK.out]
        obtain ⟨a8, c8, rfl, hmat⟩ := hr.mat
        rw [List.length_replicate] at hmat ⊢
        have HMT := Lib.hid hmat
        have HB7 := Lib.hid (HB.out.trans (hb.mono HB.out.size))
        have HC7 := Lib.hid (HC.out.below HB7.out)
        clear hr hb hmat HB HCV
        go_wp2_with fail
        go_loopw [13] (fun v X => ∃ j : Nat, j ≤ k ∧ v = .int .i64 (j : Int) ∧ Hid (∃ q, X = w7.drewN q)) (fun v _ => ((k : Int) - intOf v).toNat)
        case atStart => exact ⟨0, by omega, rfl, 0, rfl⟩
        case round =>
          obtain ⟨j, hj, rfl, HX⟩ := hrel
          by_cases hjl : j < k
          · obtain ⟨ad, rfl, b9, l9, c9, hcell, hcame⟩ := HMT.out.row j hjl
            have e9 : (List.replicate k z).getD j [] = z := by simp [List.getD, hjl]
            rw [e9] at hcame
            obtain ⟨kk, hkk⟩ := HX.out
            have hc1 : wr.cell? (ad.add j) = some (.slice b9 l9 c9) := by rw [hkk]; exact hcell
            have hg1 : ∀ q, (wr.drewN q).cell? (ad.add j) = some (.slice b9 l9 c9) := fun q => by rw [hkk]; exact hcell
            have hv1 : ∀ q, (convert 22 9 (.slice b9 l9 c9)).run Tryd.prog (wr.drewN q) = .ok (.string (strOfNums z)) (wr.drewN q) := fun q => conv_reads (by rw [hkk]; exact ((hcame.drewN kk).drewN q).reads) c9
            have hv2 : ∀ q, (convert 22 9 (.slice a0 len0 cap0)).run Tryd.prog (wr.drewN q) = .ok (.string (strOfNums z)) (wr.drewN q) := fun q => conv_reads (by rw [hkk]; exact ((HC7.out.drewN kk).drewN q).reads) cap0
            have hne := nums_neq z
            have HKK := Lib.hid hkk
            clear hcell hcame hkk e9
            go_upto_region 19 with (fail)
            go_quiet (fail)
            go_wp2_with fail
            try go_roundw
            case rel => exact ⟨j + 1, by omega, by go_num, kk + nq, by rw [HKK.out, World.drewN_drewN]⟩
            case measure => simp [intOf]; omega
          · obtain rfl : j = k := by omega
            obtain ⟨kk, hkk⟩ := HX.out
            have HBE : Hid (Below w.heap.size w wr) := by rw [hkk]; exact below_drewN HB7.out _
            clear hkk
            go_wp2_with fail
            go_ret
            exact ⟨rfl, HBE.out⟩
end Go.Proofs.YtbgaekokjkdpiaaDoor
