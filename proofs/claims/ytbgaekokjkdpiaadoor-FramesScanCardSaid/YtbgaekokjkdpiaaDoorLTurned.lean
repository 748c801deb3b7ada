/- FramesTurned: the walk. -/
import Derived.Test.YtbgaekokjkdpiaaDoorTurnP
import Derived.Test.YtbgaekokjkdpiaaDoorThen
namespace Go.Proofs.YtbgaekokjkdpiaaDoor
open Go.RowKit Frm
set_option linter.unusedVariables false
set_option linter.unusedSimpArgs false

theorem slice_to32 (a : Option Addr) (len cap q : Nat) (hq : q ≤ cap) (m : Int) (hm : m = (q : Int)) (w : World) :
    (Instr.sliceAt 32 (.slice a len cap) none (some (.int .i64 m)) none).run Tryd.prog w = .ok (.slice a q cap) w := by
  subst hm
  have e := run_slice_h (P := Tryd.prog) (a := a) (len := len) (cap := cap) w 32 (by kernel_rfl) .i64 (q : Int) (by omega) (by omega)
  have hs : (sizeOf (Tryd.prog.elem 32)).run Tryd.prog w = .ok 1 w := by kernel_rfl
  rw [run_sliceAt_slice _ _ _ _ _ _ (by kernel_rfl), e, hs]
  simp [sliced]
  intro _
  cases a <;> simp [Addr.add]

theorem mat_take {w : World} {a : Option Addr} {n c : Nat} {zss : List (List Int)} (h : Mat w a n c zss) (k : Nat) (hk : k ≤ n) : Mat w a k c (zss.take k) := by
  have h1 := h.sz
  have h2 := h.le
  refine ⟨by rw [List.length_take]; omega, by omega, h.small, fun i hi => ?_⟩
  have e : (zss.take k).getD i [] = zss.getD i [] := by simp [List.getD, List.getElem?_take, hi]
  rw [e]
  exact h.row i (by omega)

set_option maxRecDepth 100000 in
set_option maxHeartbeats 8000000 in
theorem lturned_any (a0 : Option Addr) (len0 cap0 : Nat) (zss : List (List Int)) (at0 : Int) (bt : Int) (w : World) (hm : Mat w a0 len0 cap0 zss) (hat : I64 at0) (hbt : I64 bt) (hlaid : Laid w) :
    Calls Tryd.prog 7 #[.slice a0 len0 cap0, .int .i64 at0, .int .i64 bt] w fun e w' => e = .returned (.bool true) ∧ Below w.heap.size w w' := by
  obtain ⟨i0, hi, hz0, hz1, hz2⟩ := info_parts Tryd.infoByte
  have HM := Lib.hid hm
  have HLA := Lib.hid hlaid
  have HBY := Lib.hid (mat_bytes hm)
  have hbig : len0 ≤ 9223372036854775807 := by have h1 := hm.le; have h2 := hm.small; unfold maxLen at h2; omega
  have hat0 := hat.1
  have hat1 := hat.2
  clear hm hlaid hbt hat
  go_enter Tryd.func7, Tryd.ntmps7
  go_wp2_with fail
  refine (known_any w HLA.out).mono ?_
  rintro _ w1 ⟨rfl, hb1⟩
  have HB1 := Lib.hid hb1
  have HM1 := Lib.hid (HM.out.below hb1)
  clear hb1
  by_cases hz : len0 = 0
  · subst hz
    go_wp2_with fail
    go_ret
    exact ⟨rfl, HB1.out⟩
  · have hz2' : decide ((len0 : Int) = 0) = false := decide_eq_false (by omega)
    go_wp2_with fail
    refine (few_any HM1.out).mono ?_
    rintro _ _ ⟨b, rfl, rfl, HF⟩
    cases b with
    | false =>
      go_wp2_with fail
      go_ret
      exact ⟨rfl, HB1.out⟩
    | true =>
      have hl10 := (HF.out rfl).1
      have H3 := Lib.hid (HF.out rfl).2
      clear HF
      go_wp2_with fail
      refine (within_any at0 len0 w1 (by omega) (by omega)).mono ?_
      rintro _ _ ⟨rfl, rfl⟩
      have hk0 : 0 ≤ at0 % (len0 : Int) := Int.emod_nonneg _ (by omega)
      have hk1 : at0 % (len0 : Int) < (len0 : Int) := Int.emod_lt_of_pos _ (by omega)
      obtain ⟨h, hh⟩ : ∃ h : Nat, at0 % (len0 : Int) = (h : Int) := ⟨(at0 % (len0 : Int)).toNat, by omega⟩
      rw [hh]
      rw [hh] at hk0 hk1
      have hhl : h < len0 := by omega
      clear hh hk0 hk1
      go_wp2_with fail
      refine (log_any HM1.out hl10 H3.out).mono ?_
      rintro _ w2 ⟨v2, rfl, ho2, hb2⟩
      have HS : Hid (∀ r ∈ zss, r.length ≤ 4194304) := all_rows HM.out.sz (p := fun r => r.length ≤ 4194304) (fun j hj => Nat.le_trans (H3.out j hj) (by omega))
      have hbl : bulk zss ≤ 308 * len0 := by
        have h := bulk_few (zss := zss) len0 (by rw [HM.out.sz]; exact Nat.le_refl _) H3.out
        rwa [List.take_of_length_le (by rw [HM.out.sz]; exact Nat.le_refl _)] at h
      have HO2 := Lib.hid ho2
      have HB2 := Lib.hid (HB1.out.trans (hb2.mono HB1.out.size))
      clear ho2 hb2
      go_wp2_with fail
      go_loopw [9, 10] (fun t v X => ∃ i : Nat, i ≤ h ∧ v = .int .i64 (i : Int) ∧ t = .int .i64 (bulk (zss.take i) : Int) ∧ X = w2) (fun _ v _ => ((h : Int) - intOf v).toNat)
      case atStart => exact ⟨0, by omega, rfl, rfl, rfl⟩
      case round =>
        obtain ⟨i, hil, rfl, rfl, rfl⟩ := hrel
        by_cases hlt : i < h
        · obtain ⟨ad, rfl, b3, l3, c3, hcell, hcame⟩ := HM.out.row i (by omega)
          have hcell' : wr.cell? (ad.add i) = some (.slice b3 l3 c3) := by rw [HB2.out.cell (World.block_lt_of_cell? w _ hcell)]; exact hcell
          have hl3 := H3.out i (by omega)
          have hrl := hcame.reads.1
          have hbf := bulk_few (zss := zss) i (by rw [HM.out.sz]; omega) (fun j hj => H3.out j (by omega))
          have hnx : bulk (zss.take (i + 1)) = bulk (zss.take i) + 8 + l3 := by rw [take_next (by rw [HM.out.sz]; omega), bulk_append, ← hrl]; simp only [bulk]; omega
          rw [hrl] at hl3
          obtain ⟨m, hmm⟩ : ∃ m, m = bulk (zss.take i) := ⟨_, rfl⟩
          rw [← hmm] at hbf hnx ⊢
          have HNX := Lib.hid hnx
          clear hcell hcame hnx hrl hmm
          go_wp2_with fail
          try go_roundw
          case rel => exact ⟨i + 1, by omega, by go_num, by rw [HNX.out]; go_num, by trivial⟩
          case measure => simp [intOf]; omega
        · obtain rfl : i = h := by omega
          obtain ⟨ad, rfl, b3, l3, c3, hcell, hcame⟩ := HM.out.row i (by omega)
          have hcell' : wr.cell? (ad.add i) = some (.slice b3 l3 c3) := by rw [HB2.out.cell (World.block_lt_of_cell? w _ hcell)]; exact hcell
          have hl3 := H3.out i (by omega)
          have hrl := hcame.reads.1
          have hbf := bulk_few (zss := zss) i (by rw [HM.out.sz]; omega) (fun j hj => H3.out j (by omega))
          rw [hrl] at hl3
          obtain ⟨m, hmm⟩ : ∃ m, m = bulk (zss.take i) := ⟨_, rfl⟩
          rw [← hmm] at hbf ⊢
          have HRL := Lib.hid hrl
          have HMM := Lib.hid hmm
          have HCELL := Lib.hid hcell
          clear hcell hcame hrl hmm
          go_wp2_with fail
          refine (within_any (at0.tdiv len0) (4 + l3) wr (by omega) (by omega)).mono ?_
          rintro _ _ ⟨rfl, rfl⟩
          have hk0 : 0 ≤ at0.tdiv len0 % ((4 : Int) + l3) := Int.emod_nonneg _ (by omega)
          have hk1 : at0.tdiv len0 % ((4 : Int) + l3) < (4 : Int) + l3 := Int.emod_lt_of_pos _ (by omega)
          obtain ⟨q, hq⟩ : ∃ q : Nat, at0.tdiv len0 % ((4 : Int) + l3) = (q : Int) := ⟨(at0.tdiv len0 % ((4 : Int) + l3)).toNat, by omega⟩
          rw [hq]
          rw [hq] at hk0 hk1
          have hql : q < 4 + l3 := by omega
          clear hq hk0 hk1
          have hih : i < zss.length := by rw [HM.out.sz]; exact hhl
          have hql2 : q < 4 + (zss.getD i []).length := by rw [HRL.out]; exact hql
          have HTL := Lib.hid (turned_log hih q hql2)
          have hT1 : m + 4 + q < bulk zss := by have h := HTL.out 0; rw [← HMM.out, frames_length] at h; exact h.2.2.1
          have hT2 : m + (8 + l3) ≤ bulk zss := by have h := HTL.out 0; rw [← HMM.out, HRL.out, frames_length] at h; exact h.2.2.2
          obtain ⟨T, hTT⟩ : ∃ T, T = bulk zss := ⟨_, rfl⟩
          have ho2 := HO2.out
          rw [← hTT] at hT1 hT2 ho2 hbl
          have HTT := Lib.hid hTT
          obtain ⟨g, c2, rfl⟩ := own_form ho2 (by omega)
          have hat2 := own_at ho2 (i := m + 4 + q) hT1
          have hxb := getD_byte (frames_byte HBY.out) (m + 4 + q)
          obtain ⟨x, hx⟩ : ∃ x, x = (frames zss).getD (m + 4 + q) 0 := ⟨_, rfl⟩
          rw [← hx] at hat2 hxb
          have HX := Lib.hid hx
          have HXB := Lib.hid hxb
          have hO2' := Lib.hid ho2
          obtain ⟨K, hK⟩ : ∃ K, K = m + 4 + q := ⟨_, rfl⟩
          rw [← hK] at hat2 hT1
          have hKe : (m : Int) + 4 + (q : Int) = (K : Int) := by omega
          have HK := Lib.hid hK
          have hc1 := hat2.1
          have hf1 := hat2.2
          have HF1 := Lib.hid hf1
          have HC1 := Lib.hid hc1
          clear hx hxb hTT ho2 hat2 hK hih hql2 HO2
          go_upto_region 14 with (fail)
          try rw [hKe]
          have hb0 : 0 ≤ bt % 8 := Int.emod_nonneg _ (by omega)
          have hb1 : bt % 8 < 8 := Int.emod_lt_of_pos _ (by omega)
          refine quiet_then 10 1 (by kernel_rfl) (by kernel_rfl) ?_
          simp only [List.take_succ_cons, List.take_zero]
          repeat (go_big_quiet_step (exact ((within_any bt 8 _ (by omega) (by omega)).mono fun e w' h => ⟨h.1, _, h.2.symm⟩)))
          refine wpQuiet_nil ?_
          intro nq
          have hc4' : (wr.drewN nq).cell? ⟨g, K, none⟩ = some (.int .u8 x) := HC1.out
          have hf' : (wr.drewN nq).frozen? ⟨g, K, none⟩ = false := HF1.out
          refine anyS_one 10 (by kernel_rfl) rfl (fun KK hKK => ?_)
          go_simp
          obtain ⟨vv, hvv⟩ : ∃ vv, vv = bits .xor .u8 x ((2 : Int) ^ (bt % 8).toNat % 256) := ⟨_, rfl⟩
          rw [← hvv]
          have hp0 : 0 < 2 ^ (bt % 8).toNat := Nat.pow_pos (by omega)
          have hp1 : 2 ^ (bt % 8).toNat ≤ 2 ^ 7 := Nat.pow_le_pow_right (by omega) (by omega)
          have hpe : (2 : Int) ^ (bt % 8).toNat % 256 = ((2 ^ (bt % 8).toNat : Nat) : Int) := by
            have e : ((2 ^ (bt % 8).toNat : Nat) : Int) = (2 : Int) ^ (bt % 8).toNat := by rw [Int.natCast_pow]; rfl
            rw [← e]
            omega
          have hxt := xor_turned HXB.out (p := 2 ^ (bt % 8).toNat) hp0 (by omega)
          rw [← hpe, ← hvv] at hxt
          have HXT := Lib.hid hxt
          clear hvv hp0 hp1 hpe hxt
          have hset := own_set (i := K) (own_later hO2'.out (below_drewN (Below.refl _ _) nq)) vv
          obtain ⟨X, hX⟩ : ∃ X, X = (wr.drewN nq).setCell ⟨g, K, none⟩ (.int .u8 vv) := ⟨_, rfl⟩
          rw [← hX] at hset ⊢
          have HBX : Hid (Below w.heap.size w X) := Below.step (below_drewN HB2.out nq) hset.2.1 (Nat.le_trans HB1.out.size hset.2.2) (Nat.le_refl _)
          have htl := HTL.out vv
          rw [← HMM.out, ← HK.out] at htl
          obtain ⟨r, hr⟩ : ∃ r, r = zss.getD i [] := ⟨_, rfl⟩
          rw [← hr] at htl
          have hrb : ∀ c ∈ r, Byte c := by rw [hr]; exact HBY.out _ (by have h := HM.out.sz; simp [List.getD, show i < zss.length by omega])
          have hrl : r.length = l3 := by rw [hr]; exact HRL.out
          have hne : vv ≠ (frame r).getD (4 + q) 0 := by rw [← htl.2.1, HK.out, ← HX.out]; exact HXT.out.2
          have hw := turned_whole hrb (by omega) (by omega) HXT.out.1 hne (frames (zss.drop (i + 1)))
          have h1 := turned_one hrb (by omega) (by omega) HXT.out.1 hne
          have hlF : ((frame r).set (4 + q) vv).length = 8 + l3 := by rw [List.length_set, frame_length, hrl]
          have hbyF : ∀ c ∈ (frames zss).set K vv, Byte c := fun c hc => (List.mem_or_eq_of_mem_set hc).elim (frames_byte HBY.out c) (fun h => by rw [h]; exact HXT.out.1)
          obtain ⟨aX, cX, hvX, hcX⟩ := own_came hset.1 hbyF
          cases hvX
          rw [htl.1] at hcX
          have HCX := Lib.hid hcX
          have HSC : Hid (scan (frames (zss.take i) ++ ((frame r).set (4 + q) vv ++ frames (zss.drop (i + 1)))) = zss.take i) := by
            show scan _ = _
            rw [scan_frames (fun r hr => HS.out r (List.mem_of_mem_take hr)), scan_none hw, List.append_nil]
          have HDT : Hid (((frames (zss.take i) ++ ((frame r).set (4 + q) vv ++ frames (zss.drop (i + 1)))).drop m).take (8 + l3) = (frame r).set (4 + q) vv) := by
            show _ = _
            have e1 : m = (frames (zss.take i)).length := by rw [frames_length]; exact HMM.out
            rw [e1, List.drop_left, ← hlF, List.take_left]
          have HON := Lib.hid h1
          have hTl : T ≤ 3080 := by omega
          have hcl := hcX.le
          clear hset hX htl hr hrb hrl hne hw h1 hlF hbyF hcX hc4' hf'
          refine hKK.out _ _ (by simp) ?_
          clear hKK KK
          try simp only [Act.put, List.setIfInBounds_toArray, List.set_cons_zero, List.set_cons_succ]
          refine anyS_done (by kernel_rfl) ?_ _
          refine NoPanic.normal ?_
          clear hc1 hf1 hKe hb0 hb1
          go_wp2_with fail
          refine (scanp_any HCX.out (HLA.out.keep HBX.out) (by omega)).mono ?_
          rintro _ w5 ⟨v, vs, rfl, hr, hb⟩
          rw [HSC.out] at hr ⊢
          rw [← HMM.out]
          obtain ⟨a13, c13, rfl, hmt⟩ := hr.mat
          have hti : (zss.take i).length = i := by rw [List.length_take, HM.out.sz]; omega
          rw [hti] at hmt ⊢
          have HMT := Lib.hid hmt
          have HB5 := Lib.hid (HBX.out.trans (hb.mono HBX.out.size))
          have HC5 := Lib.hid (HCX.out.below hb)
          have hcell5 : w5.cell? (ad.add i) = some (.slice b3 l3 c3) := by rw [HB5.out.cell (World.block_lt_of_cell? w _ HCELL.out)]; exact HCELL.out
          have hsl : ∀ w, (Instr.sliceAt 22 (.slice (some ⟨g, 0, none⟩) T c2) (some (.int .i64 (m : Int))) (some (.int .i64 ((m : Int) + 8 + (l3 : Int)))) none).run Tryd.prog w = .ok (.slice (cutAt (some ⟨g, 0, none⟩) c2 m) (8 + l3) (c2 - m)) w := fun w => by
            have h := slice_mid22 (some ⟨g, 0, none⟩) T c2 m (m + (8 + l3)) (by omega) (by omega) m ((m : Int) + 8 + (l3 : Int)) rfl (by omega) w
            rwa [Nat.add_sub_cancel_left] at h
          have hcs := came_sub HC5.out m (8 + l3) (by omega)
          rw [HDT.out] at hcs
          obtain ⟨a6, ha6⟩ : ∃ a, a = cutAt (some ⟨g, 0, none⟩) c2 m := ⟨_, rfl⟩
          rw [← ha6] at hsl hcs
          have HCS := Lib.hid hcs
          clear hr hb hmt hti hcs ha6 HC5 HCX hcell'
          go_wp2_with fail
          refine (onep_any HCS.out (HLA.out.keep HB5.out)).mono ?_
          rintro _ w6 ⟨v6, rfl, ho6, hb6⟩
          rw [HON.out]
          have HB6 := Lib.hid (HB5.out.trans (hb6.mono HB5.out.size))
          have HMT6 := Lib.hid (HMT.out.below hb6)
          have HM6 := Lib.hid (mat_take (HM.out.below HB6.out) i (by omega))
          have hle := HM.out.le
          have hs32 : ∀ w, (Instr.sliceAt 32 (.slice (some ad) len0 cap0) none (some (.int .i64 (i : Int))) none).run Tryd.prog w = .ok (.slice (some ad) i cap0) w := fun w => slice_to32 (some ad) len0 cap0 i (by omega) i rfl w
          clear ho6 hb6 hsl hcell5 HCS HB5 HMT
          go_wp2_with fail
          refine (rows_true HMT6.out HM6.out).mono ?_
          rintro _ w7 ⟨rfl, k7, hk7⟩
          have HB7 : Hid (Below w.heap.size w w7) := by rw [hk7]; exact below_drewN HB6.out _
          clear hk7 hs32
          go_wp2_with fail
          go_ret
          exact ⟨rfl, HB7.out⟩
end Go.Proofs.YtbgaekokjkdpiaaDoor
