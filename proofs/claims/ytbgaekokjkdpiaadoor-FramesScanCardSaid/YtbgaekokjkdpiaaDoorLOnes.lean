/- FramesOnes: the walk. -/
import Derived.Test.YtbgaekokjkdpiaaDoorSet
import Derived.Test.YtbgaekokjkdpiaaDoorLBack
namespace Go.Proofs.YtbgaekokjkdpiaaDoor
open Go.RowKit Frm
set_option linter.unusedVariables false
set_option linter.unusedSimpArgs false

theorem front_cut {b : List Int} (h : b.length ≤ 4194304) {k : Nat} (hk : k < 8 + b.length) : oneE ((frame b).take k) = 8 ∧ oneR ((frame b).take k) = [] := by
  have hl : ((frame b).take k).length = k := by rw [List.length_take, frame_length]; omega
  have e : oneE ((frame b).take k) = 8 := by
    unfold oneE
    rw [hl]
    by_cases h8 : k < 8
    · rw [if_pos h8]
    · have hn : num ((frame b).take k) = b.length := by
        rw [num_take (by omega)]
        have h1 := frame_num (b := b) (by omega) []
        rwa [List.append_nil] at h1
      rw [hn, if_neg h8, if_neg (by omega), if_pos hk]
  exact ⟨e, by unfold oneR; rw [e, if_neg (by omega)]⟩

theorem more_long {b s : List Int} (h : b.length ≤ 4194304) (hs : 0 < s.length) : oneE (frame b ++ s) = 9 ∧ oneR (frame b ++ s) = [] := by
  have e : oneE (frame b ++ s) = 9 := by
    unfold oneE
    rw [frame_num (by omega), List.length_append, frame_length, if_neg (by omega), if_neg (by omega), if_neg (by omega), if_pos (by omega)]
  exact ⟨e, by unfold oneR; rw [e, if_neg (by omega)]⟩

theorem long_set {b : List Int} (hb : ∀ c ∈ b, Byte c) {x : Int} (hx : 1 ≤ x ∧ x < 256) : oneE ((frame b).set 3 x) = 5 ∧ oneR ((frame b).set 3 x) = [] ∧ whole ((frame b).set 3 x) = false := by
  have hl : ((frame b).set 3 x).length = 8 + b.length := by rw [List.length_set, frame_length]
  have hn : 4194304 < num ((frame b).set 3 x) := by
    unfold num
    have h3 : 3 < (frame b).length := by rw [frame_length]; omega
    have e3 : ((frame b).set 3 x).getD 3 0 = x := by simp [List.getD, h3]
    rw [e3]
    omega
  have e : oneE ((frame b).set 3 x) = 5 := by
    unfold oneE
    rw [hl, if_neg (by omega), if_pos hn]
  exact ⟨e, by unfold oneR; rw [e, if_neg (by omega)], not_whole (by omega)⟩

set_option maxRecDepth 100000 in
set_option maxHeartbeats 8000000 in
theorem lones_any (a0 : Option Addr) (len0 cap0 : Nat) (z : List Int) (ct : Int) (a2 : Option Addr) (len2 cap2 : Nat) (y : List Int) (w : World) (hcame : Came w a0 len0 cap0 z) (hct : I64 ct) (hmore : Came w a2 len2 cap2 y) (hlaid : Laid w) :
    Calls Tryd.prog 8 #[.slice a0 len0 cap0, .int .i64 ct, .slice a2 len2 cap2] w fun e w' => e = .returned (.bool true) ∧ Below w.heap.size w w' := by
  obtain ⟨i0, hi, hz0, hz1, hz2⟩ := info_parts Tryd.infoByte
  have HC := Lib.hid hcame
  have HY := Lib.hid hmore
  have HLA := Lib.hid hlaid
  have HZ := Lib.hid hcame.reads.1
  have HYL := Lib.hid hmore.reads.1
  clear hcame hlaid hmore hct
  go_enter Tryd.func8, Tryd.ntmps8
  go_wp2_with fail
  refine (known_any w HLA.out).mono ?_
  rintro _ w1 ⟨rfl, hb1⟩
  have HB1 := Lib.hid hb1
  clear hb1
  by_cases hbig : 300 < len0
  · go_wp2_with fail
    go_ret
    exact ⟨rfl, HB1.out⟩
  · by_cases hbig2 : 50 < len2
    · go_wp2_with fail
      go_ret
      exact ⟨rfl, HB1.out⟩
    · have HC1 := Lib.hid (HC.out.below HB1.out)
      go_wp2_with fail
      refine (frame_any a0 len0 cap0 z w1 HC1.out (by omega) (HLA.out.keep HB1.out)).mono ?_
      rintro _ w2 ⟨v, rfl, ho, hb⟩
      obtain ⟨b3, c3, rfl, hcv⟩ := own_came ho (frame_byte HC.out.bytes)
      have HB2 := Lib.hid (HB1.out.trans (hb.mono HB1.out.size))
      obtain ⟨L, hL⟩ : ∃ L, L = 8 + len0 := ⟨_, rfl⟩
      rw [← hL] at hcv ⊢
      have HX := Lib.hid hcv
      have hL8 : 8 ≤ L := by omega
      have hL3 : L ≤ 308 := by omega
      have HL := Lib.hid hL
      clear ho hb hcv HC1 hL
      go_wp2_with fail
      refine (within_any ct L w2 (by omega) (by omega)).mono ?_
      rintro _ _ ⟨rfl, rfl⟩
      have hk0 : 0 ≤ ct % (L : Int) := Int.emod_nonneg _ (by omega)
      have hk1 : ct % (L : Int) < (L : Int) := Int.emod_lt_of_pos _ (by omega)
      obtain ⟨kN, hkN⟩ : ∃ kN : Nat, ct % (L : Int) = (kN : Int) := ⟨(ct % (L : Int)).toNat, by omega⟩
      rw [hkN]
      rw [hkN] at hk0 hk1
      have hkl : kN < L := by omega
      have hle := HX.out.le
      have hsl : ∀ w, (Instr.sliceAt 22 (.slice b3 L c3) none (some (.int .i64 (kN : Int))) none).run Tryd.prog w = .ok (.slice b3 kN c3) w := fun w => slice_to22 b3 L c3 kN (by omega) kN rfl w
      have HT := Lib.hid (came_take HX.out kN (by omega))
      clear hkN hk0 hk1
      go_wp2_with fail
      refine (onep_any HT.out (HLA.out.keep HB2.out)).mono ?_
      rintro _ w3 ⟨v, rfl, ho, hb⟩
      have hfc := front_cut (b := z) (by rw [HZ.out]; omega) (k := kN) (by rw [HZ.out, ← HL.out]; exact hkl)
      rw [hfc.1]
      have HB3 := Lib.hid (HB2.out.trans (hb.mono HB2.out.size))
      have HX3 := Lib.hid (HX.out.below hb)
      clear ho hb hfc HT HX hsl
      have HM3 := Lib.hid (World.ownsRow_made (base := w3.heap.size) (e := 5) (size := 1) w3 #[] 0 (Nat.le_refl _) (by unfold maxLen; omega) rfl)
      have HBa : Hid (Below w3.heap.size w3 (w3.alloc (.cells #[] 5))) := (Below.refl _ _).alloc (Nat.le_refl _) _
      have HXa := Lib.hid (HX3.out.below HBa.out)
      go_wp2_with (at_builtin; go_must (refine wpList_append_reads rfl _ _ 22 rfl w3.heap.size 5 i0 Tryd.underlying22 hi hz0 hz1 hz2 _ 0 [] rfl HM3.out b3 L c3 (frame z) rfl HXa.out.reads HXa.out.nil ?d4 ?d5 ?_))
      case d4 => omega
      case d5 => exact HBa.out.size
      try rw [Nat.zero_add, List.nil_append]
      intro v5 w5 ho5 hg5
      have HB5 := Lib.hid (HBa.out.grown hg5 HBa.out.size (fun k hk => (HM3.out.lt k hk).1))
      have HO5 := Lib.hid ho5
      have HY5 := Lib.hid (HY.out.below (HB3.out.trans (HB5.out.mono HB3.out.size)))
      clear ho5 hg5 HBa HM3 HXa
      go_wp2_with (at_builtin; go_must (refine wpList_append_reads rfl _ _ 22 rfl w3.heap.size 5 i0 Tryd.underlying22 hi hz0 hz1 hz2 _ L (frame z) rfl HO5.out a2 len2 cap2 y rfl HY5.out.reads HY5.out.nil ?d4 ?d5 ?_))
      case d4 => omega
      case d5 => exact HB5.out.size
      intro v6 w6 ho6 hg6
      have HB6 := Lib.hid (HB5.out.grown hg6 HB5.out.size (fun k hk => (HO5.out.lt k hk).1))
      have hby6 : ∀ c ∈ frame z ++ y, Byte c := fun c hc => (List.mem_append.1 hc).elim (frame_byte HC.out.bytes c) (HY.out.bytes c)
      obtain ⟨b6, c6, rfl, hc6⟩ := own_came ho6 hby6
      have HC6 := Lib.hid hc6
      have HX6 := Lib.hid (HX3.out.below HB6.out)
      have HW6 := Lib.hid (HB3.out.trans (HB6.out.mono HB3.out.size))
      have HF : Hid (oneE (frame z ++ y) = if len2 = 0 then 0 else 9) := by
        by_cases h0 : len2 = 0
        · have hy : y = [] := List.eq_nil_of_length_eq_zero (by rw [HYL.out, h0])
          rw [if_pos h0, hy, List.append_nil]
          exact (one_frame (by rw [HZ.out]; omega)).1
        · rw [if_neg h0]
          exact (more_long (by rw [HZ.out]; omega) (by rw [HYL.out]; omega)).1
      clear ho6 hg6 hby6 hc6 HO5 HY5 HB5 HX3 HB6
      go_wp2_with fail
      refine (onep_any HC6.out (HLA.out.keep HW6.out)).mono ?_
      rintro _ w7 ⟨v, rfl, ho, hb⟩
      obtain ⟨f, hf⟩ : ∃ f, f = oneE (frame z ++ y) := ⟨_, rfl⟩
      rw [← hf] at HF ⊢
      have HB7 := Lib.hid (HW6.out.trans (hb.mono HW6.out.size))
      have HX7 := Lib.hid (HX6.out.below hb)
      clear ho hb hf HC6 HX6
      have HM7 := Lib.hid (World.ownsRow_made (base := w7.heap.size) (e := 5) (size := 1) w7 #[] 0 (Nat.le_refl _) (by unfold maxLen; omega) rfl)
      have HBb : Hid (Below w7.heap.size w7 (w7.alloc (.cells #[] 5))) := (Below.refl _ _).alloc (Nat.le_refl _) _
      have HXb := Lib.hid (HX7.out.below HBb.out)
      go_wp2_with (at_builtin; go_must (refine wpList_append_reads rfl _ _ 22 rfl w7.heap.size 5 i0 Tryd.underlying22 hi hz0 hz1 hz2 _ 0 [] rfl HM7.out b3 L c3 (frame z) rfl HXb.out.reads HXb.out.nil ?d4 ?d5 ?_))
      case d4 => omega
      case d5 => exact HBb.out.size
      try rw [Nat.zero_add, List.nil_append]
      intro v8 w8 ho8 hg8
      have HB8 := Lib.hid (HBb.out.grown hg8 HBb.out.size (fun k hk => (HM7.out.lt k hk).1))
      obtain ⟨g8, c8, rfl⟩ := own_form ho8 (by omega)
      have HO8 := Lib.hid ho8
      have HAT := own_at ho8 (show 3 < L by omega)
      have hcell := HAT.1
      have hfz := HAT.2
      clear ho8 hg8 HBb HM7 HXb HAT
      go_wp2_with fail
      refine (within_any ct 255 w8 (by omega) (by omega)).mono ?_
      rintro _ _ ⟨rfl, rfl⟩
      have hm0 : 0 ≤ ct % 255 := Int.emod_nonneg _ (by omega)
      have hm1 : ct % 255 < 255 := Int.emod_lt_of_pos _ (by omega)
      obtain ⟨x, hx⟩ : ∃ x, x = ct % 255 := ⟨_, rfl⟩
      rw [← hx] at hm0 hm1 ⊢
      clear hx
      go_wp2_with fail
      have hset := own_set (i := 3) HO8.out (1 + x)
      obtain ⟨X9, hX9⟩ : ∃ X, X = w8.setCell ⟨g8, 3, none⟩ (.int .u8 (1 + x)) := ⟨_, rfl⟩
      rw [← hX9] at hset ⊢
      have HB9 : Hid (Below w.heap.size w X9) := HB7.out.trans ((Below.step HB8.out hset.2.1 hset.2.2 (Nat.le_refl _)).mono HB7.out.size)
      have hby9 : ∀ c ∈ (frame z).set 3 (1 + x), Byte c := fun c hc => (List.mem_or_eq_of_mem_set hc).elim (frame_byte HC.out.bytes c) (fun h => by rw [h]; exact ⟨by omega, by omega⟩)
      obtain ⟨a9, c9, hv9, hc9⟩ := own_came hset.1 hby9
      cases hv9
      have HC9 := Lib.hid hc9
      have hls := long_set (b := z) HC.out.bytes (x := 1 + x) (by omega)
      have HLS := Lib.hid hls
      clear hset hX9 hby9 hc9 hls HO8 HB8 HB7 hcell hfz
      refine (onep_any HC9.out (HLA.out.keep HB9.out)).mono ?_
      rintro _ w10 ⟨v10, rfl, ho, hb⟩
      rw [HLS.out.1]
      have HB10 := Lib.hid (HB9.out.trans (hb.mono HB9.out.size))
      have HC10 := Lib.hid (HC9.out.below hb)
      clear ho hb HC9 HB9
      go_wp2_with fail
      refine (scanp_any HC10.out (HLA.out.keep HB10.out) (by omega)).mono ?_
      rintro _ w11 ⟨v, vs, rfl, hr, hb⟩
      rw [scan_none HLS.out.2.2] at hr ⊢
      obtain ⟨a11, c11, rfl, -⟩ := hr.mat
      have HB11 := Lib.hid (HB10.out.trans (hb.mono HB10.out.size))
      rw [show ((bulk [] : Nat) : Int) = 0 from rfl, show ([] : List (List Int)).length = 0 from rfl]
      clear hr hb HC10 HLS
      by_cases hm : len2 = 0
      · have hF := HF.out
        rw [if_pos hm] at hF
        subst hF
        subst hm
        go_wp2_with fail
        go_ret
        exact ⟨rfl, HB11.out⟩
      · have hF := HF.out
        rw [if_neg hm] at hF
        subst hF
        have hm2 : decide ((len2 : Int) = 0) = false := decide_eq_false (by omega)
        have hm3 : ((len2 : Int) == 0) = false := by simp; omega
        go_wp2_with fail
        go_ret
        exact ⟨by simp [hm], HB11.out⟩
end Go.Proofs.YtbgaekokjkdpiaaDoor
