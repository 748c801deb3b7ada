/- FramesWrite: the walk. -/
import Derived.Test.YtbgaekokjkdpiaaDoorPick
namespace Go.Proofs.YtbgaekokjkdpiaaDoor
open Go.RowKit Frm
set_option linter.unusedVariables false
set_option linter.unusedSimpArgs false

theorem crc_same (c : W) (w : World) : (binOp .neq 29 (.int .u32 (c.toNat : Int)) (.int .u32 (c.toNat : Int))).run Tryd.prog w = .ok (.bool false) w := by
  first | (simp [go_sem]; done) | (go_simp; done)

set_option maxRecDepth 100000 in
set_option maxHeartbeats 8000000 in
theorem lwrite_any (a0 : Option Addr) (len0 cap0 : Nat) (z : List Int) (at0 : Int) (by0 : Int) (ct : Int) (w : World) (hcame : Came w a0 len0 cap0 z) (hat : I64 at0) (hby : Byte by0) (hct : I64 ct) (hlaid : Laid w) :
    Calls Tryd.prog 3 #[.slice a0 len0 cap0, .int .i64 at0, .int .u8 by0, .int .i64 ct] w fun e w' => e = .returned (.bool true) ∧ Below w.heap.size w w' := by
  obtain ⟨i0, hi, hz0, hz1, hz2⟩ := info_parts Tryd.infoByte
  have HC := Lib.hid hcame
  have HLA := Lib.hid hlaid
  have HZ := Lib.hid hcame.reads.1
  have HBY := Lib.hid hby
  clear hcame hlaid hat hby hct
  go_enter Tryd.func3, Tryd.ntmps3
  go_wp2_with fail
  refine (known_any w HLA.out).mono ?_
  rintro _ w1 ⟨rfl, hb1⟩
  have HB1 := Lib.hid hb1
  have HC1 := Lib.hid (HC.out.below hb1)
  clear hb1
  by_cases hbig : 3000 < len0
  · go_wp2_with fail
    go_ret
    exact ⟨rfl, HB1.out⟩
  · go_wp2_with fail
    refine (frame_any a0 len0 cap0 z w1 HC1.out (by omega) (HLA.out.keep HB1.out)).mono ?_
    rintro _ w2 ⟨v2, rfl, ho2, hb2⟩
    obtain ⟨b2, c2, rfl, hc2⟩ := own_came ho2 (frame_byte HC.out.bytes)
    obtain ⟨L, hL⟩ : ∃ L, L = 8 + len0 := ⟨_, rfl⟩
    rw [← hL] at hc2 ⊢
    have HX2 := Lib.hid hc2
    have HB2 := Lib.hid (HB1.out.trans (hb2.mono HB1.out.size))
    have HC2 := Lib.hid (HC.out.below HB2.out)
    clear ho2 hb2 hc2 HC1
    go_wp2_with fail
    refine (rframe_any a0 len0 cap0 z w2 HC2.out (by omega)).mono ?_
    rintro _ w3 ⟨v3, rfl, ho3, hb3⟩
    obtain ⟨b3, c3, rfl, hc3⟩ := own_came ho3 (frame_byte HC.out.bytes)
    rw [← hL] at hc3 ⊢
    have HX3 := Lib.hid hc3
    have HX23 := Lib.hid (HX2.out.below hb3)
    have HB3 := Lib.hid (HB2.out.trans (hb3.mono HB2.out.size))
    have HC3 := Lib.hid (HC.out.below HB3.out)
    have hL8 : 8 ≤ L := by omega
    have hL3 : L ≤ 3008 := by omega
    have HL := Lib.hid hL
    clear ho3 hb3 hc3 HX2 HC2 hL
    go_wp2_with fail
    refine (crc_any a0 len0 cap0 z w3 HC3.out.reads HC3.out.bytes (by omega) (HLA.out.keep HB3.out)).mono ?_
    rintro _ _ ⟨rfl, rfl⟩
    go_wp2_with fail
    refine (rcrc_any a0 len0 cap0 z w3 HC3.out.reads HC3.out.bytes (by omega)).mono ?_
    rintro _ _ ⟨rfl, rfl⟩
    have hq1 := crc_same (crc z)
    have hv1 := conv_reads HX23.out.reads c2
    have hv2 := conv_reads HX3.out.reads c3
    have hne := nums_neq (frame z)
    have HM3 := Lib.hid (World.ownsRow_made (base := w3.heap.size) (e := 5) (size := 1) w3 #[] 0 (Nat.le_refl _) (by unfold maxLen; omega) rfl)
    have HBa : Hid (Below w3.heap.size w3 (w3.alloc (.cells #[] 5))) := (Below.refl _ _).alloc (Nat.le_refl _) _
    have HXa := Lib.hid (HX3.out.below HBa.out)
    go_wp2_with (at_builtin; go_must (refine wpList_append_reads rfl _ _ 22 rfl w3.heap.size 5 i0 Tryd.underlying22 hi hz0 hz1 hz2 _ 0 [] rfl HM3.out b3 L c3 (frame z) rfl HXa.out.reads HXa.out.nil ?d4 ?d5 ?_))
    case d4 => omega
    case d5 => exact HBa.out.size
    try rw [Nat.zero_add, List.nil_append]
    intro v5 w5 ho5 hg5
    have HB5 := Lib.hid (HBa.out.grown hg5 HBa.out.size (fun k hk => (HM3.out.lt k hk).1))
    obtain ⟨g, c5, rfl⟩ := own_form ho5 (by omega)
    have HO5 := Lib.hid ho5
    clear ho5 hg5 HBa HM3 HXa hq1 hv1 hv2 hne
    go_wp2_with fail
    refine (within_any at0 L w5 (by omega) (by omega)).mono ?_
    rintro _ _ ⟨rfl, rfl⟩
    have hk0 : 0 ≤ at0 % (L : Int) := Int.emod_nonneg _ (by omega)
    have hk1 : at0 % (L : Int) < (L : Int) := Int.emod_lt_of_pos _ (by omega)
    obtain ⟨K, hK⟩ : ∃ K : Nat, at0 % (L : Int) = (K : Int) := ⟨(at0 % (L : Int)).toNat, by omega⟩
    rw [hK]
    rw [hK] at hk0 hk1
    have hkl : K < L := by omega
    have hat2 := own_at HO5.out hkl
    have hxb := getD_byte (frame_byte HC.out.bytes) K
    obtain ⟨x, hx⟩ : ∃ x, x = (frame z).getD K 0 := ⟨_, rfl⟩
    rw [← hx] at hat2 hxb
    have HXB := Lib.hid hxb
    have hc1 := hat2.1
    have hf1 := hat2.2
    clear hK hk0 hk1 hx hxb hat2
    go_wp2_with fail
    obtain ⟨vv, hvv⟩ : ∃ vv, vv = (x + by0) % 256 := ⟨_, rfl⟩
    rw [← hvv]
    have HVB : Hid (Byte vv) := by rw [hvv]; exact ⟨by omega, by omega⟩
    have hset := own_set (i := K) HO5.out vv
    obtain ⟨W, hW⟩ : ∃ X, X = w5.setCell ⟨g, K, none⟩ (.int .u8 vv) := ⟨_, rfl⟩
    rw [← hW] at hset ⊢
    have hbs : Below w3.heap.size w3 W := Below.step HB5.out hset.2.1 hset.2.2 (Nat.le_refl _)
    have HBW := Lib.hid (HB3.out.trans (hbs.mono HB3.out.size))
    have HYW := Lib.hid (HX3.out.below hbs)
    have hbyS : ∀ c ∈ (frame z).set K vv, Byte c := fun c hc => (List.mem_or_eq_of_mem_set hc).elim (frame_byte HC.out.bytes c) (fun h => by rw [h]; exact HVB.out)
    obtain ⟨aS, cS, hvS, hcS⟩ := own_came hset.1 hbyS
    cases hvS
    have HSW := Lib.hid hcS
    have hj0 : 0 ≤ ct % ((L : Int) + 1) := Int.emod_nonneg _ (by omega)
    have hj1 : ct % ((L : Int) + 1) < (L : Int) + 1 := Int.emod_lt_of_pos _ (by omega)
    obtain ⟨k2, hk2⟩ : ∃ k2 : Nat, ct % ((L : Int) + 1) = (k2 : Int) := ⟨(ct % ((L : Int) + 1)).toNat, by omega⟩
    rw [hk2] at hj0 hj1
    have hkl2 : k2 ≤ L := by omega
    have hle3 := HX3.out.le
    have hsl : ∀ w, (Instr.sliceAt 22 (.slice b3 L c3) none (some (.int .i64 (k2 : Int))) none).run Tryd.prog w = .ok (.slice b3 k2 c3) w := fun w => slice_to22 b3 L c3 k2 (by omega) k2 rfl w
    have HTW := Lib.hid (came_take HYW.out k2 hkl2)
    have HDW := Lib.hid (HC.out.below HBW.out)
    have hby14 : ∀ c ∈ frame z ++ [by0], Byte c := fun c hc => (List.mem_append.1 hc).elim (frame_byte HC.out.bytes c) (fun h => by rw [List.mem_singleton.1 h]; exact HBY.out)
    have HSL := Lib.hid hsl
    have HBY14 := Lib.hid hby14
    clear hvv hset hW hbs hbyS hcS hc1 hf1 hj0 hj1 hsl hby14 HX23 HB5 HO5
    go_upto_region 11 with (fail)
    go_cut [14] from 65 to 81 (fun t wx => ∃ gg, t = .slice (some ⟨gg, 0, none⟩) 5 5 ∧ Hid (Mat wx (some ⟨gg, 0, none⟩) 5 5 [frame z, (frame z).set K vv, (frame z).take k2, frame z ++ [by0], z]) ∧ Hid (Below w.heap.size w wx))
    case first =>
      have hsl := HSL.out
      have hby14 := HBY14.out
      have hwr : IntKind.i64.wrap ((L : Int) + 1) = (L : Int) + 1 := by first | go_num | (unfold IntKind.wrap; simp [IntKind.bits, IntKind.signed]; omega)
      refine anyS_start (by kernel_rfl) ?_
      have HB0 : Hid (Below W.heap.size W W.drew) := (Below.refl _ _).drew
      have HBW := Lib.hid (HBW.out.trans (HB0.out.mono HBW.out.size))
      have HY0 := Lib.hid (HYW.out.below HB0.out)
      have HS0 := Lib.hid (HSW.out.below HB0.out)
      have HT0 := Lib.hid (HTW.out.below HB0.out)
      have HD0 := Lib.hid (HDW.out.below HB0.out)
      clear HYW HSW HTW HDW HB0 HSL HBY14
      generalize W.drew = W0 at *
      have HBz : Hid (Below W0.heap.size W0 W0) := Below.refl _ _
      (refine anyS_free (i := 0) (v := ?_) rfl (by kernel_rfl) (by kernel_rfl) (by kernel_rfl) (fun _ _ _ h => h) (fun _ => by simp) (Or.inl ⟨by rfl, fun w' _ => ?_⟩) ?_; rotate_left; (· go_simp; try with_reducible rfl))
      try simp only [Act.put, List.setIfInBounds_toArray, List.set_cons_zero, List.set_cons_succ]
      (refine anyS_free (i := 1) (v := ?_) rfl (by kernel_rfl) (by kernel_rfl) (by kernel_rfl) (fun _ _ _ h => h) (fun _ => by simp) (Or.inl ⟨by rfl, fun w' _ => ?_⟩) ?_; rotate_left; (· go_simp; try with_reducible rfl))
      try simp only [Act.put, List.setIfInBounds_toArray, List.set_cons_zero, List.set_cons_succ]
      (refine anyS_free (i := 2) (v := ?_) rfl (by kernel_rfl) (by kernel_rfl) (by kernel_rfl) (fun _ _ _ h => h) (fun _ => by simp) (Or.inl ⟨by rfl, fun w' _ => ?_⟩) ?_; rotate_left; (· go_simp; try with_reducible rfl))
      try simp only [Act.put, List.setIfInBounds_toArray, List.set_cons_zero, List.set_cons_succ]
      (refine anyS_free (i := 3) (v := ?_) rfl (by kernel_rfl) (by kernel_rfl) (by kernel_rfl) (fun _ _ _ h => h) (fun _ => by simp) (Or.inl ⟨by rfl, fun w' _ => ?_⟩) ?_; rotate_left; (· go_simp; try with_reducible rfl))
      try simp only [Act.put, List.setIfInBounds_toArray, List.set_cons_zero, List.set_cons_succ]
      (refine anyS_free (i := 4) (v := ?_) rfl (by kernel_rfl) (by kernel_rfl) (by kernel_rfl) (fun _ _ _ h => h) (fun _ => by simp) (Or.inl ⟨by rfl, fun w' _ => ?_⟩) ?_; rotate_left; (· go_simp; try with_reducible rfl))
      try simp only [Act.put, List.setIfInBounds_toArray, List.set_cons_zero, List.set_cons_succ]
      (refine anyS_free (i := 5) (v := ?_) rfl (by kernel_rfl) (by kernel_rfl) (by kernel_rfl) (fun _ _ _ h => h) (fun _ => by simp) (Or.inl ⟨by rfl, fun w' _ => ?_⟩) ?_; rotate_left; (· go_simp; try with_reducible rfl))
      try simp only [Act.put, List.setIfInBounds_toArray, List.set_cons_zero, List.set_cons_succ]
      (refine anyS_free (i := 6) (v := ?_) rfl (by kernel_rfl) (by kernel_rfl) (by kernel_rfl) (fun _ _ _ h => h) (fun _ => by simp) (Or.inl ⟨by rfl, fun w' _ => ?_⟩) ?_; rotate_left; (· go_simp; try with_reducible rfl))
      try simp only [Act.put, List.setIfInBounds_toArray, List.set_cons_zero, List.set_cons_succ]
      (refine anyS_free (i := 10) (v := ?_) rfl (by kernel_rfl) (by kernel_rfl) (by kernel_rfl) (fun _ _ _ h => h) (fun _ => by simp) (Or.inl ⟨by rfl, fun w' _ => ?_⟩) ?_; rotate_left; (· go_simp; try with_reducible rfl))
      try simp only [Act.put, List.setIfInBounds_toArray, List.set_cons_zero, List.set_cons_succ]
      (refine anyS_free (i := 12) (v := ?_) rfl (by kernel_rfl) (by kernel_rfl) (by kernel_rfl) (fun _ _ _ h => h) (fun _ => by simp) (Or.inl ⟨by rfl, fun w' _ => ?_⟩) ?_; rotate_left; (· go_simp; try with_reducible rfl))
      try simp only [Act.put, List.setIfInBounds_toArray, List.set_cons_zero, List.set_cons_succ]
      (refine anyS_free (i := 15) (v := ?_) rfl (by kernel_rfl) (by kernel_rfl) (by kernel_rfl) (fun _ _ _ h => h) (fun _ => by simp) (Or.inl ⟨by rfl, fun w' _ => ?_⟩) ?_; rotate_left; (· go_simp; try with_reducible rfl))
      try simp only [Act.put, List.setIfInBounds_toArray, List.set_cons_zero, List.set_cons_succ]
      refine anyS_three 7 9 13 (by kernel_rfl) rfl rfl rfl (fun KK hKK => ?_) (fun KK hKK => ?_) (fun KK hKK => ?_)
      · go_simp
        go_at_call 14
        refine (within_any ct ((L : Int) + 1) _ (by omega) (by omega)).mono ?_
        rintro _ _ ⟨rfl, rfl⟩
        rw [hk2]
        refine hKK.out _ _ (by simp) ?_
        clear hKK KK
        try simp only [Act.put, List.setIfInBounds_toArray, List.set_cons_zero, List.set_cons_succ]
        (refine anyS_free (i := 8) (v := ?_) rfl (by kernel_rfl) (by kernel_rfl) (by kernel_rfl) (fun _ _ _ h => h) (fun _ => by simp) (Or.inl ⟨by rfl, fun w' _ => ?_⟩) ?_; rotate_left; (· go_simp; try with_reducible rfl))
        try simp only [Act.put, List.setIfInBounds_toArray, List.set_cons_zero, List.set_cons_succ]
        refine anyS_two 9 13 (by kernel_rfl) rfl rfl (fun KK hKK => ?_) (fun KK hKK => ?_)
        · go_simp
          have M9_2 := Lib.hid (World.ownsRow_made (base := W0.heap.size) (e := 5) (size := 1) W0 #[] 0 HBz.out.size (by unfold maxLen; omega) rfl)
          have HBs2 : Hid (Below W0.heap.size W0 (W0.alloc (.cells #[] 5))) := (Below.refl _ _).alloc (Nat.le_refl _) _
          have HB2 := Lib.hid (HBz.out.trans (HBs2.out.mono HBz.out.size))
          obtain ⟨V2, hV2⟩ : ∃ X, X = W0.alloc (.cells #[] 5) := ⟨_, rfl⟩
          rw [← hV2] at M9_2 HB2 ⊢
          clear HBs2 hV2
          refine hKK.out _ _ (by simp) ?_
          clear hKK KK
          try simp only [Act.put, List.setIfInBounds_toArray, List.set_cons_zero, List.set_cons_succ]
          refine anyS_two 11 13 (by kernel_rfl) rfl rfl (fun KK hKK => ?_) (fun KK hKK => ?_)
          · have HYc := HY0.out.below HB2.out
            refine step_append_opt rfl (.tmp 74) (.tmp 75) 22 rfl W0.heap.size 5 i0 Tryd.underlying22 hi hz0 hz1 hz2 _ 0 [] rfl M9_2.out _ L c3 (frame z) rfl HYc.reads HYc.nil (by omega) HB2.out.size ?_
            intro v11 V3 ho3 hg3
            rw [Nat.zero_add, List.nil_append] at ho3
            have HB3 := Lib.hid (HB2.out.grown hg3 HB2.out.size (fun k hk => (M9_2.out.lt k hk).1))
            have O11_3 := Lib.hid ho3
            refine hKK.out _ _ (by simp) ?_
            clear hKK KK ho3 hg3
            try simp only [Act.put, List.setIfInBounds_toArray, List.set_cons_zero, List.set_cons_succ]
            refine anyS_one 13 (by kernel_rfl) rfl (fun KK hKK => ?_)
            go_simp
            have R13_4 : Hid (Reads (V3.alloc (.cells #[.int .u8 by0] 5)) (some ⟨V3.heap.size, 0, none⟩) 1 [by0]) := ⟨rfl, fun _ => ⟨_, rfl, one_new V3 by0⟩⟩
            have HBs4 : Hid (Below V3.heap.size V3 (V3.alloc (.cells #[.int .u8 by0] 5))) := (Below.refl _ _).alloc (Nat.le_refl _) _
            have HB4 := Lib.hid (HB3.out.trans (HBs4.out.mono HB3.out.size))
            have O11_4 := Lib.hid (own_later O11_3.out HBs4.out)
            obtain ⟨V4, hV4⟩ : ∃ X, X = V3.alloc (.cells #[.int .u8 by0] 5) := ⟨_, rfl⟩
            rw [← hV4] at O11_4 R13_4 HB4 ⊢
            clear HBs4 hV4
            refine hKK.out _ _ (by simp) ?_
            clear hKK KK
            try simp only [Act.put, List.setIfInBounds_toArray, List.set_cons_zero, List.set_cons_succ]
            refine anyS_one 14 (by kernel_rfl) rfl (fun KK hKK => ?_)
            refine step_append_opt rfl (.tmp 76) (.tmp 78) 22 rfl W0.heap.size 5 i0 Tryd.underlying22 hi hz0 hz1 hz2 _ L (frame z) rfl O11_4.out _ 1 1 [by0] rfl R13_4.out (fun h => by cases h) (by omega) HB4.out.size ?_
            intro v14 V5 ho5 hg5
            have HB5 := Lib.hid (HB4.out.grown hg5 HB4.out.size (fun k hk => (O11_4.out.lt k hk).1))
            have O14_5 := Lib.hid ho5
            refine hKK.out _ _ (by simp) ?_
            clear hKK KK ho5 hg5
            try simp only [Act.put, List.setIfInBounds_toArray, List.set_cons_zero, List.set_cons_succ]
            refine anyS_one 16 (by kernel_rfl) rfl (fun KK hKK => ?_)
            obtain ⟨a14, c14, hv14, hc14⟩ := own_came O14_5.out hby14
            subst hv14
            go_simp
            have M16 := Lib.hid (mat_new5 (HY0.out.below HB5.out) (HS0.out.below HB5.out) (HT0.out.below HB5.out) hc14 (HD0.out.below HB5.out))
            have HBs6 : Hid (Below V5.heap.size V5 (V5.alloc (.cells #[.slice b3 L c3, .slice (some ⟨g, 0, none⟩) L c5, .slice b3 k2 c3, .slice a14 (L + 1) c14, .slice a0 len0 cap0] 22))) := (Below.refl _ _).alloc (Nat.le_refl _) _
            have HB6 := Lib.hid (HB5.out.trans (HBs6.out.mono HB5.out.size))
            have O14_6 := Lib.hid (own_later O14_5.out HBs6.out)
            obtain ⟨V6, hV6⟩ : ∃ X, X = V5.alloc (.cells #[.slice b3 L c3, .slice (some ⟨g, 0, none⟩) L c5, .slice b3 k2 c3, .slice a14 (L + 1) c14, .slice a0 len0 cap0] 22) := ⟨_, rfl⟩
            rw [← hV6] at O14_6 HB6 M16 ⊢
            clear HBs6 hV6
            refine hKK.out _ _ (by simp) ?_
            clear hKK KK
            try simp only [Act.put, List.setIfInBounds_toArray, List.set_cons_zero, List.set_cons_succ]
            (refine anyS_free (i := 17) (v := ?_) rfl (by kernel_rfl) (by kernel_rfl) (by kernel_rfl) (fun _ _ _ h => h) (fun _ => by simp) (Or.inl ⟨by rfl, fun w' _ => ?_⟩) ?_; rotate_left; (· go_simp; try with_reducible rfl))
            try simp only [Act.put, List.setIfInBounds_toArray, List.set_cons_zero, List.set_cons_succ]
            refine anyS_done (by kernel_rfl) ?_ _
            refine NoPanic.normal ?_
            go_wp2_with fail
            go_meet
            case rel => exact ⟨_, rfl, M16, HBW.out.trans (HB6.out.mono HBW.out.size)⟩
          · go_simp
            have NE_7 : Hid (W0.heap.size ≠ V2.heap.size) := Nat.ne_of_lt (M9_2.out.lt _ rfl).2
            have R13_7 : Hid (Reads (V2.alloc (.cells #[.int .u8 by0] 5)) (some ⟨V2.heap.size, 0, none⟩) 1 [by0]) := ⟨rfl, fun _ => ⟨_, rfl, one_new V2 by0⟩⟩
            have HBs7 : Hid (Below V2.heap.size V2 (V2.alloc (.cells #[.int .u8 by0] 5))) := (Below.refl _ _).alloc (Nat.le_refl _) _
            have HB7 := Lib.hid (HB2.out.trans (HBs7.out.mono HB2.out.size))
            have M9_7 := Lib.hid (own_later M9_2.out HBs7.out)
            obtain ⟨V7, hV7⟩ : ∃ X, X = V2.alloc (.cells #[.int .u8 by0] 5) := ⟨_, rfl⟩
            rw [← hV7] at M9_7 R13_7 HB7 ⊢
            clear HBs7 hV7
            refine hKK.out _ _ (by simp) ?_
            clear hKK KK
            try simp only [Act.put, List.setIfInBounds_toArray, List.set_cons_zero, List.set_cons_succ]
            refine anyS_one 11 (by kernel_rfl) rfl (fun KK hKK => ?_)
            have HYc := HY0.out.below HB7.out
            refine step_append_opt rfl (.tmp 74) (.tmp 75) 22 rfl W0.heap.size 5 i0 Tryd.underlying22 hi hz0 hz1 hz2 _ 0 [] rfl M9_7.out _ L c3 (frame z) rfl HYc.reads HYc.nil (by omega) HB7.out.size ?_
            intro v11 V8 ho8 hg8
            rw [Nat.zero_add, List.nil_append] at ho8
            have HB8 := Lib.hid (HB7.out.grown hg8 HB7.out.size (fun k hk => (M9_7.out.lt k hk).1))
            have R13_8 : Hid (Reads V8 (some ⟨V2.heap.size, 0, none⟩) 1 [by0]) := reads_grown R13_7.out hg8 (fun h => NE_7.out (Option.some.inj h).symm)
            have O11_8 := Lib.hid ho8
            refine hKK.out _ _ (by simp) ?_
            clear hKK KK ho8 hg8
            try simp only [Act.put, List.setIfInBounds_toArray, List.set_cons_zero, List.set_cons_succ]
            refine anyS_one 14 (by kernel_rfl) rfl (fun KK hKK => ?_)
            refine step_append_opt rfl (.tmp 76) (.tmp 78) 22 rfl W0.heap.size 5 i0 Tryd.underlying22 hi hz0 hz1 hz2 _ L (frame z) rfl O11_8.out _ 1 1 [by0] rfl R13_8.out (fun h => by cases h) (by omega) HB8.out.size ?_
            intro v14 V9 ho9 hg9
            have HB9 := Lib.hid (HB8.out.grown hg9 HB8.out.size (fun k hk => (O11_8.out.lt k hk).1))
            have O14_9 := Lib.hid ho9
            refine hKK.out _ _ (by simp) ?_
            clear hKK KK ho9 hg9
            try simp only [Act.put, List.setIfInBounds_toArray, List.set_cons_zero, List.set_cons_succ]
            refine anyS_one 16 (by kernel_rfl) rfl (fun KK hKK => ?_)
            obtain ⟨a14, c14, hv14, hc14⟩ := own_came O14_9.out hby14
            subst hv14
            go_simp
            have M16 := Lib.hid (mat_new5 (HY0.out.below HB9.out) (HS0.out.below HB9.out) (HT0.out.below HB9.out) hc14 (HD0.out.below HB9.out))
            have HBs10 : Hid (Below V9.heap.size V9 (V9.alloc (.cells #[.slice b3 L c3, .slice (some ⟨g, 0, none⟩) L c5, .slice b3 k2 c3, .slice a14 (L + 1) c14, .slice a0 len0 cap0] 22))) := (Below.refl _ _).alloc (Nat.le_refl _) _
            have HB10 := Lib.hid (HB9.out.trans (HBs10.out.mono HB9.out.size))
            have O14_10 := Lib.hid (own_later O14_9.out HBs10.out)
            obtain ⟨V10, hV10⟩ : ∃ X, X = V9.alloc (.cells #[.slice b3 L c3, .slice (some ⟨g, 0, none⟩) L c5, .slice b3 k2 c3, .slice a14 (L + 1) c14, .slice a0 len0 cap0] 22) := ⟨_, rfl⟩
            rw [← hV10] at O14_10 HB10 M16 ⊢
            clear HBs10 hV10
            refine hKK.out _ _ (by simp) ?_
            clear hKK KK
            try simp only [Act.put, List.setIfInBounds_toArray, List.set_cons_zero, List.set_cons_succ]
            (refine anyS_free (i := 17) (v := ?_) rfl (by kernel_rfl) (by kernel_rfl) (by kernel_rfl) (fun _ _ _ h => h) (fun _ => by simp) (Or.inl ⟨by rfl, fun w' _ => ?_⟩) ?_; rotate_left; (· go_simp; try with_reducible rfl))
            try simp only [Act.put, List.setIfInBounds_toArray, List.set_cons_zero, List.set_cons_succ]
            refine anyS_done (by kernel_rfl) ?_ _
            refine NoPanic.normal ?_
            go_wp2_with fail
            go_meet
            case rel => exact ⟨_, rfl, M16, HBW.out.trans (HB10.out.mono HBW.out.size)⟩
        · go_simp
          have R13_11 : Hid (Reads (W0.alloc (.cells #[.int .u8 by0] 5)) (some ⟨W0.heap.size, 0, none⟩) 1 [by0]) := ⟨rfl, fun _ => ⟨_, rfl, one_new W0 by0⟩⟩
          have HBs11 : Hid (Below W0.heap.size W0 (W0.alloc (.cells #[.int .u8 by0] 5))) := (Below.refl _ _).alloc (Nat.le_refl _) _
          have HB11 := Lib.hid (HBz.out.trans (HBs11.out.mono HBz.out.size))
          obtain ⟨V11, hV11⟩ : ∃ X, X = W0.alloc (.cells #[.int .u8 by0] 5) := ⟨_, rfl⟩
          rw [← hV11] at R13_11 HB11 ⊢
          clear HBs11 hV11
          refine hKK.out _ _ (by simp) ?_
          clear hKK KK
          try simp only [Act.put, List.setIfInBounds_toArray, List.set_cons_zero, List.set_cons_succ]
          refine anyS_one 9 (by kernel_rfl) rfl (fun KK hKK => ?_)
          go_simp
          have NE_12 : Hid (V11.heap.size ≠ W0.heap.size) := (Nat.ne_of_lt (reads_lt R13_11.out (by omega))).symm
          have M9_12 := Lib.hid (World.ownsRow_made (base := W0.heap.size) (e := 5) (size := 1) V11 #[] 0 HB11.out.size (by unfold maxLen; omega) rfl)
          have HBs12 : Hid (Below V11.heap.size V11 (V11.alloc (.cells #[] 5))) := (Below.refl _ _).alloc (Nat.le_refl _) _
          have HB12 := Lib.hid (HB11.out.trans (HBs12.out.mono HB11.out.size))
          have R13_12 := Lib.hid (R13_11.out.below HBs12.out)
          obtain ⟨V12, hV12⟩ : ∃ X, X = V11.alloc (.cells #[] 5) := ⟨_, rfl⟩
          rw [← hV12] at M9_12 R13_12 HB12 ⊢
          clear HBs12 hV12
          refine hKK.out _ _ (by simp) ?_
          clear hKK KK
          try simp only [Act.put, List.setIfInBounds_toArray, List.set_cons_zero, List.set_cons_succ]
          refine anyS_one 11 (by kernel_rfl) rfl (fun KK hKK => ?_)
          have HYc := HY0.out.below HB12.out
          refine step_append_opt rfl (.tmp 74) (.tmp 75) 22 rfl W0.heap.size 5 i0 Tryd.underlying22 hi hz0 hz1 hz2 _ 0 [] rfl M9_12.out _ L c3 (frame z) rfl HYc.reads HYc.nil (by omega) HB12.out.size ?_
          intro v11 V13 ho13 hg13
          rw [Nat.zero_add, List.nil_append] at ho13
          have HB13 := Lib.hid (HB12.out.grown hg13 HB12.out.size (fun k hk => (M9_12.out.lt k hk).1))
          have R13_13 : Hid (Reads V13 (some ⟨W0.heap.size, 0, none⟩) 1 [by0]) := reads_grown R13_12.out hg13 (fun h => NE_12.out (Option.some.inj h).symm)
          have O11_13 := Lib.hid ho13
          refine hKK.out _ _ (by simp) ?_
          clear hKK KK ho13 hg13
          try simp only [Act.put, List.setIfInBounds_toArray, List.set_cons_zero, List.set_cons_succ]
          refine anyS_one 14 (by kernel_rfl) rfl (fun KK hKK => ?_)
          refine step_append_opt rfl (.tmp 76) (.tmp 78) 22 rfl W0.heap.size 5 i0 Tryd.underlying22 hi hz0 hz1 hz2 _ L (frame z) rfl O11_13.out _ 1 1 [by0] rfl R13_13.out (fun h => by cases h) (by omega) HB13.out.size ?_
          intro v14 V14 ho14 hg14
          have HB14 := Lib.hid (HB13.out.grown hg14 HB13.out.size (fun k hk => (O11_13.out.lt k hk).1))
          have O14_14 := Lib.hid ho14
          refine hKK.out _ _ (by simp) ?_
          clear hKK KK ho14 hg14
          try simp only [Act.put, List.setIfInBounds_toArray, List.set_cons_zero, List.set_cons_succ]
          refine anyS_one 16 (by kernel_rfl) rfl (fun KK hKK => ?_)
          obtain ⟨a14, c14, hv14, hc14⟩ := own_came O14_14.out hby14
          subst hv14
          go_simp
          have M16 := Lib.hid (mat_new5 (HY0.out.below HB14.out) (HS0.out.below HB14.out) (HT0.out.below HB14.out) hc14 (HD0.out.below HB14.out))
          have HBs15 : Hid (Below V14.heap.size V14 (V14.alloc (.cells #[.slice b3 L c3, .slice (some ⟨g, 0, none⟩) L c5, .slice b3 k2 c3, .slice a14 (L + 1) c14, .slice a0 len0 cap0] 22))) := (Below.refl _ _).alloc (Nat.le_refl _) _
          have HB15 := Lib.hid (HB14.out.trans (HBs15.out.mono HB14.out.size))
          have O14_15 := Lib.hid (own_later O14_14.out HBs15.out)
          obtain ⟨V15, hV15⟩ : ∃ X, X = V14.alloc (.cells #[.slice b3 L c3, .slice (some ⟨g, 0, none⟩) L c5, .slice b3 k2 c3, .slice a14 (L + 1) c14, .slice a0 len0 cap0] 22) := ⟨_, rfl⟩
          rw [← hV15] at O14_15 HB15 M16 ⊢
          clear HBs15 hV15
          refine hKK.out _ _ (by simp) ?_
          clear hKK KK
          try simp only [Act.put, List.setIfInBounds_toArray, List.set_cons_zero, List.set_cons_succ]
          (refine anyS_free (i := 17) (v := ?_) rfl (by kernel_rfl) (by kernel_rfl) (by kernel_rfl) (fun _ _ _ h => h) (fun _ => by simp) (Or.inl ⟨by rfl, fun w' _ => ?_⟩) ?_; rotate_left; (· go_simp; try with_reducible rfl))
          try simp only [Act.put, List.setIfInBounds_toArray, List.set_cons_zero, List.set_cons_succ]
          refine anyS_done (by kernel_rfl) ?_ _
          refine NoPanic.normal ?_
          go_wp2_with fail
          go_meet
          case rel => exact ⟨_, rfl, M16, HBW.out.trans (HB15.out.mono HBW.out.size)⟩
      · go_simp
        have M9_16 := Lib.hid (World.ownsRow_made (base := W0.heap.size) (e := 5) (size := 1) W0 #[] 0 HBz.out.size (by unfold maxLen; omega) rfl)
        have HBs16 : Hid (Below W0.heap.size W0 (W0.alloc (.cells #[] 5))) := (Below.refl _ _).alloc (Nat.le_refl _) _
        have HB16 := Lib.hid (HBz.out.trans (HBs16.out.mono HBz.out.size))
        obtain ⟨V16, hV16⟩ : ∃ X, X = W0.alloc (.cells #[] 5) := ⟨_, rfl⟩
        rw [← hV16] at M9_16 HB16 ⊢
        clear HBs16 hV16
        refine hKK.out _ _ (by simp) ?_
        clear hKK KK
        try simp only [Act.put, List.setIfInBounds_toArray, List.set_cons_zero, List.set_cons_succ]
        refine anyS_two 7 13 (by kernel_rfl) rfl rfl (fun KK hKK => ?_) (fun KK hKK => ?_)
        · go_simp
          go_at_call 14
          refine (within_any ct ((L : Int) + 1) _ (by omega) (by omega)).mono ?_
          rintro _ _ ⟨rfl, rfl⟩
          rw [hk2]
          refine hKK.out _ _ (by simp) ?_
          clear hKK KK
          try simp only [Act.put, List.setIfInBounds_toArray, List.set_cons_zero, List.set_cons_succ]
          (refine anyS_free (i := 8) (v := ?_) rfl (by kernel_rfl) (by kernel_rfl) (by kernel_rfl) (fun _ _ _ h => h) (fun _ => by simp) (Or.inl ⟨by rfl, fun w' _ => ?_⟩) ?_; rotate_left; (· go_simp; try with_reducible rfl))
          try simp only [Act.put, List.setIfInBounds_toArray, List.set_cons_zero, List.set_cons_succ]
          refine anyS_two 11 13 (by kernel_rfl) rfl rfl (fun KK hKK => ?_) (fun KK hKK => ?_)
          · have HYc := HY0.out.below HB16.out
            refine step_append_opt rfl (.tmp 74) (.tmp 75) 22 rfl W0.heap.size 5 i0 Tryd.underlying22 hi hz0 hz1 hz2 _ 0 [] rfl M9_16.out _ L c3 (frame z) rfl HYc.reads HYc.nil (by omega) HB16.out.size ?_
            intro v11 V18 ho18 hg18
            rw [Nat.zero_add, List.nil_append] at ho18
            have HB18 := Lib.hid (HB16.out.grown hg18 HB16.out.size (fun k hk => (M9_16.out.lt k hk).1))
            have O11_18 := Lib.hid ho18
            refine hKK.out _ _ (by simp) ?_
            clear hKK KK ho18 hg18
            try simp only [Act.put, List.setIfInBounds_toArray, List.set_cons_zero, List.set_cons_succ]
            refine anyS_one 13 (by kernel_rfl) rfl (fun KK hKK => ?_)
            go_simp
            have R13_19 : Hid (Reads (V18.alloc (.cells #[.int .u8 by0] 5)) (some ⟨V18.heap.size, 0, none⟩) 1 [by0]) := ⟨rfl, fun _ => ⟨_, rfl, one_new V18 by0⟩⟩
            have HBs19 : Hid (Below V18.heap.size V18 (V18.alloc (.cells #[.int .u8 by0] 5))) := (Below.refl _ _).alloc (Nat.le_refl _) _
            have HB19 := Lib.hid (HB18.out.trans (HBs19.out.mono HB18.out.size))
            have O11_19 := Lib.hid (own_later O11_18.out HBs19.out)
            obtain ⟨V19, hV19⟩ : ∃ X, X = V18.alloc (.cells #[.int .u8 by0] 5) := ⟨_, rfl⟩
            rw [← hV19] at O11_19 R13_19 HB19 ⊢
            clear HBs19 hV19
            refine hKK.out _ _ (by simp) ?_
            clear hKK KK
            try simp only [Act.put, List.setIfInBounds_toArray, List.set_cons_zero, List.set_cons_succ]
            refine anyS_one 14 (by kernel_rfl) rfl (fun KK hKK => ?_)
            refine step_append_opt rfl (.tmp 76) (.tmp 78) 22 rfl W0.heap.size 5 i0 Tryd.underlying22 hi hz0 hz1 hz2 _ L (frame z) rfl O11_19.out _ 1 1 [by0] rfl R13_19.out (fun h => by cases h) (by omega) HB19.out.size ?_
            intro v14 V20 ho20 hg20
            have HB20 := Lib.hid (HB19.out.grown hg20 HB19.out.size (fun k hk => (O11_19.out.lt k hk).1))
            have O14_20 := Lib.hid ho20
            refine hKK.out _ _ (by simp) ?_
            clear hKK KK ho20 hg20
            try simp only [Act.put, List.setIfInBounds_toArray, List.set_cons_zero, List.set_cons_succ]
            refine anyS_one 16 (by kernel_rfl) rfl (fun KK hKK => ?_)
            obtain ⟨a14, c14, hv14, hc14⟩ := own_came O14_20.out hby14
            subst hv14
            go_simp
            have M16 := Lib.hid (mat_new5 (HY0.out.below HB20.out) (HS0.out.below HB20.out) (HT0.out.below HB20.out) hc14 (HD0.out.below HB20.out))
            have HBs21 : Hid (Below V20.heap.size V20 (V20.alloc (.cells #[.slice b3 L c3, .slice (some ⟨g, 0, none⟩) L c5, .slice b3 k2 c3, .slice a14 (L + 1) c14, .slice a0 len0 cap0] 22))) := (Below.refl _ _).alloc (Nat.le_refl _) _
            have HB21 := Lib.hid (HB20.out.trans (HBs21.out.mono HB20.out.size))
            have O14_21 := Lib.hid (own_later O14_20.out HBs21.out)
            obtain ⟨V21, hV21⟩ : ∃ X, X = V20.alloc (.cells #[.slice b3 L c3, .slice (some ⟨g, 0, none⟩) L c5, .slice b3 k2 c3, .slice a14 (L + 1) c14, .slice a0 len0 cap0] 22) := ⟨_, rfl⟩
            rw [← hV21] at O14_21 HB21 M16 ⊢
            clear HBs21 hV21
            refine hKK.out _ _ (by simp) ?_
            clear hKK KK
            try simp only [Act.put, List.setIfInBounds_toArray, List.set_cons_zero, List.set_cons_succ]
            (refine anyS_free (i := 17) (v := ?_) rfl (by kernel_rfl) (by kernel_rfl) (by kernel_rfl) (fun _ _ _ h => h) (fun _ => by simp) (Or.inl ⟨by rfl, fun w' _ => ?_⟩) ?_; rotate_left; (· go_simp; try with_reducible rfl))
            try simp only [Act.put, List.setIfInBounds_toArray, List.set_cons_zero, List.set_cons_succ]
            refine anyS_done (by kernel_rfl) ?_ _
            refine NoPanic.normal ?_
            go_wp2_with fail
            go_meet
            case rel => exact ⟨_, rfl, M16, HBW.out.trans (HB21.out.mono HBW.out.size)⟩
          · go_simp
            have NE_22 : Hid (W0.heap.size ≠ V16.heap.size) := Nat.ne_of_lt (M9_16.out.lt _ rfl).2
            have R13_22 : Hid (Reads (V16.alloc (.cells #[.int .u8 by0] 5)) (some ⟨V16.heap.size, 0, none⟩) 1 [by0]) := ⟨rfl, fun _ => ⟨_, rfl, one_new V16 by0⟩⟩
            have HBs22 : Hid (Below V16.heap.size V16 (V16.alloc (.cells #[.int .u8 by0] 5))) := (Below.refl _ _).alloc (Nat.le_refl _) _
            have HB22 := Lib.hid (HB16.out.trans (HBs22.out.mono HB16.out.size))
            have M9_22 := Lib.hid (own_later M9_16.out HBs22.out)
            obtain ⟨V22, hV22⟩ : ∃ X, X = V16.alloc (.cells #[.int .u8 by0] 5) := ⟨_, rfl⟩
            rw [← hV22] at M9_22 R13_22 HB22 ⊢
            clear HBs22 hV22
            refine hKK.out _ _ (by simp) ?_
            clear hKK KK
            try simp only [Act.put, List.setIfInBounds_toArray, List.set_cons_zero, List.set_cons_succ]
            refine anyS_one 11 (by kernel_rfl) rfl (fun KK hKK => ?_)
            have HYc := HY0.out.below HB22.out
            refine step_append_opt rfl (.tmp 74) (.tmp 75) 22 rfl W0.heap.size 5 i0 Tryd.underlying22 hi hz0 hz1 hz2 _ 0 [] rfl M9_22.out _ L c3 (frame z) rfl HYc.reads HYc.nil (by omega) HB22.out.size ?_
            intro v11 V23 ho23 hg23
            rw [Nat.zero_add, List.nil_append] at ho23
            have HB23 := Lib.hid (HB22.out.grown hg23 HB22.out.size (fun k hk => (M9_22.out.lt k hk).1))
            have R13_23 : Hid (Reads V23 (some ⟨V16.heap.size, 0, none⟩) 1 [by0]) := reads_grown R13_22.out hg23 (fun h => NE_22.out (Option.some.inj h).symm)
            have O11_23 := Lib.hid ho23
            refine hKK.out _ _ (by simp) ?_
            clear hKK KK ho23 hg23
            try simp only [Act.put, List.setIfInBounds_toArray, List.set_cons_zero, List.set_cons_succ]
            refine anyS_one 14 (by kernel_rfl) rfl (fun KK hKK => ?_)
            refine step_append_opt rfl (.tmp 76) (.tmp 78) 22 rfl W0.heap.size 5 i0 Tryd.underlying22 hi hz0 hz1 hz2 _ L (frame z) rfl O11_23.out _ 1 1 [by0] rfl R13_23.out (fun h => by cases h) (by omega) HB23.out.size ?_
            intro v14 V24 ho24 hg24
            have HB24 := Lib.hid (HB23.out.grown hg24 HB23.out.size (fun k hk => (O11_23.out.lt k hk).1))
            have O14_24 := Lib.hid ho24
            refine hKK.out _ _ (by simp) ?_
            clear hKK KK ho24 hg24
            try simp only [Act.put, List.setIfInBounds_toArray, List.set_cons_zero, List.set_cons_succ]
            refine anyS_one 16 (by kernel_rfl) rfl (fun KK hKK => ?_)
            obtain ⟨a14, c14, hv14, hc14⟩ := own_came O14_24.out hby14
            subst hv14
            go_simp
            have M16 := Lib.hid (mat_new5 (HY0.out.below HB24.out) (HS0.out.below HB24.out) (HT0.out.below HB24.out) hc14 (HD0.out.below HB24.out))
            have HBs25 : Hid (Below V24.heap.size V24 (V24.alloc (.cells #[.slice b3 L c3, .slice (some ⟨g, 0, none⟩) L c5, .slice b3 k2 c3, .slice a14 (L + 1) c14, .slice a0 len0 cap0] 22))) := (Below.refl _ _).alloc (Nat.le_refl _) _
            have HB25 := Lib.hid (HB24.out.trans (HBs25.out.mono HB24.out.size))
            have O14_25 := Lib.hid (own_later O14_24.out HBs25.out)
            obtain ⟨V25, hV25⟩ : ∃ X, X = V24.alloc (.cells #[.slice b3 L c3, .slice (some ⟨g, 0, none⟩) L c5, .slice b3 k2 c3, .slice a14 (L + 1) c14, .slice a0 len0 cap0] 22) := ⟨_, rfl⟩
            rw [← hV25] at O14_25 HB25 M16 ⊢
            clear HBs25 hV25
            refine hKK.out _ _ (by simp) ?_
            clear hKK KK
            try simp only [Act.put, List.setIfInBounds_toArray, List.set_cons_zero, List.set_cons_succ]
            (refine anyS_free (i := 17) (v := ?_) rfl (by kernel_rfl) (by kernel_rfl) (by kernel_rfl) (fun _ _ _ h => h) (fun _ => by simp) (Or.inl ⟨by rfl, fun w' _ => ?_⟩) ?_; rotate_left; (· go_simp; try with_reducible rfl))
            try simp only [Act.put, List.setIfInBounds_toArray, List.set_cons_zero, List.set_cons_succ]
            refine anyS_done (by kernel_rfl) ?_ _
            refine NoPanic.normal ?_
            go_wp2_with fail
            go_meet
            case rel => exact ⟨_, rfl, M16, HBW.out.trans (HB25.out.mono HBW.out.size)⟩
        · go_simp
          have NE_26 : Hid (W0.heap.size ≠ V16.heap.size) := Nat.ne_of_lt (M9_16.out.lt _ rfl).2
          have R13_26 : Hid (Reads (V16.alloc (.cells #[.int .u8 by0] 5)) (some ⟨V16.heap.size, 0, none⟩) 1 [by0]) := ⟨rfl, fun _ => ⟨_, rfl, one_new V16 by0⟩⟩
          have HBs26 : Hid (Below V16.heap.size V16 (V16.alloc (.cells #[.int .u8 by0] 5))) := (Below.refl _ _).alloc (Nat.le_refl _) _
          have HB26 := Lib.hid (HB16.out.trans (HBs26.out.mono HB16.out.size))
          have M9_26 := Lib.hid (own_later M9_16.out HBs26.out)
          obtain ⟨V26, hV26⟩ : ∃ X, X = V16.alloc (.cells #[.int .u8 by0] 5) := ⟨_, rfl⟩
          rw [← hV26] at M9_26 R13_26 HB26 ⊢
          clear HBs26 hV26
          refine hKK.out _ _ (by simp) ?_
          clear hKK KK
          try simp only [Act.put, List.setIfInBounds_toArray, List.set_cons_zero, List.set_cons_succ]
          refine anyS_one 7 (by kernel_rfl) rfl (fun KK hKK => ?_)
          go_simp
          go_at_call 14
          refine (within_any ct ((L : Int) + 1) _ (by omega) (by omega)).mono ?_
          rintro _ _ ⟨rfl, rfl⟩
          rw [hk2]
          refine hKK.out _ _ (by simp) ?_
          clear hKK KK
          try simp only [Act.put, List.setIfInBounds_toArray, List.set_cons_zero, List.set_cons_succ]
          (refine anyS_free (i := 8) (v := ?_) rfl (by kernel_rfl) (by kernel_rfl) (by kernel_rfl) (fun _ _ _ h => h) (fun _ => by simp) (Or.inl ⟨by rfl, fun w' _ => ?_⟩) ?_; rotate_left; (· go_simp; try with_reducible rfl))
          try simp only [Act.put, List.setIfInBounds_toArray, List.set_cons_zero, List.set_cons_succ]
          refine anyS_one 11 (by kernel_rfl) rfl (fun KK hKK => ?_)
          have HYc := HY0.out.below HB26.out
          refine step_append_opt rfl (.tmp 74) (.tmp 75) 22 rfl W0.heap.size 5 i0 Tryd.underlying22 hi hz0 hz1 hz2 _ 0 [] rfl M9_26.out _ L c3 (frame z) rfl HYc.reads HYc.nil (by omega) HB26.out.size ?_
          intro v11 V28 ho28 hg28
          rw [Nat.zero_add, List.nil_append] at ho28
          have HB28 := Lib.hid (HB26.out.grown hg28 HB26.out.size (fun k hk => (M9_26.out.lt k hk).1))
          have R13_28 : Hid (Reads V28 (some ⟨V16.heap.size, 0, none⟩) 1 [by0]) := reads_grown R13_26.out hg28 (fun h => NE_26.out (Option.some.inj h).symm)
          have O11_28 := Lib.hid ho28
          refine hKK.out _ _ (by simp) ?_
          clear hKK KK ho28 hg28
          try simp only [Act.put, List.setIfInBounds_toArray, List.set_cons_zero, List.set_cons_succ]
          refine anyS_one 14 (by kernel_rfl) rfl (fun KK hKK => ?_)
          refine step_append_opt rfl (.tmp 76) (.tmp 78) 22 rfl W0.heap.size 5 i0 Tryd.underlying22 hi hz0 hz1 hz2 _ L (frame z) rfl O11_28.out _ 1 1 [by0] rfl R13_28.out (fun h => by cases h) (by omega) HB28.out.size ?_
          intro v14 V29 ho29 hg29
          have HB29 := Lib.hid (HB28.out.grown hg29 HB28.out.size (fun k hk => (O11_28.out.lt k hk).1))
          have O14_29 := Lib.hid ho29
          refine hKK.out _ _ (by simp) ?_
          clear hKK KK ho29 hg29
          try simp only [Act.put, List.setIfInBounds_toArray, List.set_cons_zero, List.set_cons_succ]
          refine anyS_one 16 (by kernel_rfl) rfl (fun KK hKK => ?_)
          obtain ⟨a14, c14, hv14, hc14⟩ := own_came O14_29.out hby14
          subst hv14
          go_simp
          have M16 := Lib.hid (mat_new5 (HY0.out.below HB29.out) (HS0.out.below HB29.out) (HT0.out.below HB29.out) hc14 (HD0.out.below HB29.out))
          have HBs30 : Hid (Below V29.heap.size V29 (V29.alloc (.cells #[.slice b3 L c3, .slice (some ⟨g, 0, none⟩) L c5, .slice b3 k2 c3, .slice a14 (L + 1) c14, .slice a0 len0 cap0] 22))) := (Below.refl _ _).alloc (Nat.le_refl _) _
          have HB30 := Lib.hid (HB29.out.trans (HBs30.out.mono HB29.out.size))
          have O14_30 := Lib.hid (own_later O14_29.out HBs30.out)
          obtain ⟨V30, hV30⟩ : ∃ X, X = V29.alloc (.cells #[.slice b3 L c3, .slice (some ⟨g, 0, none⟩) L c5, .slice b3 k2 c3, .slice a14 (L + 1) c14, .slice a0 len0 cap0] 22) := ⟨_, rfl⟩
          rw [← hV30] at O14_30 HB30 M16 ⊢
          clear HBs30 hV30
          refine hKK.out _ _ (by simp) ?_
          clear hKK KK
          try simp only [Act.put, List.setIfInBounds_toArray, List.set_cons_zero, List.set_cons_succ]
          (refine anyS_free (i := 17) (v := ?_) rfl (by kernel_rfl) (by kernel_rfl) (by kernel_rfl) (fun _ _ _ h => h) (fun _ => by simp) (Or.inl ⟨by rfl, fun w' _ => ?_⟩) ?_; rotate_left; (· go_simp; try with_reducible rfl))
          try simp only [Act.put, List.setIfInBounds_toArray, List.set_cons_zero, List.set_cons_succ]
          refine anyS_done (by kernel_rfl) ?_ _
          refine NoPanic.normal ?_
          go_wp2_with fail
          go_meet
          case rel => exact ⟨_, rfl, M16, HBW.out.trans (HB30.out.mono HBW.out.size)⟩
      · go_simp
        have R13_31 : Hid (Reads (W0.alloc (.cells #[.int .u8 by0] 5)) (some ⟨W0.heap.size, 0, none⟩) 1 [by0]) := ⟨rfl, fun _ => ⟨_, rfl, one_new W0 by0⟩⟩
        have HBs31 : Hid (Below W0.heap.size W0 (W0.alloc (.cells #[.int .u8 by0] 5))) := (Below.refl _ _).alloc (Nat.le_refl _) _
        have HB31 := Lib.hid (HBz.out.trans (HBs31.out.mono HBz.out.size))
        obtain ⟨V31, hV31⟩ : ∃ X, X = W0.alloc (.cells #[.int .u8 by0] 5) := ⟨_, rfl⟩
        rw [← hV31] at R13_31 HB31 ⊢
        clear HBs31 hV31
        refine hKK.out _ _ (by simp) ?_
        clear hKK KK
        try simp only [Act.put, List.setIfInBounds_toArray, List.set_cons_zero, List.set_cons_succ]
        refine anyS_two 7 9 (by kernel_rfl) rfl rfl (fun KK hKK => ?_) (fun KK hKK => ?_)
        · go_simp
          go_at_call 14
          refine (within_any ct ((L : Int) + 1) _ (by omega) (by omega)).mono ?_
          rintro _ _ ⟨rfl, rfl⟩
          rw [hk2]
          refine hKK.out _ _ (by simp) ?_
          clear hKK KK
          try simp only [Act.put, List.setIfInBounds_toArray, List.set_cons_zero, List.set_cons_succ]
          (refine anyS_free (i := 8) (v := ?_) rfl (by kernel_rfl) (by kernel_rfl) (by kernel_rfl) (fun _ _ _ h => h) (fun _ => by simp) (Or.inl ⟨by rfl, fun w' _ => ?_⟩) ?_; rotate_left; (· go_simp; try with_reducible rfl))
          try simp only [Act.put, List.setIfInBounds_toArray, List.set_cons_zero, List.set_cons_succ]
          refine anyS_one 9 (by kernel_rfl) rfl (fun KK hKK => ?_)
          go_simp
          have NE_33 : Hid (V31.heap.size ≠ W0.heap.size) := (Nat.ne_of_lt (reads_lt R13_31.out (by omega))).symm
          have M9_33 := Lib.hid (World.ownsRow_made (base := W0.heap.size) (e := 5) (size := 1) V31 #[] 0 HB31.out.size (by unfold maxLen; omega) rfl)
          have HBs33 : Hid (Below V31.heap.size V31 (V31.alloc (.cells #[] 5))) := (Below.refl _ _).alloc (Nat.le_refl _) _
          have HB33 := Lib.hid (HB31.out.trans (HBs33.out.mono HB31.out.size))
          have R13_33 := Lib.hid (R13_31.out.below HBs33.out)
          obtain ⟨V33, hV33⟩ : ∃ X, X = V31.alloc (.cells #[] 5) := ⟨_, rfl⟩
          rw [← hV33] at M9_33 R13_33 HB33 ⊢
          clear HBs33 hV33
          refine hKK.out _ _ (by simp) ?_
          clear hKK KK
          try simp only [Act.put, List.setIfInBounds_toArray, List.set_cons_zero, List.set_cons_succ]
          refine anyS_one 11 (by kernel_rfl) rfl (fun KK hKK => ?_)
          have HYc := HY0.out.below HB33.out
          refine step_append_opt rfl (.tmp 74) (.tmp 75) 22 rfl W0.heap.size 5 i0 Tryd.underlying22 hi hz0 hz1 hz2 _ 0 [] rfl M9_33.out _ L c3 (frame z) rfl HYc.reads HYc.nil (by omega) HB33.out.size ?_
          intro v11 V34 ho34 hg34
          rw [Nat.zero_add, List.nil_append] at ho34
          have HB34 := Lib.hid (HB33.out.grown hg34 HB33.out.size (fun k hk => (M9_33.out.lt k hk).1))
          have R13_34 : Hid (Reads V34 (some ⟨W0.heap.size, 0, none⟩) 1 [by0]) := reads_grown R13_33.out hg34 (fun h => NE_33.out (Option.some.inj h).symm)
          have O11_34 := Lib.hid ho34
          refine hKK.out _ _ (by simp) ?_
          clear hKK KK ho34 hg34
          try simp only [Act.put, List.setIfInBounds_toArray, List.set_cons_zero, List.set_cons_succ]
          refine anyS_one 14 (by kernel_rfl) rfl (fun KK hKK => ?_)
          refine step_append_opt rfl (.tmp 76) (.tmp 78) 22 rfl W0.heap.size 5 i0 Tryd.underlying22 hi hz0 hz1 hz2 _ L (frame z) rfl O11_34.out _ 1 1 [by0] rfl R13_34.out (fun h => by cases h) (by omega) HB34.out.size ?_
          intro v14 V35 ho35 hg35
          have HB35 := Lib.hid (HB34.out.grown hg35 HB34.out.size (fun k hk => (O11_34.out.lt k hk).1))
          have O14_35 := Lib.hid ho35
          refine hKK.out _ _ (by simp) ?_
          clear hKK KK ho35 hg35
          try simp only [Act.put, List.setIfInBounds_toArray, List.set_cons_zero, List.set_cons_succ]
          refine anyS_one 16 (by kernel_rfl) rfl (fun KK hKK => ?_)
          obtain ⟨a14, c14, hv14, hc14⟩ := own_came O14_35.out hby14
          subst hv14
          go_simp
          have M16 := Lib.hid (mat_new5 (HY0.out.below HB35.out) (HS0.out.below HB35.out) (HT0.out.below HB35.out) hc14 (HD0.out.below HB35.out))
          have HBs36 : Hid (Below V35.heap.size V35 (V35.alloc (.cells #[.slice b3 L c3, .slice (some ⟨g, 0, none⟩) L c5, .slice b3 k2 c3, .slice a14 (L + 1) c14, .slice a0 len0 cap0] 22))) := (Below.refl _ _).alloc (Nat.le_refl _) _
          have HB36 := Lib.hid (HB35.out.trans (HBs36.out.mono HB35.out.size))
          have O14_36 := Lib.hid (own_later O14_35.out HBs36.out)
          obtain ⟨V36, hV36⟩ : ∃ X, X = V35.alloc (.cells #[.slice b3 L c3, .slice (some ⟨g, 0, none⟩) L c5, .slice b3 k2 c3, .slice a14 (L + 1) c14, .slice a0 len0 cap0] 22) := ⟨_, rfl⟩
          rw [← hV36] at O14_36 HB36 M16 ⊢
          clear HBs36 hV36
          refine hKK.out _ _ (by simp) ?_
          clear hKK KK
          try simp only [Act.put, List.setIfInBounds_toArray, List.set_cons_zero, List.set_cons_succ]
          (refine anyS_free (i := 17) (v := ?_) rfl (by kernel_rfl) (by kernel_rfl) (by kernel_rfl) (fun _ _ _ h => h) (fun _ => by simp) (Or.inl ⟨by rfl, fun w' _ => ?_⟩) ?_; rotate_left; (· go_simp; try with_reducible rfl))
          try simp only [Act.put, List.setIfInBounds_toArray, List.set_cons_zero, List.set_cons_succ]
          refine anyS_done (by kernel_rfl) ?_ _
          refine NoPanic.normal ?_
          go_wp2_with fail
          go_meet
          case rel => exact ⟨_, rfl, M16, HBW.out.trans (HB36.out.mono HBW.out.size)⟩
        · go_simp
          have NE_37 : Hid (V31.heap.size ≠ W0.heap.size) := (Nat.ne_of_lt (reads_lt R13_31.out (by omega))).symm
          have M9_37 := Lib.hid (World.ownsRow_made (base := W0.heap.size) (e := 5) (size := 1) V31 #[] 0 HB31.out.size (by unfold maxLen; omega) rfl)
          have HBs37 : Hid (Below V31.heap.size V31 (V31.alloc (.cells #[] 5))) := (Below.refl _ _).alloc (Nat.le_refl _) _
          have HB37 := Lib.hid (HB31.out.trans (HBs37.out.mono HB31.out.size))
          have R13_37 := Lib.hid (R13_31.out.below HBs37.out)
          obtain ⟨V37, hV37⟩ : ∃ X, X = V31.alloc (.cells #[] 5) := ⟨_, rfl⟩
          rw [← hV37] at M9_37 R13_37 HB37 ⊢
          clear HBs37 hV37
          refine hKK.out _ _ (by simp) ?_
          clear hKK KK
          try simp only [Act.put, List.setIfInBounds_toArray, List.set_cons_zero, List.set_cons_succ]
          refine anyS_one 7 (by kernel_rfl) rfl (fun KK hKK => ?_)
          go_simp
          go_at_call 14
          refine (within_any ct ((L : Int) + 1) _ (by omega) (by omega)).mono ?_
          rintro _ _ ⟨rfl, rfl⟩
          rw [hk2]
          refine hKK.out _ _ (by simp) ?_
          clear hKK KK
          try simp only [Act.put, List.setIfInBounds_toArray, List.set_cons_zero, List.set_cons_succ]
          (refine anyS_free (i := 8) (v := ?_) rfl (by kernel_rfl) (by kernel_rfl) (by kernel_rfl) (fun _ _ _ h => h) (fun _ => by simp) (Or.inl ⟨by rfl, fun w' _ => ?_⟩) ?_; rotate_left; (· go_simp; try with_reducible rfl))
          try simp only [Act.put, List.setIfInBounds_toArray, List.set_cons_zero, List.set_cons_succ]
          refine anyS_one 11 (by kernel_rfl) rfl (fun KK hKK => ?_)
          have HYc := HY0.out.below HB37.out
          refine step_append_opt rfl (.tmp 74) (.tmp 75) 22 rfl W0.heap.size 5 i0 Tryd.underlying22 hi hz0 hz1 hz2 _ 0 [] rfl M9_37.out _ L c3 (frame z) rfl HYc.reads HYc.nil (by omega) HB37.out.size ?_
          intro v11 V39 ho39 hg39
          rw [Nat.zero_add, List.nil_append] at ho39
          have HB39 := Lib.hid (HB37.out.grown hg39 HB37.out.size (fun k hk => (M9_37.out.lt k hk).1))
          have R13_39 : Hid (Reads V39 (some ⟨W0.heap.size, 0, none⟩) 1 [by0]) := reads_grown R13_37.out hg39 (fun h => NE_37.out (Option.some.inj h).symm)
          have O11_39 := Lib.hid ho39
          refine hKK.out _ _ (by simp) ?_
          clear hKK KK ho39 hg39
          try simp only [Act.put, List.setIfInBounds_toArray, List.set_cons_zero, List.set_cons_succ]
          refine anyS_one 14 (by kernel_rfl) rfl (fun KK hKK => ?_)
          refine step_append_opt rfl (.tmp 76) (.tmp 78) 22 rfl W0.heap.size 5 i0 Tryd.underlying22 hi hz0 hz1 hz2 _ L (frame z) rfl O11_39.out _ 1 1 [by0] rfl R13_39.out (fun h => by cases h) (by omega) HB39.out.size ?_
          intro v14 V40 ho40 hg40
          have HB40 := Lib.hid (HB39.out.grown hg40 HB39.out.size (fun k hk => (O11_39.out.lt k hk).1))
          have O14_40 := Lib.hid ho40
          refine hKK.out _ _ (by simp) ?_
          clear hKK KK ho40 hg40
          try simp only [Act.put, List.setIfInBounds_toArray, List.set_cons_zero, List.set_cons_succ]
          refine anyS_one 16 (by kernel_rfl) rfl (fun KK hKK => ?_)
          obtain ⟨a14, c14, hv14, hc14⟩ := own_came O14_40.out hby14
          subst hv14
          go_simp
          have M16 := Lib.hid (mat_new5 (HY0.out.below HB40.out) (HS0.out.below HB40.out) (HT0.out.below HB40.out) hc14 (HD0.out.below HB40.out))
          have HBs41 : Hid (Below V40.heap.size V40 (V40.alloc (.cells #[.slice b3 L c3, .slice (some ⟨g, 0, none⟩) L c5, .slice b3 k2 c3, .slice a14 (L + 1) c14, .slice a0 len0 cap0] 22))) := (Below.refl _ _).alloc (Nat.le_refl _) _
          have HB41 := Lib.hid (HB40.out.trans (HBs41.out.mono HB40.out.size))
          have O14_41 := Lib.hid (own_later O14_40.out HBs41.out)
          obtain ⟨V41, hV41⟩ : ∃ X, X = V40.alloc (.cells #[.slice b3 L c3, .slice (some ⟨g, 0, none⟩) L c5, .slice b3 k2 c3, .slice a14 (L + 1) c14, .slice a0 len0 cap0] 22) := ⟨_, rfl⟩
          rw [← hV41] at O14_41 HB41 M16 ⊢
          clear HBs41 hV41
          refine hKK.out _ _ (by simp) ?_
          clear hKK KK
          try simp only [Act.put, List.setIfInBounds_toArray, List.set_cons_zero, List.set_cons_succ]
          (refine anyS_free (i := 17) (v := ?_) rfl (by kernel_rfl) (by kernel_rfl) (by kernel_rfl) (fun _ _ _ h => h) (fun _ => by simp) (Or.inl ⟨by rfl, fun w' _ => ?_⟩) ?_; rotate_left; (· go_simp; try with_reducible rfl))
          try simp only [Act.put, List.setIfInBounds_toArray, List.set_cons_zero, List.set_cons_succ]
          refine anyS_done (by kernel_rfl) ?_ _
          refine NoPanic.normal ?_
          go_wp2_with fail
          go_meet
          case rel => exact ⟨_, rfl, M16, HBW.out.trans (HB41.out.mono HBW.out.size)⟩
    case rest =>
      obtain ⟨gg, rfl, HMQ, HBQ⟩ := hcut
      have HLEN : Hid (∀ j, j < 5 → ([frame z, (frame z).set K vv, (frame z).take k2, frame z ++ [by0], z].getD j []).length ≤ 3009) := fun j hj => by
        have h5 : (frame z).length = L := by rw [frame_length, HZ.out, HL.out]
        match j, hj with
        | 0, _ => show (frame z).length ≤ 3009; omega
        | 1, _ => show ((frame z).set K vv).length ≤ 3009; rw [List.length_set]; omega
        | 2, _ => show ((frame z).take k2).length ≤ 3009; rw [List.length_take]; omega
        | 3, _ => show (frame z ++ [by0]).length ≤ 3009; rw [List.length_append, h5]; simp; omega
        | 4, _ => show z.length ≤ 3009; rw [HZ.out]; omega
      obtain ⟨es, hes⟩ : ∃ es, es = [frame z, (frame z).set K vv, (frame z).take k2, frame z ++ [by0], z] := ⟨_, rfl⟩
      rw [← hes] at HMQ HLEN
      clear hes HYW HSW HTW HDW HSL HBY14 HVB HC3 HX3
      go_wp2_with fail
      go_loopw [15] (fun v X => ∃ j : Nat, j ≤ 5 ∧ v = .int .i64 (j : Int) ∧ Hid (Below wc.heap.size wc X)) (fun v _ => (5 - intOf v).toNat)
      case atStart => exact ⟨0, by omega, rfl, Below.refl _ _⟩
      case round =>
        obtain ⟨j, hj, rfl, HB⟩ := hrel
        by_cases hlt : j < 5
        · obtain ⟨ad, had, b, l, c, hcell, hcame⟩ := HMQ.out.row j hlt
          cases had
          have hl := HLEN.out j hlt
          rw [hcame.reads.1] at hl
          have hcell1 : wr.cell? ((⟨gg, 0, none⟩ : Addr).add j) = some (.slice b l c) := by rw [HB.out.cell (World.block_lt_of_cell? wc _ hcell)]; exact hcell
          rw [Addr.add_lit, Nat.zero_add] at hcell1
          have HCELL := Lib.hid hcell
          have HCA := Lib.hid (hcame.below HB.out)
          obtain ⟨e, he⟩ : ∃ e, e = es.getD j [] := ⟨_, rfl⟩
          rw [← he] at HCA
          have HBB := Lib.hid (HBQ.out.trans (HB.out.mono HBQ.out.size))
          clear hcell hcame he
          go_wp2_with fail
          refine (onep_any HCA.out (HLA.out.keep HBB.out)).mono ?_
          rintro _ w8 ⟨v8, rfl, ho8, hb8⟩
          obtain ⟨b8, c8, rfl, hc8⟩ := own_came ho8 (oneR_bytes HCA.out.bytes)
          have HC8 := Lib.hid hc8
          have HB8 := Lib.hid (HB.out.trans (hb8.mono HB.out.size))
          have HCA8 := Lib.hid (HCA.out.below hb8)
          have hcell2 : w8.cell? ((⟨gg, 0, none⟩ : Addr).add j) = some (.slice b l c) := by rw [HB8.out.cell (World.block_lt_of_cell? wc _ HCELL.out)]; exact HCELL.out
          rw [Addr.add_lit, Nat.zero_add] at hcell2
          clear ho8 hb8 hc8 hcell1
          go_wp2_with fail
          refine (ronep_any HCA8.out (by omega)).mono ?_
          rintro _ w9 ⟨v9, rfl, ho9, hb9⟩
          obtain ⟨b9, c9, rfl, hc9⟩ := own_came ho9 (oneR_bytes HCA.out.bytes)
          have HB9 := Lib.hid (HB8.out.trans (hb9.mono HB8.out.size))
          have hv1 := conv_reads (HC8.out.below hb9).reads c8
          have hv2 := conv_reads hc9.reads c9
          have hne := nums_neq (oneR e) w9
          obtain ⟨q, hq⟩ : ∃ q, q = oneE e := ⟨_, rfl⟩
          obtain ⟨n, hn⟩ : ∃ n, n = (oneR e).length := ⟨_, rfl⟩
          rw [← hn] at hv1 hv2 ⊢
          rw [← hq]
          clear ho9 hb9 hc9 hcell2 HCA HCA8 HC8 hq hn
          go_wp2_with fail
          try go_roundw
          case rel => exact ⟨j + 1, by omega, by go_num, HB9⟩
          case measure => simp [intOf]; omega
        · obtain rfl : j = 5 := by omega
          go_wp2_with fail
          go_ret
          exact ⟨rfl, HBQ.out.trans (HB.out.mono HBQ.out.size)⟩
end Go.Proofs.YtbgaekokjkdpiaaDoor
