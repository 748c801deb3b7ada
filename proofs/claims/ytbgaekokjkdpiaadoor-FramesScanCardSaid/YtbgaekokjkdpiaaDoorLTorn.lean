/- FramesTorn: the walk. -/
import Derived.Test.YtbgaekokjkdpiaaDoorLOnes
namespace Go.Proofs.YtbgaekokjkdpiaaDoor
open Go.RowKit Frm
set_option linter.unusedVariables false
set_option linter.unusedSimpArgs false

theorem all_rows {zss : List (List Int)} {n : Nat} (hn : zss.length = n) {p : List Int → Prop} (h : ∀ j, j < n → p (zss.getD j [])) : ∀ r ∈ zss, p r := by
  intro r hr
  obtain ⟨j, hj, rfl⟩ := List.getElem_of_mem hr
  have h1 := h j (by omega)
  have e : zss.getD j [] = zss[j] := by simp [List.getD, hj]
  rwa [e] at h1

theorem mat_bytes {w : World} {a : Option Addr} {n c : Nat} {zss : List (List Int)} (h : Mat w a n c zss) : ∀ r ∈ zss, ∀ c ∈ r, Byte c :=
  all_rows h.sz (p := fun r => ∀ c ∈ r, Byte c) (fun j hj => by
    obtain ⟨_, _, _, _, _, _, hc⟩ := h.row j hj
    exact hc.bytes)

theorem scan_torn {a : List (List Int)} (h : ∀ r ∈ a, r.length ≤ 4194304) {b : List Int} (hb : b.length ≤ 4194304) {k : Nat} (hk : k < 8 + b.length) : scan (frames a ++ (frame b).take k) = a := by
  rw [scan_frames h, scan_none (front_none (by omega) hk), List.append_nil]

theorem scan_more {a : List (List Int)} (h : ∀ r ∈ a, r.length ≤ 4194304) {b : List Int} (hb : b.length ≤ 4194304) : scan (frames a ++ frame b) = a ++ [b] := by
  have h1 := scan_frame hb []
  rw [List.append_nil, scan_nil] at h1
  rw [scan_frames h, h1]

set_option maxRecDepth 100000 in
set_option maxHeartbeats 8000000 in
theorem ltorn_any (a0 : Option Addr) (len0 cap0 : Nat) (zss : List (List Int)) (a1 : Option Addr) (len1 cap1 : Nat) (y : List Int) (ct : Int) (w : World) (hm : Mat w a0 len0 cap0 zss) (hcame : Came w a1 len1 cap1 y) (hct : I64 ct) (hlaid : Laid w) :
    Calls Tryd.prog 5 #[.slice a0 len0 cap0, .slice a1 len1 cap1, .int .i64 ct] w fun e w' => e = .returned (.bool true) ∧ Below w.heap.size w w' := by
  obtain ⟨i0, hi, hz0, hz1, hz2⟩ := info_parts Tryd.infoByte
  have HM := Lib.hid hm
  have HC := Lib.hid hcame
  have HLA := Lib.hid hlaid
  have HZ := Lib.hid hcame.reads.1
  have HBY := Lib.hid (mat_bytes hm)
  clear hm hcame hlaid hct
  go_enter Tryd.func5, Tryd.ntmps5
  go_wp2_with fail
  refine (known_any w HLA.out).mono ?_
  rintro _ w1 ⟨rfl, hb1⟩
  have HB1 := Lib.hid hb1
  have HM1 := Lib.hid (HM.out.below hb1)
  clear hb1
  go_wp2_with fail
  refine (few_any HM1.out).mono ?_
  rintro _ _ ⟨b, rfl, rfl, HF⟩
  cases b with
  | false =>
    go_wp2_with fail
    go_ret
    exact ⟨rfl, HB1.out⟩
  | true =>
    have hl10 := (HF.out rfl).1
    have H3 := Lib.hid (HF.out rfl).2
    clear HF
    by_cases hbig : 300 < len1
    · go_wp2_with fail
      go_ret
      exact ⟨rfl, HB1.out⟩
    · go_wp2_with fail
      refine (log_any HM1.out hl10 H3.out).mono ?_
      rintro _ w2 ⟨v2, rfl, ho2, hb2⟩
      have HS : Hid (∀ r ∈ zss, r.length ≤ 4194304) := all_rows HM.out.sz (p := fun r => r.length ≤ 4194304) (fun j hj => Nat.le_trans (H3.out j hj) (by omega))
      have hbl : bulk zss ≤ 308 * len0 := by
        have h := bulk_few (zss := zss) len0 (by rw [HM.out.sz]; exact Nat.le_refl _) H3.out
        rwa [List.take_of_length_le (by rw [HM.out.sz]; exact Nat.le_refl _)] at h
      obtain ⟨m, hmm⟩ : ∃ m, m = bulk zss := ⟨_, rfl⟩
      rw [← hmm] at ho2 hbl
      have HMM := Lib.hid hmm
      obtain ⟨b2, c2, rfl, hc2⟩ := own_came ho2 (frames_byte HBY.out)
      have HC2 := Lib.hid hc2
      have HB2 := Lib.hid (HB1.out.trans (hb2.mono HB1.out.size))
      have hm3 : m ≤ 3080 := by omega
      clear ho2 hb2 hc2 hmm hbl
      have HCa := Lib.hid (HC.out.below HB2.out)
      go_wp2_with fail
      refine (frame_any a1 len1 cap1 y w2 HCa.out (by omega) (HLA.out.keep HB2.out)).mono ?_
      rintro _ w3 ⟨v3, rfl, ho3, hb3⟩
      obtain ⟨b3, c3, rfl, hc3⟩ := own_came ho3 (frame_byte HC.out.bytes)
      have HB3 := Lib.hid (HB2.out.trans (hb3.mono HB2.out.size))
      have HC3 := Lib.hid (HC2.out.below hb3)
      obtain ⟨L, hL⟩ : ∃ L, L = 8 + len1 := ⟨_, rfl⟩
      rw [← hL] at hc3 ⊢
      have HX3 := Lib.hid hc3
      have hL8 : 8 ≤ L := by omega
      have hL3 : L ≤ 308 := by omega
      have HL := Lib.hid hL
      clear ho3 hb3 hc3 hL HC2 HCa
      go_wp2_with fail
      refine (within_any ct L w3 (by omega) (by omega)).mono ?_
      rintro _ _ ⟨rfl, rfl⟩
      have hk0 : 0 ≤ ct % (L : Int) := Int.emod_nonneg _ (by omega)
      have hk1 : ct % (L : Int) < (L : Int) := Int.emod_lt_of_pos _ (by omega)
      obtain ⟨kN, hkN⟩ : ∃ kN : Nat, ct % (L : Int) = (kN : Int) := ⟨(ct % (L : Int)).toNat, by omega⟩
      rw [hkN]
      rw [hkN] at hk0 hk1
      have hkl : kN < L := by omega
      have hle := HX3.out.le
      have hsl : ∀ w, (Instr.sliceAt 22 (.slice b3 L c3) none (some (.int .i64 (kN : Int))) none).run Tryd.prog w = .ok (.slice b3 kN c3) w := fun w => slice_to22 b3 L c3 kN (by omega) kN rfl w
      have HT := Lib.hid (came_take HX3.out kN (by omega))
      clear hkN hk0 hk1
      go_wp2_with fail
      have HBd : Hid (Below w.heap.size w w3.drew) := HB3.out.drew
      have HC5 := Lib.hid (HC3.out.below (Below.refl _ _).drew)
      have HT5 := Lib.hid (HT.out.below (Below.refl _ _).drew)
      have HX5 := Lib.hid (HX3.out.below (Below.refl _ _).drew)
      refine anyS_start (by kernel_rfl) ?_
      generalize w3.drew = W at *
      have HM5 := Lib.hid (World.ownsRow_made (base := W.heap.size) (e := 5) (size := 1) W #[] 0 (Nat.le_refl _) (by unfold maxLen; omega) rfl)
      have HBa : Hid (Below W.heap.size W (W.alloc (.cells #[] 5))) := (Below.refl _ _).alloc (Nat.le_refl _) _
      have HCa := Lib.hid (HC5.out.below HBa.out)
      (refine anyS_free (i := 1) (v := ?_) rfl (by kernel_rfl) (by kernel_rfl) (by kernel_rfl) (fun _ _ _ h => h) (fun _ => by simp) (Or.inl ⟨by rfl, fun w' _ => ?_⟩) ?_; rotate_left; (· go_simp; try with_reducible rfl))
      try simp only [Act.put, List.setIfInBounds_toArray, List.set_cons_zero, List.set_cons_succ]
      (refine anyS_free (i := 3) (v := ?_) rfl (by kernel_rfl) (by kernel_rfl) (by kernel_rfl) (fun _ _ _ h => h) (fun _ => by simp) (Or.inl ⟨by rfl, fun w' _ => ?_⟩) ?_; rotate_left; (· go_simp; try with_reducible rfl))
      try simp only [Act.put, List.setIfInBounds_toArray, List.set_cons_zero, List.set_cons_succ]
      (refine anyS_free (i := 4) (v := ?_) rfl (by kernel_rfl) (by kernel_rfl) (by kernel_rfl) (fun _ _ _ h => h) (fun _ => by simp) (Or.inl ⟨by rfl, fun w' _ => ?_⟩) ?_; rotate_left; (· go_simp; try with_reducible rfl))
      try simp only [Act.put, List.setIfInBounds_toArray, List.set_cons_zero, List.set_cons_succ]
      (refine anyS_free (i := 5) (v := ?_) rfl (by kernel_rfl) (by kernel_rfl) (by kernel_rfl) (fun _ _ _ h => h) (fun _ => by simp) (Or.inl ⟨by rfl, fun w' _ => ?_⟩) ?_; rotate_left; (· go_simp; try with_reducible rfl))
      try simp only [Act.put, List.setIfInBounds_toArray, List.set_cons_zero, List.set_cons_succ]
      refine anyS_one 0 (by kernel_rfl) rfl (fun K hK => ?_)
      go_simp
      refine hK.out _ _ (by simp) ?_
      clear hK K
      try simp only [Act.put, List.setIfInBounds_toArray, List.set_cons_zero, List.set_cons_succ]
      refine anyS_one 2 (by kernel_rfl) rfl (fun K hK => ?_)
      refine step_append_opt rfl (.tmp 37) (.tmp 38) 22 rfl W.heap.size 5 i0 Tryd.underlying22 hi hz0 hz1 hz2 _ 0 [] rfl HM5.out _ m c2 (frames zss) rfl HCa.out.reads HCa.out.nil (by omega) HBa.out.size ?_
      intro v6 w6 ho6 hg6
      rw [Nat.zero_add, List.nil_append] at ho6
      have HB6 := Lib.hid (HBa.out.grown hg6 HBa.out.size (fun k hk => (HM5.out.lt k hk).1))
      have HO6 := Lib.hid ho6
      have HT6 := Lib.hid (HT5.out.below HB6.out)
      refine hK.out _ _ (by simp) ?_
      clear hK K ho6 hg6 HBa HM5 HCa
      try simp only [Act.put, List.setIfInBounds_toArray, List.set_cons_zero, List.set_cons_succ]
      refine anyS_one 6 (by kernel_rfl) rfl (fun K hK => ?_)
      refine step_append_opt rfl (.tmp 39) (.tmp 42) 22 rfl W.heap.size 5 i0 Tryd.underlying22 hi hz0 hz1 hz2 _ m (frames zss) rfl HO6.out _ kN c3 ((frame y).take kN) rfl HT6.out.reads HT6.out.nil (by omega) HB6.out.size ?_
      intro v7 w7 ho7 hg7
      have HB7 := Lib.hid (HB6.out.grown hg7 HB6.out.size (fun k hk => (HO6.out.lt k hk).1))
      have hby7 : ∀ c ∈ frames zss ++ (frame y).take kN, Byte c := fun c hc => (List.mem_append.1 hc).elim (frames_byte HBY.out c) (fun h => frame_byte HC.out.bytes c (List.mem_of_mem_take h))
      obtain ⟨b7, c7, rfl, hc7⟩ := own_came ho7 hby7
      have HC7 := Lib.hid hc7
      have HW7 := Lib.hid (HBd.out.trans (HB7.out.mono HBd.out.size))
      refine hK.out _ _ (by simp) ?_
      clear hK K ho7 hg7 hby7 hc7 HO6 HT6 HB6
      try simp only [Act.put, List.setIfInBounds_toArray, List.set_cons_zero, List.set_cons_succ]
      refine anyS_one 7 (by kernel_rfl) rfl (fun K hK => ?_)
      go_simp
      go_at_call 19
      refine (scanp_any HC7.out (HLA.out.keep HW7.out) (by omega)).mono ?_
      rintro _ w8 ⟨v, vs, rfl, hr, hb⟩
      rw [scan_torn HS.out (by rw [HZ.out]; omega) (show kN < 8 + y.length by rw [HZ.out, ← HL.out]; exact hkl)] at hr ⊢
      rw [← HMM.out]
      obtain ⟨a8, c8, rfl, hmt⟩ := hr.mat
      rw [HM.out.sz] at hmt ⊢
      have HMT := Lib.hid hmt
      have HB8 := Lib.hid (HB7.out.trans (hb.mono HB7.out.size))
      refine hK.out _ _ (by simp) ?_
      clear hK K hr hb hmt HC7 HW7 HB7
      try simp only [Act.put, List.setIfInBounds_toArray, List.set_cons_zero, List.set_cons_succ]
      (refine anyS_free (i := 8) (v := ?_) rfl (by kernel_rfl) (by kernel_rfl) (by kernel_rfl) (fun _ _ _ h => h) (fun _ => by simp) (Or.inl ⟨by rfl, fun w' _ => ?_⟩) ?_; rotate_left; (· go_simp; try with_reducible rfl))
      try simp only [Act.put, List.setIfInBounds_toArray, List.set_cons_zero, List.set_cons_succ]
      (refine anyS_free (i := 9) (v := ?_) rfl (by kernel_rfl) (by kernel_rfl) (by kernel_rfl) (fun _ _ _ h => h) (fun _ => by simp) (Or.inl ⟨by rfl, fun w' _ => ?_⟩) ?_; rotate_left; (· go_simp; try with_reducible rfl))
      try simp only [Act.put, List.setIfInBounds_toArray, List.set_cons_zero, List.set_cons_succ]
      (refine anyS_free (i := 10) (v := ?_) rfl (by kernel_rfl) (by kernel_rfl) (by kernel_rfl) (fun _ _ _ h => h) (fun _ => by simp) (Or.inl ⟨by rfl, fun w' _ => ?_⟩) ?_; rotate_left; (· go_simp; try with_reducible rfl))
      try simp only [Act.put, List.setIfInBounds_toArray, List.set_cons_zero, List.set_cons_succ]
      (refine anyS_free (i := 11) (v := ?_) rfl (by kernel_rfl) (by kernel_rfl) (by kernel_rfl) (fun _ _ _ h => h) (fun _ => by simp) (Or.inl ⟨by rfl, fun w' _ => ?_⟩) ?_; rotate_left; (· go_simp; try with_reducible rfl))
      try simp only [Act.put, List.setIfInBounds_toArray, List.set_cons_zero, List.set_cons_succ]
      (refine anyS_free (i := 12) (v := ?_) rfl (by kernel_rfl) (by kernel_rfl) (by kernel_rfl) (fun _ _ _ h => h) (fun _ => by simp) (Or.inl ⟨by rfl, fun w' _ => ?_⟩) ?_; rotate_left; (· go_simp; try with_reducible rfl))
      try simp only [Act.put, List.setIfInBounds_toArray, List.set_cons_zero, List.set_cons_succ]
      refine anyS_done (by kernel_rfl) ?_ _
      refine NoPanic.normal ?_
      have HWB : Hid (Below w.heap.size w w8) := HBd.out.trans (HB8.out.mono HBd.out.size)
      have HC8 := Lib.hid (HC5.out.below HB8.out)
      have HX8 := Lib.hid (HX5.out.below HB8.out)
      clear HC5 HT5 HX5 HBd HC3 HX3 HT HB3 HB2 HB8 hsl
      have HM9 := Lib.hid (World.ownsRow_made (base := w8.heap.size) (e := 5) (size := 1) w8 #[] 0 (Nat.le_refl _) (by unfold maxLen; omega) rfl)
      have HB9 : Hid (Below w8.heap.size w8 (w8.alloc (.cells #[] 5))) := (Below.refl _ _).alloc (Nat.le_refl _) _
      have HC9 := Lib.hid (HC8.out.below HB9.out)
      go_wp2_with (at_builtin; go_must (refine wpList_append_reads rfl _ _ 22 rfl w8.heap.size 5 i0 Tryd.underlying22 hi hz0 hz1 hz2 _ 0 [] rfl HM9.out b2 m c2 (frames zss) rfl HC9.out.reads HC9.out.nil ?d4 ?d5 ?_))
      case d4 => omega
      case d5 => exact HB9.out.size
      try rw [Nat.zero_add, List.nil_append]
      intro v10 w10 ho10 hg10
      have HB10 := Lib.hid (HB9.out.grown hg10 HB9.out.size (fun k hk => (HM9.out.lt k hk).1))
      have HO10 := Lib.hid ho10
      have HX10 := Lib.hid (HX8.out.below HB10.out)
      clear ho10 hg10 HM9 HB9 HC9
      go_wp2_with (at_builtin; go_must (refine wpList_append_reads rfl _ _ 22 rfl w8.heap.size 5 i0 Tryd.underlying22 hi hz0 hz1 hz2 _ m (frames zss) rfl HO10.out b3 L c3 (frame y) rfl HX10.out.reads HX10.out.nil ?d4 ?d5 ?_))
      case d4 => omega
      case d5 => exact HB10.out.size
      intro v11 w11 ho11 hg11
      have HB11 := Lib.hid (HB10.out.grown hg11 HB10.out.size (fun k hk => (HO10.out.lt k hk).1))
      have hby11 : ∀ c ∈ frames zss ++ frame y, Byte c := fun c hc => (List.mem_append.1 hc).elim (frames_byte HBY.out c) (frame_byte HC.out.bytes c)
      obtain ⟨b11, c11, rfl, hc11⟩ := own_came ho11 hby11
      have HC11 := Lib.hid hc11
      have HW11 := Lib.hid (HWB.out.trans (HB11.out.mono HWB.out.size))
      have HT11 := Lib.hid (HMT.out.below HB11.out)
      clear ho11 hg11 hby11 hc11 HO10 HX10 HB10
      go_wp2_with fail
      refine (scanp_any HC11.out (HLA.out.keep HW11.out) (by omega)).mono ?_
      rintro _ w12 ⟨v, vs, rfl, hr, hb⟩
      rw [scan_more HS.out (by rw [HZ.out]; omega)] at hr ⊢
      have hbk : bulk (zss ++ [y]) = m + L := by rw [bulk_append, ← HMM.out, HL.out, ← HZ.out]; rfl
      rw [hbk]
      obtain ⟨a13, c13, rfl, hmz⟩ := hr.mat
      have hlz : (zss ++ [y]).length = len0 + 1 := by rw [List.length_append, HM.out.sz]; rfl
      rw [hlz] at hmz ⊢
      have HB12 := Lib.hid (HW11.out.trans (hb.mono HW11.out.size))
      have HT12 := Lib.hid (HT11.out.below hb)
      have HM12 := Lib.hid (HM.out.below HB12.out)
      have HY12 := Lib.hid (HC.out.below HB12.out)
      obtain ⟨ad, rfl, b14, l14, c14, hcell, hcz⟩ := hmz.row len0 (by omega)
      have ey : (zss ++ [y]).getD len0 [] = y := by rw [← HM.out.sz]; simp [List.getD]
      rw [ey] at hcz
      have HCZ := Lib.hid hcz
      clear hr hb hbk hlz hmz ey hcz HC11 HW11 HT11 HMT HC8 HX8
      have hc1 : w12.cell? (ad.add len0) = some (.slice b14 l14 c14) := hcell
      have hg1 : ∀ q, (w12.drewN q).cell? (ad.add len0) = some (.slice b14 l14 c14) := fun q => hcell
      have hv1 : ∀ q, (convert 22 9 (.slice b14 l14 c14)).run Tryd.prog (w12.drewN q) = .ok (.string (strOfNums y)) (w12.drewN q) := fun q => conv_reads ((HCZ.out.drewN q).reads) c14
      have hv2 : ∀ q, (convert 22 9 (.slice a1 len1 cap1)).run Tryd.prog (w12.drewN q) = .ok (.string (strOfNums y)) (w12.drewN q) := fun q => conv_reads ((HY12.out.drewN q).reads) cap1
      go_upto_region 10 with (fail)
      go_quiet (exact Calls.quiet_of (rows_true ((HT12.out).below (below_drewN (Below.refl _ _) _)) ((HM12.out).below (below_drewN (Below.refl _ _) _))))
      go_wp2_with fail
      go_ret
      exact ⟨rfl, below_drewN HB12.out _⟩
end Go.Proofs.YtbgaekokjkdpiaaDoor
