/- ShaFronts: the walk. -/
import Derived.Test.YtdefmpihlgecbaaDoorLSums
import Derived.Test.YtdefmpihlgecbaaDoorWithin
namespace Go.Proofs.YtdefmpihlgecbaaDoor
open Go.RowKit Sha
set_option linter.unusedVariables false
set_option linter.unusedSimpArgs false

theorem slice_to (a : Option Addr) (len cap p : Nat) (hp : p ≤ cap) (n : Int) (hn : n = (p : Int)) (w : World) :
    (Instr.sliceAt 22 (.slice a len cap) none (some (.int .i64 n)) none).run Tryd.prog w = .ok (.slice a p cap) w := by
  subst hn
  have e := run_slice_h (P := Tryd.prog) (a := a) (len := len) (cap := cap) w 22 (by kernel_rfl) .i64 (p : Int) (by omega) (by omega)
  have hs : (sizeOf (Tryd.prog.elem 22)).run Tryd.prog w = .ok 1 w := by kernel_rfl
  rw [run_sliceAt_slice _ _ _ _ _ _ (by kernel_rfl), e, hs]
  have ha : Option.map (fun x => Addr.add x 0) a = a := by cases a with
    | none => rfl
    | some x => simp [Addr.add_zero']
  simp [sliced, ha]

set_option maxRecDepth 100000 in
set_option maxHeartbeats 8000000 in
theorem lfronts_any (a0 : Option Addr) (len0 cap0 : Nat) (z0 : List Int) (ct : Int) (mr : Int) (w : World) (hcame : Came w a0 len0 cap0 z0) (hct : I64 ct) (hmr : Byte mr) (hlaid : Laid w) :
    Calls Tryd.prog 8 #[.slice a0 len0 cap0, .int .i64 ct, .int .u8 mr] w fun e w' => e = .returned (.bool true) ∧ Below w.heap.size w w' := by
  obtain ⟨i0, hi, hz0, hz1, hz2⟩ := info_parts Tryd.infoByte
  have HLA0 := Lib.hid hlaid
  have HLE := Lib.hid hcame.le
  have HNIL := Lib.hid hcame.nil
  have HBY := Lib.hid hcame.bytes
  have HRz := Lib.hid hcame.reads
  have HMR := Lib.hid hmr
  clear hcame hlaid hmr
  go_enter Tryd.func8, Tryd.ntmps8
  go_wp2_with fail
  refine (known_any w HLA0.out).mono ?_
  rintro _ w1 ⟨rfl, hb1⟩
  have HB1 := Lib.hid hb1
  clear hb1
  by_cases hl : 300 < len0
  · go_wp2
    go_ret
    exact ⟨rfl, HB1.out⟩
  · go_wp2_with fail
    refine (within_any ct ((len0 : Int) + 1) w1 (by omega) (by omega)).mono ?_
    rintro _ _ ⟨rfl, rfl⟩
    have hk0 : 0 ≤ ct % ((len0 : Int) + 1) := Int.emod_nonneg _ (by omega)
    have hk1 : ct % ((len0 : Int) + 1) < (len0 : Int) + 1 := Int.emod_lt_of_pos _ (by omega)
    obtain ⟨kN, hkN⟩ : ∃ kN : Nat, ct % ((len0 : Int) + 1) = (kN : Int) := ⟨(ct % ((len0 : Int) + 1)).toNat, by omega⟩
    rw [hkN]
    rw [hkN] at hk0 hk1
    have hkl : kN ≤ len0 := by omega
    clear hkN hk0 hk1
    have HM := Lib.hid (World.ownsRow_made (base := w1.heap.size) (e := 5) (size := 1) w1 #[] 0 (Nat.le_refl _) (by unfold maxLen; omega) rfl)
    have HRa : Hid (Reads (w1.alloc (.cells #[] 5)) a0 len0 z0) := (HRz.out.below HB1.out).below ((Below.refl _ _).alloc (Nat.le_refl _) _)
    have HBa : Hid (Below w1.heap.size w1 (w1.alloc (.cells #[] 5))) := (Below.refl _ _).alloc (Nat.le_refl _) _
    go_upto_region 7 with (first
      | (at_builtin; (refine wpList_append_reads rfl (.tmp 20) _ 22 rfl w1.heap.size 5 i0 Tryd.underlying22 hi hz0 hz1 hz2 _ 0 [] rfl HM.out a0 len0 cap0 z0 rfl HRa.out HNIL.out (by omega) HBa.out.size ?_; intro v2 w2 ho2 hg2; rw [Nat.zero_add, List.nil_append] at ho2; have hb2 : Below w1.heap.size w1 w2 := HBa.out.grown hg2 HBa.out.size (fun q hq => (HM.out.lt q hq).1); have HO2 : Hid ((w2.alloc (.cells #[.int .u8 mr] 5)).ownsRow w1.heap.size 5 1 v2 len0 (bts z0)) := owns_later ho2 ((Below.refl _ _).alloc (Nat.le_refl _) _); have HB2 : Hid (Below w1.heap.size w1 (w2.alloc (.cells #[.int .u8 mr] 5))) := hb2.alloc hb2.size _; have HR2 : Hid (Reads (w2.alloc (.cells #[.int .u8 mr] 5)) (some ⟨w2.heap.size, 0, none⟩) 1 [mr]) := ⟨rfl, fun _ => ⟨_, rfl, one_new w2 mr⟩⟩; clear ho2 hg2 hb2))
      | (at_builtin; (refine wpList_append_reads rfl (.tmp 22) _ 22 rfl w1.heap.size 5 i0 Tryd.underlying22 hi hz0 hz1 hz2 _ len0 z0 rfl HO2.out (some ⟨w2.heap.size, 0, none⟩) 1 1 [mr] rfl HR2.out (fun h => by cases h) (by omega) HB2.out.size ?_; intro v3 w3 ho3 hg3; have hb3 : Below w1.heap.size w1 w3 := HB2.out.grown hg3 HB2.out.size (fun q hq => (HO2.out.lt q hq).1); have HO3 := Lib.hid ho3; have HB3 := Lib.hid hb3; clear ho3 hg3 hb3)))
    have hO3 := HO3.out
    obtain ⟨g3, c3, rfl, -, -⟩ := World.ownsRow.form hO3 (by omega)
    obtain ⟨a5, c6, hv5, hrd, hcap, hmx⟩ := owned_val2 hO3
    obtain ⟨rfl, rfl⟩ : some (⟨g3, 0, none⟩ : Addr) = a5 ∧ c3 = c6 := by simpa using hv5
    obtain ⟨T1, hT1⟩ : ∃ T, T = z0 ++ [mr] := ⟨_, rfl⟩
    rw [← hT1] at hrd
    have HR13 := Lib.hid hrd
    have HC1 := Lib.hid hcap
    have HY1 : Hid (∀ c ∈ T1, Byte c) := by
      rw [hT1]
      intro c hc
      rcases List.mem_append.1 hc with h | h
      · exact HBY.out c h
      · rw [List.mem_singleton.1 h]; exact HMR.out
    have HB4 : Hid (Below w.heap.size w w3) := HB1.out.trans (HB3.out.mono HB1.out.size)
    clear hO3 hv5 hrd hcap hmx hT1 HO3 HB3 HM HRa HBa HO2 HB2 HR2
    go_wp2_with fail
    refine (sum_any a0 len0 cap0 z0 w3 (HRz.out.below HB4.out) HLE.out HNIL.out HBY.out (by omega) (HLA0.out.keep HB4.out)).mono ?_
    rintro _ w4 ⟨rfl, hb4⟩
    have HN4 : Hid ((w4.alloc (.cells noughts.toArray 24)).heap[w4.heap.size]? = some (.cells noughts.toArray 24 (0, 0))) := heap_alloc_new w4 _
    have HSw := Lib.hid (sum_is z0)
    have HBb := Lib.hid hb4
    clear hb4
    go_upto_region 8 with (refine wpList_store_sum rfl (.tmp 9) (.tmp 27) rfl w4.heap.size (cur (sum z0)) (sum z0) rfl rfl HSw.out _ HN4.out rfl ?_; intro Y hY hbY)
    have hb5 : Below w4.heap.size w4 Y := ((Below.refl _ _).alloc (Nat.le_refl _) (.cells noughts.toArray 24)).trans hbY
    have hb6 : Below w3.heap.size w3 Y := HBb.out.trans (hb5.mono HBb.out.size)
    have HB : Hid (Below w.heap.size w Y) := HB4.out.trans (hb6.mono HB4.out.size)
    have HRb := Lib.hid (HRz.out.below HB.out)
    have HR0 : Hid (Reads Y a0 kN (z0.take kN)) := HRb.out.take hkl
    have HR1 := Lib.hid (HR13.out.below hb6)
    have HLA := Lib.hid (HLA0.out.keep HB.out)
    have HKC : Hid (kN ≤ cap0) := Nat.le_trans hkl HLE.out
    have HN0 : Hid (a0 = none → kN = 0 ∧ cap0 = 0) := fun h => ⟨by have := (HNIL.out h).1; omega, (HNIL.out h).2⟩
    have HN1 : Hid (some (⟨g3, 0, none⟩ : Addr) = none → len0 + 1 = 0 ∧ c3 = 0) := fun h => by cases h
    obtain ⟨gW, hgW⟩ : ∃ g, g = w4.heap.size := ⟨_, rfl⟩
    rw [← hgW] at hY ⊢
    have HgW : Hid (∀ w', Below Y.heap.size Y w' → w'.rangeAt gW 0 (cur (sum z0)).toList) := fun w' hb => box_range ((hb.block _ (Array.getElem?_eq_some_iff.1 hY).1).trans hY)
    obtain ⟨T0, hT0⟩ : ∃ T, T = z0.take kN := ⟨_, rfl⟩
    have HY0 : Hid (∀ c ∈ T0, Byte c) := by rw [hT0]; exact fun c hc => HBY.out c (List.mem_of_mem_take hc)
    rw [← hT0] at HR0
    have he0 := same_sum T0
    have he1 := same_sum T1
    have he2 := same_sum z0
    have hsl := slice_to a0 len0 cap0 kN HKC.out (kN : Int) rfl
    clear hT0 hgW hY hbY hb5 hb6 HN4 HBb HR13 HB4
    refine quiet_start (fun w' => Below Y.heap.size Y w') (by kernel_rfl) (by kernel_rfl) (below_drewN (Below.refl _ _) 1) ?_
    (refine q_yield (v := ?_) (Or.inl ⟨by rfl, fun w' hw' => ?_⟩) ?_; rotate_left; (· go_simp; try with_reducible rfl))
    try simp only [Act.put, List.setIfInBounds_toArray, List.set_cons_zero, List.set_cons_succ]
    (refine q_yield (v := ?_) (Or.inl ⟨by rfl, fun w' hw' => ?_⟩) ?_; rotate_left; (· go_simp; try with_reducible rfl))
    try simp only [Act.put, List.setIfInBounds_toArray, List.set_cons_zero, List.set_cons_succ]
    (refine q_yield (v := ?_) (Or.inl ⟨by rfl, fun w' hw' => ?_⟩) ?_; rotate_left; (· go_simp; try with_reducible rfl))
    try simp only [Act.put, List.setIfInBounds_toArray, List.set_cons_zero, List.set_cons_succ]
    refine q_call (.agg (cur (sum T0))) (by rfl) (fun w' => by go_simp; exact ⟨rfl, rfl⟩) (fun w' hw' => ?_) ?_
    · refine (sum_any a0 kN cap0 T0 w' (HR0.out.below hw') HKC.out HN0.out HY0.out (by omega) (HLA.out.keep hw')).mono fun e w'' h => ⟨h.1, hw'.trans (h.2.mono hw'.size)⟩
    try simp only [Act.put, List.setIfInBounds_toArray, List.set_cons_zero, List.set_cons_succ]
    (refine q_yield (v := ?_) (Or.inl ⟨by rfl, fun w' hw' => ?_⟩) ?_; rotate_left; (· go_simp; try with_reducible rfl))
    try simp only [Act.put, List.setIfInBounds_toArray, List.set_cons_zero, List.set_cons_succ]
    (refine q_yield (v := ?_) (Or.inl ⟨by rfl, fun w' hw' => ?_⟩) ?_; rotate_left; (· go_simp; try with_reducible rfl))
    try simp only [Act.put, List.setIfInBounds_toArray, List.set_cons_zero, List.set_cons_succ]
    (refine q_yield (v := ?_) (Or.inl ⟨by rfl, fun w' hw' => ?_⟩) ?_; rotate_left; (· go_simp; try with_reducible rfl))
    try simp only [Act.put, List.setIfInBounds_toArray, List.set_cons_zero, List.set_cons_succ]
    refine q_call (.agg (cur (sum T0))) (by rfl) (fun w' => by go_simp; exact ⟨rfl, rfl⟩) (fun w' hw' => ?_) ?_
    · refine (rsum_val a0 kN cap0 T0 w' (HR0.out.below hw') HN0.out HY0.out (by omega)).mono fun e w'' h => ⟨h.1, hw'.trans (h.2.mono hw'.size)⟩
    try simp only [Act.put, List.setIfInBounds_toArray, List.set_cons_zero, List.set_cons_succ]
    (refine q_yield (v := ?_) (Or.inl ⟨by rfl, fun w' hw' => ?_⟩) ?_; rotate_left; (· go_simp; try with_reducible rfl))
    try simp only [Act.put, List.setIfInBounds_toArray, List.set_cons_zero, List.set_cons_succ]
    (refine q_yield (v := ?_) (Or.inl ⟨by rfl, fun w' hw' => ?_⟩) ?_; rotate_left; (· go_simp; try with_reducible rfl))
    try simp only [Act.put, List.setIfInBounds_toArray, List.set_cons_zero, List.set_cons_succ]
    (refine q_yield (v := ?_) (Or.inl ⟨by rfl, fun w' hw' => ?_⟩) ?_; rotate_left; (· go_simp; try with_reducible rfl))
    try simp only [Act.put, List.setIfInBounds_toArray, List.set_cons_zero, List.set_cons_succ]
    refine q_call (.agg (cur (sum T1))) (by rfl) (fun w' => by go_simp; exact ⟨rfl, rfl⟩) (fun w' hw' => ?_) ?_
    · refine (sum_any _ _ _ T1 w' (HR1.out.below hw') HC1.out HN1.out HY1.out (by omega) (HLA.out.keep hw')).mono fun e w'' h => ⟨h.1, hw'.trans (h.2.mono hw'.size)⟩
    try simp only [Act.put, List.setIfInBounds_toArray, List.set_cons_zero, List.set_cons_succ]
    (refine q_yield (v := ?_) (Or.inl ⟨by rfl, fun w' hw' => ?_⟩) ?_; rotate_left; (· go_simp; try with_reducible rfl))
    try simp only [Act.put, List.setIfInBounds_toArray, List.set_cons_zero, List.set_cons_succ]
    refine q_call (.agg (cur (sum T1))) (by rfl) (fun w' => by go_simp; exact ⟨rfl, rfl⟩) (fun w' hw' => ?_) ?_
    · refine (rsum_val _ _ _ T1 w' (HR1.out.below hw') HN1.out HY1.out (by omega)).mono fun e w'' h => ⟨h.1, hw'.trans (h.2.mono hw'.size)⟩
    try simp only [Act.put, List.setIfInBounds_toArray, List.set_cons_zero, List.set_cons_succ]
    (refine q_yield (v := ?_) (Or.inl ⟨by rfl, fun w' hw' => ?_⟩) ?_; rotate_left; (· go_simp; try with_reducible rfl))
    try simp only [Act.put, List.setIfInBounds_toArray, List.set_cons_zero, List.set_cons_succ]
    (refine q_yield (v := ?_) (Or.inl ⟨by rfl, fun w' hw' => ?_⟩) ?_; rotate_left; (· go_simp; try with_reducible rfl))
    try simp only [Act.put, List.setIfInBounds_toArray, List.set_cons_zero, List.set_cons_succ]
    (refine q_yield (v := ?_) (Or.inl ⟨by rfl, fun w' hw' => ?_⟩) ?_; rotate_left; (· go_simp; try with_reducible rfl))
    try simp only [Act.put, List.setIfInBounds_toArray, List.set_cons_zero, List.set_cons_succ]
    (refine q_yield (v := ?_) (Or.inl ⟨by rfl, fun w' hw' => ?_⟩) ?_; rotate_left; (· go_simp; try with_reducible rfl))
    try simp only [Act.put, List.setIfInBounds_toArray, List.set_cons_zero, List.set_cons_succ]
    refine q_call (.agg (cur (sum z0))) (by rfl) (fun w' => by go_simp; exact ⟨rfl, rfl⟩) (fun w' hw' => ?_) ?_
    · refine (sum_any a0 len0 cap0 z0 w' (HRb.out.below hw') HLE.out HNIL.out HBY.out (by omega) (HLA.out.keep hw')).mono fun e w'' h => ⟨h.1, hw'.trans (h.2.mono hw'.size)⟩
    try simp only [Act.put, List.setIfInBounds_toArray, List.set_cons_zero, List.set_cons_succ]
    refine q_yield (yieldsIf_load_mid (by rfl) 24 _ rfl gW 0 rfl (cur (sum z0)).toList _ (fun w' hw' => HgW.out w' hw') Tryd.underlying24 rfl (by rw [Array.length_toList]; exact sum_info HSw.out)) ?_
    try simp only [Act.put, List.setIfInBounds_toArray, List.set_cons_zero, List.set_cons_succ]
    try simp only [Array.toArray_toList]
    (refine q_yield (v := ?_) (Or.inl ⟨by rfl, fun w' hw' => ?_⟩) ?_; rotate_left; (· go_simp; try with_reducible rfl))
    try simp only [Act.put, List.setIfInBounds_toArray, List.set_cons_zero, List.set_cons_succ]
    (refine q_yield (v := ?_) (Or.inl ⟨by rfl, fun w' hw' => ?_⟩) ?_; rotate_left; (· go_simp; try with_reducible rfl))
    try simp only [Act.put, List.setIfInBounds_toArray, List.set_cons_zero, List.set_cons_succ]
    (refine q_yield (v := ?_) (Or.inl ⟨by rfl, fun w' hw' => ?_⟩) ?_; rotate_left; (· go_simp; try with_reducible rfl))
    try simp only [Act.put, List.setIfInBounds_toArray, List.set_cons_zero, List.set_cons_succ]
    refine q_yield (yieldsIf_load_mid (by rfl) 24 _ rfl gW 0 rfl (cur (sum z0)).toList _ (fun w' hw' => HgW.out w' hw') Tryd.underlying24 rfl (by rw [Array.length_toList]; exact sum_info HSw.out)) ?_
    try simp only [Act.put, List.setIfInBounds_toArray, List.set_cons_zero, List.set_cons_succ]
    try simp only [Array.toArray_toList]
    (refine q_yield (v := ?_) (Or.inl ⟨by rfl, fun w' hw' => ?_⟩) ?_; rotate_left; (· go_simp; try with_reducible rfl))
    try simp only [Act.put, List.setIfInBounds_toArray, List.set_cons_zero, List.set_cons_succ]
    refine q_call (.agg (cur (sum z0))) (by rfl) (fun w' => by go_simp; exact ⟨rfl, rfl⟩) (fun w' hw' => ?_) ?_
    · refine (rsum_val a0 len0 cap0 z0 w' (HRb.out.below hw') HNIL.out HBY.out (by omega)).mono fun e w'' h => ⟨h.1, hw'.trans (h.2.mono hw'.size)⟩
    try simp only [Act.put, List.setIfInBounds_toArray, List.set_cons_zero, List.set_cons_succ]
    (refine q_yield (v := ?_) (Or.inl ⟨by rfl, fun w' hw' => ?_⟩) ?_; rotate_left; (· go_simp; try with_reducible rfl))
    try simp only [Act.put, List.setIfInBounds_toArray, List.set_cons_zero, List.set_cons_succ]
    (refine q_yield (v := ?_) (Or.inl ⟨by rfl, fun w' hw' => ?_⟩) ?_; rotate_left; (· go_simp; try with_reducible rfl))
    try simp only [Act.put, List.setIfInBounds_toArray, List.set_cons_zero, List.set_cons_succ]
    (refine q_yield (v := ?_) (Or.inl ⟨by rfl, fun w' hw' => ?_⟩) ?_; rotate_left; (· go_simp; try with_reducible rfl))
    try simp only [Act.put, List.setIfInBounds_toArray, List.set_cons_zero, List.set_cons_succ]
    refine wpQuiet_nil ?_
    intro w' hw'
    clear he0 he1 he2 hsl
    go_wp2
    go_ret
    exact ⟨rfl, HB.out.trans (hw'.mono HB.out.size)⟩
end Go.Proofs.YtdefmpihlgecbaaDoor
