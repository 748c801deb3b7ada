/- ShaTwo: the walk. -/
import Derived.Test.YtdefmpihlgecbaaDoorRTwo
namespace Go.Proofs.YtdefmpihlgecbaaDoor
open Go.RowKit Sha
set_option linter.unusedVariables false
set_option linter.unusedSimpArgs false

theorem same_sum' (z : List Int) (w : World) : (binOp .eql 24 (.agg (cur (sum z))) (.agg (cur (sum z)))).run Tryd.prog w = .ok (.bool true) w := by
  rw [eql_sum (sum_is z) (sum_is z) w, decide_eq_true rfl]

theorem box_range' {w : World} {g : Nat} {cs : Array Value} {T : TypeId} (h : w.heap[g]? = some (.cells cs T (0, 0))) : w.rangeAt g 0 cs.toList := fun j v hv => by
  simp only [World.cell?, h, Nat.zero_add]
  simpa using hv

set_option maxRecDepth 100000 in
set_option maxHeartbeats 8000000 in
theorem ltwo_any (cs : Array Value) (hs : List Int) (ds : Array Value) (ks : List Int) (w : World) (h1 : Sum cs hs) (h2 : Sum ds ks) (hlaid : Laid w) :
    Calls Tryd.prog 6 #[.agg cs, .agg ds] w fun e w' => e = .returned (.bool true) ∧ Below w.heap.size w w' := by
  obtain ⟨i0, hi, hz0, hz1, hz2⟩ := info_parts Tryd.infoByte
  obtain ⟨X, hX⟩ : ∃ X, X = (w.alloc (.cells cs 24)).alloc (.cells ds 24) := ⟨_, rfl⟩
  have HL : Hid (Below w.heap.size w X) := by rw [hX]; exact ((Below.refl _ _).alloc (Nat.le_refl _) _).alloc (by simp) _
  have hA0 : X.heap[w.heap.size]? = some (.cells cs 24 (0, 0)) := by
    have h := heap_alloc_new w (.cells cs 24)
    rw [hX]
    exact (((Below.refl _ _).alloc (Nat.le_refl _) _ : Below (w.alloc (.cells cs 24)).heap.size _ _).block _ (by simp)).trans h
  have e1 : (w.alloc (.cells cs 24)).heap.size = w.heap.size + 1 := by simp
  have hB0 : X.heap[w.heap.size + 1]? = some (.cells ds 24 (0, 0)) := by
    have h := heap_alloc_new (w.alloc (.cells cs 24)) (.cells ds 24)
    rw [← hX, e1] at h
    exact h
  have HLA := Lib.hid (hlaid.keep HL.out)
  have hRA0 : Reads X (some ⟨w.heap.size, 0, none⟩) 32 hs := by
    rw [hX]
    exact (h1.boxed w 24).below ((Below.refl _ _).alloc (Nat.le_refl _) _)
  have hRB0 : Reads X (some ⟨w.heap.size + 1, 0, none⟩) 32 ks := by
    have h := h2.boxed (w.alloc (.cells cs 24)) 24
    rw [e1] at h
    rw [hX]
    exact h
  have HgA : Hid (∀ w', Below X.heap.size X w' → w'.rangeAt w.heap.size 0 cs.toList) := fun w' hb => box_range' ((hb.block _ (Array.getElem?_eq_some_iff.1 hA0).1).trans hA0)
  have HgB : Hid (∀ w', Below X.heap.size X w' → w'.rangeAt (w.heap.size + 1) 0 ds.toList) := fun w' hb => box_range' ((hb.block _ (Array.getElem?_eq_some_iff.1 hB0).1).trans hB0)
  have HRA : Hid (∀ w', Below X.heap.size X w' → Reads w' (some ⟨w.heap.size, 0, none⟩) 32 hs) := fun w' hb => hRA0.below hb
  have HRB : Hid (∀ w', Below X.heap.size X w' → Reads w' (some ⟨w.heap.size + 1, 0, none⟩) 32 ks) := fun w' hb => hRB0.below hb
  have HBYS : Hid (∀ c ∈ [1] ++ hs ++ ks, Byte c) := by
    intro c hc
    simp only [List.mem_append, List.mem_singleton] at hc
    rcases hc with (rfl | hc) | hc
    · exact ⟨by omega, by omega⟩
    · exact h1.bytes c hc
    · exact h2.bytes c hc
  have HSgA := Lib.hid h1
  have HSgB := Lib.hid h2
  have HX := Lib.hid hX
  clear hX h1 h2 hlaid hA0 hB0 e1 hRA0 hRB0
  go_enter Tryd.func6, Tryd.ntmps6
  go_upto_region 1 with (fail)
  rw [← HX.out]
  obtain ⟨gB, hgB⟩ : ∃ g, g = w.heap.size + 1 := ⟨_, rfl⟩
  obtain ⟨gA, hgA⟩ : ∃ g, g = w.heap.size := ⟨_, rfl⟩
  rw [← hgB] at HgB HRB
  rw [← hgA] at HgA HRA
  rw [← hgB, ← hgA]
  clear hgA hgB HX
  go_wp2_with fail
  refine (known_any X HLA.out).mono ?_
  rintro _ w1 ⟨rfl, hb1⟩
  have HO1 : Hid ((w1.alloc (.cells #[.int .u8 1] 5)).ownsRow X.heap.size 5 1 (.slice (some ⟨w1.heap.size, 0, none⟩) 1 1) 1 (bts [1])) := ⟨by simp [bts], .inr ⟨w1.heap.size, 1, #[.int .u8 1], rfl, hb1.size, heap_alloc_new w1 _, Nat.le_refl _, by unfold maxLen; omega, by simp, by simp [bts]⟩⟩
  have HB1 : Hid (Below X.heap.size X (w1.alloc (.cells #[.int .u8 1] 5))) := hb1.alloc hb1.size _
  have HRa := Lib.hid (HRA.out _ HB1.out)
  obtain ⟨T1, hT1⟩ : ∃ T, T = [1] ++ hs ++ ks := ⟨_, rfl⟩
  obtain ⟨T2, hT2⟩ : ∃ T, T = [1] ++ ks ++ hs := ⟨_, rfl⟩
  have he1 := same_sum' T1
  have he2 := same_sum' T2
  have HT1 := Lib.hid hT1
  have HT2 := Lib.hid hT2
  clear hT1 hT2
  clear hb1
  go_upto_region 4 with (at_builtin; go_must (refine wpList_append_reads rfl _ _ 22 rfl X.heap.size 5 i0 Tryd.underlying22 hi hz0 hz1 hz2 _ 1 [1] rfl HO1.out (some ⟨gA, 0, none⟩) 32 32 hs rfl HRa.out (fun h => by cases h) (by omega) HB1.out.size ?_; intro v2 w2 ho2 hg2; have hb2 : Below X.heap.size X w2 := HB1.out.grown hg2 HB1.out.size (fun q hq => (HO1.out.lt q hq).1); obtain ⟨g2, c2, rfl, -, -⟩ := World.ownsRow.form ho2 (by omega); have HO := Lib.hid ho2; have HB0 := Lib.hid hb2; clear ho2 hg2 hb2))
  clear HO1 HB1 HRa HRA
  refine anyS_start (by kernel_rfl) ?_
  have HBc := Lib.hid (below_drewN HB0.out 1)
  have HOc : Hid (World.ownsRow _ _ _ _ _ _ _) := owns_later HO.out (below_drewN (Below.refl _ _) 1)
  (refine anyS_free (i := 3) (v := ?_) rfl (by kernel_rfl) (by kernel_rfl) (by kernel_rfl) (fun _ _ _ h => h) (fun _ => by simp) (Or.inl ⟨by rfl, fun w' _ => ?_⟩) ?_; rotate_left; (· go_simp; try with_reducible rfl))
  try simp only [Act.put, List.setIfInBounds_toArray, List.set_cons_zero, List.set_cons_succ]
  (refine anyS_free (i := 4) (v := ?_) rfl (by kernel_rfl) (by kernel_rfl) (by kernel_rfl) (fun _ _ _ h => h) (fun _ => by simp) (Or.inl ⟨by rfl, fun w' _ => ?_⟩) ?_; rotate_left; (· go_simp; try with_reducible rfl))
  try simp only [Act.put, List.setIfInBounds_toArray, List.set_cons_zero, List.set_cons_succ]
  refine anyS_takeNew (fun w' => w'.rangeAt gA 0 cs.toList ∧ w'.rangeAt gB 0 ds.toList) [1] (i := 0) ⟨HgA.out _ HBc.out, HgB.out _ HBc.out⟩ rfl (by kernel_rfl) (by kernel_rfl) (by kernel_rfl) (by kernel_rfl) (fun _ _ _ h => h) (fun _ _ => by simp_all) (yieldsIf_load_mid (by rfl) _ _ rfl _ _ rfl _ _ (fun _ h => h.1) Tryd.underlying24 rfl (by rw [Array.length_toList]; exact sum_info HSgA.out)) ?_
  try simp only [Act.put, List.setIfInBounds_toArray, List.set_cons_zero, List.set_cons_succ]
  try simp only [Array.toArray_toList]
  refine anyS_takeNew (fun w' => w'.rangeAt gA 0 cs.toList ∧ w'.rangeAt gB 0 ds.toList) [] (i := 1) ⟨HgA.out _ HBc.out, HgB.out _ HBc.out⟩ rfl (by kernel_rfl) (by kernel_rfl) (by kernel_rfl) (by kernel_rfl) (fun _ _ _ h => h) (fun _ _ => by simp_all) (yieldsIf_load_mid (by rfl) _ _ rfl _ _ rfl _ _ (fun _ h => h.2) Tryd.underlying24 rfl (by rw [Array.length_toList]; exact sum_info HSgB.out)) ?_
  try simp only [Act.put, List.setIfInBounds_toArray, List.set_cons_zero, List.set_cons_succ]
  try simp only [Array.toArray_toList]
  refine anyS_one 2 (by kernel_rfl) rfl (fun K hK => ?_)
  go_simp
  go_at_call 12
  refine (two_any cs ds hs ks HSgA.out HSgB.out _ (HLA.out.keep HBc.out)).mono ?_
  rintro _ w2 ⟨rfl, hbn⟩
  rw [← HT1.out]
  have HBn := Lib.hid (HBc.out.trans (hbn.mono HBc.out.size))
  have HO2 := Lib.hid (owns_later HOc.out hbn)
  have hgA := HgA.out _ HBn.out
  have hgB := HgB.out _ HBn.out
  refine hK.out _ _ (by simp) ?_
  clear hK K hbn HBc hgA hgB
  have HBc := HBn
  clear HBn
  try simp only [Act.put, List.setIfInBounds_toArray, List.set_cons_zero, List.set_cons_succ]
  have HRb := Lib.hid (HRB.out _ HBc.out)
  refine anyS_one 5 (by kernel_rfl) rfl (fun K hK => ?_)
  refine step_append_reads rfl (.tmp 14) (.tmp 15) 22 rfl X.heap.size 5 i0 Tryd.underlying22 hi hz0 hz1 hz2 _ 33 _ rfl HO2.out _ 32 32 ks rfl HRb.out (by omega) HBc.out.size ?_
  intro v5 w5 ho5 hg5
  have hb5 : Below X.heap.size X w5 := HBc.out.grown hg5 HBc.out.size (fun q hq => (HO2.out.lt q hq).1)
  obtain ⟨g5, c5, rfl, -, -⟩ := World.ownsRow.form ho5 (by omega)
  obtain ⟨a5, c6, hv5, hrd, hcap, hmx⟩ := owned_val2 ho5
  obtain ⟨rfl, rfl⟩ : some (⟨g5, 0, none⟩ : Addr) = a5 ∧ c5 = c6 := by simpa using hv5
  have HRD := Lib.hid hrd
  have HCP := Lib.hid hcap
  refine hK.out _ _ (by simp) ?_
  clear hK K ho5 hg5 HBc HO2 HRb hrd hcap hmx hv5
  have HBc := Lib.hid hb5
  clear hb5
  try simp only [Act.put, List.setIfInBounds_toArray, List.set_cons_zero, List.set_cons_succ]
  refine anyS_one 6 (by kernel_rfl) rfl (fun K hK => ?_)
  go_simp
  go_at_call 10
  refine (sum_any _ _ _ _ _ HRD.out HCP.out (fun h => by cases h) HBYS.out (by omega) (HLA.out.keep HBc.out)).mono ?_
  rintro _ w6 ⟨rfl, hbn⟩
  rw [← HT1.out]
  have HBn := Lib.hid (HBc.out.trans (hbn.mono HBc.out.size))
  have hgA := HgA.out _ HBn.out
  have hgB := HgB.out _ HBn.out
  refine hK.out _ _ (by simp) ?_
  clear hK K hbn HBc hgA hgB
  have HBc := HBn
  clear HBn
  try simp only [Act.put, List.setIfInBounds_toArray, List.set_cons_zero, List.set_cons_succ]
  clear HRD HCP
  (refine anyS_free (i := 7) (v := ?_) rfl (by kernel_rfl) (by kernel_rfl) (by kernel_rfl) (fun _ _ _ h => h) (fun _ => by simp) (Or.inl ⟨by rfl, fun w' _ => ?_⟩) ?_; rotate_left; (· go_simp; try with_reducible rfl))
  try simp only [Act.put, List.setIfInBounds_toArray, List.set_cons_zero, List.set_cons_succ]
  (refine anyS_free (i := 8) (v := ?_) rfl (by kernel_rfl) (by kernel_rfl) (by kernel_rfl) (fun _ _ _ h => h) (fun _ => by simp) (Or.inl ⟨by rfl, fun w' _ => ?_⟩) ?_; rotate_left; (· go_simp; try with_reducible rfl))
  try simp only [Act.put, List.setIfInBounds_toArray, List.set_cons_zero, List.set_cons_succ]
  refine anyS_takeNew (fun w' => w'.rangeAt gA 0 cs.toList ∧ w'.rangeAt gB 0 ds.toList) [10, 12, 13] (i := 9) ⟨HgA.out _ HBc.out, HgB.out _ HBc.out⟩ rfl (by kernel_rfl) (by kernel_rfl) (by kernel_rfl) (by kernel_rfl) (fun _ _ _ h => h) (fun _ _ => by simp_all) (yieldsIf_load_mid (by rfl) _ _ rfl _ _ rfl _ _ (fun _ h => h.2) Tryd.underlying24 rfl (by rw [Array.length_toList]; exact sum_info HSgB.out)) ?_
  try simp only [Act.put, List.setIfInBounds_toArray, List.set_cons_zero, List.set_cons_succ]
  try simp only [Array.toArray_toList]
  refine anyS_takeNew (fun w' => w'.rangeAt gA 0 cs.toList ∧ w'.rangeAt gB 0 ds.toList) [12, 13] (i := 10) ⟨HgA.out _ HBc.out, HgB.out _ HBc.out⟩ rfl (by kernel_rfl) (by kernel_rfl) (by kernel_rfl) (by kernel_rfl) (fun _ _ _ h => h) (fun _ _ => by simp_all) (yieldsIf_load_mid (by rfl) _ _ rfl _ _ rfl _ _ (fun _ h => h.1) Tryd.underlying24 rfl (by rw [Array.length_toList]; exact sum_info HSgA.out)) ?_
  try simp only [Act.put, List.setIfInBounds_toArray, List.set_cons_zero, List.set_cons_succ]
  try simp only [Array.toArray_toList]
  refine anyS_takeNew (fun w' => w'.rangeAt gA 0 cs.toList ∧ w'.rangeAt gB 0 ds.toList) [11, 13] (i := 12) ⟨HgA.out _ HBc.out, HgB.out _ HBc.out⟩ rfl (by kernel_rfl) (by kernel_rfl) (by kernel_rfl) (by kernel_rfl) (fun _ _ _ h => h) (fun _ _ => by simp_all) (yieldsIf_load_mid (by rfl) _ _ rfl _ _ rfl _ _ (fun _ h => h.2) Tryd.underlying24 rfl (by rw [Array.length_toList]; exact sum_info HSgB.out)) ?_
  try simp only [Act.put, List.setIfInBounds_toArray, List.set_cons_zero, List.set_cons_succ]
  try simp only [Array.toArray_toList]
  refine anyS_takeNew (fun w' => w'.rangeAt gA 0 cs.toList ∧ w'.rangeAt gB 0 ds.toList) [11] (i := 13) ⟨HgA.out _ HBc.out, HgB.out _ HBc.out⟩ rfl (by kernel_rfl) (by kernel_rfl) (by kernel_rfl) (by kernel_rfl) (fun _ _ _ h => h) (fun _ _ => by simp_all) (yieldsIf_load_mid (by rfl) _ _ rfl _ _ rfl _ _ (fun _ h => h.1) Tryd.underlying24 rfl (by rw [Array.length_toList]; exact sum_info HSgA.out)) ?_
  try simp only [Act.put, List.setIfInBounds_toArray, List.set_cons_zero, List.set_cons_succ]
  try simp only [Array.toArray_toList]
  refine anyS_one 11 (by kernel_rfl) rfl (fun K hK => ?_)
  go_simp
  go_at_call 12
  refine (two_any ds cs ks hs HSgB.out HSgA.out _ (HLA.out.keep HBc.out)).mono ?_
  rintro _ w11 ⟨rfl, hbn⟩
  rw [← HT2.out]
  have HBn := Lib.hid (HBc.out.trans (hbn.mono HBc.out.size))
  have hgA := HgA.out _ HBn.out
  have hgB := HgB.out _ HBn.out
  refine hK.out _ _ (by simp [hgA, hgB]) ?_
  clear hK K hbn HBc hgA hgB
  have HBc := HBn
  clear HBn
  try simp only [Act.put, List.setIfInBounds_toArray, List.set_cons_zero, List.set_cons_succ]
  refine anyS_one 14 (by kernel_rfl) rfl (fun K hK => ?_)
  go_simp
  go_at_call 13
  refine (rtwo_any ds cs ks hs HSgB.out HSgA.out _).mono ?_
  rintro _ w14 ⟨rfl, hbn⟩
  rw [← HT2.out]
  have HBn := Lib.hid (HBc.out.trans (hbn.mono HBc.out.size))
  have hgA := HgA.out _ HBn.out
  have hgB := HgB.out _ HBn.out
  refine hK.out _ _ (by simp [hgA, hgB]) ?_
  clear hK K hbn HBc hgA hgB
  have HBc := HBn
  clear HBn
  try simp only [Act.put, List.setIfInBounds_toArray, List.set_cons_zero, List.set_cons_succ]
  (refine anyS_free (i := 15) (v := ?_) rfl (by kernel_rfl) (by kernel_rfl) (by kernel_rfl) (fun _ _ _ h => h) (fun _ => by simp) (Or.inl ⟨by rfl, fun w' _ => ?_⟩) ?_; rotate_left; (· go_simp; try with_reducible rfl))
  try simp only [Act.put, List.setIfInBounds_toArray, List.set_cons_zero, List.set_cons_succ]
  (refine anyS_free (i := 16) (v := ?_) rfl (by kernel_rfl) (by kernel_rfl) (by kernel_rfl) (fun _ _ _ h => h) (fun _ => by simp) (Or.inl ⟨by rfl, fun w' _ => ?_⟩) ?_; rotate_left; (· go_simp; try with_reducible rfl))
  try simp only [Act.put, List.setIfInBounds_toArray, List.set_cons_zero, List.set_cons_succ]
  (refine anyS_free (i := 17) (v := ?_) rfl (by kernel_rfl) (by kernel_rfl) (by kernel_rfl) (fun _ _ _ h => h) (fun _ => by simp) (Or.inl ⟨by rfl, fun w' _ => ?_⟩) ?_; rotate_left; (· go_simp; try with_reducible rfl))
  try simp only [Act.put, List.setIfInBounds_toArray, List.set_cons_zero, List.set_cons_succ]
  refine anyS_done (by kernel_rfl) ?_ _
  refine NoPanic.normal ?_
  clear he1 he2
  go_wp2
  go_ret
  exact ⟨rfl, HL.out.trans (HBc.out.mono HL.out.size)⟩
end Go.Proofs.YtdefmpihlgecbaaDoor
