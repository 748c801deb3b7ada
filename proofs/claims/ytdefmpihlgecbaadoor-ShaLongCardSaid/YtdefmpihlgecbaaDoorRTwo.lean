/- The sum of two sums, by the program and by the second saying. -/
import Derived.Test.YtdefmpihlgecbaaDoorTwo
import Derived.Test.YtdefmpihlgecbaaDoorSum2
import Derived.Deep.AppendLies
namespace Go.Proofs.YtdefmpihlgecbaaDoor
open Go.RowKit Sha
set_option linter.unusedVariables false
set_option linter.unusedSimpArgs false

theorem rsum_val (a0 : Option Addr) (len0 cap0 : Nat) (z0 : List Int) (w : World) (hr : Reads w a0 len0 z0) (hnil : a0 = none → len0 = 0 ∧ cap0 = 0) (hby : ∀ c ∈ z0, Byte c) (hn : len0 ≤ 100000) :
    Calls Tryd.prog 11 #[.slice a0 len0 cap0] w fun y w' => y = .returned (.agg (cur (sum z0))) ∧ Below w.heap.size w w' :=
  (rsum_any a0 len0 cap0 z0 w hr hnil hby hn).mono fun y w' ⟨cs, h1, h2, h3⟩ => ⟨by rw [h1, sum_same h2 (sum_is z0)], h3⟩

set_option maxRecDepth 100000 in
set_option maxHeartbeats 4000000 in
theorem rtwo_any (cs ds : Array Value) (hs ks : List Int) (h1 : Sum cs hs) (h2 : Sum ds ks) (w : World) :
    Calls Tryd.prog 13 #[.agg cs, .agg ds] w fun y w' => y = .returned (.agg (cur (sum ([1] ++ hs ++ ks)))) ∧ Below w.heap.size w w' := by
  obtain ⟨i0, hi, hz0, hz1, hz2⟩ := info_parts Tryd.infoByte
  obtain ⟨X, hX⟩ : ∃ X, X = ((w.alloc (.cells cs 24)).alloc (.cells ds 24)).alloc (.cells noughts.toArray 24) := ⟨_, rfl⟩
  have e1 : (w.alloc (.cells cs 24)).heap.size = w.heap.size + 1 := by simp
  have e2 : ((w.alloc (.cells cs 24)).alloc (.cells ds 24)).heap.size = w.heap.size + 1 + 1 := by simp
  have HRA : Hid (Reads X (some ⟨w.heap.size, 0, none⟩) 32 hs) := by
    rw [hX]
    exact ((h1.boxed w 24).below ((Below.refl _ _).alloc (Nat.le_refl _) _)).below ((Below.refl _ _).alloc (Nat.le_refl _) _)
  have HRB : Hid (Reads X (some ⟨w.heap.size + 1, 0, none⟩) 32 ks) := by
    have h := h2.boxed (w.alloc (.cells cs 24)) 24
    rw [e1] at h
    rw [hX]
    exact h.below ((Below.refl _ _).alloc (Nat.le_refl _) _)
  have HO : Hid (OutRow X (w.heap.size + 1 + 1) []) := by
    have h := heap_alloc_new ((w.alloc (.cells cs 24)).alloc (.cells ds 24)) (.cells noughts.toArray 24)
    rw [← hX, e2, ← cur_nil] at h
    exact h
  have HL : Hid (Below w.heap.size w X) := by rw [hX]; exact (((Below.refl _ _).alloc (Nat.le_refl _) _).alloc (by simp) _).alloc (by simp; omega) _
  have HS1 := Lib.hid h1
  have HS2 := Lib.hid h2
  have HX := Lib.hid hX
  clear hX h1 h2 e1 e2
  go_enter Tryd.func13, Tryd.ntmps13
  go_upto_region 1 with (fail)
  rw [← noughts_eq, ← HX.out]
  obtain ⟨gO, hgO⟩ : ∃ g, g = w.heap.size + 1 + 1 := ⟨_, rfl⟩
  obtain ⟨gB, hgB⟩ : ∃ g, g = w.heap.size + 1 := ⟨_, rfl⟩
  obtain ⟨gA, hgA⟩ : ∃ g, g = w.heap.size := ⟨_, rfl⟩
  rw [← hgO] at HO
  rw [← hgB] at HRB
  rw [← hgA] at HRA
  rw [← hgO, ← hgB, ← hgA]
  have HG : Hid (w.heap.size ≤ gO) := by show w.heap.size ≤ gO; omega
  clear hgO hgB hgA HX
  have HO2 : Hid ((X.alloc (.cells #[.int .u8 1] 5)).ownsRow X.heap.size 5 1 (.slice (some ⟨X.heap.size, 0, none⟩) 1 1) 1 (bts [1])) := ⟨by simp [bts], .inr ⟨X.heap.size, 1, #[.int .u8 1], rfl, Nat.le_refl _, heap_alloc_new X _, Nat.le_refl _, by unfold maxLen; omega, by simp, by simp [bts]⟩⟩
  have HB2 : Hid (Below X.heap.size X (X.alloc (.cells #[.int .u8 1] 5))) := (Below.refl _ _).alloc (Nat.le_refl _) _
  have HRA2 : Hid (Reads (X.alloc (.cells #[.int .u8 1] 5)) (some ⟨gA, 0, none⟩) 32 hs) := HRA.out.below HB2.out
  go_upto_region 2 with (at_builtin; go_must (refine wpList_append_reads rfl _ _ 22 rfl X.heap.size 5 i0 Tryd.underlying22 hi hz0 hz1 hz2 _ 1 [1] rfl HO2.out (some ⟨gA, 0, none⟩) 32 32 hs rfl HRA2.out (fun h => by cases h) (by omega) HB2.out.size ?_; intro v3 w3 ho3 hg3; have HO3 := Lib.hid ho3; have HB3 : Hid (Below X.heap.size X w3) := HB2.out.grown hg3 HB2.out.size (fun q hq => (HO2.out.lt q hq).1); clear ho3 hg3))
  have HRB3 : Hid (Reads w3 (some ⟨gB, 0, none⟩) 32 ks) := HRB.out.below HB3.out
  go_wp2_with (at_builtin; go_must (refine wpList_append_reads rfl _ _ 22 rfl X.heap.size 5 i0 Tryd.underlying22 hi hz0 hz1 hz2 _ (1 + 32) ([1] ++ hs) rfl HO3.out (some ⟨gB, 0, none⟩) 32 32 ks rfl HRB3.out (fun h => by cases h) (by omega) HB3.out.size ?_; intro v4 w4 ho4 hg4; have HO4 := Lib.hid ho4; have HB4 : Hid (Below X.heap.size X w4) := HB3.out.grown hg4 HB3.out.size (fun q hq => (HO3.out.lt q hq).1); clear ho4 hg4))
  obtain ⟨g4, c4, hv4, -, -⟩ := World.ownsRow.form HO4.out (by omega)
  have hrow := HO4.out
  obtain ⟨a5, c5, hv5, hrd, hcap, hmx⟩ := owned_val2 hrow
  have hnil : a5 = none → 1 + 32 + 32 = 0 ∧ c5 = 0 := by
    intro h
    rw [hv5, h] at hv4
    cases hv4
  have hby : ∀ c ∈ [1] ++ hs ++ ks, Byte c := by
    intro c hc
    simp only [List.nil_append, List.mem_append, List.mem_singleton] at hc
    rcases hc with (rfl | hc) | hc
    · exact ⟨by omega, by omega⟩
    · exact HS1.out.bytes c hc
    · exact HS2.out.bytes c hc
  subst hv5
  refine (rsum_val a5 _ c5 _ w4 hrd hnil hby (by omega)).mono ?_
  rintro _ w5 ⟨rfl, hb5⟩
  have HO5 : Hid (OutRow w5 gO []) := (HO.out.keep HB4.out).keep hb5
  have HB5 : Hid (Below w.heap.size w w5) := (HL.out.trans (HB4.out.mono HL.out.size)).trans (hb5.mono (Nat.le_trans HL.out.size HB4.out.size))
  obtain ⟨R, hR⟩ : ∃ R, R = sum ([1] ++ hs ++ ks) := ⟨_, rfl⟩
  have HSR : Hid (Sum (cur R) R) := by rw [hR]; exact sum_is _
  rw [← hR]
  have HR := Lib.hid hR
  clear hR hb5 hrow hrd hcap hmx hnil hby hv4
  go_wp2_with (refine wpList_store_row rfl 24 (.tmp 4) (.tmp 12) rfl gO (cur R) rfl rfl 24 _ HO5.out (sum_info HSR.out) (by rw [sum_size HSR.out, cur_nil]; rfl) (sum_one HSR.out) ?_)
  have hfin := setRow_heap w5 gO _ (cur R) _ _ HO5.out
  exact bodyPost_ret (v := .agg (cur R)) (results_cell_row (P := Tryd.prog) rfl _ _ gO 24 _ (0, 0) _ rfl hfin Tryd.underlying24 rfl (sum_info HSR.out)) rfl ⟨by rw [HR.out]; simp, below_setRow HB5.out HG.out _⟩

end Go.Proofs.YtdefmpihlgecbaaDoor
