/- ShaSums: the walk. -/
import Derived.Test.YtdefmpihlgecbaaDoorRTwo
import Derived.Test.YtdefmpihlgecbaaDoorRHex
import Derived.Test.YtdefmpihlgecbaaDoorQuiet
namespace Go.Proofs.YtdefmpihlgecbaaDoor
open Go.RowKit Sha
set_option linter.unusedVariables false
set_option linter.unusedSimpArgs false

theorem same_sum (z : List Int) (w : World) : (binOp .eql 24 (.agg (cur (sum z))) (.agg (cur (sum z)))).run Tryd.prog w = .ok (.bool true) w := by
  rw [eql_sum (sum_is z) (sum_is z) w, decide_eq_true rfl]

theorem box_range {w : World} {g : Nat} {cs : Array Value} {T : TypeId} (h : w.heap[g]? = some (.cells cs T (0, 0))) : w.rangeAt g 0 cs.toList := fun j v hv => by
  simp only [World.cell?, h, Nat.zero_add]
  simpa using hv

set_option maxRecDepth 100000 in
set_option maxHeartbeats 8000000 in
theorem lsums_any (a0 : Option Addr) (len0 cap0 : Nat) (z0 : List Int) (cs : Array Value) (hs : List Int) (ds : Array Value) (ks : List Int) (w : World) (hcame : Came w a0 len0 cap0 z0) (h1 : Sum cs hs) (h2 : Sum ds ks) (hlaid : Laid w) :
    Calls Tryd.prog 3 #[.slice a0 len0 cap0, .agg cs, .agg ds] w fun e w' => e = .returned (.bool true) ∧ Below w.heap.size w w' := by
  obtain ⟨X, hX⟩ : ∃ X, X = (w.alloc (.cells cs 24)).alloc (.cells ds 24) := ⟨_, rfl⟩
  have HL : Hid (Below w.heap.size w X) := by rw [hX]; exact ((Below.refl _ _).alloc (Nat.le_refl _) _).alloc (by simp) _
  have HA0 : Hid (X.heap[w.heap.size]? = some (.cells cs 24 (0, 0))) := by
    have h := heap_alloc_new w (.cells cs 24)
    rw [hX]
    exact (((Below.refl _ _).alloc (Nat.le_refl _) _ : Below (w.alloc (.cells cs 24)).heap.size _ _).block _ (by simp)).trans h
  have HB0 : Hid (X.heap[w.heap.size + 1]? = some (.cells ds 24 (0, 0))) := by
    have h := heap_alloc_new (w.alloc (.cells cs 24)) (.cells ds 24)
    have e : (w.alloc (.cells cs 24)).heap.size = w.heap.size + 1 := by simp
    rw [← hX, e] at h
    exact h
  have HR0 := Lib.hid (hcame.reads.below HL.out)
  have HLA0 := Lib.hid (hlaid.keep HL.out)
  have HLE := Lib.hid hcame.le
  have HNIL := Lib.hid hcame.nil
  have HBY := Lib.hid hcame.bytes
  have HSgA := Lib.hid h1
  have HSgB := Lib.hid h2
  have HX := Lib.hid hX
  clear hX hcame h1 h2 hlaid
  go_enter Tryd.func3, Tryd.ntmps3
  go_upto_region 1 with (fail)
  rw [← HX.out]
  obtain ⟨gB, hgB⟩ : ∃ g, g = w.heap.size + 1 := ⟨_, rfl⟩
  obtain ⟨gA, hgA⟩ : ∃ g, g = w.heap.size := ⟨_, rfl⟩
  rw [← hgB] at HB0
  rw [← hgA] at HA0
  rw [← hgB, ← hgA]
  clear hgA hgB HX
  go_wp2_with fail
  refine (known_any X HLA0.out).mono ?_
  rintro _ w1 ⟨rfl, hb1⟩
  have HL1 : Hid (Below w.heap.size w w1) := HL.out.trans (hb1.mono HL.out.size)
  have HR := Lib.hid (HR0.out.below hb1)
  have HLA := Lib.hid (HLA0.out.keep hb1)
  have HA1 : Hid (w1.heap[gA]? = some (.cells cs 24 (0, 0))) := (hb1.block _ (Array.getElem?_eq_some_iff.1 HA0.out).1).trans HA0.out
  have HB1 : Hid (w1.heap[gB]? = some (.cells ds 24 (0, 0))) := (hb1.block _ (Array.getElem?_eq_some_iff.1 HB0.out).1).trans HB0.out
  have HgA : Hid (∀ w', Below w1.heap.size w1 w' → w'.rangeAt gA 0 cs.toList) := fun w' hb => box_range ((hb.block _ (Array.getElem?_eq_some_iff.1 HA1.out).1).trans HA1.out)
  have HgB : Hid (∀ w', Below w1.heap.size w1 w' → w'.rangeAt gB 0 ds.toList) := fun w' hb => box_range ((hb.block _ (Array.getElem?_eq_some_iff.1 HB1.out).1).trans HB1.out)
  clear hb1 HL HR0 HLA0 HA0 HB0 HA1 HB1
  by_cases hl : 2000 < len0
  · go_wp2
    go_ret
    exact ⟨rfl, HL1.out⟩
  · have he1 := same_sum z0
    obtain ⟨T2, hT2⟩ : ∃ T, T = [1] ++ hs ++ ks := ⟨_, rfl⟩
    have he2 := same_sum T2
    have HT2 := Lib.hid hT2
    clear hT2
    go_upto_region 5 with (fail)
    refine quiet_start (fun w' => Below w1.heap.size w1 w') (by kernel_rfl) (by kernel_rfl) (below_drewN (Below.refl _ _) 1) ?_
    (refine q_yield (v := ?_) (Or.inl ⟨by rfl, fun w' hw' => ?_⟩) ?_; rotate_left; (· go_simp; try with_reducible rfl))
    try simp only [Act.put, List.setIfInBounds_toArray, List.set_cons_zero, List.set_cons_succ]
    refine q_call (.agg (cur (sum z0))) (by rfl) (fun w' => by go_simp; exact ⟨rfl, rfl⟩) (fun w' hw' => ?_) ?_
    · refine (sum_any a0 len0 cap0 z0 w' (HR.out.below hw') HLE.out HNIL.out HBY.out (by omega) (HLA.out.keep hw')).mono fun e w'' h => ⟨h.1, hw'.trans (h.2.mono hw'.size)⟩
    try simp only [Act.put, List.setIfInBounds_toArray, List.set_cons_zero, List.set_cons_succ]
    (refine q_yield (v := ?_) (Or.inl ⟨by rfl, fun w' hw' => ?_⟩) ?_; rotate_left; (· go_simp; try with_reducible rfl))
    try simp only [Act.put, List.setIfInBounds_toArray, List.set_cons_zero, List.set_cons_succ]
    refine q_call (.agg (cur (sum z0))) (by rfl) (fun w' => by go_simp; exact ⟨rfl, rfl⟩) (fun w' hw' => ?_) ?_
    · refine (rsum_val a0 len0 cap0 z0 w' (HR.out.below hw') HNIL.out HBY.out (by omega)).mono fun e w'' h => ⟨h.1, hw'.trans (h.2.mono hw'.size)⟩
    try simp only [Act.put, List.setIfInBounds_toArray, List.set_cons_zero, List.set_cons_succ]
    (refine q_yield (v := ?_) (Or.inl ⟨by rfl, fun w' hw' => ?_⟩) ?_; rotate_left; (· go_simp; try with_reducible rfl))
    try simp only [Act.put, List.setIfInBounds_toArray, List.set_cons_zero, List.set_cons_succ]
    (refine q_yield (v := ?_) (Or.inl ⟨by rfl, fun w' hw' => ?_⟩) ?_; rotate_left; (· go_simp; try with_reducible rfl))
    try simp only [Act.put, List.setIfInBounds_toArray, List.set_cons_zero, List.set_cons_succ]
    refine q_yield (yieldsIf_load_mid (by rfl) 24 _ rfl gA 0 rfl cs.toList _ (fun w' hw' => HgA.out w' hw') Tryd.underlying24 rfl (by rw [Array.length_toList]; exact sum_info HSgA.out)) ?_
    try simp only [Act.put, List.setIfInBounds_toArray, List.set_cons_zero, List.set_cons_succ]
    try simp only [Array.toArray_toList]
    refine q_yield (yieldsIf_load_mid (by rfl) 24 _ rfl gB 0 rfl ds.toList _ (fun w' hw' => HgB.out w' hw') Tryd.underlying24 rfl (by rw [Array.length_toList]; exact sum_info HSgB.out)) ?_
    try simp only [Act.put, List.setIfInBounds_toArray, List.set_cons_zero, List.set_cons_succ]
    try simp only [Array.toArray_toList]
    refine q_call (.agg (cur (sum T2))) (by rfl) (fun w' => by go_simp; exact ⟨rfl, rfl⟩) (fun w' hw' => ?_) ?_
    · refine (two_any cs ds hs ks HSgA.out HSgB.out w' (HLA.out.keep hw')).mono fun e w'' h => ⟨h.1.trans (by rw [HT2.out]), hw'.trans (h.2.mono hw'.size)⟩
    try simp only [Act.put, List.setIfInBounds_toArray, List.set_cons_zero, List.set_cons_succ]
    refine q_yield (yieldsIf_load_mid (by rfl) 24 _ rfl gA 0 rfl cs.toList _ (fun w' hw' => HgA.out w' hw') Tryd.underlying24 rfl (by rw [Array.length_toList]; exact sum_info HSgA.out)) ?_
    try simp only [Act.put, List.setIfInBounds_toArray, List.set_cons_zero, List.set_cons_succ]
    try simp only [Array.toArray_toList]
    refine q_yield (yieldsIf_load_mid (by rfl) 24 _ rfl gB 0 rfl ds.toList _ (fun w' hw' => HgB.out w' hw') Tryd.underlying24 rfl (by rw [Array.length_toList]; exact sum_info HSgB.out)) ?_
    try simp only [Act.put, List.setIfInBounds_toArray, List.set_cons_zero, List.set_cons_succ]
    try simp only [Array.toArray_toList]
    refine q_call (.agg (cur (sum T2))) (by rfl) (fun w' => by go_simp; exact ⟨rfl, rfl⟩) (fun w' hw' => ?_) ?_
    · refine (rtwo_any cs ds hs ks HSgA.out HSgB.out w').mono fun e w'' h => ⟨h.1.trans (by rw [HT2.out]), hw'.trans (h.2.mono hw'.size)⟩
    try simp only [Act.put, List.setIfInBounds_toArray, List.set_cons_zero, List.set_cons_succ]
    (refine q_yield (v := ?_) (Or.inl ⟨by rfl, fun w' hw' => ?_⟩) ?_; rotate_left; (· go_simp; try with_reducible rfl))
    try simp only [Act.put, List.setIfInBounds_toArray, List.set_cons_zero, List.set_cons_succ]
    (refine q_yield (v := ?_) (Or.inl ⟨by rfl, fun w' hw' => ?_⟩) ?_; rotate_left; (· go_simp; try with_reducible rfl))
    try simp only [Act.put, List.setIfInBounds_toArray, List.set_cons_zero, List.set_cons_succ]
    (refine q_yield (v := ?_) (Or.inl ⟨by rfl, fun w' hw' => ?_⟩) ?_; rotate_left; (· go_simp; try with_reducible rfl))
    try simp only [Act.put, List.setIfInBounds_toArray, List.set_cons_zero, List.set_cons_succ]
    refine q_yield (yieldsIf_load_mid (by rfl) 24 _ rfl gA 0 rfl cs.toList _ (fun w' hw' => HgA.out w' hw') Tryd.underlying24 rfl (by rw [Array.length_toList]; exact sum_info HSgA.out)) ?_
    try simp only [Act.put, List.setIfInBounds_toArray, List.set_cons_zero, List.set_cons_succ]
    try simp only [Array.toArray_toList]
    refine q_call (.string (strOfNums (hexOf hs))) (by rfl) (fun w' => by go_simp; exact ⟨rfl, rfl⟩) (fun w' hw' => ?_) ?_
    · refine (hex_any cs hs HSgA.out w').mono fun e w'' h => ⟨h.1, hw'.trans (h.2.mono hw'.size)⟩
    try simp only [Act.put, List.setIfInBounds_toArray, List.set_cons_zero, List.set_cons_succ]
    refine q_yield (yieldsIf_load_mid (by rfl) 24 _ rfl gA 0 rfl cs.toList _ (fun w' hw' => HgA.out w' hw') Tryd.underlying24 rfl (by rw [Array.length_toList]; exact sum_info HSgA.out)) ?_
    try simp only [Act.put, List.setIfInBounds_toArray, List.set_cons_zero, List.set_cons_succ]
    try simp only [Array.toArray_toList]
    refine q_call (.string (strOfNums (hexOf hs))) (by rfl) (fun w' => by go_simp; exact ⟨rfl, rfl⟩) (fun w' hw' => ?_) ?_
    · refine (rhex_any cs hs HSgA.out w').mono fun e w'' h => ⟨h.1, hw'.trans (h.2.mono hw'.size)⟩
    try simp only [Act.put, List.setIfInBounds_toArray, List.set_cons_zero, List.set_cons_succ]
    (refine q_yield (v := ?_) (Or.inl ⟨by rfl, fun w' hw' => ?_⟩) ?_; rotate_left; (· go_simp; try with_reducible rfl))
    try simp only [Act.put, List.setIfInBounds_toArray, List.set_cons_zero, List.set_cons_succ]
    (refine q_yield (v := ?_) (Or.inl ⟨by rfl, fun w' hw' => ?_⟩) ?_; rotate_left; (· go_simp; try with_reducible rfl))
    try simp only [Act.put, List.setIfInBounds_toArray, List.set_cons_zero, List.set_cons_succ]
    (refine q_yield (v := ?_) (Or.inl ⟨by rfl, fun w' hw' => ?_⟩) ?_; rotate_left; (· go_simp; try with_reducible rfl))
    try simp only [Act.put, List.setIfInBounds_toArray, List.set_cons_zero, List.set_cons_succ]
    refine wpQuiet_nil ?_
    intro w' hw'
    clear he1 he2
    go_wp2
    go_ret
    exact ⟨rfl, HL1.out.trans (hw'.mono HL1.out.size)⟩
end Go.Proofs.YtdefmpihlgecbaaDoor
