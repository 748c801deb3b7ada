/- VmTwos: its signs. -/
import Derived.Test.YtdbnfafafhdolaaLTwoB
namespace Go.Proofs.Ytdbnfafafhdolaa
open Go Go.RowKit
set_option linter.unusedVariables false
set_option linter.unusedSimpArgs false

set_option maxRecDepth 100000 in
set_option maxHeartbeats 4000000 in
theorem ltwos_4 (op a b : Int) (w : World) (ha : I64 a) (hb : I64 b) (hop : op % 6 = 2) :
    Calls Try.prog 4 #[.int .i64 op, .int .i64 a, .int .i64 b] w fun e w' => e = .returned (.bool true) ∧ Below w.heap.size w w' := by
  have IA := Lib.hid ha
  have IB := Lib.hid hb
  have hby : Hid (Byte 4) := ⟨by decide, by decide⟩
  clear ha hb
  obtain ⟨R, hR⟩ : ∃ R, R = stepP [4] 0 0 ⟨0, [a, b], 5, false, 0⟩ := ⟨_, rfl⟩
  have HR := Lib.hid hR
  have tv := Lib.hid (fun w0 w h0 => twos_vm 4 a b w0 w hby.out IA.out IB.out h0)
  have tr := Lib.hid (fun w0 w h0 => twos_ref 4 a b w0 w hby.out IA.out IB.out h0)
  rw [← hR] at tv tr
  clear hR
  obtain ⟨pc, stk, G, F, E⟩ := R
  have HOP := Lib.hid hop
  clear hop
  go_enter Try.func4, Try.ntmps4
  go_wp2_with fail
  refine (known_any w).mono ?_
  rintro _ w1 ⟨rfl, hb1⟩
  have HB1 := Lib.hid hb1
  clear hb1
  go_wp2_with fail
  refine (within_any op 6 w1 (by omega) (by omega)).mono ?_
  rintro _ _ ⟨rfl, rfl⟩
  rw [HOP.out]
  clear HOP
  go_wp2_with fail
  refine (tv.out w w1 HB1.out).mono ?_
  rintro _ w2 ⟨cb, ck, sb, sk, rfl, HC2, HO2, HB2⟩
  clear tv HB1
  go_upto_region 5 with (refine store_agg rfl 34 (.tmp 7) (.tmp 22) rfl rfl w2.heap.size (mcl (.slice cb 1 ck) (.slice sb stk.length sk) 0 0 ⟨pc, stk, G, F, E⟩) rfl rfl 34 _ (heap_alloc_new _ _) size_vm rfl (mcl_one _ _ _ _ _ _ _ _ _) ?_; intro w3 hrow3 hon3)
  have hb3 : Below w2.heap.size w2 w3 := ((Below.refl _ _).alloc (Nat.le_refl _) _).trans (hon3.below (Nat.le_refl _) (by simp))
  have HR3 := Lib.hid hrow3
  have HO3 := Lib.hid (own_later HO2.out hb3)
  have HC3 := Lib.hid (HC2.out.below hb3)
  have HB3 := Lib.hid (HB2.out.trans (hb3.mono HB2.out.size))
  have HG3 : Hid (w2.heap.size < w3.heap.size) := (Array.getElem?_eq_some_iff.1 hrow3).1
  clear hrow3 hon3 hb3 HO2 HC2 HB2
  go_wp2_with fail
  refine (tr.out w3 w3 (Below.refl _ _)).mono ?_
  rintro _ w4 ⟨db, dk, tb, tk, rfl, HC4, HO4, HB4⟩
  clear tr
  go_upto_region 6 with (refine store_agg rfl 37 (.tmp 8) (.tmp 30) rfl rfl w4.heap.size (mcl (.slice db 1 dk) (.slice tb stk.length tk) 0 0 ⟨pc, stk, G, F, E⟩) rfl rfl 37 _ (heap_alloc_new _ _) size_ref rfl (mcl_one _ _ _ _ _ _ _ _ _) ?_; intro w5 hrow5 hon5)
  have hb5 : Below w4.heap.size w4 w5 := ((Below.refl _ _).alloc (Nat.le_refl _) _).trans (hon5.below (Nat.le_refl _) (by simp))
  have hb35 : Below w3.heap.size w3 w5 := HB4.out.trans (hb5.mono HB4.out.size)
  have R8 := Lib.hid hrow5
  have R7 : Hid (w5.heap[w2.heap.size]? = _) := (hb35.block _ HG3.out).trans HR3.out
  have O7 := Lib.hid (own_later HO3.out hb35)
  have C7 := Lib.hid (HC3.out.below hb35)
  have O8 := Lib.hid (own_later HO4.out hb5)
  have C8 := Lib.hid (HC4.out.below hb5)
  have HB5 := Lib.hid (HB3.out.trans (hb35.mono HB3.out.size))
  have G8 : Hid (w4.heap.size < w5.heap.size) := (Array.getElem?_eq_some_iff.1 hrow5).1
  have G7 : Hid (w2.heap.size < w5.heap.size) := Nat.lt_of_lt_of_le HG3.out hb35.size
  clear hrow5 hon5 hb5 hb35 HO3 HC3 HB3 HG3 HR3 HO4 HC4 HB4
  refine anyS_start (by kernel_rfl) ?_
  have hbd : Below w5.heap.size w5 w5.drew := (Below.refl _ _).drew
  have R7d := Lib.hid ((hbd.block _ G7.out).trans R7.out)
  have R8d := Lib.hid ((hbd.block _ G8.out).trans R8.out)
  have O7d := Lib.hid (own_later O7.out hbd)
  have O8d := Lib.hid (own_later O8.out hbd)
  have C7d := Lib.hid (C7.out.below hbd)
  have C8d := Lib.hid (C8.out.below hbd)
  have HBd := Lib.hid (HB5.out.trans (hbd.mono HB5.out.size))
  have G7d : Hid (w2.heap.size < w5.drew.heap.size) := Nat.lt_of_lt_of_le G7.out hbd.size
  have G8d : Hid (w4.heap.size < w5.drew.heap.size) := Nat.lt_of_lt_of_le G8.out hbd.size
  clear R7 R8 O7 O8 C7 C8 HB5 G7 G8 hbd
  generalize World.drew w5 = X at *
  have HFit : Hid (Fit [4] 0 0 ⟨pc, stk, G, F, E⟩) := by
    have h := step_fit (twos_fit 4 a b hby.out IA.out IB.out)
    rw [← HR.out] at h
    exact Lib.hid h
  have hS := And.intro (row_range R7d.out) (row_range R8d.out)
  (refine anyS_takeNew (v := .agg (mcl (.slice db 1 dk) (.slice tb stk.length tk) 0 0 ⟨pc, stk, G, F, E⟩)) (fun w' => w'.rangeAt w2.heap.size 0 (mcl (.slice cb 1 ck) (.slice sb stk.length sk) 0 0 ⟨pc, stk, G, F, E⟩).toList ∧ w'.rangeAt w4.heap.size 0 (mcl (.slice db 1 dk) (.slice tb stk.length tk) 0 0 ⟨pc, stk, G, F, E⟩).toList) [0, 1] (i := 2) hS rfl (by kernel_rfl) (by kernel_rfl) (by kernel_rfl) (by kernel_rfl) (fun _ _ _ h => h) (fun _ _ => trivial) (yieldsIf_load_mid (by rfl) 37 _ rfl w4.heap.size 0 rfl (mcl (.slice db 1 dk) (.slice tb stk.length tk) 0 0 ⟨pc, stk, G, F, E⟩).toList _ (fun _ h => h.2) Try.underlying37 rfl size_ref) ?_)
  try simp only [Act.put, List.setIfInBounds_toArray, List.set_cons_zero, List.set_cons_succ]
  (refine anyS_takeNew (v := .agg (mcl (.slice cb 1 ck) (.slice sb stk.length sk) 0 0 ⟨pc, stk, G, F, E⟩)) (fun w' => w'.rangeAt w2.heap.size 0 (mcl (.slice cb 1 ck) (.slice sb stk.length sk) 0 0 ⟨pc, stk, G, F, E⟩).toList ∧ w'.rangeAt w4.heap.size 0 (mcl (.slice db 1 dk) (.slice tb stk.length tk) 0 0 ⟨pc, stk, G, F, E⟩).toList) [] (i := 0) hS rfl (by kernel_rfl) (by kernel_rfl) (by kernel_rfl) (by kernel_rfl) (fun _ _ _ h => h) (fun _ h => ⟨trivial, fun _ => h⟩) (yieldsIf_load_mid (by rfl) 34 _ rfl w2.heap.size 0 rfl (mcl (.slice cb 1 ck) (.slice sb stk.length sk) 0 0 ⟨pc, stk, G, F, E⟩).toList _ (fun _ h => h.1) Try.underlying34 rfl size_vm) ?_)
  try simp only [Act.put, List.setIfInBounds_toArray, List.set_cons_zero, List.set_cons_succ]
  clear hS
  refine anyS_one 1 (by kernel_rfl) rfl (fun K' hK' => ?_)
  go_simp
  go_at_call 22
  refine (toref_any cb 1 ck sb stk.length sk 0 0 pc stk G F E X).mono ?_
  rintro _ Y ⟨rfl, hbY⟩
  have R7Y := Lib.hid ((hbY.block _ G7d.out).trans R7d.out)
  have R8Y := Lib.hid ((hbY.block _ G8d.out).trans R8d.out)
  have O7Y := Lib.hid (own_later O7d.out hbY)
  have O8Y := Lib.hid (own_later O8d.out hbY)
  have C7Y := Lib.hid (C7d.out.below hbY)
  have C8Y := Lib.hid (C8d.out.below hbY)
  have HBY := Lib.hid (HBd.out.trans (hbY.mono HBd.out.size))
  have G7Y : Hid (w2.heap.size < Y.heap.size) := Nat.lt_of_lt_of_le G7d.out hbY.size
  clear R7d R8d O7d O8d C7d C8d HBd G7d G8d hbY
  have hS := And.intro (row_range R7Y.out) (row_range R8Y.out)
  refine hK'.out _ _ (by repeat' (first | exact trivial | exact fun _ => hS | exact fun h => absurd h (by decide) | refine ⟨?_, ?_⟩)) ?_
  clear hK' K' hS
  try simp only [Act.put, List.setIfInBounds_toArray, List.set_cons_zero, List.set_cons_succ]
  refine anyS_one 3 (by kernel_rfl) rfl (fun K' hK' => ?_)
  go_simp
  go_at_call 21
  refine (same_any C7Y.out C8Y.out (nums_own O7Y.out HFit.out.nums) (nums_own O8Y.out HFit.out.nums)).mono ?_
  rintro _ Z ⟨rfl, hbZ⟩
  have R7Z := Lib.hid ((hbZ.block _ G7Y.out).trans R7Y.out)
  have O7Z := Lib.hid (own_later O7Y.out hbZ)
  have HBZ := Lib.hid (HBY.out.trans (hbZ.mono HBY.out.size))
  clear R7Y R8Y O7Y O8Y C7Y C8Y HBY G7Y hbZ
  refine hK'.out _ _ (by repeat' (first | exact trivial | exact fun h => absurd h (by decide) | refine ⟨?_, ?_⟩)) ?_
  clear hK' K'
  try simp only [Act.put, List.setIfInBounds_toArray, List.set_cons_zero, List.set_cons_succ]
  refine anyS_one 4 (by kernel_rfl) rfl (fun K' hK' => ?_)
  go_simp
  refine hK'.out _ _ (by repeat' (first | exact trivial | exact fun h => absurd h (by decide) | refine ⟨?_, ?_⟩)) ?_
  clear hK' K'
  try simp only [Act.put, List.setIfInBounds_toArray, List.set_cons_zero, List.set_cons_succ]
  refine anyS_done (by kernel_rfl) ?_ _
  refine NoPanic.normal ?_
  obtain ⟨r, hr⟩ : ∃ r, r = (pairP 4 a b).1 := ⟨_, rfl⟩
  obtain ⟨e, he⟩ : ∃ e, e = (pairP 4 a b).2 := ⟨_, rfl⟩
  have hpe : pairP 4 a b = (r, e) := by rw [hr, he]
  have hp := twos_is (s := 4) (a := a) (b := b) ⟨by decide, by decide⟩ hpe
  rw [← HR.out] at hp
  clear hr he HR
  by_cases he0 : e = 0
  · subst he0
    rw [if_pos rfl] at hp
    cases hp
    obtain ⟨sg, rfl, hcell⟩ := own_one O7Z.out
    have d6 : Z.cell? ⟨w2.heap.size, 6, none⟩ = some (.bool false) := mcl_cell R7Z.out rfl
    have d4 : Z.cell? ⟨w2.heap.size, 4, none⟩ = some (.slice (some ⟨sg, 0, none⟩) 1 sk) := mcl_cell R7Z.out rfl
    clear HFit O7Z R7Z
    obtain ⟨hr4, h64⟩ := over_zero (show over (a * b) = (r, 0) from hpe)
    have hz1 : -9223372036854775808 ≤ r := by rw [hr4]; exact h64.1
    have hz2 : r ≤ 9223372036854775807 := by rw [hr4]; exact h64.2
    have ia1 := IA.out.1
    have ia2 := IA.out.2
    have ib1 := IB.out.1
    have ib2 := IB.out.2
    clear hpe
    by_cases hcc : b = 0
    · subst hcc
      rw [Int.mul_zero] at hr4
      subst hr4
      go_wp2_with fail
      go_ret
      exact ⟨rfl, HBZ.out⟩
    · have hbf : (b == 0) = false := by simp only [beq_eq_false_iff_ne, ne_eq]; exact hcc
      have hbt : (b != 0) = true := by simp only [bne_iff_ne, ne_eq]; exact hcc
      have hq : r.tdiv b = a := by rw [hr4]; exact Int.mul_tdiv_cancel a hcc
      have hm : r.tmod b = 0 := by rw [hr4]; exact Int.mul_tmod_left a b
      have hw : wrap64 a = a := wrap64_id IA.out
      clear hr4 h64
      go_wp2_with fail
      go_ret
      exact ⟨rfl, HBZ.out⟩
  · rw [if_neg he0] at hp
    cases hp
    have d6 : Z.cell? ⟨w2.heap.size, 6, none⟩ = some (.bool true) := mcl_cell R7Z.out rfl
    clear HFit O7Z R7Z
    clear hpe he0
    go_wp2_with fail
    go_ret
    exact ⟨rfl, HBZ.out⟩
end Go.Proofs.Ytdbnfafafhdolaa
