/- VmTwos: its beginning. -/
import Derived.Test.YtdbnfafafhdolaaSame
import Derived.Test.YtdbnfafafhdolaaLOnes
import Derived.Test.YtdbnfafafhdolaaRRun
namespace Go.Proofs.Ytdbnfafafhdolaa
open Go Go.RowKit
set_option linter.unusedVariables false
set_option linter.unusedSimpArgs false

theorem twos_fit (s a b : Int) (hs : Byte s) (ha : I64 a) (hb : I64 b) : Fit [s] 0 0 ⟨0, [a, b], 5, false, 0⟩ :=
  ⟨by intro x hx; simp only [List.mem_cons, List.not_mem_nil, or_false] at hx; subst hx; exact hs, by simp, ⟨by decide, by decide⟩, ⟨by decide, by decide⟩, Nat.zero_le _, by simp, by intro x hx; simp only [List.mem_cons, List.not_mem_nil, or_false] at hx; rcases hx with rfl | rfl; exact ha; exact hb, by show (0 : Int) ≤ 5 ∧ (5 : Int) ≤ 200; omega⟩

/-- what the step leaves: its two rows, as they may be handed on -/
def TPost (w0 : World) (s : Int) (R : Ms) (e : Ending) (w' : World) : Prop :=
  ∃ cb ck sb sk, e = .returned (.agg (mcl (.slice cb 1 ck) (.slice sb R.stk.length sk) 0 0 R)) ∧ Hid (Came w' cb 1 ck [s]) ∧ Hid (w'.ownsRow w0.heap.size 3 1 (.slice sb R.stk.length sk) R.stk.length (nts R.stk)) ∧ Hid (Below w0.heap.size w0 w')

theorem twos_rows (s a b : Int) (w : World) (hs : Byte s) (ha : I64 a) (hb : I64 b) :
    Came ((w.alloc (Obj.cells #[.int .u8 s] 5)).alloc (Obj.cells #[.int .i64 a, .int .i64 b] 3)) (some ⟨w.heap.size, 0, none⟩) 1 1 [s] ∧
    Nums ((w.alloc (Obj.cells #[.int .u8 s] 5)).alloc (Obj.cells #[.int .i64 a, .int .i64 b] 3)) (some ⟨w.heap.size + 1, 0, none⟩) 2 2 [a, b] ∧
    Below w.heap.size w ((w.alloc (Obj.cells #[.int .u8 s] 5)).alloc (Obj.cells #[.int .i64 a, .int .i64 b] 3)) := by
  have hF := twos_fit s a b hs ha hb
  have hc := (came_new w [s] hF.bytes (by simp)).below ((Below.refl _ _).alloc (Nat.le_refl _) (Obj.cells #[.int .i64 a, .int .i64 b] 3))
  have hn := nums_new (w.alloc (Obj.cells #[.int .u8 s] 5)) [a, b] hF.nums (by simp)
  rw [show (w.alloc (Obj.cells #[.int .u8 s] 5)).heap.size = w.heap.size + 1 by simp] at hn
  exact ⟨hc, hn, ((Below.refl _ _).alloc (Nat.le_refl _) _).alloc (by simp) _⟩

theorem twos_vm (s a b : Int) (w0 w : World) (hs : Byte s) (ha : I64 a) (hb : I64 b) (h0 : Below w0.heap.size w0 w) :
    Calls Try.prog 19 #[.agg #[.slice (some ⟨w.heap.size, 0, none⟩) 1 1, .int .i64 0, .int .i64 0, .int .i64 0, .slice (some ⟨w.heap.size + 1, 0, none⟩) 2 2, .int .i64 5, .bool false, .int .i64 0]]
      ((w.alloc (Obj.cells #[.int .u8 s] 5)).alloc (Obj.cells #[.int .i64 a, .int .i64 b] 3)) (TPost w0 s (stepP [s] 0 0 ⟨0, [a, b], 5, false, 0⟩)) := by
  have hF := twos_fit s a b hs ha hb
  obtain ⟨hc, hn, hb1⟩ := twos_rows s a b w hs ha hb
  refine (vstep_any (m := ⟨0, [a, b], 5, false, 0⟩) hc hn hF).mono ?_
  rintro _ w' ⟨cv, sv, rfl, h1, h2, h3⟩
  obtain ⟨cb, ck, rfl, hcc⟩ := own_came h1 hF.bytes
  obtain ⟨sb, sk, rfl⟩ := own_slice h2
  exact ⟨cb, ck, sb, sk, rfl, Lib.hid hcc, Lib.hid (own_mono h2 (Nat.le_trans h0.size hb1.size)), Lib.hid (h0.trans ((hb1.trans (h3.mono hb1.size)).mono h0.size))⟩

theorem twos_ref (s a b : Int) (w0 w : World) (hs : Byte s) (ha : I64 a) (hb : I64 b) (h0 : Below w0.heap.size w0 w) :
    Calls Try.prog 20 #[.agg #[.slice (some ⟨w.heap.size, 0, none⟩) 1 1, .int .i64 0, .int .i64 0, .int .i64 0, .slice (some ⟨w.heap.size + 1, 0, none⟩) 2 2, .int .i64 5, .bool false, .int .i64 0]]
      ((w.alloc (Obj.cells #[.int .u8 s] 5)).alloc (Obj.cells #[.int .i64 a, .int .i64 b] 3)) (TPost w0 s (stepP [s] 0 0 ⟨0, [a, b], 5, false, 0⟩)) := by
  have hF := twos_fit s a b hs ha hb
  obtain ⟨hc, hn, hb1⟩ := twos_rows s a b w hs ha hb
  refine (rstep_any (c := [s]) (m := ⟨0, [a, b], 5, false, 0⟩) hc hn (fun h => by cases h) hF (fun _ => rfl)).mono ?_
  rintro _ w' ⟨cv, sv, rfl, h1, h2, h3⟩
  obtain ⟨cb, ck, rfl, hcc⟩ := own_came h1 hF.bytes
  obtain ⟨sb, sk, rfl⟩ := own_slice h2
  exact ⟨cb, ck, sb, sk, rfl, Lib.hid hcc, Lib.hid (own_mono h2 (Nat.le_trans h0.size hb1.size)), Lib.hid (h0.trans ((hb1.trans (h3.mono hb1.size)).mono h0.size))⟩

/-- what it comes to -/
theorem twos_is {s a b r e : Int} (hs : 2 ≤ s ∧ s ≤ 7) (h : pairP s a b = (r, e)) : stepP [s] 0 0 ⟨0, [a, b], 5, false, 0⟩ = if e = 0 then ⟨1, [r], 4, false, 0⟩ else ⟨0, [a, b], 4, true, e⟩ := by
  have hk : ∀ s : Int, 2 ≤ s ∧ s ≤ 7 → stepP [s] 0 0 ⟨0, [a, b], 5, false, 0⟩ = if (pairP s a b).2 = 0 then ⟨1, [(pairP s a b).1], 4, false, 0⟩ else ⟨0, [a, b], 4, true, (pairP s a b).2⟩ := by
    intro s hs
    have h1 : s = 2 ∨ s = 3 ∨ s = 4 ∨ s = 5 ∨ s = 6 ∨ s = 7 := by omega
    rcases h1 with rfl | rfl | rfl | rfl | rfl | rfl <;> rfl
  rw [hk s hs, h]

theorem row_range {W : World} {g : Nat} {cs : Array Value} {t : TypeId} {fr : Nat × Nat} (h : W.heap[g]? = some (.cells cs t fr)) : W.rangeAt g 0 cs.toList := by
  intro j v hv
  simp only [World.cell?, h, Nat.zero_add]
  simpa using hv

theorem nums_own {W : World} {B n k : Nat} {a : Option Addr} {xs : List Int} (h : W.ownsRow B 3 1 (.slice a n k) n (nts xs)) (hb : ∀ z ∈ xs, I64 z) : Nums W a n k xs := by
  obtain ⟨a', k', e, hn⟩ := own_nums h hb
  simp only [Value.slice.injEq] at e
  obtain ⟨rfl, -, rfl⟩ := e
  exact hn

theorem over_zero {n r : Int} (h : over n = (r, 0)) : r = n ∧ I64 n := by
  rcases over_cases n with ⟨h1, h2⟩ | ⟨h1, h2⟩
  · rw [h2] at h
    cases h
    exact ⟨rfl, h1⟩
  · rw [h2] at h
    cases h

set_option maxRecDepth 100000 in
set_option maxHeartbeats 4000000 in
theorem ltwos_2 (op a b : Int) (w : World) (ha : I64 a) (hb : I64 b) (hop : op % 6 = 0) :
    Calls Try.prog 4 #[.int .i64 op, .int .i64 a, .int .i64 b] w fun e w' => e = .returned (.bool true) ∧ Below w.heap.size w w' := by
  have IA := Lib.hid ha
  have IB := Lib.hid hb
  have hby : Hid (Byte 2) := ⟨by decide, by decide⟩
  clear ha hb
  obtain ⟨R, hR⟩ : ∃ R, R = stepP [2] 0 0 ⟨0, [a, b], 5, false, 0⟩ := ⟨_, rfl⟩
  have HR := Lib.hid hR
  have tv := Lib.hid (fun w0 w h0 => twos_vm 2 a b w0 w hby.out IA.out IB.out h0)
  have tr := Lib.hid (fun w0 w h0 => twos_ref 2 a b w0 w hby.out IA.out IB.out h0)
  rw [← hR] at tv tr
  clear hR
  obtain ⟨pc, stk, G, F, E⟩ := R
  have HOP := Lib.hid hop
  clear hop
  go_enter Try.func4, Try.ntmps4
  go_wp2_with fail
  refine (known_any w).mono ?_
  rintro _ w1 ⟨rfl, hb1⟩
  have HB1 := Lib.hid hb1
  clear hb1
  go_wp2_with fail
  refine (within_any op 6 w1 (by omega) (by omega)).mono ?_
  rintro _ _ ⟨rfl, rfl⟩
  rw [HOP.out]
  clear HOP
  go_wp2_with fail
  refine (tv.out w w1 HB1.out).mono ?_
  rintro _ w2 ⟨cb, ck, sb, sk, rfl, HC2, HO2, HB2⟩
  clear tv HB1
  go_upto_region 5 with (refine store_agg rfl 34 (.tmp 7) (.tmp 22) rfl rfl w2.heap.size (mcl (.slice cb 1 ck) (.slice sb stk.length sk) 0 0 ⟨pc, stk, G, F, E⟩) rfl rfl 34 _ (heap_alloc_new _ _) size_vm rfl (mcl_one _ _ _ _ _ _ _ _ _) ?_; intro w3 hrow3 hon3)
  have hb3 : Below w2.heap.size w2 w3 := ((Below.refl _ _).alloc (Nat.le_refl _) _).trans (hon3.below (Nat.le_refl _) (by simp))
  have HR3 := Lib.hid hrow3
  have HO3 := Lib.hid (own_later HO2.out hb3)
  have HC3 := Lib.hid (HC2.out.below hb3)
  have HB3 := Lib.hid (HB2.out.trans (hb3.mono HB2.out.size))
  have HG3 : Hid (w2.heap.size < w3.heap.size) := (Array.getElem?_eq_some_iff.1 hrow3).1
  clear hrow3 hon3 hb3 HO2 HC2 HB2
  go_wp2_with fail
  refine (tr.out w3 w3 (Below.refl _ _)).mono ?_
  rintro _ w4 ⟨db, dk, tb, tk, rfl, HC4, HO4, HB4⟩
  clear tr
  go_upto_region 6 with (refine store_agg rfl 37 (.tmp 8) (.tmp 30) rfl rfl w4.heap.size (mcl (.slice db 1 dk) (.slice tb stk.length tk) 0 0 ⟨pc, stk, G, F, E⟩) rfl rfl 37 _ (heap_alloc_new _ _) size_ref rfl (mcl_one _ _ _ _ _ _ _ _ _) ?_; intro w5 hrow5 hon5)
  have hb5 : Below w4.heap.size w4 w5 := ((Below.refl _ _).alloc (Nat.le_refl _) _).trans (hon5.below (Nat.le_refl _) (by simp))
  have hb35 : Below w3.heap.size w3 w5 := HB4.out.trans (hb5.mono HB4.out.size)
  have R8 := Lib.hid hrow5
  have R7 : Hid (w5.heap[w2.heap.size]? = _) := (hb35.block _ HG3.out).trans HR3.out
  have O7 := Lib.hid (own_later HO3.out hb35)
  have C7 := Lib.hid (HC3.out.below hb35)
  have O8 := Lib.hid (own_later HO4.out hb5)
  have C8 := Lib.hid (HC4.out.below hb5)
  have HB5 := Lib.hid (HB3.out.trans (hb35.mono HB3.out.size))
  have G8 : Hid (w4.heap.size < w5.heap.size) := (Array.getElem?_eq_some_iff.1 hrow5).1
  have G7 : Hid (w2.heap.size < w5.heap.size) := Nat.lt_of_lt_of_le HG3.out hb35.size
  clear hrow5 hon5 hb5 hb35 HO3 HC3 HB3 HG3 HR3 HO4 HC4 HB4
  refine anyS_start (by kernel_rfl) ?_
  have hbd : Below w5.heap.size w5 w5.drew := (Below.refl _ _).drew
  have R7d := Lib.hid ((hbd.block _ G7.out).trans R7.out)
  have R8d := Lib.hid ((hbd.block _ G8.out).trans R8.out)
  have O7d := Lib.hid (own_later O7.out hbd)
  have O8d := Lib.hid (own_later O8.out hbd)
  have C7d := Lib.hid (C7.out.below hbd)
  have C8d := Lib.hid (C8.out.below hbd)
  have HBd := Lib.hid (HB5.out.trans (hbd.mono HB5.out.size))
  have G7d : Hid (w2.heap.size < w5.drew.heap.size) := Nat.lt_of_lt_of_le G7.out hbd.size
  have G8d : Hid (w4.heap.size < w5.drew.heap.size) := Nat.lt_of_lt_of_le G8.out hbd.size
  clear R7 R8 O7 O8 C7 C8 HB5 G7 G8 hbd
  generalize World.drew w5 = X at *
  have HFit : Hid (Fit [2] 0 0 ⟨pc, stk, G, F, E⟩) := by
    have h := step_fit (twos_fit 2 a b hby.out IA.out IB.out)
    rw [← HR.out] at h
    exact Lib.hid h
  have hS := And.intro (row_range R7d.out) (row_range R8d.out)
  (refine anyS_takeNew (v := .agg (mcl (.slice db 1 dk) (.slice tb stk.length tk) 0 0 ⟨pc, stk, G, F, E⟩)) (fun w' => w'.rangeAt w2.heap.size 0 (mcl (.slice cb 1 ck) (.slice sb stk.length sk) 0 0 ⟨pc, stk, G, F, E⟩).toList ∧ w'.rangeAt w4.heap.size 0 (mcl (.slice db 1 dk) (.slice tb stk.length tk) 0 0 ⟨pc, stk, G, F, E⟩).toList) [0, 1] (i := 2) hS rfl (by kernel_rfl) (by kernel_rfl) (by kernel_rfl) (by kernel_rfl) (fun _ _ _ h => h) (fun _ _ => trivial) (yieldsIf_load_mid (by rfl) 37 _ rfl w4.heap.size 0 rfl (mcl (.slice db 1 dk) (.slice tb stk.length tk) 0 0 ⟨pc, stk, G, F, E⟩).toList _ (fun _ h => h.2) Try.underlying37 rfl size_ref) ?_)
  try simp only [Act.put, List.setIfInBounds_toArray, List.set_cons_zero, List.set_cons_succ]
  (refine anyS_takeNew (v := .agg (mcl (.slice cb 1 ck) (.slice sb stk.length sk) 0 0 ⟨pc, stk, G, F, E⟩)) (fun w' => w'.rangeAt w2.heap.size 0 (mcl (.slice cb 1 ck) (.slice sb stk.length sk) 0 0 ⟨pc, stk, G, F, E⟩).toList ∧ w'.rangeAt w4.heap.size 0 (mcl (.slice db 1 dk) (.slice tb stk.length tk) 0 0 ⟨pc, stk, G, F, E⟩).toList) [] (i := 0) hS rfl (by kernel_rfl) (by kernel_rfl) (by kernel_rfl) (by kernel_rfl) (fun _ _ _ h => h) (fun _ h => ⟨trivial, fun _ => h⟩) (yieldsIf_load_mid (by rfl) 34 _ rfl w2.heap.size 0 rfl (mcl (.slice cb 1 ck) (.slice sb stk.length sk) 0 0 ⟨pc, stk, G, F, E⟩).toList _ (fun _ h => h.1) Try.underlying34 rfl size_vm) ?_)
  try simp only [Act.put, List.setIfInBounds_toArray, List.set_cons_zero, List.set_cons_succ]
  clear hS
  refine anyS_one 1 (by kernel_rfl) rfl (fun K' hK' => ?_)
  go_simp
  go_at_call 22
  refine (toref_any cb 1 ck sb stk.length sk 0 0 pc stk G F E X).mono ?_
  rintro _ Y ⟨rfl, hbY⟩
  have R7Y := Lib.hid ((hbY.block _ G7d.out).trans R7d.out)
  have R8Y := Lib.hid ((hbY.block _ G8d.out).trans R8d.out)
  have O7Y := Lib.hid (own_later O7d.out hbY)
  have O8Y := Lib.hid (own_later O8d.out hbY)
  have C7Y := Lib.hid (C7d.out.below hbY)
  have C8Y := Lib.hid (C8d.out.below hbY)
  have HBY := Lib.hid (HBd.out.trans (hbY.mono HBd.out.size))
  have G7Y : Hid (w2.heap.size < Y.heap.size) := Nat.lt_of_lt_of_le G7d.out hbY.size
  clear R7d R8d O7d O8d C7d C8d HBd G7d G8d hbY
  have hS := And.intro (row_range R7Y.out) (row_range R8Y.out)
  refine hK'.out _ _ (by repeat' (first | exact trivial | exact fun _ => hS | exact fun h => absurd h (by decide) | refine ⟨?_, ?_⟩)) ?_
  clear hK' K' hS
  try simp only [Act.put, List.setIfInBounds_toArray, List.set_cons_zero, List.set_cons_succ]
  refine anyS_one 3 (by kernel_rfl) rfl (fun K' hK' => ?_)
  go_simp
  go_at_call 21
  refine (same_any C7Y.out C8Y.out (nums_own O7Y.out HFit.out.nums) (nums_own O8Y.out HFit.out.nums)).mono ?_
  rintro _ Z ⟨rfl, hbZ⟩
  have R7Z := Lib.hid ((hbZ.block _ G7Y.out).trans R7Y.out)
  have O7Z := Lib.hid (own_later O7Y.out hbZ)
  have HBZ := Lib.hid (HBY.out.trans (hbZ.mono HBY.out.size))
  clear R7Y R8Y O7Y O8Y C7Y C8Y HBY G7Y hbZ
  refine hK'.out _ _ (by repeat' (first | exact trivial | exact fun h => absurd h (by decide) | refine ⟨?_, ?_⟩)) ?_
  clear hK' K'
  try simp only [Act.put, List.setIfInBounds_toArray, List.set_cons_zero, List.set_cons_succ]
  refine anyS_one 4 (by kernel_rfl) rfl (fun K' hK' => ?_)
  go_simp
  refine hK'.out _ _ (by repeat' (first | exact trivial | exact fun h => absurd h (by decide) | refine ⟨?_, ?_⟩)) ?_
  clear hK' K'
  try simp only [Act.put, List.setIfInBounds_toArray, List.set_cons_zero, List.set_cons_succ]
  refine anyS_done (by kernel_rfl) ?_ _
  refine NoPanic.normal ?_
  obtain ⟨r, hr⟩ : ∃ r, r = (pairP 2 a b).1 := ⟨_, rfl⟩
  obtain ⟨e, he⟩ : ∃ e, e = (pairP 2 a b).2 := ⟨_, rfl⟩
  have hpe : pairP 2 a b = (r, e) := by rw [hr, he]
  have hp := twos_is (s := 2) (a := a) (b := b) ⟨by decide, by decide⟩ hpe
  rw [← HR.out] at hp
  clear hr he HR
  by_cases he0 : e = 0
  · subst he0
    rw [if_pos rfl] at hp
    cases hp
    obtain ⟨sg, rfl, hcell⟩ := own_one O7Z.out
    have d6 : Z.cell? ⟨w2.heap.size, 6, none⟩ = some (.bool false) := mcl_cell R7Z.out rfl
    have d4 : Z.cell? ⟨w2.heap.size, 4, none⟩ = some (.slice (some ⟨sg, 0, none⟩) 1 sk) := mcl_cell R7Z.out rfl
    clear HFit O7Z R7Z
    obtain ⟨rfl, h64⟩ := over_zero (show over (a + b) = (r, 0) from hpe)
    obtain ⟨hz1, hz2⟩ := h64
    have ia1 := IA.out.1
    have ia2 := IA.out.2
    have ib1 := IB.out.1
    have ib2 := IB.out.2
    clear hpe
    go_wp2_with fail
    go_ret
    exact ⟨rfl, HBZ.out⟩
  · rw [if_neg he0] at hp
    cases hp
    have d6 : Z.cell? ⟨w2.heap.size, 6, none⟩ = some (.bool true) := mcl_cell R7Z.out rfl
    clear HFit O7Z R7Z
    clear hpe he0
    go_wp2_with fail
    go_ret
    exact ⟨rfl, HBZ.out⟩

set_option maxRecDepth 100000 in
set_option maxHeartbeats 4000000 in
theorem ltwos_3 (op a b : Int) (w : World) (ha : I64 a) (hb : I64 b) (hop : op % 6 = 1) :
    Calls Try.prog 4 #[.int .i64 op, .int .i64 a, .int .i64 b] w fun e w' => e = .returned (.bool true) ∧ Below w.heap.size w w' := by
  have IA := Lib.hid ha
  have IB := Lib.hid hb
  have hby : Hid (Byte 3) := ⟨by decide, by decide⟩
  clear ha hb
  obtain ⟨R, hR⟩ : ∃ R, R = stepP [3] 0 0 ⟨0, [a, b], 5, false, 0⟩ := ⟨_, rfl⟩
  have HR := Lib.hid hR
  have tv := Lib.hid (fun w0 w h0 => twos_vm 3 a b w0 w hby.out IA.out IB.out h0)
  have tr := Lib.hid (fun w0 w h0 => twos_ref 3 a b w0 w hby.out IA.out IB.out h0)
  rw [← hR] at tv tr
  clear hR
  obtain ⟨pc, stk, G, F, E⟩ := R
  have HOP := Lib.hid hop
  clear hop
  go_enter Try.func4, Try.ntmps4
  go_wp2_with fail
  refine (known_any w).mono ?_
  rintro _ w1 ⟨rfl, hb1⟩
  have HB1 := Lib.hid hb1
  clear hb1
  go_wp2_with fail
  refine (within_any op 6 w1 (by omega) (by omega)).mono ?_
  rintro _ _ ⟨rfl, rfl⟩
  rw [HOP.out]
  clear HOP
  go_wp2_with fail
  refine (tv.out w w1 HB1.out).mono ?_
  rintro _ w2 ⟨cb, ck, sb, sk, rfl, HC2, HO2, HB2⟩
  clear tv HB1
  go_upto_region 5 with (refine store_agg rfl 34 (.tmp 7) (.tmp 22) rfl rfl w2.heap.size (mcl (.slice cb 1 ck) (.slice sb stk.length sk) 0 0 ⟨pc, stk, G, F, E⟩) rfl rfl 34 _ (heap_alloc_new _ _) size_vm rfl (mcl_one _ _ _ _ _ _ _ _ _) ?_; intro w3 hrow3 hon3)
  have hb3 : Below w2.heap.size w2 w3 := ((Below.refl _ _).alloc (Nat.le_refl _) _).trans (hon3.below (Nat.le_refl _) (by simp))
  have HR3 := Lib.hid hrow3
  have HO3 := Lib.hid (own_later HO2.out hb3)
  have HC3 := Lib.hid (HC2.out.below hb3)
  have HB3 := Lib.hid (HB2.out.trans (hb3.mono HB2.out.size))
  have HG3 : Hid (w2.heap.size < w3.heap.size) := (Array.getElem?_eq_some_iff.1 hrow3).1
  clear hrow3 hon3 hb3 HO2 HC2 HB2
  go_wp2_with fail
  refine (tr.out w3 w3 (Below.refl _ _)).mono ?_
  rintro _ w4 ⟨db, dk, tb, tk, rfl, HC4, HO4, HB4⟩
  clear tr
  go_upto_region 6 with (refine store_agg rfl 37 (.tmp 8) (.tmp 30) rfl rfl w4.heap.size (mcl (.slice db 1 dk) (.slice tb stk.length tk) 0 0 ⟨pc, stk, G, F, E⟩) rfl rfl 37 _ (heap_alloc_new _ _) size_ref rfl (mcl_one _ _ _ _ _ _ _ _ _) ?_; intro w5 hrow5 hon5)
  have hb5 : Below w4.heap.size w4 w5 := ((Below.refl _ _).alloc (Nat.le_refl _) _).trans (hon5.below (Nat.le_refl _) (by simp))
  have hb35 : Below w3.heap.size w3 w5 := HB4.out.trans (hb5.mono HB4.out.size)
  have R8 := Lib.hid hrow5
  have R7 : Hid (w5.heap[w2.heap.size]? = _) := (hb35.block _ HG3.out).trans HR3.out
  have O7 := Lib.hid (own_later HO3.out hb35)
  have C7 := Lib.hid (HC3.out.below hb35)
  have O8 := Lib.hid (own_later HO4.out hb5)
  have C8 := Lib.hid (HC4.out.below hb5)
  have HB5 := Lib.hid (HB3.out.trans (hb35.mono HB3.out.size))
  have G8 : Hid (w4.heap.size < w5.heap.size) := (Array.getElem?_eq_some_iff.1 hrow5).1
  have G7 : Hid (w2.heap.size < w5.heap.size) := Nat.lt_of_lt_of_le HG3.out hb35.size
  clear hrow5 hon5 hb5 hb35 HO3 HC3 HB3 HG3 HR3 HO4 HC4 HB4
  refine anyS_start (by kernel_rfl) ?_
  have hbd : Below w5.heap.size w5 w5.drew := (Below.refl _ _).drew
  have R7d := Lib.hid ((hbd.block _ G7.out).trans R7.out)
  have R8d := Lib.hid ((hbd.block _ G8.out).trans R8.out)
  have O7d := Lib.hid (own_later O7.out hbd)
  have O8d := Lib.hid (own_later O8.out hbd)
  have C7d := Lib.hid (C7.out.below hbd)
  have C8d := Lib.hid (C8.out.below hbd)
  have HBd := Lib.hid (HB5.out.trans (hbd.mono HB5.out.size))
  have G7d : Hid (w2.heap.size < w5.drew.heap.size) := Nat.lt_of_lt_of_le G7.out hbd.size
  have G8d : Hid (w4.heap.size < w5.drew.heap.size) := Nat.lt_of_lt_of_le G8.out hbd.size
  clear R7 R8 O7 O8 C7 C8 HB5 G7 G8 hbd
  generalize World.drew w5 = X at *
  have HFit : Hid (Fit [3] 0 0 ⟨pc, stk, G, F, E⟩) := by
    have h := step_fit (twos_fit 3 a b hby.out IA.out IB.out)
    rw [← HR.out] at h
    exact Lib.hid h
  have hS := And.intro (row_range R7d.out) (row_range R8d.out)
  (refine anyS_takeNew (v := .agg (mcl (.slice db 1 dk) (.slice tb stk.length tk) 0 0 ⟨pc, stk, G, F, E⟩)) (fun w' => w'.rangeAt w2.heap.size 0 (mcl (.slice cb 1 ck) (.slice sb stk.length sk) 0 0 ⟨pc, stk, G, F, E⟩).toList ∧ w'.rangeAt w4.heap.size 0 (mcl (.slice db 1 dk) (.slice tb stk.length tk) 0 0 ⟨pc, stk, G, F, E⟩).toList) [0, 1] (i := 2) hS rfl (by kernel_rfl) (by kernel_rfl) (by kernel_rfl) (by kernel_rfl) (fun _ _ _ h => h) (fun _ _ => trivial) (yieldsIf_load_mid (by rfl) 37 _ rfl w4.heap.size 0 rfl (mcl (.slice db 1 dk) (.slice tb stk.length tk) 0 0 ⟨pc, stk, G, F, E⟩).toList _ (fun _ h => h.2) Try.underlying37 rfl size_ref) ?_)
  try simp only [Act.put, List.setIfInBounds_toArray, List.set_cons_zero, List.set_cons_succ]
  (refine anyS_takeNew (v := .agg (mcl (.slice cb 1 ck) (.slice sb stk.length sk) 0 0 ⟨pc, stk, G, F, E⟩)) (fun w' => w'.rangeAt w2.heap.size 0 (mcl (.slice cb 1 ck) (.slice sb stk.length sk) 0 0 ⟨pc, stk, G, F, E⟩).toList ∧ w'.rangeAt w4.heap.size 0 (mcl (.slice db 1 dk) (.slice tb stk.length tk) 0 0 ⟨pc, stk, G, F, E⟩).toList) [] (i := 0) hS rfl (by kernel_rfl) (by kernel_rfl) (by kernel_rfl) (by kernel_rfl) (fun _ _ _ h => h) (fun _ h => ⟨trivial, fun _ => h⟩) (yieldsIf_load_mid (by rfl) 34 _ rfl w2.heap.size 0 rfl (mcl (.slice cb 1 ck) (.slice sb stk.length sk) 0 0 ⟨pc, stk, G, F, E⟩).toList _ (fun _ h => h.1) Try.underlying34 rfl size_vm) ?_)
  try simp only [Act.put, List.setIfInBounds_toArray, List.set_cons_zero, List.set_cons_succ]
  clear hS
  refine anyS_one 1 (by kernel_rfl) rfl (fun K' hK' => ?_)
  go_simp
  go_at_call 22
  refine (toref_any cb 1 ck sb stk.length sk 0 0 pc stk G F E X).mono ?_
  rintro _ Y ⟨rfl, hbY⟩
  have R7Y := Lib.hid ((hbY.block _ G7d.out).trans R7d.out)
  have R8Y := Lib.hid ((hbY.block _ G8d.out).trans R8d.out)
  have O7Y := Lib.hid (own_later O7d.out hbY)
  have O8Y := Lib.hid (own_later O8d.out hbY)
  have C7Y := Lib.hid (C7d.out.below hbY)
  have C8Y := Lib.hid (C8d.out.below hbY)
  have HBY := Lib.hid (HBd.out.trans (hbY.mono HBd.out.size))
  have G7Y : Hid (w2.heap.size < Y.heap.size) := Nat.lt_of_lt_of_le G7d.out hbY.size
  clear R7d R8d O7d O8d C7d C8d HBd G7d G8d hbY
  have hS := And.intro (row_range R7Y.out) (row_range R8Y.out)
  refine hK'.out _ _ (by repeat' (first | exact trivial | exact fun _ => hS | exact fun h => absurd h (by decide) | refine ⟨?_, ?_⟩)) ?_
  clear hK' K' hS
  try simp only [Act.put, List.setIfInBounds_toArray, List.set_cons_zero, List.set_cons_succ]
  refine anyS_one 3 (by kernel_rfl) rfl (fun K' hK' => ?_)
  go_simp
  go_at_call 21
  refine (same_any C7Y.out C8Y.out (nums_own O7Y.out HFit.out.nums) (nums_own O8Y.out HFit.out.nums)).mono ?_
  rintro _ Z ⟨rfl, hbZ⟩
  have R7Z := Lib.hid ((hbZ.block _ G7Y.out).trans R7Y.out)
  have O7Z := Lib.hid (own_later O7Y.out hbZ)
  have HBZ := Lib.hid (HBY.out.trans (hbZ.mono HBY.out.size))
  clear R7Y R8Y O7Y O8Y C7Y C8Y HBY G7Y hbZ
  refine hK'.out _ _ (by repeat' (first | exact trivial | exact fun h => absurd h (by decide) | refine ⟨?_, ?_⟩)) ?_
  clear hK' K'
  try simp only [Act.put, List.setIfInBounds_toArray, List.set_cons_zero, List.set_cons_succ]
  refine anyS_one 4 (by kernel_rfl) rfl (fun K' hK' => ?_)
  go_simp
  refine hK'.out _ _ (by repeat' (first | exact trivial | exact fun h => absurd h (by decide) | refine ⟨?_, ?_⟩)) ?_
  clear hK' K'
  try simp only [Act.put, List.setIfInBounds_toArray, List.set_cons_zero, List.set_cons_succ]
  refine anyS_done (by kernel_rfl) ?_ _
  refine NoPanic.normal ?_
  obtain ⟨r, hr⟩ : ∃ r, r = (pairP 3 a b).1 := ⟨_, rfl⟩
  obtain ⟨e, he⟩ : ∃ e, e = (pairP 3 a b).2 := ⟨_, rfl⟩
  have hpe : pairP 3 a b = (r, e) := by rw [hr, he]
  have hp := twos_is (s := 3) (a := a) (b := b) ⟨by decide, by decide⟩ hpe
  rw [← HR.out] at hp
  clear hr he HR
  by_cases he0 : e = 0
  · subst he0
    rw [if_pos rfl] at hp
    cases hp
    obtain ⟨sg, rfl, hcell⟩ := own_one O7Z.out
    have d6 : Z.cell? ⟨w2.heap.size, 6, none⟩ = some (.bool false) := mcl_cell R7Z.out rfl
    have d4 : Z.cell? ⟨w2.heap.size, 4, none⟩ = some (.slice (some ⟨sg, 0, none⟩) 1 sk) := mcl_cell R7Z.out rfl
    clear HFit O7Z R7Z
    obtain ⟨rfl, h64⟩ := over_zero (show over (a - b) = (r, 0) from hpe)
    obtain ⟨hz1, hz2⟩ := h64
    have ia1 := IA.out.1
    have ia2 := IA.out.2
    have ib1 := IB.out.1
    have ib2 := IB.out.2
    clear hpe
    go_wp2_with fail
    go_ret
    exact ⟨rfl, HBZ.out⟩
  · rw [if_neg he0] at hp
    cases hp
    have d6 : Z.cell? ⟨w2.heap.size, 6, none⟩ = some (.bool true) := mcl_cell R7Z.out rfl
    clear HFit O7Z R7Z
    clear hpe he0
    go_wp2_with fail
    go_ret
    exact ⟨rfl, HBZ.out⟩

set_option maxRecDepth 100000 in
set_option maxHeartbeats 4000000 in
theorem ltwos_7 (op a b : Int) (w : World) (ha : I64 a) (hb : I64 b) (hop : op % 6 = 5) :
    Calls Try.prog 4 #[.int .i64 op, .int .i64 a, .int .i64 b] w fun e w' => e = .returned (.bool true) ∧ Below w.heap.size w w' := by
  have IA := Lib.hid ha
  have IB := Lib.hid hb
  have hby : Hid (Byte 7) := ⟨by decide, by decide⟩
  clear ha hb
  obtain ⟨R, hR⟩ : ∃ R, R = stepP [7] 0 0 ⟨0, [a, b], 5, false, 0⟩ := ⟨_, rfl⟩
  have HR := Lib.hid hR
  have tv := Lib.hid (fun w0 w h0 => twos_vm 7 a b w0 w hby.out IA.out IB.out h0)
  have tr := Lib.hid (fun w0 w h0 => twos_ref 7 a b w0 w hby.out IA.out IB.out h0)
  rw [← hR] at tv tr
  clear hR
  obtain ⟨pc, stk, G, F, E⟩ := R
  have HOP := Lib.hid hop
  clear hop
  go_enter Try.func4, Try.ntmps4
  go_wp2_with fail
  refine (known_any w).mono ?_
  rintro _ w1 ⟨rfl, hb1⟩
  have HB1 := Lib.hid hb1
  clear hb1
  go_wp2_with fail
  refine (within_any op 6 w1 (by omega) (by omega)).mono ?_
  rintro _ _ ⟨rfl, rfl⟩
  rw [HOP.out]
  clear HOP
  go_wp2_with fail
  refine (tv.out w w1 HB1.out).mono ?_
  rintro _ w2 ⟨cb, ck, sb, sk, rfl, HC2, HO2, HB2⟩
  clear tv HB1
  go_upto_region 5 with (refine store_agg rfl 34 (.tmp 7) (.tmp 22) rfl rfl w2.heap.size (mcl (.slice cb 1 ck) (.slice sb stk.length sk) 0 0 ⟨pc, stk, G, F, E⟩) rfl rfl 34 _ (heap_alloc_new _ _) size_vm rfl (mcl_one _ _ _ _ _ _ _ _ _) ?_; intro w3 hrow3 hon3)
  have hb3 : Below w2.heap.size w2 w3 := ((Below.refl _ _).alloc (Nat.le_refl _) _).trans (hon3.below (Nat.le_refl _) (by simp))
  have HR3 := Lib.hid hrow3
  have HO3 := Lib.hid (own_later HO2.out hb3)
  have HC3 := Lib.hid (HC2.out.below hb3)
  have HB3 := Lib.hid (HB2.out.trans (hb3.mono HB2.out.size))
  have HG3 : Hid (w2.heap.size < w3.heap.size) := (Array.getElem?_eq_some_iff.1 hrow3).1
  clear hrow3 hon3 hb3 HO2 HC2 HB2
  go_wp2_with fail
  refine (tr.out w3 w3 (Below.refl _ _)).mono ?_
  rintro _ w4 ⟨db, dk, tb, tk, rfl, HC4, HO4, HB4⟩
  clear tr
  go_upto_region 6 with (refine store_agg rfl 37 (.tmp 8) (.tmp 30) rfl rfl w4.heap.size (mcl (.slice db 1 dk) (.slice tb stk.length tk) 0 0 ⟨pc, stk, G, F, E⟩) rfl rfl 37 _ (heap_alloc_new _ _) size_ref rfl (mcl_one _ _ _ _ _ _ _ _ _) ?_; intro w5 hrow5 hon5)
  have hb5 : Below w4.heap.size w4 w5 := ((Below.refl _ _).alloc (Nat.le_refl _) _).trans (hon5.below (Nat.le_refl _) (by simp))
  have hb35 : Below w3.heap.size w3 w5 := HB4.out.trans (hb5.mono HB4.out.size)
  have R8 := Lib.hid hrow5
  have R7 : Hid (w5.heap[w2.heap.size]? = _) := (hb35.block _ HG3.out).trans HR3.out
  have O7 := Lib.hid (own_later HO3.out hb35)
  have C7 := Lib.hid (HC3.out.below hb35)
  have O8 := Lib.hid (own_later HO4.out hb5)
  have C8 := Lib.hid (HC4.out.below hb5)
  have HB5 := Lib.hid (HB3.out.trans (hb35.mono HB3.out.size))
  have G8 : Hid (w4.heap.size < w5.heap.size) := (Array.getElem?_eq_some_iff.1 hrow5).1
  have G7 : Hid (w2.heap.size < w5.heap.size) := Nat.lt_of_lt_of_le HG3.out hb35.size
  clear hrow5 hon5 hb5 hb35 HO3 HC3 HB3 HG3 HR3 HO4 HC4 HB4
  refine anyS_start (by kernel_rfl) ?_
  have hbd : Below w5.heap.size w5 w5.drew := (Below.refl _ _).drew
  have R7d := Lib.hid ((hbd.block _ G7.out).trans R7.out)
  have R8d := Lib.hid ((hbd.block _ G8.out).trans R8.out)
  have O7d := Lib.hid (own_later O7.out hbd)
  have O8d := Lib.hid (own_later O8.out hbd)
  have C7d := Lib.hid (C7.out.below hbd)
  have C8d := Lib.hid (C8.out.below hbd)
  have HBd := Lib.hid (HB5.out.trans (hbd.mono HB5.out.size))
  have G7d : Hid (w2.heap.size < w5.drew.heap.size) := Nat.lt_of_lt_of_le G7.out hbd.size
  have G8d : Hid (w4.heap.size < w5.drew.heap.size) := Nat.lt_of_lt_of_le G8.out hbd.size
  clear R7 R8 O7 O8 C7 C8 HB5 G7 G8 hbd
  generalize World.drew w5 = X at *
  have HFit : Hid (Fit [7] 0 0 ⟨pc, stk, G, F, E⟩) := by
    have h := step_fit (twos_fit 7 a b hby.out IA.out IB.out)
    rw [← HR.out] at h
    exact Lib.hid h
  have hS := And.intro (row_range R7d.out) (row_range R8d.out)
  (refine anyS_takeNew (v := .agg (mcl (.slice db 1 dk) (.slice tb stk.length tk) 0 0 ⟨pc, stk, G, F, E⟩)) (fun w' => w'.rangeAt w2.heap.size 0 (mcl (.slice cb 1 ck) (.slice sb stk.length sk) 0 0 ⟨pc, stk, G, F, E⟩).toList ∧ w'.rangeAt w4.heap.size 0 (mcl (.slice db 1 dk) (.slice tb stk.length tk) 0 0 ⟨pc, stk, G, F, E⟩).toList) [0, 1] (i := 2) hS rfl (by kernel_rfl) (by kernel_rfl) (by kernel_rfl) (by kernel_rfl) (fun _ _ _ h => h) (fun _ _ => trivial) (yieldsIf_load_mid (by rfl) 37 _ rfl w4.heap.size 0 rfl (mcl (.slice db 1 dk) (.slice tb stk.length tk) 0 0 ⟨pc, stk, G, F, E⟩).toList _ (fun _ h => h.2) Try.underlying37 rfl size_ref) ?_)
  try simp only [Act.put, List.setIfInBounds_toArray, List.set_cons_zero, List.set_cons_succ]
  (refine anyS_takeNew (v := .agg (mcl (.slice cb 1 ck) (.slice sb stk.length sk) 0 0 ⟨pc, stk, G, F, E⟩)) (fun w' => w'.rangeAt w2.heap.size 0 (mcl (.slice cb 1 ck) (.slice sb stk.length sk) 0 0 ⟨pc, stk, G, F, E⟩).toList ∧ w'.rangeAt w4.heap.size 0 (mcl (.slice db 1 dk) (.slice tb stk.length tk) 0 0 ⟨pc, stk, G, F, E⟩).toList) [] (i := 0) hS rfl (by kernel_rfl) (by kernel_rfl) (by kernel_rfl) (by kernel_rfl) (fun _ _ _ h => h) (fun _ h => ⟨trivial, fun _ => h⟩) (yieldsIf_load_mid (by rfl) 34 _ rfl w2.heap.size 0 rfl (mcl (.slice cb 1 ck) (.slice sb stk.length sk) 0 0 ⟨pc, stk, G, F, E⟩).toList _ (fun _ h => h.1) Try.underlying34 rfl size_vm) ?_)
  try simp only [Act.put, List.setIfInBounds_toArray, List.set_cons_zero, List.set_cons_succ]
  clear hS
  refine anyS_one 1 (by kernel_rfl) rfl (fun K' hK' => ?_)
  go_simp
  go_at_call 22
  refine (toref_any cb 1 ck sb stk.length sk 0 0 pc stk G F E X).mono ?_
  rintro _ Y ⟨rfl, hbY⟩
  have R7Y := Lib.hid ((hbY.block _ G7d.out).trans R7d.out)
  have R8Y := Lib.hid ((hbY.block _ G8d.out).trans R8d.out)
  have O7Y := Lib.hid (own_later O7d.out hbY)
  have O8Y := Lib.hid (own_later O8d.out hbY)
  have C7Y := Lib.hid (C7d.out.below hbY)
  have C8Y := Lib.hid (C8d.out.below hbY)
  have HBY := Lib.hid (HBd.out.trans (hbY.mono HBd.out.size))
  have G7Y : Hid (w2.heap.size < Y.heap.size) := Nat.lt_of_lt_of_le G7d.out hbY.size
  clear R7d R8d O7d O8d C7d C8d HBd G7d G8d hbY
  have hS := And.intro (row_range R7Y.out) (row_range R8Y.out)
  refine hK'.out _ _ (by repeat' (first | exact trivial | exact fun _ => hS | exact fun h => absurd h (by decide) | refine ⟨?_, ?_⟩)) ?_
  clear hK' K' hS
  try simp only [Act.put, List.setIfInBounds_toArray, List.set_cons_zero, List.set_cons_succ]
  refine anyS_one 3 (by kernel_rfl) rfl (fun K' hK' => ?_)
  go_simp
  go_at_call 21
  refine (same_any C7Y.out C8Y.out (nums_own O7Y.out HFit.out.nums) (nums_own O8Y.out HFit.out.nums)).mono ?_
  rintro _ Z ⟨rfl, hbZ⟩
  have R7Z := Lib.hid ((hbZ.block _ G7Y.out).trans R7Y.out)
  have O7Z := Lib.hid (own_later O7Y.out hbZ)
  have HBZ := Lib.hid (HBY.out.trans (hbZ.mono HBY.out.size))
  clear R7Y R8Y O7Y O8Y C7Y C8Y HBY G7Y hbZ
  refine hK'.out _ _ (by repeat' (first | exact trivial | exact fun h => absurd h (by decide) | refine ⟨?_, ?_⟩)) ?_
  clear hK' K'
  try simp only [Act.put, List.setIfInBounds_toArray, List.set_cons_zero, List.set_cons_succ]
  refine anyS_one 4 (by kernel_rfl) rfl (fun K' hK' => ?_)
  go_simp
  refine hK'.out _ _ (by repeat' (first | exact trivial | exact fun h => absurd h (by decide) | refine ⟨?_, ?_⟩)) ?_
  clear hK' K'
  try simp only [Act.put, List.setIfInBounds_toArray, List.set_cons_zero, List.set_cons_succ]
  refine anyS_done (by kernel_rfl) ?_ _
  refine NoPanic.normal ?_
  obtain ⟨r, hr⟩ : ∃ r, r = (pairP 7 a b).1 := ⟨_, rfl⟩
  obtain ⟨e, he⟩ : ∃ e, e = (pairP 7 a b).2 := ⟨_, rfl⟩
  have hpe : pairP 7 a b = (r, e) := by rw [hr, he]
  have hp := twos_is (s := 7) (a := a) (b := b) ⟨by decide, by decide⟩ hpe
  rw [← HR.out] at hp
  clear hr he HR
  by_cases he0 : e = 0
  · subst he0
    rw [if_pos rfl] at hp
    cases hp
    obtain ⟨sg, rfl, hcell⟩ := own_one O7Z.out
    have d6 : Z.cell? ⟨w2.heap.size, 6, none⟩ = some (.bool false) := mcl_cell R7Z.out rfl
    have d4 : Z.cell? ⟨w2.heap.size, 4, none⟩ = some (.slice (some ⟨sg, 0, none⟩) 1 sk) := mcl_cell R7Z.out rfl
    clear HFit O7Z R7Z
    have hrr : r = bits .and .i64 a b := (congrArg Prod.fst hpe).symm
    subst hrr
    clear hpe
    go_wp2_with fail
    go_ret
    exact ⟨rfl, HBZ.out⟩
  · exact absurd (congrArg Prod.snd hpe).symm he0
end Go.Proofs.Ytdbnfafafhdolaa
