/- The program's Step, of a machine handed in. -/
import Derived.Test.YtdbnfafafhdolaaVNew
namespace Go.Proofs.Ytdbnfafafhdolaa
open Go Go.RowKit
set_option linter.unusedVariables false
set_option linter.unusedSimpArgs false

/-- a cell of a machine's block -/
theorem mcl_cell {w : World} {g k : Nat} {t : TypeId} {cs : Array Value} {v : Value} (h : w.heap[g]? = some (.cells cs t (0, 0))) (hv : cs[k]? = some v) : w.cell? ⟨g, k, none⟩ = some v := by
  simp only [World.cell?, h]
  exact hv

/-- the two slices of a machine's block -/
structure TwoAt (g : Nat) (cv sv : Value) (w : World) : Prop where
  l : w.cell? ⟨g, 0, none⟩ = some cv
  r : w.cell? ⟨g, 4, none⟩ = some sv

set_option maxRecDepth 100000 in
set_option maxHeartbeats 4000000 in
theorem vstep_any {c : List Int} {arg data : Int} {m : Ms} {ca sa : Option Addr} {cc sc : Nat} {w : World} (hc : Came w ca c.length cc c) (hs : Nums w sa m.stk.length sc m.stk) (hF : Fit c arg data m) :
    Calls Try.prog 19 #[.agg #[.slice ca c.length cc, .int .i64 arg, .int .i64 data, .int .i64 (m.pc : Int), .slice sa m.stk.length sc, .int .i64 m.gas, .bool m.fin, .int .i64 m.err]] w fun e w' =>
      ∃ cv sv, e = .returned (.agg (mcl cv sv arg data (stepP c arg data m))) ∧ w'.ownsRow w.heap.size 5 1 cv c.length (bts c) ∧ w'.ownsRow w.heap.size 3 1 sv (stepP c arg data m).stk.length (nts (stepP c arg data m).stk) ∧ Below w.heap.size w w' := by
  have HC := Lib.hid hc
  have HS := Lib.hid hs
  have HF := Lib.hid hF
  have hlen := hF.len
  have hstk := hF.stk
  clear hc hs hF
  go_enter Try.func19, Try.ntmps19
  go_upto_region 1 with (fail)
  have hr1 : ∀ o, ((w.alloc (Obj.cells #[.slice ca c.length cc, .int .i64 arg, .int .i64 data, .int .i64 (m.pc : Int), .slice sa m.stk.length sc, .int .i64 m.gas, .bool m.fin, .int .i64 m.err] 34)).alloc o).heap[w.heap.size]? = some (Obj.cells (mcl (.slice ca c.length cc) (.slice sa m.stk.length sc) arg data m) 34 (0, 0)) := fun o => by
    rw [((Below.refl _ _).alloc (Nat.le_refl _) o).block w.heap.size (by simp)]
    exact heap_alloc_new _ _
  have hr2 : ∀ w0 : World, (w0.alloc (Obj.cells #[.slice none 0 0, .int .i64 0, .int .i64 0, .int .i64 0, .slice none 0 0, .int .i64 0, .bool false, .int .i64 0] 34)).heap[w0.heap.size]? = some (Obj.cells (noMac (.slice none 0 0) (.slice none 0 0)) 34 (0, 0)) := fun w0 => heap_alloc_new _ _
  have hb1 : ∀ o1 o2, Below w.heap.size w ((w.alloc o1).alloc o2) := fun o1 o2 => ((Below.refl _ _).alloc (Nat.le_refl _) o1).alloc (by simp) o2
  have HR1 := Lib.hid (hr1 (Obj.cells #[.slice none 0 0, .int .i64 0, .int .i64 0, .int .i64 0, .slice none 0 0, .int .i64 0, .bool false, .int .i64 0] 34))
  have HR2 := Lib.hid (hr2 (w.alloc (Obj.cells #[.slice ca c.length cc, .int .i64 arg, .int .i64 data, .int .i64 (m.pc : Int), .slice sa m.stk.length sc, .int .i64 m.gas, .bool m.fin, .int .i64 m.err] 34)))
  rw [show (w.alloc (Obj.cells #[.slice ca c.length cc, .int .i64 arg, .int .i64 data, .int .i64 (m.pc : Int), .slice sa m.stk.length sc, .int .i64 m.gas, .bool m.fin, .int .i64 m.err] 34)).heap.size = w.heap.size + 1 by simp] at HR2
  have HB1 := Lib.hid (hb1 (Obj.cells #[.slice ca c.length cc, .int .i64 arg, .int .i64 data, .int .i64 (m.pc : Int), .slice sa m.stk.length sc, .int .i64 m.gas, .bool m.fin, .int .i64 m.err] 34) (Obj.cells #[.slice none 0 0, .int .i64 0, .int .i64 0, .int .i64 0, .slice none 0 0, .int .i64 0, .bool false, .int .i64 0] 34))
  have HS1 : Hid (w.heap.size + 2 ≤ ((w.alloc (Obj.cells #[.slice ca c.length cc, .int .i64 arg, .int .i64 data, .int .i64 (m.pc : Int), .slice sa m.stk.length sc, .int .i64 m.gas, .bool m.fin, .int .i64 m.err] 34)).alloc (Obj.cells #[.slice none 0 0, .int .i64 0, .int .i64 0, .int .i64 0, .slice none 0 0, .int .i64 0, .bool false, .int .i64 0] 34)).heap.size) := by show _ ≤ _; simp
  clear hr1 hr2 hb1
  generalize (w.alloc _).alloc _ = X0 at *
  refine anyS_start (by kernel_rfl) ?_
  have HRX1 : Hid (X0.drew.heap[w.heap.size]? = _) := HR1.out
  have HRX2 : Hid (X0.drew.heap[w.heap.size + 1]? = _) := HR2.out
  have HBX := Lib.hid HB1.out.drew
  have HSX : Hid (w.heap.size + 2 ≤ X0.drew.heap.size) := HS1.out
  clear HR1 HR2 HB1 HS1
  generalize World.drew X0 = X at *
  have hcs0 : Hid (TwoAt w.heap.size (.slice ca c.length cc) (.slice sa m.stk.length sc) X) := ⟨mcl_cell HRX1.out rfl, mcl_cell HRX1.out rfl⟩
  (refine anyS_free (i := 0) (v := ?_) rfl (by kernel_rfl) (by kernel_rfl) (by kernel_rfl) (fun _ _ _ h => h) (fun _ => by simp) (Or.inl ⟨by rfl, fun w' _ => ?_⟩) ?_; rotate_left; (· go_simp; try with_reducible rfl))
  try simp only [Act.put, List.setIfInBounds_toArray, List.set_cons_zero, List.set_cons_succ]
  (refine anyS_free (i := 3) (v := ?_) rfl (by kernel_rfl) (by kernel_rfl) (by kernel_rfl) (fun _ _ _ h => h) (fun _ => by simp) (Or.inl ⟨by rfl, fun w' _ => ?_⟩) ?_; rotate_left; (· go_simp; try with_reducible rfl))
  try simp only [Act.put, List.setIfInBounds_toArray, List.set_cons_zero, List.set_cons_succ]
  (refine anyS_takeNew (i := 1) (v := .slice ca c.length cc) (fun w' => TwoAt w.heap.size (.slice ca c.length cc) (.slice sa m.stk.length sc) w') [4] hcs0.out rfl (by kernel_rfl) (by kernel_rfl) (by kernel_rfl) (by kernel_rfl) (fun _ _ _ h => h) (fun _ hcs => by repeat' (first | exact trivial | exact fun _ => hcs | refine ⟨?_, ?_⟩)) (Or.inl ⟨by rfl, fun w' hw' => ?_⟩) ?_; (· have c0 := hw'.l; have c4 := hw'.r; go_simp))
  try simp only [Act.put, List.setIfInBounds_toArray, List.set_cons_zero, List.set_cons_succ]
  (refine anyS_takeNew (i := 4) (v := .slice sa m.stk.length sc) (fun w' => TwoAt w.heap.size (.slice ca c.length cc) (.slice sa m.stk.length sc) w') [2] hcs0.out rfl (by kernel_rfl) (by kernel_rfl) (by kernel_rfl) (by kernel_rfl) (fun _ _ _ h => h) (fun _ hcs => by repeat' (first | exact trivial | exact fun _ => hcs | refine ⟨?_, ?_⟩)) (Or.inl ⟨by rfl, fun w' hw' => ?_⟩) ?_; (· have c0 := hw'.l; have c4 := hw'.r; go_simp))
  try simp only [Act.put, List.setIfInBounds_toArray, List.set_cons_zero, List.set_cons_succ]
  refine anyS_one 2 (by kernel_rfl) rfl (fun K' hK' => ?_)
  go_simp
  go_at_call 27
  refine (copiedb_any ca c.length cc c X (HC.out.below HBX.out).reads (by omega)).mono ?_
  rintro _ Y ⟨v2, rfl, ho2, hb2⟩
  obtain ⟨a2, k2, rfl⟩ := own_slice ho2
  have HO2 := Lib.hid (own_mono (B := w.heap.size + 2) ho2 (by have := HSX.out; omega))
  have HRY1 : Hid (Y.heap[w.heap.size]? = some (Obj.cells (mcl (.slice ca c.length cc) (.slice sa m.stk.length sc) arg data m) 34 (0, 0))) := by have h := hb2.block w.heap.size (by have := HSX.out; omega); exact h.trans HRX1.out
  have HRY2 : Hid (Y.heap[w.heap.size + 1]? = some (Obj.cells (noMac (.slice none 0 0) (.slice none 0 0)) 34 (0, 0))) := by have h := hb2.block (w.heap.size + 1) (by have := HSX.out; omega); exact h.trans HRX2.out
  have HBY := Lib.hid (HBX.out.trans (hb2.mono HBX.out.size))
  have HSY : Hid (w.heap.size + 2 ≤ Y.heap.size) := Nat.le_trans HSX.out hb2.size
  have hcs : TwoAt w.heap.size (.slice ca c.length cc) (.slice sa m.stk.length sc) Y := ⟨mcl_cell HRY1.out rfl, mcl_cell HRY1.out rfl⟩
  clear ho2 hb2 HRX1 HRX2 HBX HSX hcs0
  go_simp
  refine hK'.out _ _ (by repeat' (first | exact trivial | exact fun _ => hcs | refine ⟨?_, ?_⟩)) ?_
  clear hK' K'
  try simp only [Act.put, List.setIfInBounds_toArray, List.set_cons_zero, List.set_cons_succ]
  refine anyS_one 5 (by kernel_rfl) rfl (fun K' hK' => ?_)
  go_simp
  go_at_call 28
  refine (copiedi_any sa m.stk.length sc m.stk Y (HS.out.below HBY.out) (by omega)).mono ?_
  rintro _ Z ⟨v3, rfl, ho3, hb3⟩
  obtain ⟨a3, k3, rfl⟩ := own_slice ho3
  have HO3 := Lib.hid (own_mono (B := w.heap.size + 2) ho3 (by have := HSY.out; omega))
  have HO2Z := Lib.hid (own_later HO2.out hb3)
  have HRZ1 : Hid (Z.heap[w.heap.size]? = some (Obj.cells (mcl (.slice ca c.length cc) (.slice sa m.stk.length sc) arg data m) 34 (0, 0))) := by have h := hb3.block w.heap.size (by have := HSY.out; omega); exact h.trans HRY1.out
  have HRZ2 : Hid (Z.heap[w.heap.size + 1]? = some (Obj.cells (noMac (.slice none 0 0) (.slice none 0 0)) 34 (0, 0))) := by have h := hb3.block (w.heap.size + 1) (by have := HSY.out; omega); exact h.trans HRY2.out
  have HBZ := Lib.hid (HBY.out.trans (hb3.mono HBY.out.size))
  have HSZ : Hid (w.heap.size + 2 ≤ Z.heap.size) := Nat.le_trans HSY.out hb3.size
  have hcs : TwoAt w.heap.size (.slice ca c.length cc) (.slice sa m.stk.length sc) Z := ⟨mcl_cell HRZ1.out rfl, mcl_cell HRZ1.out rfl⟩
  clear ho3 hb3 HRY1 HRY2 HBY HSY HO2
  go_simp
  refine hK'.out _ _ (by repeat' (first | exact trivial | exact fun _ => hcs | refine ⟨?_, ?_⟩)) ?_
  clear hK' K'
  try simp only [Act.put, List.setIfInBounds_toArray, List.set_cons_zero, List.set_cons_succ]
  (refine anyS_free (i := 6) (v := ?_) rfl (by kernel_rfl) (by kernel_rfl) (by kernel_rfl) (fun _ _ _ h => h) (fun _ => by simp) (Or.inl ⟨by rfl, fun w' _ => ?_⟩) ?_; rotate_left; (· go_simp; try with_reducible rfl))
  try simp only [Act.put, List.setIfInBounds_toArray, List.set_cons_zero, List.set_cons_succ]
  have h1 := only_setCell Z w.heap.size 0 _ _ (.slice a2 c.length k2) HRZ1.out
  have h2 := only_setCell _ w.heap.size 4 _ _ (.slice a3 m.stk.length k3) h1.2
  have c0' := hcs.l
  have f0' : Z.frozen? ⟨w.heap.size, 0, none⟩ = false := by simp [World.frozen?, HRZ1.out]
  have c4' : (Z.setCell ⟨w.heap.size, 0, none⟩ (.slice a2 c.length k2)).cell? ⟨w.heap.size, 4, none⟩ = some (.slice sa m.stk.length sc) := mcl_cell h1.2 rfl
  have f4' : (Z.setCell ⟨w.heap.size, 0, none⟩ (.slice a2 c.length k2)).frozen? ⟨w.heap.size, 4, none⟩ = false := by simp [World.frozen?, h1.2]
  have ho := h1.1.trans h2.1
  have hmac : Mac 34 (w.heap.size + 2) w.heap.size c arg data m (.slice a2 c.length k2) (.slice a3 m.stk.length k3) ((Z.setCell ⟨w.heap.size, 0, none⟩ (.slice a2 c.length k2)).setCell ⟨w.heap.size, 4, none⟩ (.slice a3 m.stk.length k3)) :=
    ⟨h2.2, .inl rfl, own_only HO2Z.out ho (own_not HO2Z.out HRZ1.out (by decide)), own_only HO3.out ho (own_not HO3.out HRZ1.out (by decide))⟩
  have HM := Lib.hid hmac
  have HR2 : Hid (((Z.setCell ⟨w.heap.size, 0, none⟩ (.slice a2 c.length k2)).setCell ⟨w.heap.size, 4, none⟩ (.slice a3 m.stk.length k3)).heap[w.heap.size + 1]? = some (Obj.cells (noMac (.slice none 0 0) (.slice none 0 0)) 34 (0, 0))) := by have h := ho.block (w.heap.size + 1) (by have := HSZ.out; omega) (by simp); exact h.trans HRZ2.out
  have HB := Lib.hid (HBZ.out.trans (ho.below (Nat.le_refl _) HBZ.out.size))
  have HSV : Hid (w.heap.size + 2 ≤ ((Z.setCell ⟨w.heap.size, 0, none⟩ (.slice a2 c.length k2)).setCell ⟨w.heap.size, 4, none⟩ (.slice a3 m.stk.length k3)).heap.size) := Nat.le_trans HSZ.out ho.size
  clear ho hmac h2 HRZ2 HBZ HO3 HO2Z
  refine anyS_one 7 (by kernel_rfl) rfl (fun K' hK' => ?_)
  go_simp
  have hcs : TwoAt w.heap.size (.slice a2 c.length k2) (.slice sa m.stk.length sc) (Z.setCell ⟨w.heap.size, 0, none⟩ (.slice a2 c.length k2)) := ⟨mcl_cell h1.2 rfl, mcl_cell h1.2 rfl⟩
  refine hK'.out _ _ (by repeat' (first | exact trivial | exact fun h => absurd h (by decide) | refine ⟨?_, ?_⟩)) ?_
  clear hK' K'
  try simp only [Act.put, List.setIfInBounds_toArray, List.set_cons_zero, List.set_cons_succ]
  (refine anyS_free (i := 8) (v := ?_) rfl (by kernel_rfl) (by kernel_rfl) (by kernel_rfl) (fun _ _ _ h => h) (fun _ => by simp) (Or.inl ⟨by rfl, fun w' _ => ?_⟩) ?_; rotate_left; (· go_simp; try with_reducible rfl))
  try simp only [Act.put, List.setIfInBounds_toArray, List.set_cons_zero, List.set_cons_succ]
  refine anyS_one 9 (by kernel_rfl) rfl (fun K' hK' => ?_)
  go_simp
  refine hK'.out _ _ (by repeat' (first | exact trivial | exact fun h => absurd h (by decide) | refine ⟨?_, ?_⟩)) ?_
  clear hK' K'
  try simp only [Act.put, List.setIfInBounds_toArray, List.set_cons_zero, List.set_cons_succ]
  refine anyS_done (by kernel_rfl) ?_ _
  refine NoPanic.normal ?_
  clear c0' f0' c4' f4' h1 hcs
  generalize (Z.setCell _ _).setCell _ _ = V at *
  go_wp2_with fail
  refine (step_any HM.out HF.out HSV.out).mono ?_
  rintro _ U ⟨rfl, ⟨sv, hm⟩, hbU⟩
  obtain ⟨a5, k5, rfl⟩ := own_slice hm.stk
  have HMU := Lib.hid hm
  have HRU2 : Hid (U.heap[w.heap.size + 1]? = some (Obj.cells (noMac (.slice none 0 0) (.slice none 0 0)) 34 (0, 0))) := (hbU.block (w.heap.size + 1) (by omega) (by omega)).trans HR2.out
  have HBU := Lib.hid (HB.out.trans (hbU.under (Nat.le_refl _) (by omega)))
  clear hm hbU HM HR2 HB
  go_wp2_with (first
    | (refine wpList_load_row rfl 34 (.tmp 1) rfl w.heap.size rfl 34 (mcl (.slice a2 c.length k2) (.slice a5 (stepP c arg data m).stk.length k5) arg data (stepP c arg data m)) (0, 0) _ HMU.out.row Try.underlying34 rfl size_vm ?_)
    | (refine store_agg rfl 34 (.tmp 2) (.tmp 12) rfl rfl (w.heap.size + 1) (mcl (.slice a2 c.length k2) (.slice a5 (stepP c arg data m).stk.length k5) arg data (stepP c arg data m)) rfl rfl 34 _ HRU2.out size_vm rfl (mcl_one _ _ _ _ _ _ _ _ _) ?_; intro T hrow hon))
  refine bodyPost_ret (v := .agg (mcl (.slice a2 c.length k2) (.slice a5 (stepP c arg data m).stk.length k5) arg data (stepP c arg data m))) (results_cell_row (P := Try.prog) rfl _ _ (w.heap.size + 1) 34 _ (0, 0) _ rfl hrow Try.underlying34 rfl size_vm) rfl ⟨_, _, rfl, ?_, ?_, ?_⟩
  · exact own_mono (own_only HMU.out.code hon (own_not HMU.out.code HRU2.out (by decide))) (by omega)
  · exact own_mono (own_only HMU.out.stk hon (own_not HMU.out.stk HRU2.out (by decide))) (by omega)
  · exact HBU.out.trans (hon.below (by omega) HBU.out.size)
end Go.Proofs.Ytdbnfafafhdolaa
