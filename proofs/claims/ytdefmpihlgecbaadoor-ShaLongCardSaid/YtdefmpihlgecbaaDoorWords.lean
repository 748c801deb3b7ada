/- The second SHA-256: the numbers of the rounds. -/
import Derived.Test.YtdefmpihlgecbaaDoorRow32
namespace Go.Proofs.YtdefmpihlgecbaaDoor
open Go.RowKit Sha
set_option linter.unusedVariables false
set_option linter.unusedSimpArgs false

def noughts64 : List W := List.replicate 64 0

set_option maxRecDepth 100000 in
set_option maxHeartbeats 1000000 in
theorem words_any (w : World) : Calls Tryd.prog 21 #[] w fun e w' => e = .returned (.agg (us kk).toArray) ∧ Below w.heap.size w w' := by
  have hA : (w.alloc (.cells (us noughts64).toArray 48)).heap[w.heap.size]? = some (.cells (us noughts64).toArray 48 (0, 0)) := heap_alloc_new w _
  have HA := Lib.hid hA
  clear hA
  go_enter Tryd.func21, Tryd.ntmps21
  go_upto_region 1 with (fail)
  go_wp2_with (refine wpList_store_us rfl 48 (.tmp 0) (.tmp 1) rfl w.heap.size kk rfl rfl info_u64 _ HA.out rfl ?_; intro w1 hr ho)
  exact bodyPost_ret (v := .agg (us kk).toArray) (results_cell_row (P := Tryd.prog) rfl _ _ w.heap.size 48 _ (0, 0) _ rfl hr und_u64 rfl (by rw [List.size_toArray, us_length]; exact info_u64)) rfl ⟨rfl, ((Below.refl _ _).alloc (Nat.le_refl _) _).trans (ho.below (Nat.le_refl _) (by simp))⟩

end Go.Proofs.YtdefmpihlgecbaaDoor
