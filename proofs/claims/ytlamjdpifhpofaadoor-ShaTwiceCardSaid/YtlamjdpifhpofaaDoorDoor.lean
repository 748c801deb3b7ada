/- What an argument that is a sum reads as; what the program's listed variables hold. -/
import Derived.Test.YtlamjdpifhpofaaDoorDSum
import Derived.Lib.LaidTab
import Derived.LaidMore
import Derived.Stop.Joined
import Derived.Stop.LaidErr
namespace Go.Proofs.YtlamjdpifhpofaaDoor
open Go.RowKit Sha
set_option linter.unusedVariables false

/-- the listed variables -/
def laidL : List (String × DataW Unit) := [("capstan/sha.start", Rows.laid_capstan_sha_start), ("capstan/sha.salts", Rows.laid_capstan_sha_salts)]

theorem gStart : Tryd.prog.globalNamed "capstan/sha.start" = some 0 := by kernel_rfl
theorem gSalts : Tryd.prog.globalNamed "capstan/sha.salts" = some 1 := by kernel_rfl
theorem tStart : (Tryd.prog.globals[0]?).map (·.type) = some 33 := by kernel_rfl
theorem tSalts : (Tryd.prog.globals[1]?).map (·.type) = some 42 := by kernel_rfl
theorem cells_w : Tryd.prog.cellsOf 31 = 1 := by kernel_rfl
theorem cells_s : Tryd.prog.cellsOf 33 = 8 := by kernel_rfl
theorem cells_k : Tryd.prog.cellsOf 42 = 64 := by kernel_rfl

theorem first_eq : first.list.map (fun x => (x.toNat : Int)) = [1779033703, 3144134277, 1013904242, 2773480762, 1359893119, 2600822924, 528734635, 1541459225] := by decide +kernel

theorem start_data : (Rows.laid_capstan_sha_start : DataW Unit) = Lib.tabData .u32 (first.list.map (fun x => (x.toNat : Int))) := by kernel_rfl
theorem salts_data : (Rows.laid_capstan_sha_salts : DataW Unit) = Lib.tabData .u32 (kk.map (fun x => (x.toNat : Int))) := by kernel_rfl

theorem of_laid {W : World} (h : laidMetH Tryd.prog laidL W) : Laid W := by
  rw [MakeChecks.laidMetH_plain _ _ _ (by kernel_rfl)] at h
  unfold laidL at h
  rw [start_data, salts_data] at h
  have t0 := Lib.tabIs_of_head gStart tStart und_s Tryd.underlying31 cells_w cells_s h
  have t1 := Lib.tabIs_of_head gSalts tSalts und_u64 Tryd.underlying31 cells_w cells_k h.tail
  have hs : Salts W := fun i hi => by
    have h1 := t1.cell gSalts i (by rw [List.length_map]; exact hi)
    rw [h1]
    have hk : i < kk.length := hi
    simp [List.getD, hk]
  refine ⟨fun j v hv => ?_, hs, World.block_lt_of_cell? W _ (hs 0 (by omega))⟩
  have hj : j < 8 := by
    have := (List.getElem?_eq_some_iff.1 hv).1
    rw [us_length] at this
    exact this
  have h1 := t0.cell gStart j (by rw [List.length_map]; exact hj)
  rw [Nat.zero_add, h1, ← hv]
  have hk : j < first.list.length := hj
  simp [List.getD, us, u, hk]

theorem door_met (os : Os) (args : Array Value) : laidMetH Tryd.prog laidL ((World.doorLaid Tryd.prog 400 os).forCall (fun _ _ => 0) ⟨#[], args, []⟩).memory :=
  laidMetH_of_parts3 (fuel := 8) (laidMet_of_run' 8 (by kernel_rfl) (by kernel_rfl)) (by kernel_rfl) (by kernel_rfl)
end Go.Proofs.YtlamjdpifhpofaaDoor
