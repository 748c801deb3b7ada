/- What the program's listed variable holds. -/
import Derived.Test.YtgggecpnmliolaaDoorScan
import Derived.Lib.LaidTab
import Derived.LaidMore
import Derived.Stop.Joined
import Derived.Stop.LaidErr
namespace Go.Proofs.YtgggecpnmliolaaDoor
open Go.RowKit Frm
set_option linter.unusedVariables false

/-- the listed variables -/
def laidL : List (String × DataW Unit) := [("capstan/frames.halves", Rows.laid_capstan_frames_halves)]

theorem gTab : Tryd.prog.globalNamed "capstan/frames.halves" = some 0 := by kernel_rfl
theorem tTab : (Tryd.prog.globals[0]?).map (·.type) = some 75 := by kernel_rfl
theorem und_tab : Tryd.prog.underlying 75 = some (.array 16 61) := by kernel_rfl
theorem cells_w : Tryd.prog.cellsOf 61 = 1 := by kernel_rfl
theorem cells_t : Tryd.prog.cellsOf 75 = 16 := by kernel_rfl

theorem tab_data : (Rows.laid_capstan_frames_halves : DataW Unit) = Lib.tabData .u32 (halves.map (fun x => (x.toNat : Int))) := by kernel_rfl

theorem of_laid {W : World} (h : laidMetH Tryd.prog laidL W) : Laid W := by
  rw [MakeChecks.laidMetH_plain _ _ _ (by kernel_rfl)] at h
  unfold laidL at h
  rw [tab_data] at h
  have t0 := Lib.tabIs_of_head gTab tTab und_tab Tryd.underlying61 cells_w cells_t h
  refine ⟨fun i hi => ?_⟩
  have h1 := t0.cell gTab i (by rw [List.length_map]; exact hi)
  rw [h1]
  have hk : i < halves.length := hi
  simp [List.getD, hk]

theorem door_met (os : Os) (args : Array Value) : laidMetH Tryd.prog laidL ((World.doorLaid Tryd.prog 400 os).forCall (fun _ _ => 0) ⟨#[], args, []⟩).memory :=
  laidMetH_of_parts3 (fuel := 8) (laidMet_of_run' 8 (by kernel_rfl) (by kernel_rfl)) (by kernel_rfl) (by kernel_rfl)
end Go.Proofs.YtgggecpnmliolaaDoor
