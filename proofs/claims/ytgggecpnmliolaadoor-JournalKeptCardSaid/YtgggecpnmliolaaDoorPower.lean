/- The disk's power: an operation's share of it, what Stop says, whether it is gone. -/
import Derived.Test.YtgggecpnmliolaaDoorDk
import Derived.RegionTactic
import Derived.ChangeAlike
namespace Go.Proofs.YtgggecpnmliolaaDoor
open Go Go.RowKit
set_option linter.unusedVariables false
set_option linter.unusedSimpArgs false

section
variable {B g : Nat} {d : Dk} {lv sv : Value} {w : World}

theorem ret_bool {a b : Bool} (h : a = b) : Ending.returned (Value.bool a) = Ending.returned (Value.bool b) := by rw [h]

theorem even_any (h : Dsk B g d lv sv w) : Calls Tryd.prog 40 #[.pointer (some ⟨g, 3, none⟩)] w fun e w' => e = .returned (.bool d.even) ∧ w = w' := by
  obtain ⟨-, -, -, -, c4, -, -⟩ := h.cells
  clear h
  go_enter Tryd.func40, Tryd.ntmps40
  go_wp2
  go_ret
  exact ⟨rfl, rfl⟩

theorem dead_any (h : Dsk B g d lv sv w) : Calls Tryd.prog 12 #[.pointer (some ⟨g, 0, none⟩)] w fun e w' => e = .returned (.bool d.dead) ∧ w = w' := by
  obtain ⟨-, -, -, c3, -, -, -⟩ := h.cells
  clear h
  go_enter Tryd.func12, Tryd.ntmps12
  go_wp2
  go_ret
  exact ⟨rfl, rfl⟩

theorem spend_any (h : Dsk B g d lv sv w) (hf : d.count < 1000) : Calls Tryd.prog 54 #[.pointer (some ⟨g, 3, none⟩)] w fun e w' => e = .returned (.tuple #[]) ∧ Dsk B g d.spend lv sv w' ∧ Only g w w' := by
  obtain ⟨-, -, -, c3, c4, c5, -⟩ := h.cells
  have f3 := h.free 3
  have f5 := h.free 5
  have H := Lib.hid h
  clear h
  go_enter Tryd.func54, Tryd.ntmps54
  go_wp2_with fail
  obtain ⟨h1, ho1⟩ := H.out.put 5 (.int .i64 ((d.count : Int) + 1)) { d with count := d.count + 1 } (by simp [dcells]) rfl rfl rfl (by show d.count + 1 ≤ 1000; omega) H.out.stop
  have HO1 := Lib.hid ho1
  generalize w.setCell ⟨g, 5, none⟩ (.int .i64 ((d.count : Int) + 1)) = w1 at *
  obtain ⟨-, -, -, c3, c4, c5, -⟩ := h1.cells
  have f3 := h1.free 3
  have H1 := Lib.hid h1
  clear h1 ho1 H
  go_region
  go_end0
  obtain ⟨h2, ho2⟩ := H1.out.put 3 (.bool ((d.count : Int) + 1 == d.stop)) d.spend (by simp [dcells, Dk.spend]) rfl rfl rfl H1.out.few H1.out.stop
  exact ⟨rfl, h2.drewN 1, only_drew (HO1.out.trans ho2) 1⟩

theorem stop_any (h : Dsk B g d lv sv w) (n : Int) (hn : I64 n) : Calls Tryd.prog 10 #[.pointer (some ⟨g, 0, none⟩), .int .i64 n] w fun e w' => e = .returned (.tuple #[]) ∧ Dsk B g { d with stop := n, count := 0 } lv sv w' ∧ Only g w w' := by
  obtain ⟨-, -, -, c3, c4, c5, -⟩ := h.cells
  have f4 := h.free 4
  have f5 := h.free 5
  have H := Lib.hid h
  clear h
  go_enter Tryd.func10, Tryd.ntmps10
  go_wp2_with fail
  obtain ⟨h1, ho1⟩ := H.out.put 4 (.int .i64 n) { d with stop := n } (by simp [dcells]) rfl rfl rfl H.out.few hn
  obtain ⟨h2, ho2⟩ := h1.put 5 (.int .i64 0) { d with stop := n, count := 0 } (by simp [dcells]) rfl rfl rfl (by show 0 ≤ 1000; omega) hn
  have h3 := ho1.trans ho2
  go_end0
  exact ⟨rfl, h2, h3⟩
end
end Go.Proofs.YtgggecpnmliolaaDoor
