/- Runs of small programs, reckoned. No condition. -/
import Derived.Test.YtdbnfafafhdolaaVGasP
import Derived.Test.YtdbnfafafhdolaaVLaw
namespace Go.Proofs.Ytdbnfafafhdolaa
open Go Go.RowKit
set_option linter.unusedVariables false
set_option linter.unusedSimpArgs false

theorem stack_one : ∀ n : Fin 20, runP (List.replicate n.val 11) 7 0 100 = if 16 < n.val then (0, 17, 15) else (if n.val = 0 then 0 else 7, (n.val : Int) + 1, 0) := by decide +kernel
def stackOps : List Int := [2, 3, 4, 5, 6, 7, 9]
theorem stack_two : ∀ n : Fin 17, ∀ m : Fin 7, decide ((runP (List.replicate n.val 11 ++ [stackOps.getD m.val 0]) 1 0 100).2.2 = 15) = decide (n.val < 2) := by decide +kernel

theorem bad_one : ∀ n : Fin 9, ∀ o : Fin 240, (runP (List.replicate n.val 12 ++ [16 + (o.val : Int)]) 1 2 50).2 = ((n.val : Int) + 1, 10) := by decide +kernel
theorem bad_two : ∀ n : Fin 9, ∀ l : Fin 8, (runP (List.replicate n.val 12 ++ 1 :: List.replicate l.val 0) 1 2 50).2.2 = 8 := by decide +kernel
theorem bad_three : ∀ n : Fin 9, (runP (List.replicate n.val 12 ++ [13]) 1 2 50).2.2 = 8 := by decide +kernel

theorem jump_two : ∀ t : Fin 30, (if 11 < t.val then (runP (1 :: (eight 0 ++ [13, (t.val : Int)])) 0 0 100).2.2 = 10 else if t.val = 11 then (runP (1 :: (eight 0 ++ [13, (t.val : Int)])) 0 0 100).2.2 = 0 else (runP (1 :: (eight 0 ++ [13, (t.val : Int)])) 0 0 100).2.2 ≠ 0 ∨ 0 < t.val) := by decide +kernel

theorem num_eight {a : Int} (h : I64 a) : numP (eight a) = a := by
  obtain ⟨u, hu⟩ : ∃ u, u = IntKind.u64.wrap a := ⟨_, rfl⟩
  have hb : 0 ≤ u ∧ u < 18446744073709551616 := by rw [hu, IntKind.wrap_u64]; omega
  have e : bigN (eight a) = u := by
    unfold bigN eight byteAt
    rw [← hu]
    simp only [List.foldl]
    omega
  unfold numP
  rw [e, hu, IntKind.wrap_u64]
  unfold wrap64
  unfold I64 at h
  omega

theorem pushes_0 (a b : Int) : runP (1 :: (eight a ++ 1 :: eight b)) 0 0 20 = (numP (eight b), 3, 0) := by kernel_rfl
theorem pushes_1 (a b : Int) : runP (1 :: (eight a ++ 1 :: (eight b ++ [10]))) 0 0 20 = (numP (eight a), 4, 0) := by kernel_rfl
theorem pushes_2 (a b : Int) : runP (1 :: (eight a ++ 1 :: (eight b ++ [9]))) 0 0 20 = (numP (eight a), 4, 0) := by kernel_rfl
theorem pushes_3 (a b : Int) : runP (1 :: (eight a ++ 1 :: (eight b ++ [8, 10]))) 0 0 20 = (numP (eight b), 5, 0) := by kernel_rfl
theorem pushes_4 (a b : Int) : runP (1 :: (eight a ++ 1 :: (eight b ++ [9, 10]))) 0 0 20 = (numP (eight b), 5, 0) := by kernel_rfl
end Go.Proofs.Ytdbnfafafhdolaa
