/- A machine of the program's as one of the document's. -/
import Derived.Test.YtdbnfafafhdolaaRStep
import Derived.Test.YtdbnfafafhdolaaVLaw
namespace Go.Proofs.Ytdbnfafafhdolaa
open Go Go.RowKit
set_option linter.unusedVariables false
set_option linter.unusedSimpArgs false

set_option maxRecDepth 100000 in
set_option maxHeartbeats 4000000 in
theorem toref_any (ca : Option Addr) (n cc : Nat) (sa : Option Addr) (d sc : Nat) (arg data : Int) (pc : Nat) (stk : List Int) (G : Int) (F : Bool) (E : Int) (w : World) :
    Calls Try.prog 22 #[.agg (mcl (.slice ca n cc) (.slice sa d sc) arg data ⟨pc, stk, G, F, E⟩)] w fun e w' => e = .returned (.agg (mcl (.slice ca n cc) (.slice sa d sc) arg data ⟨pc, stk, G, F, E⟩)) ∧ Below w.heap.size w w' := by
  unfold mcl
  go_enter Try.func22, Try.ntmps22
  go_wp2_with fail
  have hn2 : ∀ o1 o2 : Obj, ((w.alloc o1).alloc o2).heap[w.heap.size + 1]? = some o2 := fun o1 o2 => by
    have h := heap_alloc_new (w.alloc o1) o2
    rwa [show (w.alloc o1).heap.size = w.heap.size + 1 by simp] at h
  have hb2 : ∀ o1 o2 : Obj, Below w.heap.size w ((w.alloc o1).alloc o2) := fun o1 o2 => ((Below.refl _ _).alloc (Nat.le_refl _) o1).alloc (by simp) o2
  exact bodyPost_ret (v := .agg _) (results_cell_row (P := Try.prog) rfl _ _ (w.heap.size + 1) 37 _ (0, 0) _ rfl (hn2 _ _) Try.underlying37 rfl size_ref) rfl ⟨rfl, hb2 _ _⟩
end Go.Proofs.Ytdbnfafafhdolaa
