/- P102: a new reader holds what it was given. The slice holds at most a million bytes. -/
import Derived.Test.YtlaafpfpoehonaaRText
namespace Go.Proofs.Ytlaafpfpoehonaa
open Go.RowKit Num
set_option linter.unusedVariables false
set_option linter.unusedSimpArgs false

theorem new_rd {w w1 : World} {n : Nat} {xs : List Int} (hf : Fresh w w1 (.slice (some ⟨w.heap.size, 0, none⟩) n n) n n xs) :
    Rd (w1.alloc (.cells #[.slice (some ⟨w.heap.size, 0, none⟩) n n, .int .i64 0] 56)) w1.heap.size 0 xs := by
  obtain ⟨cur, hr, hl, ht⟩ := hf.row
  have hg := (Array.getElem?_eq_some_iff.1 hr).1
  have hx := hf.len
  subst hx
  refine ⟨w.heap.size, 0, xs.length, heap_alloc_new w1 _, by omega, by simp; omega, Nat.le_refl _, hf.small, fun i hi => ?_⟩
  rw [World.cell?_alloc_past _ _ _ hg]
  have hc : w1.cell? ⟨w.heap.size, i, none⟩ = cur[i]? := by simp [World.cell?, hr]
  rw [Nat.zero_add, hc]
  have ha : (cur.take xs.length)[i]? = (bts xs)[i]? := by rw [ht]
  rw [List.getElem?_take, if_pos hi] at ha
  rw [ha]
  simp [bts, List.getD, hi]

set_option maxRecDepth 100000 in
set_option maxHeartbeats 400000 in
/-- P102: New -/
theorem new_any (a : Option Addr) (n c : Nat) (xs : List Int) (w : World) (hr : Reads w a n xs) (hn : n ≤ 1000000) :
    Calls Try.prog 19 #[.slice a n c] w fun x w' => ∃ r, x = .returned (.pointer (some ⟨r, 0, none⟩)) ∧ Rd w' r 0 xs ∧ w.heap.size ≤ r ∧ Below w.heap.size w w' := by
  have HR := Lib.hid hr
  clear hr
  go_enter Try.func19, Try.ntmps19
  go_wp2_with fail
  refine (more_any a n c xs 0 _ HR.out hn (by omega) (by omega)).mono ?_
  rintro e w1 ⟨v1, rfl, hf⟩
  have hv := hf.val
  subst hv
  have HF := Lib.hid hf
  clear hf
  go_wp2_with fail
  go_ret
  have hf := HF.out
  simp only [Int.toNat_zero, Nat.add_zero] at hf
  exact ⟨_, rfl, new_rd hf, hf.below.size, hf.below.alloc hf.below.size _⟩
end Go.Proofs.Ytlaafpfpoehonaa
