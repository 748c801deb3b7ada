/- The signs: what each asks for; what two numbers come to, by the program and by the document. -/
import Derived.Test.YtdbnfafafhdolaaPr
import Derived.OwnWalk
namespace Go.Proofs.Ytdbnfafafhdolaa
open Go Go.RowKit
set_option linter.unusedVariables false
set_option linter.unusedSimpArgs false

theorem sign_cases {s : Int} (h : Byte s) : s = 0 ∨ s = 1 ∨ s = 2 ∨ s = 3 ∨ s = 4 ∨ s = 5 ∨ s = 6 ∨ s = 7 ∨ s = 8 ∨ s = 9 ∨ s = 10 ∨ s = 11 ∨ s = 12 ∨ s = 13 ∨ s = 14 ∨ s = 15 ∨ 15 < s := by
  unfold Byte at h; omega

def tailP (s : Int) : Nat := if s = 1 then 8 else if s = 13 then 1 else 0
def takesP (s : Int) : Nat := if s = 8 ∨ s = 10 ∨ s = 13 ∨ s = 14 ∨ s = 15 then 1 else if (2 ≤ s ∧ s ≤ 7) ∨ s = 9 then 2 else 0
def putsP (s : Int) : Nat := if s = 8 ∨ s = 9 then 2 else if (1 ≤ s ∧ s ≤ 7) ∨ s = 11 ∨ s = 12 ∨ s = 14 ∨ s = 15 then 1 else 0

theorem tail_no {s : Int} (h : 15 < s) : tailP s = 0 := by unfold tailP; repeat (rw [if_neg (by omega)])
theorem takes_no {s : Int} (h : 15 < s) : takesP s = 0 := by unfold takesP; repeat (rw [if_neg (by omega)])
theorem puts_no {s : Int} (h : 15 < s) : putsP s = 0 := by unfold putsP; repeat (rw [if_neg (by omega)])

theorem asks_any (s : Int) (w : World) (hs : Byte s) :
    Calls Try.prog 39 #[.int .u8 s] w fun e w' => e = .returned (.tuple #[.int .i64 (tailP s : Int), .int .i64 (takesP s : Int), .int .i64 (putsP s : Int)]) ∧ w = w' := by
  rcases sign_cases hs with rfl | rfl | rfl | rfl | rfl | rfl | rfl | rfl | rfl | rfl | rfl | rfl | rfl | rfl | rfl | rfl | h
  case inr.inr.inr.inr.inr.inr.inr.inr.inr.inr.inr.inr.inr.inr.inr.inr =>
    have h1 := tail_no h
    have h2 := takes_no h
    have h3 := puts_no h
    rw [h1, h2, h3]
    clear h1 h2 h3 hs
    go_enter Try.func39, Try.ntmps39
    go_wp2
    go_ret3
    exact ⟨rfl, rfl⟩
  all_goals
    go_enter Try.func39, Try.ntmps39
    go_wp2
    go_ret3
    exact ⟨rfl, rfl⟩

theorem needs_any (s : Int) (w : World) (hs : Byte s) :
    Calls Try.prog 31 #[.int .u8 s] w fun e w' => e = .returned (.int .i64 (takesP s : Int)) ∧ w = w' := by
  rcases sign_cases hs with rfl | rfl | rfl | rfl | rfl | rfl | rfl | rfl | rfl | rfl | rfl | rfl | rfl | rfl | rfl | rfl | h
  case inr.inr.inr.inr.inr.inr.inr.inr.inr.inr.inr.inr.inr.inr.inr.inr =>
    have h2 := takes_no h
    rw [h2]
    clear h2 hs
    go_enter Try.func31, Try.ntmps31
    go_wp2
    go_ret
    exact ⟨rfl, rfl⟩
  all_goals
    go_enter Try.func31, Try.ntmps31
    go_wp2
    go_ret
    exact ⟨rfl, rfl⟩

theorem puts_any (s : Int) (w : World) (hs : Byte s) :
    Calls Try.prog 32 #[.int .u8 s] w fun e w' => e = .returned (.int .i64 (putsP s : Int)) ∧ w = w' := by
  rcases sign_cases hs with rfl | rfl | rfl | rfl | rfl | rfl | rfl | rfl | rfl | rfl | rfl | rfl | rfl | rfl | rfl | rfl | h
  case inr.inr.inr.inr.inr.inr.inr.inr.inr.inr.inr.inr.inr.inr.inr.inr =>
    have h2 := puts_no h
    rw [h2]
    clear h2 hs
    go_enter Try.func32, Try.ntmps32
    go_wp2
    go_ret
    exact ⟨rfl, rfl⟩
  all_goals
    go_enter Try.func32, Try.ntmps32
    go_wp2
    go_ret
    exact ⟨rfl, rfl⟩

/-- what a sign makes of two numbers -/
def pairP (s a b : Int) : Int × Int :=
  if s = 2 then over (a + b) else if s = 3 then over (a - b) else if s = 4 then over (a * b) else if s = 5 ∨ s = 6 then shiftP s a b else (bits .and .i64 a b, 0)

theorem pair_any (s a b : Int) (w : World) (ha : I64 a) (hb : I64 b) (hs : 2 ≤ s ∧ s ≤ 7) :
    Calls Try.prog 42 #[.int .u8 s, .int .i64 a, .int .i64 b] w fun e w' => e = .returned (.tuple #[.int .i64 (pairP s a b).1, .int .i64 (pairP s a b).2]) ∧ w = w' := by
  have h : s = 2 ∨ s = 3 ∨ s = 4 ∨ s = 5 ∨ s = 6 ∨ s = 7 := by omega
  clear hs
  rcases h with rfl | rfl | rfl | rfl | rfl | rfl
  · have hp : Hid (pairP 2 a b = over (a + b)) := by unfold pairP; rw [if_pos rfl]; exact rfl
    go_enter Try.func42, Try.ntmps42
    go_wp2_with fail
    refine (sum_any a b 0 w ha hb (by omega)).mono ?_
    rintro _ _ ⟨rfl, rfl⟩
    go_wp2_with fail
    go_ret2
    rw [hp.out]
    exact ⟨rfl, rfl⟩
  · have hn := not_i64 hb
    have hb2 : I64 (-1 - b) := by unfold I64 at *; omega
    have hp : Hid (pairP 3 a b = over (a + (-1 - b) + 1)) := by unfold pairP; rw [if_neg (by omega), if_pos rfl, show a + (-1 - b) + 1 = a - b by omega]; exact rfl
    go_enter Try.func42, Try.ntmps42
    go_wp2_with fail
    try rw [hn]
    refine (sum_any a (-1 - b) 1 w ha hb2 (by omega)).mono ?_
    rintro _ _ ⟨rfl, rfl⟩
    go_wp2_with fail
    go_ret2
    rw [hp.out]
    exact ⟨rfl, rfl⟩
  · have hp : Hid (pairP 4 a b = over (a * b)) := by unfold pairP; rw [if_neg (by omega), if_neg (by omega), if_pos rfl]; exact rfl
    go_enter Try.func42, Try.ntmps42
    go_wp2_with fail
    refine (product_any a b w ha hb).mono ?_
    rintro _ _ ⟨rfl, rfl⟩
    go_wp2_with fail
    go_ret2
    rw [hp.out]
    exact ⟨rfl, rfl⟩
  · have hp : Hid (pairP 5 a b = shiftP 5 a b) := by unfold pairP; rw [if_neg (by omega), if_neg (by omega), if_neg (by omega), if_pos (by omega)]; exact rfl
    go_enter Try.func42, Try.ntmps42
    go_wp2_with fail
    refine (shift_any 5 a b w ha hb ⟨by omega, by omega⟩).mono ?_
    rintro _ _ ⟨rfl, rfl⟩
    go_wp2_with fail
    go_ret2
    rw [hp.out]
    exact ⟨rfl, rfl⟩
  · have hp : Hid (pairP 6 a b = shiftP 6 a b) := by unfold pairP; rw [if_neg (by omega), if_neg (by omega), if_neg (by omega), if_pos (by omega)]; exact rfl
    go_enter Try.func42, Try.ntmps42
    go_wp2_with fail
    refine (shift_any 6 a b w ha hb ⟨by omega, by omega⟩).mono ?_
    rintro _ _ ⟨rfl, rfl⟩
    go_wp2_with fail
    go_ret2
    rw [hp.out]
    exact ⟨rfl, rfl⟩
  · have hp : Hid (pairP 7 a b = (bits .and .i64 a b, 0)) := by unfold pairP; rw [if_neg (by omega), if_neg (by omega), if_neg (by omega), if_neg (by omega)]; exact rfl
    go_enter Try.func42, Try.ntmps42
    go_wp2_with fail
    go_ret2
    rw [hp.out]
    exact ⟨rfl, rfl⟩
end Go.Proofs.Ytdbnfafafhdolaa
