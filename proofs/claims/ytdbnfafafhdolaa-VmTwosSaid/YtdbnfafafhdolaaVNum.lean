/- What bytes say as a number, the highest first, by the program and by the document; a number's bytes. -/
import Derived.Test.YtdbnfafafhdolaaTwoR
namespace Go.Proofs.Ytdbnfafafhdolaa
open Go Go.RowKit
set_option linter.unusedVariables false
set_option linter.unusedSimpArgs false

theorem getD_byte {z : List Int} (h : ∀ c ∈ z, Byte c) (i : Nat) : Byte (z.getD i 0) := by
  by_cases hi : i < z.length
  · refine h _ ?_
    simp [List.getD, hi]
  · simp [List.getD, show z.length ≤ i by omega, Byte]

/-- bytes as a number, the highest first -/
def bigN (xs : List Int) : Int := xs.foldl (fun u c => u * 256 + c) 0
/-- with a sign, if they are eight -/
def numP (xs : List Int) : Int := wrap64 (bigN xs)

theorem bigN_next {z : List Int} {i : Nat} (hi : i < z.length) : bigN (z.take (i + 1)) = bigN (z.take i) * 256 + z.getD i 0 := by
  unfold bigN
  rw [List.take_add_one, List.foldl_append]
  simp [List.getD, hi]

theorem bigN_bd : ∀ (z : List Int), (∀ c ∈ z, Byte c) → ∀ i, i ≤ 8 → 0 ≤ bigN (z.take i) ∧ bigN (z.take i) < 256 ^ i := by
  intro z h i
  induction i with
  | zero => intro _; simp [bigN]
  | succ i ih =>
    intro hi
    have h1 := ih (by omega)
    by_cases hz : i < z.length
    · rw [bigN_next hz, Int.pow_succ]
      have h2 := getD_byte h i
      unfold Byte at h2
      omega
    · have e : z.take (i + 1) = z.take i := by rw [List.take_of_length_le (by omega), List.take_of_length_le (by omega)]
      rw [e, Int.pow_succ]
      have : (0 : Int) < 256 ^ i := Int.pow_pos (by omega)
      omega

theorem bigN_small {z : List Int} (h : ∀ c ∈ z, Byte c) {i : Nat} (hi : i < 8) : 0 ≤ bigN (z.take i) ∧ bigN (z.take i) < 72057594037927936 := by
  have h1 := bigN_bd z h i (by omega)
  refine ⟨h1.1, Int.lt_of_lt_of_le h1.2 ?_⟩
  have : i = 0 ∨ i = 1 ∨ i = 2 ∨ i = 3 ∨ i = 4 ∨ i = 5 ∨ i = 6 ∨ i = 7 := by omega
  rcases this with rfl | rfl | rfl | rfl | rfl | rfl | rfl | rfl <;> decide

theorem or_u64 {u x : Int} (hu : 0 ≤ u ∧ u < 72057594037927936) (hx : Byte x) : bits .or .u64 (u * 256) x = u * 256 + x := by
  unfold Byte at hx
  exact bits_join .u64 64 (by decide) wraps_u64 8 (u * 256) x (by omega) (by omega) (by omega) (by omega) (by omega) (by omega)

theorem ret_i64' {a b : Int} (h : a = b) : Ending.returned (Value.int .i64 a) = Ending.returned (Value.int .i64 b) := by rw [h]
theorem u64_cong {a b : Int} (h : a = b) : Value.int .u64 a = Value.int .u64 b := by rw [h]

set_option maxHeartbeats 1000000 in
theorem numvm_any (a0 : Option Addr) (len0 cap0 : Nat) (z : List Int) (w : World) (hr : Reads w a0 len0 z) (hby : ∀ c ∈ z, Byte c) (h8 : len0 ≤ 8) :
    Calls Try.prog 40 #[.slice a0 len0 cap0] w fun e w' => e = .returned (.int .i64 (numP z)) ∧ w = w' := by
  have HR := Lib.hid hr
  have HB := Lib.hid hby
  clear hr hby
  go_enter Try.func40, Try.ntmps40
  go_wp2_with fail
  go_loopw [3, 8] (fun c v X => ∃ i : Nat, i ≤ len0 ∧ v = .int .i64 (i : Int) ∧ c = .int .u64 (bigN (z.take i)) ∧ X = w) (fun _ v _ => ((len0 : Int) - intOf v).toNat)
  case atStart => exact ⟨0, by omega, rfl, rfl, rfl⟩
  case round =>
    obtain ⟨i, hi, rfl, rfl, rfl⟩ := hrel
    by_cases hlt : i < len0
    · obtain ⟨ad, rfl, hcell⟩ := HR.out.at hlt
      have hx := getD_byte HB.out i
      have hnx := Lib.hid (bigN_next (z := z) (i := i) (by rw [HR.out.1]; exact hlt))
      have hbd := bigN_small HB.out (show i < 8 by omega)
      obtain ⟨x, hxe⟩ : ∃ x, x = z.getD i 0 := ⟨_, rfl⟩
      obtain ⟨u, hue⟩ : ∃ u, u = bigN (z.take i) := ⟨_, rfl⟩
      rw [← hxe] at hcell hx hnx
      rw [← hue] at hnx hbd ⊢
      have hor := Lib.hid (or_u64 hbd hx)
      clear hxe hue
      have hx1 := hx.1
      have hx2 := hx.2
      go_wp2_with fail
      try go_roundw
      case rel => exact ⟨i + 1, by omega, by go_num, u64_cong (by rw [hnx.out, ← hor.out]), by trivial⟩
      case measure => simp [intOf]; omega
    · have hi2 : i = len0 := by omega
      have e : z.take i = z := List.take_of_length_le (by rw [HR.out.1]; omega)
      rw [e]
      go_wp2_with fail
      go_ret
      exact ⟨rfl, rfl⟩

set_option maxHeartbeats 1000000 in
theorem numref_any (a0 : Option Addr) (len0 cap0 : Nat) (z : List Int) (w : World) (hr : Reads w a0 len0 z) (hby : ∀ c ∈ z, Byte c) (h8 : 8 ≤ len0) (hm : len0 ≤ 281474976710656) :
    Calls Try.prog 30 #[.slice a0 len0 cap0] w fun e w' => e = .returned (.int .i64 (numP (z.take 8))) ∧ w = w' := by
  have HR := Lib.hid hr
  have HB := Lib.hid hby
  clear hr hby
  go_enter Try.func30, Try.ntmps30
  go_wp2_with fail
  go_loopw [3, 4] (fun c v X => ∃ i : Nat, i ≤ 8 ∧ v = .int .i64 (i : Int) ∧ c = .int .u64 (bigN (z.take i)) ∧ X = w) (fun _ v _ => ((8 : Int) - intOf v).toNat)
  case atStart => exact ⟨0, by omega, rfl, rfl, rfl⟩
  case round =>
    obtain ⟨i, hi, rfl, rfl, rfl⟩ := hrel
    by_cases hlt : i < 8
    · obtain ⟨ad, rfl, hcell⟩ := HR.out.at (show i < len0 by omega)
      have hx := getD_byte HB.out i
      have hnx := Lib.hid (bigN_next (z := z) (i := i) (by rw [HR.out.1]; omega))
      have hbd := bigN_small HB.out (show i < 8 by omega)
      obtain ⟨x, hxe⟩ : ∃ x, x = z.getD i 0 := ⟨_, rfl⟩
      obtain ⟨u, hue⟩ : ∃ u, u = bigN (z.take i) := ⟨_, rfl⟩
      rw [← hxe] at hcell hx hnx
      rw [← hue] at hnx hbd ⊢
      have hor := Lib.hid (or_u64 hbd hx)
      clear hxe hue
      have hx1 := hx.1
      have hx2 := hx.2
      go_wp2_with fail
      try go_roundw
      case rel => exact ⟨i + 1, by omega, by go_num, u64_cong (by rw [hnx.out, ← hor.out]), by trivial⟩
      case measure => simp [intOf]; omega
    · have hi2 : i = 8 := by omega
      subst hi2
      go_wp2_with fail
      go_ret
      exact ⟨rfl, rfl⟩
end Go.Proofs.Ytdbnfafafhdolaa
