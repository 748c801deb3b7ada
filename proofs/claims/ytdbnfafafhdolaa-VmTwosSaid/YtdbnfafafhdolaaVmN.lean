/- What numbers of 64 bits make of each other: plain numbers, no program. No condition. -/
import Derived.Test.YtdbnfafafhdolaaGen3
import Derived.Lib.Mul64
import Derived.Lib.Zigzag
namespace Go.Proofs.Ytdbnfafafhdolaa
open Go Go.RowKit
set_option linter.unusedVariables false
set_option linter.unusedSimpArgs false

theorem wrap_bv (v : BitVec 64) : IntKind.i64.wrap (v.toNat : Int) = v.toInt := by
  rw [IntKind.wrap_i64, BitVec.toInt_eq_toNat_bmod, Int.bmod_def]
  have := v.isLt
  split <;> omega

theorem sign_bv {a : Int} (h : I64 a) : (BitVec.ofInt 64 a).msb = decide (a < 0) := by
  obtain ⟨h1, h2⟩ := h
  rw [BitVec.msb_eq_toInt, BitVec.toInt_ofInt, Int.bmod_eq_of_le (by omega) (by omega)]

theorem and_neg {a b : Int} (ha : I64 a) (hb : I64 b) : bits .and .i64 a b < 0 ↔ a < 0 ∧ b < 0 := by
  show IntKind.i64.wrap ((BitVec.ofInt 64 a &&& BitVec.ofInt 64 b).toNat : Int) < 0 ↔ _
  have h := BitVec.msb_eq_toInt (x := BitVec.ofInt 64 a &&& BitVec.ofInt 64 b)
  rw [BitVec.msb_and, sign_bv ha, sign_bv hb] at h
  rw [wrap_bv]
  have h2 := congrArg (· = true) h
  simpa using h2.symm

theorem xor_neg {a b : Int} (ha : I64 a) (hb : I64 b) : bits .xor .i64 a b < 0 ↔ ¬ (a < 0 ↔ b < 0) := by
  show IntKind.i64.wrap ((BitVec.ofInt 64 a ^^^ BitVec.ofInt 64 b).toNat : Int) < 0 ↔ _
  have h := BitVec.msb_eq_toInt (x := BitVec.ofInt 64 a ^^^ BitVec.ofInt 64 b)
  rw [BitVec.msb_xor, sign_bv ha, sign_bv hb] at h
  rw [wrap_bv]
  have h2 := congrArg (· = true) h
  by_cases h3 : a < 0 <;> by_cases h4 : b < 0 <;> simp [h3, h4] at h2 ⊢ <;> omega

theorem bits_i64 (o : BinOp) (a b : Int) : I64 (bits o .i64 a b) := by
  have h : ∀ n : Int, I64 (IntKind.i64.wrap n) := fun n => by rw [IntKind.wrap_i64]; exact ⟨by omega, by omega⟩
  unfold bits
  split <;> exact h _

theorem not_i64 {n : Int} (h : I64 n) : bits .xor .i64 (-1) n = -1 - n := by
  by_cases h0 : n < 0
  · show IntKind.i64.wrap ((BitVec.ofInt 64 (-1) ^^^ BitVec.ofInt 64 n).toNat : Int) = _
    have h1 : (BitVec.ofInt 64 (-1)).toNat = 2 ^ 64 - 1 := by decide
    have h2 : (BitVec.ofInt 64 n).toNat = (n + 18446744073709551616).toNat := by
      rw [BitVec.toNat_ofInt]; have := h.1; omega
    have := h.1
    rw [BitVec.toNat_xor, h1, h2, Lib.xor_ones64 _ (by omega), IntKind.wrap_i64]
    omega
  · have h1 := Lib.i64_not n.toNat (by have := h.2; omega)
    rw [show ((n.toNat : Nat) : Int) = n by omega] at h1
    rw [h1]; omega

/-- a number, or that it is too great -/
def over (n : Int) : Int × Int := if -9223372036854775808 ≤ n ∧ n ≤ 9223372036854775807 then (n, 0) else (0, 11)

theorem over_in {n : Int} (h : I64 n) : over n = (n, 0) := if_pos h
theorem over_out {n : Int} (h : ¬ I64 n) : over n = (0, 11) := if_neg h

/-- the sum's sign tells whether it was too great -/
theorem sum_sign {a b c : Int} (ha : I64 a) (hb : I64 b) (hc : 0 ≤ c ∧ c ≤ 1) :
    bits .and .i64 (bits .xor .i64 a (wrap64 (wrap64 (a + b) + c))) (bits .xor .i64 b (wrap64 (wrap64 (a + b) + c))) < 0 ↔ ¬ I64 (a + b + c) := by
  have hw : I64 (wrap64 (wrap64 (a + b) + c)) := by unfold wrap64; exact ⟨by omega, by omega⟩
  rw [and_neg (bits_i64 _ _ _) (bits_i64 _ _ _), xor_neg ha hw, xor_neg hb hw]
  unfold wrap64
  unfold I64 at *
  omega

theorem sum_val {a b c : Int} (h : I64 (a + b + c)) (ha : I64 a) (hb : I64 b) (hc : 0 ≤ c ∧ c ≤ 1) : wrap64 (wrap64 (a + b) + c) = a + b + c := by
  unfold wrap64
  unfold I64 at *
  omega
end Go.Proofs.Ytdbnfafafhdolaa
