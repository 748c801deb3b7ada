/- What the operations on bits make of a number that is folded, and cut by sevens: plain numbers, no program. -/
import Derived.Test.YtlaafpfpoehonaaNum
import Derived.Lib.Zigzag
import Derived.Lib.VarintBits
namespace Go.Proofs.Ytlaafpfpoehonaa.Num
set_option linter.unusedVariables false

theorem not_neg (n : Int) (h0 : -9223372036854775808 ≤ n) (h : n < 0) : bits .xor .i64 (-1) n = -n - 1 := by
  show IntKind.i64.wrap ((BitVec.ofInt 64 (-1) ^^^ BitVec.ofInt 64 n).toNat : Int) = _
  have h1 : (BitVec.ofInt 64 (-1)).toNat = 2 ^ 64 - 1 := by decide
  have h2 : (BitVec.ofInt 64 n).toNat = (n + 18446744073709551616).toNat := by
    rw [BitVec.toNat_ofInt]; omega
  rw [BitVec.toNat_xor, h1, h2, Lib.xor_ones64 _ (by omega), IntKind.wrap_i64]
  omega

theorem fold_neg_val (n : Int) (h0 : -9223372036854775808 ≤ n) (h : n < 0) :
    bits BinOp.or IntKind.u64 (IntKind.u64.wrap (IntKind.u64.wrap (bits BinOp.xor IntKind.i64 (-1) n) * 2)) 1 = zig n := by
  rw [not_neg n h0 h]
  have e : IntKind.u64.wrap (IntKind.u64.wrap (-n - 1) * 2) = (-n - 1) * 2 := by rw [IntKind.wrap_u64, IntKind.wrap_u64]; omega
  rw [e]
  have r := bits_join .u64 64 (by decide) wraps_u64 1 ((-n - 1) * 2) 1 (by omega) (by omega) (by omega) (by omega) (by omega) (by omega)
  rw [r]
  unfold zig
  rw [if_pos h]
  omega

theorem fold_pos_val (n : Int) (h : 0 ≤ n) (h1 : n ≤ 9223372036854775807) : IntKind.u64.wrap (IntKind.u64.wrap n * 2) = zig n := by
  rw [IntKind.wrap_u64, IntKind.wrap_u64]
  unfold zig
  rw [if_neg (by omega)]
  omega

theorem seven_val (u : Int) (h : 0 ≤ u) : bits BinOp.or IntKind.u8 (IntKind.u8.wrap u) 128 = u % 128 + 128 := by
  rw [IntKind.wrap_u8, Lib.u8_or128_any _ (by omega) (by omega)]
  omega

theorem seven_rem (u : Int) : bits BinOp.or IntKind.u8 (u % 256) 128 = u % 128 + 128 := by
  rw [Lib.u8_or128_any _ (by omega) (by omega)]
  omega

/-- the loop's last step -/
theorem sev_end (f U : Nat) (h : (U : Int) < 128) {ys zs : List Int} (he : ys ++ sev f (U : Int) = zs) : ys ++ [(U : Int)] = zs ∧ (sev f (U : Int)).length = 1 := by
  have : sev f (U : Int) = [(U : Int)] := by cases f <;> simp [sev, h]
  rw [this] at he ⊢
  exact ⟨he, rfl⟩

/-- a step of the loop -/
theorem sev_step (f U : Nat) (h : ¬ (U : Int) < 128) (hU : (U : Int) < 128 ^ (f + 1)) {ys zs : List Int} (he : ys ++ sev f (U : Int) = zs) :
    ∃ f', f = f' + 1 ∧ (((U / 128 : Nat) : Int) < 128 ^ (f' + 1)) ∧ (ys ++ [(U : Int) % 128 + 128]) ++ sev f' ((U / 128 : Nat) : Int) = zs := by
  cases f with
  | zero => simp at hU; omega
  | succ f' =>
    refine ⟨f', rfl, ?_, ?_⟩
    · rw [Int.pow_succ] at hU; omega
    · rw [sev, if_neg h] at he
      rw [← he]
      simp

theorem low_val (u : Int) (h : 0 ≤ u) (h1 : u < 256) : IntKind.u8.wrap u = u := by rw [IntKind.wrap_u8]; omega

theorem unfold_odd (u : Int) (h : 0 ≤ u) (h1 : u < 18446744073709551616) : bits BinOp.xor IntKind.i64 (-1) (IntKind.i64.wrap (u / 2)) = -(u / 2) - 1 := by
  obtain ⟨x, rfl⟩ := Int.eq_ofNat_of_zero_le h
  have e : IntKind.i64.wrap ((x : Int) / 2) = ((x / 2 : Nat) : Int) := by rw [IntKind.wrap_i64]; omega
  rw [e, Lib.i64_not _ (by omega)]
  omega

theorem unfold_even (u : Int) (h : 0 ≤ u) (h1 : u < 18446744073709551616) : IntKind.i64.wrap (u / 2) = u / 2 := by rw [IntKind.wrap_i64]; omega

theorem odd_val (u : Int) (h : 0 ≤ u) (h1 : u < 18446744073709551616) : bits .and .u64 u 1 = u % 2 := Lib.u64_and1 u h h1

end Go.Proofs.Ytlaafpfpoehonaa.Num
