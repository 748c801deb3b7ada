/- What the program makes of two numbers: sums, shifts, products. -/
import Derived.Test.YtdbnfafafhdolaaVmN
namespace Go.Proofs.Ytdbnfafafhdolaa
open Go Go.RowKit
set_option linter.unusedVariables false
set_option linter.unusedSimpArgs false

theorem sum_any (a b c : Int) (w : World) (ha : I64 a) (hb : I64 b) (hc : 0 ≤ c ∧ c ≤ 1) :
    Calls Try.prog 43 #[.int .i64 a, .int .i64 b, .int .i64 c] w fun e w' => e = .returned (.tuple #[.int .i64 (over (a + b + c)).1, .int .i64 (over (a + b + c)).2]) ∧ w = w' := by
  by_cases h : I64 (a + b + c)
  · have hs : ¬ (bits .and .i64 (bits .xor .i64 a (wrap64 (wrap64 (a + b) + c))) (bits .xor .i64 b (wrap64 (wrap64 (a + b) + c))) < 0) := fun x => (sum_sign ha hb hc).1 x h
    have hv := Lib.hid (sum_val h ha hb hc)
    have ho := Lib.hid (over_in h)
    clear h
    go_enter Try.func43, Try.ntmps43
    go_wp2
    go_ret2
    rw [ho.out]
    exact ⟨by rw [← hv.out]; rfl, rfl⟩
  · have hs := (sum_sign ha hb hc).2 h
    have ho := Lib.hid (over_out h)
    clear h
    go_enter Try.func43, Try.ntmps43
    go_wp2
    go_ret2
    rw [ho.out]
    exact ⟨rfl, rfl⟩

/-- a shifted to the left, or right -/
def shlP (a b : Int) : Int := IntKind.i64.wrap (a * 2 ^ min b.toNat 64)
def shrP (a b : Int) : Int := a / 2 ^ min b.toNat 64
def shiftP (s a b : Int) : Int × Int := if b < 0 then (0, 1) else if s = 5 then (shlP a b, 0) else (shrP a b, 0)

theorem shift_any (s a b : Int) (w : World) (ha : I64 a) (hb : I64 b) (hs : Byte s) :
    Calls Try.prog 45 #[.int .u8 s, .int .i64 a, .int .i64 b] w fun e w' => e = .returned (.tuple #[.int .i64 (shiftP s a b).1, .int .i64 (shiftP s a b).2]) ∧ w = w' := by
  by_cases h0 : b < 0
  · have hp : Hid (shiftP s a b = (0, 1)) := by unfold shiftP; rw [if_pos h0]; exact rfl
    go_enter Try.func45, Try.ntmps45
    go_wp2
    go_ret2
    rw [hp.out]
    exact ⟨rfl, rfl⟩
  · by_cases h5 : s = 5
    · subst h5
      have hp : Hid (shiftP 5 a b = (shlP a b, 0)) := by unfold shiftP; rw [if_neg h0, if_pos rfl]; exact rfl
      go_enter Try.func45, Try.ntmps45
      go_wp2
      go_ret2
      rw [hp.out]
      exact ⟨rfl, rfl⟩
    · have hp : Hid (shiftP s a b = (shrP a b, 0)) := by unfold shiftP; rw [if_neg h0, if_neg h5]; exact rfl
      go_enter Try.func45, Try.ntmps45
      go_wp2
      go_ret2
      rw [hp.out]
      exact ⟨rfl, rfl⟩

namespace MulN
theorem maskN (a : Nat) (ha : a < 18446744073709551616) : bits .and .u64 (a : Int) 4294967295 = ((a % 4294967296 : Nat) : Int) := by
  have h := bits_and_u64_nat a 4294967295 ha (by omega)
  have e : a &&& 4294967295 = a % 4294967296 := Nat.and_two_pow_sub_one_eq_mod a 32
  rw [e] at h
  exact h
theorem divN (a : Nat) : (a : Int) / 4294967296 = ((a / 4294967296 : Nat) : Int) := by omega
theorem mulN (a b : Nat) : (a : Int) * (b : Int) = ((a * b : Nat) : Int) := (Int.natCast_mul a b).symm
theorem addN (a b : Nat) : (a : Int) + (b : Int) = ((a + b : Nat) : Int) := (Int.natCast_add a b).symm
theorem wrapN (a : Nat) (ha : a < 18446744073709551616) : IntKind.u64.wrap (a : Int) = (a : Int) := by rw [IntKind.wrap_u64]; omega
theorem wrapM (a : Nat) : IntKind.u64.wrap (a : Int) = ((a % 18446744073709551616 : Nat) : Int) := by rw [IntKind.wrap_u64]; omega
end MulN

set_option maxHeartbeats 1000000 in
theorem mul64_any (x y : Nat) (hx : x < 18446744073709551616) (hy : y < 18446744073709551616) (w : World) :
    Calls Try.prog 46 #[.int .u64 x, .int .u64 y] w fun e w' => e = .returned (.tuple #[.int .u64 ((x * y / 18446744073709551616 : Nat) : Int), .int .u64 ((x * y % 18446744073709551616 : Nat) : Int)]) ∧ w' = w := by
  obtain ⟨bd, bt, bw, hhi⟩ := Lib.mul64_hi x y hx hy
  have ba := Lib.half_mul_le (a := x / 4294967296) (b := y / 4294967296) (by omega) (by omega)
  have bb := Lib.half_mul_le (a := x / 4294967296) (b := y % 4294967296) (by omega) (by omega)
  have bc := Lib.half_mul_le (a := x % 4294967296) (b := y / 4294967296) (by omega) (by omega)
  have bb' : x / 4294967296 * (y % 4294967296) < 18446744073709551616 := by omega
  have bc' : x % 4294967296 * (y / 4294967296) < 18446744073709551616 := by omega
  have ba' : x / 4294967296 * (y / 4294967296) < 18446744073709551616 := by omega
  have bh1 : x / 4294967296 * (y / 4294967296) + (x / 4294967296 * (y % 4294967296) + x % 4294967296 * (y % 4294967296) / 4294967296) / 4294967296 < 18446744073709551616 := by omega
  have bh : x / 4294967296 * (y / 4294967296) + (x / 4294967296 * (y % 4294967296) + x % 4294967296 * (y % 4294967296) / 4294967296) / 4294967296 + ((x / 4294967296 * (y % 4294967296) + x % 4294967296 * (y % 4294967296) / 4294967296) % 4294967296 + x % 4294967296 * (y / 4294967296)) / 4294967296 < 18446744073709551616 := by omega
  go_enter Try.func46, Try.ntmps46
  go_wp2
  simp only [MulN.maskN x hx, MulN.maskN y hy, MulN.divN, MulN.mulN, MulN.addN, MulN.wrapN _ bd, MulN.wrapN _ bb', MulN.wrapN _ bt, MulN.maskN _ bt, MulN.wrapN _ bc', MulN.wrapN _ bw, MulN.wrapN _ ba', MulN.wrapN _ bh1, MulN.wrapN _ bh, MulN.wrapM (x * y)]
  rw [hhi]
  go_ret2
  exact ⟨rfl, rfl⟩

theorem mask_u64 {a : Int} (ha : I64 a) (b : Int) : bits .and .u64 (IntKind.u64.wrap (a / 9223372036854775808)) (b % 18446744073709551616) = if a < 0 then b % 18446744073709551616 else 0 := by
  obtain ⟨y, hy⟩ : ∃ y : Nat, (y : Int) = b % 18446744073709551616 := ⟨(b % 18446744073709551616).toNat, by omega⟩
  obtain ⟨h1, h2⟩ := ha
  rw [← hy, IntKind.wrap_u64]
  split
  · have e : a / 9223372036854775808 % 18446744073709551616 = ((18446744073709551615 : Nat) : Int) := by omega
    rw [e, bits_and_u64_nat _ _ (by omega) (by omega), Nat.and_comm]
    have h3 := Nat.and_two_pow_sub_one_eq_mod y 64
    have h4 : (2 : Nat) ^ 64 - 1 = 18446744073709551615 := by decide
    rw [h4] at h3
    rw [h3]
    omega
  · have e : a / 9223372036854775808 % 18446744073709551616 = ((0 : Nat) : Int) := by omega
    rw [e, bits_and_u64_nat _ _ (by omega) (by omega), Nat.zero_and]
    rfl

theorem mul_bound {a b : Int} (ha : I64 a) (hb : I64 b) : -85070591730234615865843651857942052864 ≤ a * b ∧ a * b ≤ 85070591730234615865843651857942052864 := by
  obtain ⟨h1, h2⟩ := ha
  obtain ⟨h3, h4⟩ := hb
  have h : (a * b).natAbs ≤ 9223372036854775808 * 9223372036854775808 := by
    rw [Int.natAbs_mul]
    exact Nat.mul_le_mul (by omega) (by omega)
  omega

/-- the high half, made one with a sign, tells whether the product was too great -/
theorem mul_sign {a b : Int} {x y H L : Nat} (ha : I64 a) (hb : I64 b) (hx : (x : Int) = a % 18446744073709551616) (hy : (y : Int) = b % 18446744073709551616) (hH : H = x * y / 18446744073709551616) (hL : L = x * y % 18446744073709551616) :
    ((wrap64 (IntKind.u64.wrap ((H : Int) - IntKind.u64.wrap (bits .and .u64 (IntKind.u64.wrap (a / 9223372036854775808)) (b % 18446744073709551616) + bits .and .u64 (IntKind.u64.wrap (b / 9223372036854775808)) (a % 18446744073709551616)))) = wrap64 L / 9223372036854775808) ↔ I64 (a * b)) ∧
      (I64 (a * b) → wrap64 L = a * b) := by
  rw [mask_u64 ha, mask_u64 hb, ← hx, ← hy]
  have hbd := mul_bound ha hb
  obtain ⟨p, hp⟩ : ∃ p : Nat, p = x * y := ⟨_, rfl⟩
  have hpi : (p : Int) = (x : Int) * (y : Int) := by rw [hp, Int.natCast_mul]
  rw [← hp] at hH hL
  obtain ⟨P, hP⟩ : ∃ P, P = a * b := ⟨_, rfl⟩
  rw [← hP] at hbd ⊢
  obtain ⟨h1, h2⟩ := ha
  obtain ⟨h3, h4⟩ := hb
  have key : P = p - (if a < 0 then 18446744073709551616 * (y : Int) else 0) - (if b < 0 then 18446744073709551616 * (x : Int) else 0) + (if a < 0 ∧ b < 0 then 340282366920938463463374607431768211456 else 0) := by
    have ea : a = if a < 0 then (x : Int) - 18446744073709551616 else x := by split <;> omega
    have eb : b = if b < 0 then (y : Int) - 18446744073709551616 else y := by split <;> omega
    by_cases n1 : a < 0 <;> by_cases n2 : b < 0 <;> simp only [n1, n2, if_true, if_false, and_self, and_true, true_and, and_false, false_and] at ea eb ⊢ <;> rw [hP, ea, eb, hpi] <;> (try simp only [Int.sub_mul, Int.mul_sub]) <;> omega
  clear hP hpi hp
  obtain ⟨S, hS⟩ : ∃ S : Int, S = (if a < 0 then (y : Int) else 0) + (if b < 0 then (x : Int) else 0) := ⟨_, rfl⟩
  obtain ⟨r, hr⟩ : ∃ r : Int, r = if a < 0 ∧ b < 0 then 1 else 0 := ⟨_, rfl⟩
  have key2 : P = 18446744073709551616 * ((H : Int) - S + 18446744073709551616 * r) + L := by
    rw [hS, hr, key, hH, hL]
    by_cases n1 : a < 0 <;> by_cases n2 : b < 0 <;> simp only [n1, n2, if_true, if_false, and_self, and_true, true_and, and_false, false_and] <;> omega
  rw [← hS, IntKind.wrap_u64, IntKind.wrap_u64]
  have hL2 : (L : Int) < 18446744073709551616 := by omega
  have hL1 : (0 : Int) ≤ L := by omega
  obtain ⟨q, hq⟩ : ∃ q : Int, q = (H : Int) - S + 18446744073709551616 * r := ⟨_, rfl⟩
  rw [← hq] at key2
  have e : wrap64 (((H : Int) - S % 18446744073709551616) % 18446744073709551616) = q := by
    clear key hS hr hH hL hx hy
    unfold wrap64
    omega
  rw [e]
  clear key hS hr hH hL hx hy hq e
  unfold wrap64 I64
  constructor <;> omega

set_option maxHeartbeats 1000000 in
theorem product_any (a b : Int) (w : World) (ha : I64 a) (hb : I64 b) :
    Calls Try.prog 44 #[.int .i64 a, .int .i64 b] w fun e w' => e = .returned (.tuple #[.int .i64 (over (a * b)).1, .int .i64 (over (a * b)).2]) ∧ w = w' := by
  obtain ⟨x, hx⟩ : ∃ x : Nat, (x : Int) = a % 18446744073709551616 := ⟨(a % 18446744073709551616).toNat, by omega⟩
  obtain ⟨y, hy⟩ : ∃ y : Nat, (y : Int) = b % 18446744073709551616 := ⟨(b % 18446744073709551616).toNat, by omega⟩
  have hm := mul64_any x y (by omega) (by omega)
  have hxa : IntKind.u64.wrap a = x := by rw [IntKind.wrap_u64, hx]
  have hyb : IntKind.u64.wrap b = y := by rw [IntKind.wrap_u64, hy]
  go_enter Try.func44, Try.ntmps44
  go_wp2_with fail
  rw [← hx, ← hy]
  refine (hm _).mono ?_
  rintro _ _ ⟨rfl, rfl⟩
  obtain ⟨H, hH⟩ : ∃ H, H = x * y / 18446744073709551616 := ⟨_, rfl⟩
  obtain ⟨L, hL⟩ : ∃ L, L = x * y % 18446744073709551616 := ⟨_, rfl⟩
  rw [← hH, ← hL]
  have hk := mul_sign ha hb hx hy hH hL
  clear hm hH hL
  by_cases hI : I64 (a * b)
  · have hq : (wrap64 (IntKind.u64.wrap ((H : Int) - IntKind.u64.wrap (bits .and .u64 (IntKind.u64.wrap (a / 9223372036854775808)) (b % 18446744073709551616) + bits .and .u64 (IntKind.u64.wrap (b / 9223372036854775808)) (a % 18446744073709551616)))) != wrap64 L / 9223372036854775808) = false := by
      simp only [bne_eq_false_iff_eq]
      exact hk.1.2 hI
    have hv := Lib.hid (hk.2 hI)
    have ho := Lib.hid (over_in hI)
    clear hk hI
    go_wp2_with fail
    go_ret2
    rw [ho.out]
    exact ⟨by rw [← hv.out]; rfl, rfl⟩
  · have hq : (wrap64 (IntKind.u64.wrap ((H : Int) - IntKind.u64.wrap (bits .and .u64 (IntKind.u64.wrap (a / 9223372036854775808)) (b % 18446744073709551616) + bits .and .u64 (IntKind.u64.wrap (b / 9223372036854775808)) (a % 18446744073709551616)))) != wrap64 L / 9223372036854775808) = true := by
      simp only [bne_iff_ne, ne_eq]
      exact fun h => hI (hk.1.1 h)
    have ho := Lib.hid (over_out hI)
    clear hk hI
    go_wp2_with fail
    go_ret2
    rw [ho.out]
    exact ⟨rfl, rfl⟩
end Go.Proofs.Ytdbnfafafhdolaa
