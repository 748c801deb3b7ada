/- P101: a number has as few bytes as it needs: the walk of CodeShort. -/
import Derived.Test.YtlaafpfpoehonaaCame
namespace Go.Proofs.Ytlaafpfpoehonaa
open Go.RowKit Num
set_option linter.unusedVariables false
set_option linter.unusedSimpArgs false

theorem sev_exact : ∀ (f m : Nat) (u : Int), m ≤ f → 128 ^ m ≤ u → u < 128 ^ (m + 1) → (sev f u).length = m + 1 := by
  intro f
  induction f with
  | zero => intro m u h _ _; obtain rfl : m = 0 := by omega
            simp [sev]
  | succ f ih =>
    intro m u hm h1 h2
    unfold sev
    cases m with
    | zero => rw [if_pos (by simpa using h2)]; rfl
    | succ m =>
      have hp : (0 : Int) < 128 ^ m := Int.pow_pos (by omega)
      have e1 : (128 : Int) ^ (m + 1) = 128 ^ m * 128 := Int.pow_succ ..
      have e2 : (128 : Int) ^ (m + 1 + 1) = 128 ^ (m + 1) * 128 := Int.pow_succ ..
      rw [if_neg (by omega), List.length_cons, ih m (u / 128) (by omega) (by omega) (by omega)]

theorem pow128 (m : Nat) : (128 : Int) ^ m = 2 ^ (7 * m) := by rw [Int.pow_mul]; rfl

theorem pow_mono {a b : Nat} (h : a ≤ b) : (2 : Int) ^ a ≤ 2 ^ b := by
  have := Nat.pow_le_pow_right (show 0 < 2 by omega) h
  exact_mod_cast this

theorem pow_lt {a b : Nat} (h : a < b) : (2 : Int) ^ a < 2 ^ b := by
  have := Nat.pow_lt_pow_right (show 1 < 2 by omega) h
  exact_mod_cast this

theorem pow62 {k : Nat} (h : k ≤ 62) : (1 : Int) ≤ 2 ^ k ∧ (2 : Int) ^ k ≤ 4611686018427387904 := by
  have h1 := pow_mono (Nat.zero_le k)
  have h2 := pow_mono h
  have e : (2 : Int) ^ 62 = 4611686018427387904 := by decide
  rw [e] at h2
  simp at h1
  exact ⟨h1, h2⟩

theorem int_nil (z : Int) (w : World) (hz : I64 z) :
    Calls Try.prog 13 #[.slice none 0 0, .int .i64 z] w fun e w' =>
      ∃ a c, e = .returned (.slice a (enc z).length c) ∧ Reads w' a (enc z).length (enc z) ∧ Below w.heap.size w w' := by
  refine (int_any none 0 0 [] z w (reads_nil _) (by omega) hz).mono ?_
  rintro e w1 ⟨v, rfl, ho, hb⟩
  simp only [Nat.zero_add, List.nil_append] at ho
  obtain ⟨a, c, rfl, hr⟩ := owned_val ho
  exact ⟨a, c, rfl, hr, hb⟩

theorem enc_pow (k : Nat) (h : k ≤ 62) : (enc (2 ^ k)).length = (k + 8) / 7 := by
  have hk := pow62 h
  have ez : zig (2 ^ k) = 2 ^ (k + 1) := by unfold zig; rw [if_neg (by omega), Int.pow_succ, Int.mul_comm]
  unfold enc
  rw [ez, sev_exact 9 ((k + 1) / 7) _ (by omega) (by rw [pow128]; exact pow_mono (by omega)) (by rw [pow128]; exact pow_lt (by omega))]
  omega

theorem enc_npow (k : Nat) (h : k ≤ 62) : (enc (-(2 ^ k))).length = (k + 7) / 7 := by
  have hk := pow62 h
  have ez : zig (-(2 ^ k)) = 2 ^ (k + 1) - 1 := by unfold zig; rw [if_pos (by omega), Int.pow_succ]; omega
  have h1 : (2 : Int) ^ (7 * (k / 7)) ≤ 2 ^ k := pow_mono (by omega)
  have h2 : (2 : Int) ^ (k + 1) = 2 ^ k * 2 := Int.pow_succ ..
  unfold enc
  rw [ez, sev_exact 9 (k / 7) _ (by omega) (by rw [pow128]; omega) (by
    have h3 : (2 : Int) ^ (k + 1) ≤ 2 ^ (7 * (k / 7 + 1)) := pow_mono (by omega)
    rw [pow128]; omega)]
  omega

set_option maxRecDepth 100000 in
set_option maxHeartbeats 800000 in
theorem short_any (a0 a1 : Int) (w : World) (h0 : I64 a0) (h1 : I64 a1) :
    Calls Try.prog 6 #[.int .i64 a0, .int .i64 a1] w fun e w' => e = .returned (.bool true) ∧ Below w.heap.size w w' := by
  have H0 := Lib.hid h0
  clear h0 h1
  go_enter Try.func6, Try.ntmps6
  go_wp2_with fail
  refine (known_any _).mono ?_
  rintro e w1 ⟨rfl, hb1⟩
  have HB1 := Lib.hid hb1
  clear hb1
  go_wp2_with fail
  refine (within_any a1 63 _ (by omega) (by omega)).mono ?_
  rintro e w2 ⟨rfl, rfl⟩
  obtain ⟨k, hk, hk2⟩ : ∃ k : Nat, a1 % 63 = k ∧ k ≤ 62 := ⟨(a1 % 63).toNat, by omega, by omega⟩
  rw [hk]
  clear hk
  have hp62 := pow62 hk2
  have l1 := enc_pow k hk2
  have l2 := enc_npow k hk2
  obtain ⟨p, hp⟩ : ∃ p : Int, p = 2 ^ k := ⟨_, rfl⟩
  rw [← hp] at l1 l2 hp62
  have hw : wrap64 (2 ^ k) = p := by rw [← hp]; unfold wrap64; omega
  clear hp
  have z1 : I64 p := ⟨by omega, by omega⟩
  have z2 : I64 (-p) := ⟨by omega, by omega⟩
  obtain ⟨L1, hL1⟩ : ∃ L, L = (enc p).length := ⟨_, rfl⟩
  obtain ⟨L2, hL2⟩ : ∃ L, L = (enc (-p)).length := ⟨_, rfl⟩
  obtain ⟨L3, hL3⟩ : ∃ L, L = (enc a0).length := ⟨_, rfl⟩
  have l3 := enc_len a0
  rw [← hL1] at l1
  rw [← hL2] at l2
  rw [← hL3] at l3
  have q1 : ((L1 : Int) == ((k : Int) + 2 + 6) / 7) = true := by rw [beq_iff_eq]; omega
  have q2 : ((L2 : Int) == ((k : Int) + 1 + 6) / 7) = true := by rw [beq_iff_eq]; omega
  have q3 : decide ((L3 : Int) ≤ 10) = true := by simp; omega
  have Z1 := Lib.hid z1
  have Z2 := Lib.hid z2
  have E1 := Lib.hid hL1
  have E2 := Lib.hid hL2
  have E3 := Lib.hid hL3
  clear z1 z2 hL1 hL2 hL3 l1 l2
  go_wp2_with fail
  refine (int_nil p _ Z1.out).mono ?_
  rintro e w3 ⟨v3, c3, rfl, _, hb3⟩
  rw [← E1.out]
  have HB3 := Lib.hid hb3
  clear hb3
  go_wp2_with fail
  refine (int_nil (-p) _ Z2.out).mono ?_
  rintro e w4 ⟨v4, c4, rfl, _, hb4⟩
  rw [← E2.out]
  have HB4 := Lib.hid hb4
  clear hb4
  go_wp2_with fail
  refine (int_nil a0 _ H0.out).mono ?_
  rintro e w5 ⟨v5, c5, rfl, _, hb5⟩
  rw [← E3.out]
  have HB5 := Lib.hid hb5
  clear hb5
  go_wp2
  all_goals go_ret
  all_goals exact ⟨rfl, HB1.out.trans ((HB3.out.mono HB1.out.size).trans ((HB4.out.mono (Nat.le_trans HB1.out.size HB3.out.size)).trans (HB5.out.mono (Nat.le_trans HB1.out.size (Nat.le_trans HB3.out.size HB4.out.size)))))⟩
end Go.Proofs.Ytlaafpfpoehonaa
