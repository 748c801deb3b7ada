/- What can be read as a number is written as it stood: plain numbers and lists. -/
import Derived.Test.YtlaafpfpoehonaaNum
namespace Go.Proofs.Ytlaafpfpoehonaa.Num
set_option linter.unusedVariables false

theorem num_err : ∀ (f i : Nat) (u : Int) (bs : List Int), (num f i u bs).1 = 0 ∨ (num f i u bs).1 = 8 ∨ (num f i u bs).1 = 10 := by
  intro f
  induction f with
  | zero => intro i u bs; simp [num]
  | succ f ih =>
    intro i u bs
    cases bs with
    | nil => simp [num]
    | cons c bs =>
      simp only [num]
      split
      · simp
      · split
        · exact ih _ _ _
        · split <;> simp

theorem num_cut : ∀ (f i : Nat) (u : Int) (bs : List Int), i + f = 10 → (num f i u bs).1 = 8 → bs.length + i < 10 := by
  intro f
  induction f with
  | zero => intro i u bs hi h; simp [num] at h
  | succ f ih =>
    intro i u bs hi h
    cases bs with
    | nil => simp; omega
    | cons c bs =>
      simp only [num] at h
      split at h
      · simp at h
      · split at h
        · have := ih _ _ _ (by omega) h
          simp; omega
        · split at h <;> simp at h

theorem zig_zag {m : Int} (h : 0 ≤ m) : zig (zag m) = m := by
  unfold zag
  split
  · unfold zig; split <;> omega
  · unfold zig; split <;> omega

theorem num_sound : ∀ (f i : Nat) (u : Int) (bs : List Int), i + (f + 1) = 10 → (∀ c ∈ bs, Byte c) → (num (f + 1) i u bs).1 = 0 →
    ∃ m : Int, 0 ≤ m ∧ (0 < i → 0 < m) ∧ bs.take (num (f + 1) i u bs).2.2 = sev f m ∧ (num (f + 1) i u bs).2.1 = zag (u + m * 128 ^ i) ∧ (num (f + 1) i u bs).2.2 ≤ bs.length := by
  intro f
  induction f with
  | zero =>
    intro i u bs hi hby h
    cases bs with
    | nil => simp [num] at h
    | cons c bs =>
      have hc := hby c (by simp)
      simp only [num] at h ⊢
      by_cases h1 : i = 9 ∧ 1 < c
      · rw [if_pos h1] at h; simp at h
      · rw [if_neg h1] at h ⊢
        have hc1 : c ≤ 1 := by omega
        have h2 : ¬ 128 ≤ c := by omega
        rw [if_neg h2] at h ⊢
        by_cases h3 : c = 0 ∧ 0 < i
        · rw [if_pos h3] at h; simp at h
        · rw [if_neg h3] at h ⊢
          have e : c % 128 = c := by have := hc.1; omega
          exact ⟨c, hc.1, by have := hc.1; omega, by simp [sev], by simp [e], by simp⟩
  | succ f ih =>
    intro i u bs hi hby h
    cases bs with
    | nil => simp [num] at h
    | cons c bs =>
      have hc := hby c (by simp)
      obtain ⟨c0, c1⟩ := hc
      have h1 : ¬ (i = 9 ∧ 1 < c) := by omega
      rw [num, if_neg h1] at h ⊢
      by_cases h2 : 128 ≤ c
      · rw [if_pos h2] at h ⊢
        obtain ⟨m, m0, m1, m2, m3, m4⟩ := ih (i + 1) (u + c % 128 * 128 ^ i) bs (by omega) (fun x hx => hby x (by simp [hx])) h
        have mp := m1 (by omega)
        refine ⟨c % 128 + 128 * m, by omega, by omega, ?_, ?_, ?_⟩
        · simp only [List.take_succ_cons]
          rw [m2, sev, if_neg (by omega)]
          have e1 : (c % 128 + 128 * m) % 128 + 128 = c := by omega
          have e2 : (c % 128 + 128 * m) / 128 = m := by omega
          rw [e1, e2]
        · simp only []
          rw [m3]
          congr 1
          rw [Int.pow_succ, Int.add_mul, ← Int.add_assoc]
          congr 1
          rw [← Int.mul_assoc, Int.mul_comm (m * 128 ^ i) 128, Int.mul_assoc]
        · simp only [List.length_cons]; omega
      · rw [if_neg h2] at h ⊢
        by_cases h3 : c = 0 ∧ 0 < i
        · rw [if_pos h3] at h; simp at h
        · rw [if_neg h3] at h ⊢
          have e : c % 128 = c := by omega
          exact ⟨c, c0, by omega, by simp [sev, show c < 128 by omega], by simp [e], by simp⟩

theorem num_back {bs : List Int} (hby : ∀ c ∈ bs, Byte c) (h : (num 10 0 0 bs).1 = 0) : enc (num 10 0 0 bs).2.1 = bs.take (num 10 0 0 bs).2.2 ∧ (num 10 0 0 bs).2.2 ≤ bs.length := by
  obtain ⟨m, m0, -, m2, m3, m4⟩ := num_sound 9 0 0 bs rfl hby h
  refine ⟨?_, m4⟩
  rw [m3, m2]
  unfold enc
  simp [zig_zag m0]

end Go.Proofs.Ytlaafpfpoehonaa.Num
