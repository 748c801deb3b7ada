/- The bytes of a number by sevens, and how they are read again: plain numbers and lists, no program. No condition. -/
import Derived.Below
namespace Go.Proofs.Ytlaafpfpoehonaa.Num
set_option linter.unusedVariables false

/-- a number without a sign by sevens; the first argument: how many bytes more there may be -/
def sev : Nat → Int → List Int
  | 0, u => [u]
  | f + 1, u => if u < 128 then [u] else (u % 128 + 128) :: sev f (u / 128)

/-- a number made one without a sign -/
def zig (n : Int) : Int := if n < 0 then -2 * n - 1 else 2 * n
/-- and back -/
def zag (u : Int) : Int := if u % 2 = 1 then -(u / 2) - 1 else u / 2

/-- a number's bytes -/
def enc (n : Int) : List Int := sev 9 (zig n)

theorem zag_zig (n : Int) : zag (zig n) = n := by unfold zag zig; split <;> split <;> omega

theorem zig_bd {n : Int} (h1 : -9223372036854775808 ≤ n) (h2 : n ≤ 9223372036854775807) : 0 ≤ zig n ∧ zig n < 18446744073709551616 := by
  unfold zig; split <;> omega

/-- reading a number: the error (0: none), the number, how many bytes it took; i: how many were read ahead, u: what they said -/
def num : Nat → Nat → Int → List Int → Int × Int × Nat
  | 0, _, _, _ => (10, 0, 0)
  | _ + 1, _, _, [] => (8, 0, 0)
  | f + 1, i, u, c :: bs =>
    if i = 9 ∧ 1 < c then (10, 0, 1)
    else if 128 ≤ c then ((num f (i + 1) (u + c % 128 * 128 ^ i) bs).1, (num f (i + 1) (u + c % 128 * 128 ^ i) bs).2.1, (num f (i + 1) (u + c % 128 * 128 ^ i) bs).2.2 + 1)
    else if c = 0 ∧ 0 < i then (10, 0, 1)
    else (0, zag (u + c % 128 * 128 ^ i), 1)

def Byte (c : Int) : Prop := 0 ≤ c ∧ c < 256

theorem sev_bytes : ∀ (f : Nat) (u : Int), 0 ≤ u → u < 128 ^ (f + 1) → ∀ c ∈ sev f u, Byte c := by
  intro f
  induction f with
  | zero => intro u h0 h1 c hc; simp [sev] at hc; subst hc; exact ⟨h0, by omega⟩
  | succ f ih =>
    intro u h0 h1 c hc
    unfold sev at hc
    split at hc
    · simp at hc; subst hc; exact ⟨h0, by omega⟩
    · rcases List.mem_cons.1 hc with rfl | hc
      · exact ⟨by omega, by omega⟩
      · refine ih (u / 128) (by omega) ?_ c hc
        rw [Int.pow_succ] at h1
        omega

theorem sev_len : ∀ (f : Nat) (u : Int), 1 ≤ (sev f u).length ∧ (sev f u).length ≤ f + 1 := by
  intro f
  induction f with
  | zero => intro u; simp [sev]
  | succ f ih =>
    intro u
    unfold sev
    split
    · simp
    · have := ih (u / 128); simp only [List.length_cons]; omega

theorem enc_len (n : Int) : 1 ≤ (enc n).length ∧ (enc n).length ≤ 10 := sev_len 9 _

/-- what was written is read as it was, whatever stands behind it -/
theorem num_sev : ∀ (f i : Nat) (u a : Int) (bs : List Int), i + f = 9 → 0 ≤ u → (i = 9 → u ≤ 1) → (f = 0 → u < 128) → (0 < i → 0 < u) → u < 128 ^ f * 2 →
    num (f + 1) i a (sev f u ++ bs) = (0, zag (a + u * 128 ^ i), (sev f u).length) := by
  intro f
  induction f with
  | zero =>
    intro i u a bs hi h0 h9 h128 hp _
    have h1 : u ≤ 1 := h9 (by omega)
    have hp := hp (by omega)
    have e : u % 128 = u := by omega
    simp [sev, num]
    rw [if_neg (by omega), if_neg (by omega), if_neg (by omega), e]
  | succ f ih =>
    intro i u a bs hi h0 h9 _ hp hu
    unfold sev
    by_cases hl : u < 128
    · rw [if_pos hl]
      have e : u % 128 = u := by omega
      simp only [List.cons_append, List.nil_append, num, List.length_cons, List.length_nil]
      rw [if_neg (by omega), if_neg (by omega), if_neg (by omega), e]
    · rw [if_neg hl]
      have e : (u % 128 + 128) % 128 = u % 128 := by omega
      have hb : u / 128 < 128 ^ f * 2 := by rw [Int.pow_succ] at hu; omega
      have r := ih (i + 1) (u / 128) (a + u % 128 * 128 ^ i) bs (by omega) (by omega) (by intro h; obtain rfl : f = 0 := (by omega); simp at hb; omega) (by intro h; subst h; simp at hb; omega) (by omega) hb
      simp only [List.cons_append, num, List.length_cons]
      rw [if_neg (by omega), if_pos (by omega), e, r]
      have e2 : a + u % 128 * 128 ^ i + u / 128 * 128 ^ (i + 1) = a + u * 128 ^ i := by
        rw [Int.pow_succ]
        have hd : u = 128 * (u / 128) + u % 128 := (Int.mul_ediv_add_emod u 128).symm
        conv => rhs; rw [hd]
        rw [Int.add_mul]
        have : u / 128 * (128 ^ i * 128) = 128 * (u / 128) * 128 ^ i := by
          rw [Int.mul_comm (128 ^ i) 128, ← Int.mul_assoc, Int.mul_comm (u / 128) 128]
        omega
      simp only [e2]

theorem num_enc (n : Int) (bs : List Int) (h1 : -9223372036854775808 ≤ n) (h2 : n ≤ 9223372036854775807) :
    num 10 0 0 (enc n ++ bs) = (0, n, (enc n).length) := by
  have hz := zig_bd h1 h2
  have hp : (128 : Int) ^ 9 * 2 = 18446744073709551616 := by decide
  have r := num_sev 9 0 (zig n) 0 bs rfl hz.1 (by omega) (by omega) (by omega) (by rw [hp]; exact hz.2)
  unfold enc
  rw [r]
  simp [zag_zig]

end Go.Proofs.Ytlaafpfpoehonaa.Num
