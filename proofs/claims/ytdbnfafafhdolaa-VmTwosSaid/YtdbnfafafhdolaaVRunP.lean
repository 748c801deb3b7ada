/- A run, as the document has it: plain numbers and lists, no program. No condition. -/
import Derived.Test.YtdbnfafafhdolaaVMac
namespace Go.Proofs.Ytdbnfafafhdolaa
open Go Go.RowKit
set_option linter.unusedVariables false
set_option linter.unusedSimpArgs false

theorem over_i64 (n : Int) : I64 (over n).1 := by
  rcases over_cases n with ⟨h, e⟩ | ⟨h, e⟩ <;> rw [e]
  · exact h
  · exact ⟨by omega, by omega⟩

theorem shr_i64 {a b : Int} (ha : I64 a) : I64 (shrP a b) := by
  unfold shrP
  obtain ⟨h1, h2⟩ := ha
  have hp0 : (0 : Int) < 2 ^ min b.toNat 64 := Int.pow_pos (by omega)
  obtain ⟨p, hpp⟩ : ∃ p : Int, p = 2 ^ min b.toNat 64 := ⟨_, rfl⟩
  rw [← hpp] at hp0 ⊢
  have hp : 1 ≤ p := by omega
  have hd := Int.mul_ediv_add_emod a p
  have hm1 := Int.emod_nonneg a (show p ≠ 0 by omega)
  have hm2 := Int.emod_lt_of_pos a (show 0 < p by omega)
  constructor
  · by_cases h0 : 0 ≤ a
    · have := Int.ediv_nonneg h0 (show 0 ≤ p by omega); omega
    · have : a ≤ a / p := by
        rw [Int.le_ediv_iff_mul_le (by omega)]
        have := Int.mul_le_mul_of_nonpos_left (show a ≤ 0 by omega) hp
        omega
      omega
  · by_cases h0 : 0 ≤ a
    · have := Int.ediv_le_self p h0; omega
    · have := Int.ediv_neg_of_neg_of_pos (show a < 0 by omega) (show 0 < p by omega); omega

theorem shl_i64 (a b : Int) : I64 (shlP a b) := by unfold shlP; rw [IntKind.wrap_i64]; exact ⟨by omega, by omega⟩

theorem shift_i64 {s a b : Int} (ha : I64 a) : I64 (shiftP s a b).1 := by
  unfold shiftP
  split
  · exact ⟨by omega, by omega⟩
  · split
    · exact shl_i64 _ _
    · exact shr_i64 ha

theorem pair_i64 {s a b : Int} (ha : I64 a) (hb : I64 b) : I64 (pairP s a b).1 := by
  unfold pairP
  by_cases h2 : s = 2
  · rw [if_pos h2]; exact over_i64 _
  rw [if_neg h2]
  by_cases h3 : s = 3
  · rw [if_pos h3]; exact over_i64 _
  rw [if_neg h3]
  by_cases h4 : s = 4
  · rw [if_pos h4]; exact over_i64 _
  rw [if_neg h4]
  by_cases h5 : s = 5 ∨ s = 6
  · rw [if_pos h5]; exact shift_i64 ha
  rw [if_neg h5]
  have h := bits_i64 .and a b
  generalize bits BinOp.and IntKind.i64 a b = x at *
  exact h

theorem getD_i64 {z : List Int} (h : ∀ c ∈ z, I64 c) (i : Nat) : I64 (z.getD i 0) := by
  by_cases hi : i < z.length
  · refine h _ ?_
    simp [List.getD, hi]
  · simp [List.getD, show z.length ≤ i by omega]; exact ⟨by omega, by omega⟩

theorem w64_i64 (n : Int) : I64 (wrap64 n) := by unfold wrap64; exact ⟨by omega, by omega⟩

theorem out_i64 {s said : Int} {took : List Int} {arg data n : Int} (h1 : I64 said) (h2 : ∀ z ∈ took, I64 z) (h3 : I64 arg) (h4 : I64 data) : ∀ z ∈ (outP s said took arg data n).1, I64 z := by
  have h0 := getD_i64 h2 0
  have h1' := getD_i64 h2 1
  have hp := pair_i64 (s := s) h0 h1'
  have hm : I64 (took.getD 0 0 % 256) := ⟨by omega, by omega⟩
  have hw := w64_i64 (wrap32 (took.getD 0 0))
  unfold outP
  (repeat' split) <;> simp <;> first | exact h1 | exact hp | exact h0 | exact ⟨h0, h0⟩ | exact ⟨h1', h0⟩ | exact h3 | exact h4 | exact hw | exact hm

theorem out_len {s said : Int} {took : List Int} {arg data n : Int} (hs : Byte s) : (outP s said took arg data n).2 = 0 → (outP s said took arg data n).1.length = putsP s := by
  intro h0
  rcases sign_cases hs with rfl | rfl | h | h | h | h | h | h | rfl | rfl | rfl | rfl | rfl | rfl | rfl | rfl | h
  · cases h0
  · rfl
  iterate 6 (· subst h; rfl)
  iterate 8 (· rfl)
  · rw [puts_no h]
    unfold outP
    repeat rw [if_neg (by omega)]
    rfl

theorem num_small {z : List Int} (hl : z.length = 1) (hb : ∀ y ∈ z, Byte y) : 0 ≤ numP z ∧ numP z < 256 := by
  match z, hl with
  | [y], _ =>
    have := hb y (by simp)
    unfold Byte at this
    simp only [numP, bigN, List.foldl, wrap64]
    omega

section
variable {c : List Int} {arg data : Int} {m : Ms}

theorem said_i64 : I64 (saidP c m) := w64_i64 _

theorem act_fit (h : Fit c arg data m) (hE : actE c arg data m = 0) (hlt : m.pc < c.length) : Fit c arg data (actM c arg data m) := by
  have hs : Byte (sgn c m) := getD_byte h.bytes _
  unfold actE at hE
  split at hE
  · cases hE
  · rename_i h8
    split at hE
    · cases hE
    · rename_i h15
      have hl := out_len hs hE
      have htk : ∀ z ∈ tookP c m, I64 z := fun z hz => h.nums z (List.mem_of_mem_drop hz)
      refine ⟨h.bytes, h.len, h.arg, h.data, ?_, ?_, ?_, h.gas⟩
      · show (if sgn c m = 13 ∧ (tookP c m).getD 0 0 = 0 then (saidP c m).toNat else m.pc + 1 + tailP (sgn c m)) ≤ c.length
        split
        · rename_i hj
          rw [hj.1] at hE h8
          have hn : ¬ ((c.length : Int) < saidP c m) := fun hn => by
            have e : (outP 13 (saidP c m) (tookP c m) arg data c.length).2 = 10 := if_pos ⟨hj.2, hn⟩
            rw [e] at hE
            cases hE
          omega
        · omega
      · show (m.stk.take (m.stk.length - takesP (sgn c m)) ++ (outP (sgn c m) (saidP c m) (tookP c m) arg data c.length).1).length ≤ 16
        rw [List.length_append, List.length_take, hl]
        omega
      · intro z hz
        rcases List.mem_append.1 (show z ∈ m.stk.take (m.stk.length - takesP (sgn c m)) ++ (outP (sgn c m) (saidP c m) (tookP c m) arg data c.length).1 from hz) with hz | hz
        · exact h.nums z (List.mem_of_mem_take hz)
        · exact out_i64 said_i64 htk h.arg h.data z hz

theorem halt_fit (h : Fit c arg data m) (e : Int) : Fit c arg data (m.halt e) := ⟨h.bytes, h.len, h.arg, h.data, h.pc, h.stk, h.nums, h.gas⟩

theorem paid_fit (h : Fit c arg data m) : Fit c arg data (paidP c arg data m) := by
  have := h.pc
  unfold paidP
  split
  · exact halt_fit h _
  · split
    · rename_i h1 h2
      exact act_fit h h2 (by have h3 : ¬ (m.pc = c.length) := fun x => h1 (.inl x); omega)
    · exact halt_fit h _

theorem spend_fit (h : Fit c arg data m) (hg : ¬ m.gas < 1) : Fit c arg data m.spend :=
  ⟨h.bytes, h.len, h.arg, h.data, h.pc, h.stk, h.nums, by have := h.gas; show 0 ≤ m.gas - 1 ∧ m.gas - 1 ≤ 200; omega⟩

theorem step_fit (h : Fit c arg data m) : Fit c arg data (stepP c arg data m) := by
  unfold stepP
  split
  · exact h
  · split
    · exact halt_fit h _
    · rename_i h1 h2
      exact paid_fit (spend_fit h h2)

theorem paid_gas (m : Ms) : (paidP c arg data m).gas = m.gas := by
  unfold paidP
  split
  · rfl
  · split <;> rfl

/-- so many steps -/
def goP (c : List Int) (arg data : Int) : Nat → Ms → Ms
  | 0, m => m
  | k + 1, m => goP c arg data k (stepP c arg data m)

theorem step_fin (h : m.fin = true) : stepP c arg data m = m := if_pos h
theorem go_fin (h : m.fin = true) : ∀ k, goP c arg data k m = m
  | 0 => rfl
  | k + 1 => by unfold goP; rw [step_fin h]; exact go_fin h k
theorem step_gas (h : m.fin = false) (hg : ¬ m.gas < 1) : (stepP c arg data m).gas = m.gas - 1 := by
  unfold stepP
  rw [if_neg (by rw [h]; decide), if_neg hg, paid_gas]
  rfl
theorem step_out (h : m.fin = false) (hg : m.gas < 1) : stepP c arg data m = m.halt 14 := by
  unfold stepP
  rw [if_neg (by rw [h]; decide), if_pos hg]

/-- a run's end -/
def lastP (c : List Int) (arg data : Int) (m : Ms) : Ms := goP c arg data (m.gas.toNat + 1) m
theorem last_fin (h : m.fin = true) : lastP c arg data m = m := go_fin h _
theorem last_step (h : m.fin = false) (h0 : 0 ≤ m.gas) : lastP c arg data (stepP c arg data m) = lastP c arg data m := by
  unfold lastP
  by_cases hg : m.gas < 1
  · rw [step_out h hg, show m.gas.toNat + 1 = 0 + 1 by omega, go_fin rfl]
    unfold goP
    rw [step_out h hg]
    rfl
  · rw [step_gas h hg, show m.gas.toNat + 1 = (m.gas - 1).toNat + 1 + 1 by omega]
    rfl

def startP (gas : Int) : Ms := ⟨0, [], gas, false, 0⟩
/-- what is told of a run's end -/
def toldP (gas : Int) (m : Ms) : Int × Int × Int := (if m.err = 0 then m.stk.getD (m.stk.length - 1) 0 else 0, gas - m.gas, m.err)
def runP (c : List Int) (arg data gas : Int) : Int × Int × Int :=
  if 64 < c.length ∨ gas < 0 ∨ 200 < gas then (0, 0, 1) else toldP gas (lastP c arg data (startP gas))

theorem start_fit (hb : ∀ x ∈ c, Byte x) (hl : c.length ≤ 64) (ha : I64 arg) (hd : I64 data) {gas : Int} (hg : 0 ≤ gas ∧ gas ≤ 200) : Fit c arg data (startP gas) :=
  ⟨hb, by omega, ha, hd, Nat.zero_le _, Nat.zero_le _, by simp [startP], hg⟩
end
end Go.Proofs.Ytdbnfafafhdolaa
