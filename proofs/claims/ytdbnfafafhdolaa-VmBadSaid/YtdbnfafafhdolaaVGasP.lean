/- A run with less to spend, plain. No condition. -/
import Derived.Test.YtdbnfafafhdolaaVRunP
namespace Go.Proofs.Ytdbnfafafhdolaa
open Go Go.RowKit
set_option linter.unusedVariables false
set_option linter.unusedSimpArgs false

def Ms.setG (m : Ms) (g : Int) : Ms := { m with gas := g }

section
variable {c : List Int} {arg data : Int} {m : Ms}

theorem paid_setG (m : Ms) (g : Int) : paidP c arg data (m.setG g) = (paidP c arg data m).setG g := by
  have e : actE c arg data (m.setG g) = actE c arg data m := rfl
  have e2 : sgn c (m.setG g) = sgn c m := rfl
  unfold paidP
  rw [e, e2]
  by_cases h : m.pc = c.length ∨ sgn c m = 0
  · rw [if_pos (show (m.setG g).pc = c.length ∨ sgn c m = 0 from h), if_pos h]; rfl
  · rw [if_neg (show ¬ ((m.setG g).pc = c.length ∨ sgn c m = 0) from h), if_neg h]
    by_cases h2 : actE c arg data m = 0
    · rw [if_pos h2, if_pos h2]; rfl
    · rw [if_neg h2, if_neg h2]; rfl

/-- a step, but for what is spent -/
def coreP (c : List Int) (arg data : Int) (m : Ms) : Ms := paidP c arg data { m with err := 0 }

theorem step_core (h : m.fin = false) (hg : ¬ m.gas < 1) : stepP c arg data m = (coreP c arg data m).setG (m.gas - 1) := by
  unfold stepP coreP
  rw [if_neg (by rw [h]; decide), if_neg hg, ← paid_setG]
  rfl
theorem core_setG (m : Ms) (g : Int) : coreP c arg data (m.setG g) = (coreP c arg data m).setG g := paid_setG { m with err := 0 } g

theorem over_err (n : Int) : (over n).2 = 0 ∨ (over n).2 = 11 := by
  rcases over_cases n with ⟨_, e⟩ | ⟨_, e⟩ <;> rw [e] <;> simp
theorem pair_err (s a b : Int) : (pairP s a b).2 ≠ 14 := by
  have ho : ∀ n, (over n).2 ≠ 14 := fun n => by rcases over_err n with h | h <;> rw [h] <;> decide
  unfold pairP
  by_cases h2 : s = 2
  · rw [if_pos h2]; exact ho _
  rw [if_neg h2]
  by_cases h3 : s = 3
  · rw [if_pos h3]; exact ho _
  rw [if_neg h3]
  by_cases h4 : s = 4
  · rw [if_pos h4]; exact ho _
  rw [if_neg h4]
  by_cases h5 : s = 5 ∨ s = 6
  · rw [if_pos h5]
    unfold shiftP
    by_cases hb : b < 0
    · rw [if_pos hb]; decide
    · rw [if_neg hb]
      by_cases h : s = 5
      · rw [if_pos h]; show (0 : Int) ≠ 14; decide
      · rw [if_neg h]; show (0 : Int) ≠ 14; decide
  rw [if_neg h5]
  show (0 : Int) ≠ 14
  decide
theorem out_err (s said : Int) (took : List Int) (arg data n : Int) : (outP s said took arg data n).2 ≠ 14 := by
  unfold outP
  by_cases h1 : s = 1
  · rw [if_pos h1]; show (0 : Int) ≠ 14; decide
  rw [if_neg h1]
  by_cases h2 : 2 ≤ s ∧ s ≤ 7
  · rw [if_pos h2]; exact pair_err _ _ _
  rw [if_neg h2]
  by_cases h3 : s = 8
  · rw [if_pos h3]; show (0 : Int) ≠ 14; decide
  rw [if_neg h3]
  by_cases h3 : s = 9
  · rw [if_pos h3]; show (0 : Int) ≠ 14; decide
  rw [if_neg h3]
  by_cases h3 : s = 10
  · rw [if_pos h3]; show (0 : Int) ≠ 14; decide
  rw [if_neg h3]
  by_cases h3 : s = 11
  · rw [if_pos h3]; show (0 : Int) ≠ 14; decide
  rw [if_neg h3]
  by_cases h3 : s = 12
  · rw [if_pos h3]; show (0 : Int) ≠ 14; decide
  rw [if_neg h3]
  by_cases h3 : s = 13
  · rw [if_pos h3]
    by_cases h4 : took.getD 0 0 = 0 ∧ n < said
    · show (if took.getD 0 0 = 0 ∧ n < said then (10 : Int) else 0) ≠ 14
      rw [if_pos h4]; decide
    · show (if took.getD 0 0 = 0 ∧ n < said then (10 : Int) else 0) ≠ 14
      rw [if_neg h4]; decide
  rw [if_neg h3]
  by_cases h3 : s = 14
  · rw [if_pos h3]; show (0 : Int) ≠ 14; decide
  rw [if_neg h3]
  by_cases h3 : s = 15
  · rw [if_pos h3]; show (0 : Int) ≠ 14; decide
  rw [if_neg h3]
  decide
theorem act_err (c : List Int) (arg data : Int) (m : Ms) : actE c arg data m ≠ 14 := by
  unfold actE
  split
  · decide
  · split
    · decide
    · exact out_err _ _ _ _ _ _
theorem core_err (c : List Int) (arg data : Int) (m : Ms) : (coreP c arg data m).err ≠ 14 := by
  unfold coreP paidP
  split
  · show (0 : Int) ≠ 14; decide
  · split
    · show (0 : Int) ≠ 14; decide
    · exact act_err _ _ _ _

/-- what a run tells of one with less to spend -/
theorem last_less : ∀ (g : Nat) (m : Ms), m.gas = (g : Int) → m.fin = false → ∃ u : Nat, u ≤ g ∧ (lastP c arg data m).gas = (g : Int) - u ∧ ((lastP c arg data m).err = 14 → u = g) ∧
    ((lastP c arg data m).err ≠ 14 → 1 ≤ u ∧ lastP c arg data (m.setG u) = (lastP c arg data m).setG 0 ∧ (lastP c arg data (m.setG ((u : Int) - 1))).err = 14 ∧ (lastP c arg data (m.setG ((u : Int) - 1))).gas = 0) := by
  intro g
  induction g with
  | zero =>
    intro m hg hf
    have e : lastP c arg data m = m.halt 14 := by
      unfold lastP
      rw [show m.gas.toNat + 1 = 0 + 1 by omega]
      unfold goP
      rw [step_out hf (by omega)]
      rfl
    refine ⟨0, Nat.le_refl _, by rw [e]; show m.gas = _; omega, fun _ => rfl, fun h => absurd (by rw [e]; rfl) h⟩
  | succ g ih =>
    intro m hg hf
    have hng : ¬ m.gas < 1 := by omega
    have hs := step_core (c := c) (arg := arg) (data := data) hf hng
    have hl := last_step (c := c) (arg := arg) (data := data) hf (by omega)
    rw [hs, show m.gas - 1 = (g : Int) by omega] at hl
    have hsu : ∀ u : Nat, 1 ≤ u → lastP c arg data ((coreP c arg data m).setG ((u : Int) - 1)) = lastP c arg data (m.setG u) := fun u hu => by
      have h1 := last_step (c := c) (arg := arg) (data := data) (m := m.setG u) hf (by show 0 ≤ (u : Int); omega)
      rw [step_core (m := m.setG u) hf (by show ¬ (u : Int) < 1; omega), core_setG] at h1
      exact h1
    have h0 : lastP c arg data (m.setG 0) = (m.setG 0).halt 14 := by
      unfold lastP
      rw [show (m.setG 0).gas.toNat + 1 = 0 + 1 from rfl]
      unfold goP
      rw [step_out (m := m.setG 0) hf (by show (0 : Int) < 1; omega)]
      rfl
    cases hfin : (coreP c arg data m).fin with
    | true =>
      have e1 : ∀ x, lastP c arg data ((coreP c arg data m).setG x) = (coreP c arg data m).setG x := fun x => last_fin (m := (coreP c arg data m).setG x) hfin
      rw [e1] at hl
      refine ⟨1, by omega, ?_, ?_, ?_⟩
      · rw [← hl]; show (g : Int) = _; omega
      · intro h; rw [← hl] at h; exact absurd h (core_err c arg data m)
      · intro _
        refine ⟨Nat.le_refl _, ?_, ?_, ?_⟩
        · rw [← hsu 1 (Nat.le_refl _), e1, ← hl]; rfl
        · show (lastP c arg data (m.setG 0)).err = 14
          rw [h0]; rfl
        · show (lastP c arg data (m.setG 0)).gas = 0
          rw [h0]; rfl
    | false =>
      obtain ⟨u, hu, h1, h2, h3⟩ := ih ((coreP c arg data m).setG g) rfl hfin
      rw [hl] at h1 h2 h3
      refine ⟨u + 1, by omega, by rw [h1]; omega, fun h => by rw [h2 h], fun h => ?_⟩
      obtain ⟨h4, h5, h6, h7⟩ := h3 h
      have e5 : ((coreP c arg data m).setG g).setG u = (coreP c arg data m).setG (((u + 1 : Nat) : Int) - 1) := by
        show (coreP c arg data m).setG (u : Int) = _
        rw [show ((u + 1 : Nat) : Int) - 1 = u by omega]
      have e6 : ((coreP c arg data m).setG g).setG ((u : Int) - 1) = (coreP c arg data m).setG ((u : Int) - 1) := rfl
      rw [e5, hsu (u + 1) (by omega)] at h5
      rw [e6, hsu u h4] at h6 h7
      have e7 : ((u + 1 : Nat) : Int) - 1 = u := by omega
      rw [e7]
      exact ⟨by omega, h5, h6, h7⟩

theorem run_less {c : List Int} (hl : c.length ≤ 64) (r n f : Int) (h : runP c arg data 200 = (r, n, f)) :
    (f = 14 → n = 200) ∧ (f ≠ 14 → 1 ≤ n ∧ n ≤ 200 ∧ runP c arg data n = (r, n, f) ∧ ∃ r', runP c arg data (n - 1) = (r', n - 1, 14)) := by
  have hr : ∀ g : Int, 0 ≤ g → g ≤ 200 → runP c arg data g = toldP g (lastP c arg data (startP g)) := fun g h1 h2 => by
    unfold runP
    rw [if_neg (by omega)]
  rw [hr 200 (by omega) (by omega)] at h
  obtain ⟨u, hu, h1, h2, h3⟩ := last_less (c := c) (arg := arg) (data := data) 200 (startP 200) rfl rfl
  unfold toldP at h
  simp only [Prod.mk.injEq] at h
  obtain ⟨e1, e2, e3⟩ := h
  refine ⟨fun hf => ?_, fun hf => ?_⟩
  · have := h2 (by rw [e3]; exact hf)
    omega
  · obtain ⟨h4, h5, h6, h7⟩ := h3 (by rw [e3]; exact hf)
    have hn : n = (u : Int) := by omega
    subst hn
    refine ⟨by omega, by omega, ?_, ?_⟩
    · rw [hr _ (by omega) (by omega)]
      have e : lastP c arg data (startP (u : Int)) = (lastP c arg data (startP 200)).setG 0 := h5
      rw [e]
      clear h5 h6 h7 h2 h3 e
      generalize lastP c arg data (startP 200) = L at *
      unfold toldP
      refine Prod.ext ?_ (Prod.ext ?_ ?_)
      · exact e1
      · show (u : Int) - 0 = u
        omega
      · exact e3
    · rw [hr _ (by omega) (by omega)]
      have e : startP ((u : Int) - 1) = (startP 200).setG ((u : Int) - 1) := rfl
      rw [e]
      refine ⟨(toldP ((u : Int) - 1) (lastP c arg data ((startP 200).setG ((u : Int) - 1)))).1, Prod.ext rfl (Prod.ext ?_ h6)⟩
      show (u : Int) - 1 - (lastP c arg data ((startP 200).setG ((u : Int) - 1))).gas = (u : Int) - 1
      rw [h7]
      omega

theorem run_within {c : List Int} (hl : c.length ≤ 64) (g : Int) (h0 : 0 ≤ g) (h1 : g ≤ 200) (r n f : Int) (h : runP c arg data g = (r, n, f)) : 0 ≤ n ∧ n ≤ g := by
  unfold runP at h
  rw [if_neg (by omega)] at h
  obtain ⟨u, hu, h2, -, -⟩ := last_less (c := c) (arg := arg) (data := data) g.toNat (startP g) (by show g = _; omega) rfl
  unfold toldP at h
  simp only [Prod.mk.injEq] at h
  omega

/-- pushes nought, and goes back: for ever -/
def roundC : List Int := [1, 0, 0, 0, 0, 0, 0, 0, 0, 13, 0]
theorem round_one : coreP roundC arg 0 ⟨0, [], 0, false, 0⟩ = ⟨9, [0], 0, false, 0⟩ := by kernel_rfl
theorem round_two : coreP roundC arg 0 ⟨9, [0], 0, false, 0⟩ = ⟨0, [], 0, false, 0⟩ := by kernel_rfl
theorem round_last : ∀ g : Nat, ((lastP roundC arg 0 ⟨0, [], (g : Int), false, 0⟩).err = 14 ∧ (lastP roundC arg 0 ⟨0, [], (g : Int), false, 0⟩).gas = 0) ∧ ((lastP roundC arg 0 ⟨9, [0], (g : Int), false, 0⟩).err = 14 ∧ (lastP roundC arg 0 ⟨9, [0], (g : Int), false, 0⟩).gas = 0) := by
  intro g
  induction g with
  | zero =>
    have h : ∀ m : Ms, m.fin = false → m.gas = 0 → lastP roundC arg 0 m = m.halt 14 := fun m hf hg => by
      unfold lastP
      rw [show m.gas.toNat + 1 = 0 + 1 by omega]
      unfold goP
      rw [step_out hf (by omega)]
      rfl
    refine ⟨?_, ?_⟩
    · rw [h _ rfl rfl]; exact ⟨rfl, rfl⟩
    · rw [h _ rfl rfl]; exact ⟨rfl, rfl⟩
  | succ g ih =>
    have e1 : lastP roundC arg 0 ⟨0, [], ((g + 1 : Nat) : Int), false, 0⟩ = lastP roundC arg 0 ⟨9, [0], (g : Int), false, 0⟩ := by
      have h1 := last_step (c := roundC) (arg := arg) (data := 0) (m := ⟨0, [], ((g + 1 : Nat) : Int), false, 0⟩) rfl (by show 0 ≤ ((g + 1 : Nat) : Int); omega)
      rw [step_core (m := ⟨0, [], ((g + 1 : Nat) : Int), false, 0⟩) rfl (by show ¬ ((g + 1 : Nat) : Int) < 1; omega)] at h1
      have h2 : coreP roundC arg 0 ⟨0, [], ((g + 1 : Nat) : Int), false, 0⟩ = (coreP roundC arg 0 ⟨0, [], 0, false, 0⟩).setG ((g + 1 : Nat) : Int) := core_setG ⟨0, [], 0, false, 0⟩ _
      rw [h2, round_one] at h1
      rw [← h1]
      show lastP roundC arg 0 ⟨9, [0], ((g + 1 : Nat) : Int) - 1, false, 0⟩ = _
      rw [show ((g + 1 : Nat) : Int) - 1 = g by omega]
    have e2 : lastP roundC arg 0 ⟨9, [0], ((g + 1 : Nat) : Int), false, 0⟩ = lastP roundC arg 0 ⟨0, [], (g : Int), false, 0⟩ := by
      have h1 := last_step (c := roundC) (arg := arg) (data := 0) (m := ⟨9, [0], ((g + 1 : Nat) : Int), false, 0⟩) rfl (by show 0 ≤ ((g + 1 : Nat) : Int); omega)
      rw [step_core (m := ⟨9, [0], ((g + 1 : Nat) : Int), false, 0⟩) rfl (by show ¬ ((g + 1 : Nat) : Int) < 1; omega)] at h1
      have h2 : coreP roundC arg 0 ⟨9, [0], ((g + 1 : Nat) : Int), false, 0⟩ = (coreP roundC arg 0 ⟨9, [0], 0, false, 0⟩).setG ((g + 1 : Nat) : Int) := core_setG ⟨9, [0], 0, false, 0⟩ _
      rw [h2, round_two] at h1
      rw [← h1]
      show lastP roundC arg 0 ⟨0, [], ((g + 1 : Nat) : Int) - 1, false, 0⟩ = _
      rw [show ((g + 1 : Nat) : Int) - 1 = g by omega]
    rw [e1, e2]
    exact ⟨ih.2, ih.1⟩
theorem round_run (g : Int) (h0 : 0 ≤ g) (h1 : g ≤ 200) (r n f : Int) (h : runP roundC arg 0 g = (r, n, f)) : n = g ∧ f = 14 := by
  unfold runP at h
  rw [if_neg (show ¬ (64 < roundC.length ∨ g < 0 ∨ 200 < g) by simp [roundC]; omega)] at h
  have hr := (round_last (arg := arg) g.toNat).1
  rw [show ((g.toNat : Nat) : Int) = g by omega] at hr
  unfold toldP startP at h
  simp only [Prod.mk.injEq] at h
  rw [hr.1, hr.2] at h
  omega
end
end Go.Proofs.Ytdbnfafafhdolaa
