/- VmCounts: a program that adds up answers the sum. -/
import Derived.Test.YtdbnfafafhdolaaLJumps
namespace Go.Proofs.Ytdbnfafafhdolaa
open Go Go.RowKit
set_option linter.unusedVariables false
set_option linter.unusedSimpArgs false

theorem go_add (c : List Int) (arg data : Int) : ∀ (a b : Nat) (s : Ms), goP c arg data (a + b) s = goP c arg data b (goP c arg data a s) := by
  intro a
  induction a with
  | zero => intro b s; rw [Nat.zero_add]; rfl
  | succ a ih =>
    intro b s
    rw [show a + 1 + b = (a + b) + 1 by omega]
    show goP _ _ _ (a + b) (stepP _ _ _ s) = goP _ _ _ b (goP _ _ _ a (stepP _ _ _ s))
    exact ih b _
theorem last_of {c : List Int} {arg data : Int} {s m : Ms} (k : Nat) (h : goP c arg data k s = m) (hf : m.fin = true) (hk : k ≤ s.gas.toNat + 1) : lastP c arg data s = m := by
  unfold lastP
  rw [show s.gas.toNat + 1 = k + (s.gas.toNat + 1 - k) by omega, go_add, h, go_fin hf]

theorem step_add {c : List Int} {arg data x y g : Int} {pc : Nat} (hs : c.getD pc 0 = 2) (hpc : pc < c.length) (hg : ¬ g < 1) (h : I64 (x + y)) :
    stepP c arg data ⟨pc, [x, y], g, false, 0⟩ = ⟨pc + 1, [x + y], g - 1, false, 0⟩ := by
  unfold stepP
  rw [if_neg (by simp), if_neg hg]
  show paidP c arg data ⟨pc, [x, y], g - 1, false, 0⟩ = _
  have e1 : sgn c ⟨pc, [x, y], g - 1, false, 0⟩ = 2 := hs
  have e2 : tookP c ⟨pc, [x, y], g - 1, false, 0⟩ = [x, y] := by unfold tookP; rw [e1]; rfl
  have eo : ∀ said n, outP 2 said [x, y] arg data n = ([x + y], 0) := fun said n => by
    show ([(pairP 2 x y).1], (pairP 2 x y).2) = _
    have ep : pairP 2 x y = over (x + y) := rfl
    rw [ep, over_in h]
  have ea : actE c arg data ⟨pc, [x, y], g - 1, false, 0⟩ = 0 := by
    unfold actE
    rw [e1, e2, eo, if_neg (by show ¬ (c.length < pc + 1 + tailP 2); rw [show tailP 2 = 0 from rfl]; omega)]
    rfl
  unfold paidP
  rw [if_neg (by rw [e1]; show ¬ (pc = c.length ∨ (2 : Int) = 0); omega), if_pos ea]
  unfold actM
  rw [e1, e2, eo]
  rfl

/-- a program that adds up to k -/
def cntC : Nat → List Int
  | 0 => [12]
  | k + 1 => cntC k ++ [1, 0, 0, 0, 0, 0, 0, 0, (k : Int) + 1, 2]
def wantP (d : Int) : Nat → Int
  | 0 => d
  | k + 1 => wantP d k + ((k : Int) + 1)

theorem cnt_0 (d : Int) (h0 : 0 ≤ d) (h1 : d < 1000) : runP (cntC 0) 0 d 200 = (wantP d 0, 2, 0) := by
  have e0 : stepP (cntC 0) 0 d (startP 200) = ⟨1, [d], 199, false, 0⟩ := by kernel_rfl
  have z : stepP (cntC 0) 0 d ⟨1, [d], 199, false, 0⟩ = ⟨1, [d], 198, true, 0⟩ := by kernel_rfl
  have e : goP (cntC 0) 0 d 2 (startP 200) = ⟨1, [d], 198, true, 0⟩ := by
    simp only [goP, e0, z]
  have hr : runP (cntC 0) 0 d 200 = toldP 200 (lastP (cntC 0) 0 d (startP 200)) := rfl
  rw [hr, last_of 2 e rfl (by decide)]
  have hw : wantP d 0 = d := by simp [wantP]
  rw [hw]
  rfl

theorem cnt_1 (d : Int) (h0 : 0 ≤ d) (h1 : d < 1000) : runP (cntC 1) 0 d 200 = (wantP d 1, 4, 0) := by
  have e0 : stepP (cntC 1) 0 d (startP 200) = ⟨1, [d], 199, false, 0⟩ := by kernel_rfl
  have p0 : stepP (cntC 1) 0 d ⟨1, [d], 199, false, 0⟩ = ⟨10, [d, 1], 198, false, 0⟩ := by kernel_rfl
  have a0 : stepP (cntC 1) 0 d ⟨10, [d, 1], 198, false, 0⟩ = ⟨11, [d + 1], 197, false, 0⟩ := step_add rfl (by decide) (by omega) ⟨by omega, by omega⟩
  have z : stepP (cntC 1) 0 d ⟨11, [d + 1], 197, false, 0⟩ = ⟨11, [d + 1], 196, true, 0⟩ := by kernel_rfl
  have e : goP (cntC 1) 0 d 4 (startP 200) = ⟨11, [d + 1], 196, true, 0⟩ := by
    simp only [goP, e0, p0, a0, z]
  have hr : runP (cntC 1) 0 d 200 = toldP 200 (lastP (cntC 1) 0 d (startP 200)) := rfl
  rw [hr, last_of 4 e rfl (by decide)]
  have hw : wantP d 1 = d + 1 := by simp [wantP]
  rw [hw]
  rfl

theorem cnt_2 (d : Int) (h0 : 0 ≤ d) (h1 : d < 1000) : runP (cntC 2) 0 d 200 = (wantP d 2, 6, 0) := by
  have e0 : stepP (cntC 2) 0 d (startP 200) = ⟨1, [d], 199, false, 0⟩ := by kernel_rfl
  have p0 : stepP (cntC 2) 0 d ⟨1, [d], 199, false, 0⟩ = ⟨10, [d, 1], 198, false, 0⟩ := by kernel_rfl
  have a0 : stepP (cntC 2) 0 d ⟨10, [d, 1], 198, false, 0⟩ = ⟨11, [d + 1], 197, false, 0⟩ := step_add rfl (by decide) (by omega) ⟨by omega, by omega⟩
  have p1 : stepP (cntC 2) 0 d ⟨11, [d + 1], 197, false, 0⟩ = ⟨20, [d + 1, 2], 196, false, 0⟩ := by kernel_rfl
  have a1 : stepP (cntC 2) 0 d ⟨20, [d + 1, 2], 196, false, 0⟩ = ⟨21, [d + 1 + 2], 195, false, 0⟩ := step_add rfl (by decide) (by omega) ⟨by omega, by omega⟩
  have z : stepP (cntC 2) 0 d ⟨21, [d + 1 + 2], 195, false, 0⟩ = ⟨21, [d + 1 + 2], 194, true, 0⟩ := by kernel_rfl
  have e : goP (cntC 2) 0 d 6 (startP 200) = ⟨21, [d + 1 + 2], 194, true, 0⟩ := by
    simp only [goP, e0, p0, a0, p1, a1, z]
  have hr : runP (cntC 2) 0 d 200 = toldP 200 (lastP (cntC 2) 0 d (startP 200)) := rfl
  rw [hr, last_of 6 e rfl (by decide)]
  have hw : wantP d 2 = d + 1 + 2 := by simp [wantP]
  rw [hw]
  rfl

theorem cnt_3 (d : Int) (h0 : 0 ≤ d) (h1 : d < 1000) : runP (cntC 3) 0 d 200 = (wantP d 3, 8, 0) := by
  have e0 : stepP (cntC 3) 0 d (startP 200) = ⟨1, [d], 199, false, 0⟩ := by kernel_rfl
  have p0 : stepP (cntC 3) 0 d ⟨1, [d], 199, false, 0⟩ = ⟨10, [d, 1], 198, false, 0⟩ := by kernel_rfl
  have a0 : stepP (cntC 3) 0 d ⟨10, [d, 1], 198, false, 0⟩ = ⟨11, [d + 1], 197, false, 0⟩ := step_add rfl (by decide) (by omega) ⟨by omega, by omega⟩
  have p1 : stepP (cntC 3) 0 d ⟨11, [d + 1], 197, false, 0⟩ = ⟨20, [d + 1, 2], 196, false, 0⟩ := by kernel_rfl
  have a1 : stepP (cntC 3) 0 d ⟨20, [d + 1, 2], 196, false, 0⟩ = ⟨21, [d + 1 + 2], 195, false, 0⟩ := step_add rfl (by decide) (by omega) ⟨by omega, by omega⟩
  have p2 : stepP (cntC 3) 0 d ⟨21, [d + 1 + 2], 195, false, 0⟩ = ⟨30, [d + 1 + 2, 3], 194, false, 0⟩ := by kernel_rfl
  have a2 : stepP (cntC 3) 0 d ⟨30, [d + 1 + 2, 3], 194, false, 0⟩ = ⟨31, [d + 1 + 2 + 3], 193, false, 0⟩ := step_add rfl (by decide) (by omega) ⟨by omega, by omega⟩
  have z : stepP (cntC 3) 0 d ⟨31, [d + 1 + 2 + 3], 193, false, 0⟩ = ⟨31, [d + 1 + 2 + 3], 192, true, 0⟩ := by kernel_rfl
  have e : goP (cntC 3) 0 d 8 (startP 200) = ⟨31, [d + 1 + 2 + 3], 192, true, 0⟩ := by
    simp only [goP, e0, p0, a0, p1, a1, p2, a2, z]
  have hr : runP (cntC 3) 0 d 200 = toldP 200 (lastP (cntC 3) 0 d (startP 200)) := rfl
  rw [hr, last_of 8 e rfl (by decide)]
  have hw : wantP d 3 = d + 1 + 2 + 3 := by simp [wantP]
  rw [hw]
  rfl

theorem cnt_4 (d : Int) (h0 : 0 ≤ d) (h1 : d < 1000) : runP (cntC 4) 0 d 200 = (wantP d 4, 10, 0) := by
  have e0 : stepP (cntC 4) 0 d (startP 200) = ⟨1, [d], 199, false, 0⟩ := by kernel_rfl
  have p0 : stepP (cntC 4) 0 d ⟨1, [d], 199, false, 0⟩ = ⟨10, [d, 1], 198, false, 0⟩ := by kernel_rfl
  have a0 : stepP (cntC 4) 0 d ⟨10, [d, 1], 198, false, 0⟩ = ⟨11, [d + 1], 197, false, 0⟩ := step_add rfl (by decide) (by omega) ⟨by omega, by omega⟩
  have p1 : stepP (cntC 4) 0 d ⟨11, [d + 1], 197, false, 0⟩ = ⟨20, [d + 1, 2], 196, false, 0⟩ := by kernel_rfl
  have a1 : stepP (cntC 4) 0 d ⟨20, [d + 1, 2], 196, false, 0⟩ = ⟨21, [d + 1 + 2], 195, false, 0⟩ := step_add rfl (by decide) (by omega) ⟨by omega, by omega⟩
  have p2 : stepP (cntC 4) 0 d ⟨21, [d + 1 + 2], 195, false, 0⟩ = ⟨30, [d + 1 + 2, 3], 194, false, 0⟩ := by kernel_rfl
  have a2 : stepP (cntC 4) 0 d ⟨30, [d + 1 + 2, 3], 194, false, 0⟩ = ⟨31, [d + 1 + 2 + 3], 193, false, 0⟩ := step_add rfl (by decide) (by omega) ⟨by omega, by omega⟩
  have p3 : stepP (cntC 4) 0 d ⟨31, [d + 1 + 2 + 3], 193, false, 0⟩ = ⟨40, [d + 1 + 2 + 3, 4], 192, false, 0⟩ := by kernel_rfl
  have a3 : stepP (cntC 4) 0 d ⟨40, [d + 1 + 2 + 3, 4], 192, false, 0⟩ = ⟨41, [d + 1 + 2 + 3 + 4], 191, false, 0⟩ := step_add rfl (by decide) (by omega) ⟨by omega, by omega⟩
  have z : stepP (cntC 4) 0 d ⟨41, [d + 1 + 2 + 3 + 4], 191, false, 0⟩ = ⟨41, [d + 1 + 2 + 3 + 4], 190, true, 0⟩ := by kernel_rfl
  have e : goP (cntC 4) 0 d 10 (startP 200) = ⟨41, [d + 1 + 2 + 3 + 4], 190, true, 0⟩ := by
    simp only [goP, e0, p0, a0, p1, a1, p2, a2, p3, a3, z]
  have hr : runP (cntC 4) 0 d 200 = toldP 200 (lastP (cntC 4) 0 d (startP 200)) := rfl
  rw [hr, last_of 10 e rfl (by decide)]
  have hw : wantP d 4 = d + 1 + 2 + 3 + 4 := by simp [wantP]
  rw [hw]
  rfl

theorem cnt_5 (d : Int) (h0 : 0 ≤ d) (h1 : d < 1000) : runP (cntC 5) 0 d 200 = (wantP d 5, 12, 0) := by
  have e0 : stepP (cntC 5) 0 d (startP 200) = ⟨1, [d], 199, false, 0⟩ := by kernel_rfl
  have p0 : stepP (cntC 5) 0 d ⟨1, [d], 199, false, 0⟩ = ⟨10, [d, 1], 198, false, 0⟩ := by kernel_rfl
  have a0 : stepP (cntC 5) 0 d ⟨10, [d, 1], 198, false, 0⟩ = ⟨11, [d + 1], 197, false, 0⟩ := step_add rfl (by decide) (by omega) ⟨by omega, by omega⟩
  have p1 : stepP (cntC 5) 0 d ⟨11, [d + 1], 197, false, 0⟩ = ⟨20, [d + 1, 2], 196, false, 0⟩ := by kernel_rfl
  have a1 : stepP (cntC 5) 0 d ⟨20, [d + 1, 2], 196, false, 0⟩ = ⟨21, [d + 1 + 2], 195, false, 0⟩ := step_add rfl (by decide) (by omega) ⟨by omega, by omega⟩
  have p2 : stepP (cntC 5) 0 d ⟨21, [d + 1 + 2], 195, false, 0⟩ = ⟨30, [d + 1 + 2, 3], 194, false, 0⟩ := by kernel_rfl
  have a2 : stepP (cntC 5) 0 d ⟨30, [d + 1 + 2, 3], 194, false, 0⟩ = ⟨31, [d + 1 + 2 + 3], 193, false, 0⟩ := step_add rfl (by decide) (by omega) ⟨by omega, by omega⟩
  have p3 : stepP (cntC 5) 0 d ⟨31, [d + 1 + 2 + 3], 193, false, 0⟩ = ⟨40, [d + 1 + 2 + 3, 4], 192, false, 0⟩ := by kernel_rfl
  have a3 : stepP (cntC 5) 0 d ⟨40, [d + 1 + 2 + 3, 4], 192, false, 0⟩ = ⟨41, [d + 1 + 2 + 3 + 4], 191, false, 0⟩ := step_add rfl (by decide) (by omega) ⟨by omega, by omega⟩
  have p4 : stepP (cntC 5) 0 d ⟨41, [d + 1 + 2 + 3 + 4], 191, false, 0⟩ = ⟨50, [d + 1 + 2 + 3 + 4, 5], 190, false, 0⟩ := by kernel_rfl
  have a4 : stepP (cntC 5) 0 d ⟨50, [d + 1 + 2 + 3 + 4, 5], 190, false, 0⟩ = ⟨51, [d + 1 + 2 + 3 + 4 + 5], 189, false, 0⟩ := step_add rfl (by decide) (by omega) ⟨by omega, by omega⟩
  have z : stepP (cntC 5) 0 d ⟨51, [d + 1 + 2 + 3 + 4 + 5], 189, false, 0⟩ = ⟨51, [d + 1 + 2 + 3 + 4 + 5], 188, true, 0⟩ := by kernel_rfl
  have e : goP (cntC 5) 0 d 12 (startP 200) = ⟨51, [d + 1 + 2 + 3 + 4 + 5], 188, true, 0⟩ := by
    simp only [goP, e0, p0, a0, p1, a1, p2, a2, p3, a3, p4, a4, z]
  have hr : runP (cntC 5) 0 d 200 = toldP 200 (lastP (cntC 5) 0 d (startP 200)) := rfl
  rw [hr, last_of 12 e rfl (by decide)]
  have hw : wantP d 5 = d + 1 + 2 + 3 + 4 + 5 := by simp [wantP]
  rw [hw]
  rfl

theorem cnt_6 (d : Int) (h0 : 0 ≤ d) (h1 : d < 1000) : runP (cntC 6) 0 d 200 = (wantP d 6, 14, 0) := by
  have e0 : stepP (cntC 6) 0 d (startP 200) = ⟨1, [d], 199, false, 0⟩ := by kernel_rfl
  have p0 : stepP (cntC 6) 0 d ⟨1, [d], 199, false, 0⟩ = ⟨10, [d, 1], 198, false, 0⟩ := by kernel_rfl
  have a0 : stepP (cntC 6) 0 d ⟨10, [d, 1], 198, false, 0⟩ = ⟨11, [d + 1], 197, false, 0⟩ := step_add rfl (by decide) (by omega) ⟨by omega, by omega⟩
  have p1 : stepP (cntC 6) 0 d ⟨11, [d + 1], 197, false, 0⟩ = ⟨20, [d + 1, 2], 196, false, 0⟩ := by kernel_rfl
  have a1 : stepP (cntC 6) 0 d ⟨20, [d + 1, 2], 196, false, 0⟩ = ⟨21, [d + 1 + 2], 195, false, 0⟩ := step_add rfl (by decide) (by omega) ⟨by omega, by omega⟩
  have p2 : stepP (cntC 6) 0 d ⟨21, [d + 1 + 2], 195, false, 0⟩ = ⟨30, [d + 1 + 2, 3], 194, false, 0⟩ := by kernel_rfl
  have a2 : stepP (cntC 6) 0 d ⟨30, [d + 1 + 2, 3], 194, false, 0⟩ = ⟨31, [d + 1 + 2 + 3], 193, false, 0⟩ := step_add rfl (by decide) (by omega) ⟨by omega, by omega⟩
  have p3 : stepP (cntC 6) 0 d ⟨31, [d + 1 + 2 + 3], 193, false, 0⟩ = ⟨40, [d + 1 + 2 + 3, 4], 192, false, 0⟩ := by kernel_rfl
  have a3 : stepP (cntC 6) 0 d ⟨40, [d + 1 + 2 + 3, 4], 192, false, 0⟩ = ⟨41, [d + 1 + 2 + 3 + 4], 191, false, 0⟩ := step_add rfl (by decide) (by omega) ⟨by omega, by omega⟩
  have p4 : stepP (cntC 6) 0 d ⟨41, [d + 1 + 2 + 3 + 4], 191, false, 0⟩ = ⟨50, [d + 1 + 2 + 3 + 4, 5], 190, false, 0⟩ := by kernel_rfl
  have a4 : stepP (cntC 6) 0 d ⟨50, [d + 1 + 2 + 3 + 4, 5], 190, false, 0⟩ = ⟨51, [d + 1 + 2 + 3 + 4 + 5], 189, false, 0⟩ := step_add rfl (by decide) (by omega) ⟨by omega, by omega⟩
  have p5 : stepP (cntC 6) 0 d ⟨51, [d + 1 + 2 + 3 + 4 + 5], 189, false, 0⟩ = ⟨60, [d + 1 + 2 + 3 + 4 + 5, 6], 188, false, 0⟩ := by kernel_rfl
  have a5 : stepP (cntC 6) 0 d ⟨60, [d + 1 + 2 + 3 + 4 + 5, 6], 188, false, 0⟩ = ⟨61, [d + 1 + 2 + 3 + 4 + 5 + 6], 187, false, 0⟩ := step_add rfl (by decide) (by omega) ⟨by omega, by omega⟩
  have z : stepP (cntC 6) 0 d ⟨61, [d + 1 + 2 + 3 + 4 + 5 + 6], 187, false, 0⟩ = ⟨61, [d + 1 + 2 + 3 + 4 + 5 + 6], 186, true, 0⟩ := by kernel_rfl
  have e : goP (cntC 6) 0 d 14 (startP 200) = ⟨61, [d + 1 + 2 + 3 + 4 + 5 + 6], 186, true, 0⟩ := by
    simp only [goP, e0, p0, a0, p1, a1, p2, a2, p3, a3, p4, a4, p5, a5, z]
  have hr : runP (cntC 6) 0 d 200 = toldP 200 (lastP (cntC 6) 0 d (startP 200)) := rfl
  rw [hr, last_of 14 e rfl (by decide)]
  have hw : wantP d 6 = d + 1 + 2 + 3 + 4 + 5 + 6 := by simp [wantP]
  rw [hw]
  rfl

theorem cnt_byte : ∀ k, k ≤ 7 → ∀ c ∈ cntC k, Byte c := by
  intro k
  induction k with
  | zero => intro _ c hc; simp only [cntC, List.mem_cons, List.not_mem_nil, or_false] at hc; subst hc; exact ⟨by omega, by omega⟩
  | succ k ih =>
    intro hk c hc
    rcases List.mem_append.1 hc with hc | hc
    · exact ih (by omega) c hc
    · simp only [List.mem_cons, List.not_mem_nil, or_false] at hc
      rcases hc with rfl | rfl | rfl | rfl | rfl | rfl | rfl | rfl | rfl | rfl <;> exact ⟨by omega, by omega⟩
theorem cnt_len : ∀ k, (cntC k).length = 1 + 10 * k := by
  intro k
  induction k with
  | zero => rfl
  | succ k ih => show (cntC k ++ _).length = _; rw [List.length_append, ih]; simp; omega
theorem want_bd (d : Int) (h0 : 0 ≤ d) (h1 : d < 1000) : ∀ k : Nat, k ≤ 7 → 0 ≤ wantP d k ∧ wantP d k ≤ 1000 + 8 * k := by
  intro k
  induction k with
  | zero => intro _; show 0 ≤ d ∧ d ≤ _; omega
  | succ k ih =>
    intro hk
    have := ih (by omega)
    show 0 ≤ wantP d k + ((k : Int) + 1) ∧ wantP d k + ((k : Int) + 1) ≤ _
    omega

set_option maxRecDepth 100000 in
set_option maxHeartbeats 4000000 in
theorem lcounts_any (n data : Int) (w : World) (hn : I64 n) (hd : I64 data) :
    Calls Try.prog 7 #[.int .i64 n, .int .i64 data] w fun e w' => e = .returned (.bool true) ∧ Below w.heap.size w w' := by
  have H0 : Hid (I64 0) := ⟨by decide, by decide⟩
  have hc10 : ∀ (w : World) (x : Int), Byte x → Hid (Came (w.alloc (Obj.cells #[.int .u8 1, .int .u8 0, .int .u8 0, .int .u8 0, .int .u8 0, .int .u8 0, .int .u8 0, .int .u8 0, .int .u8 x, .int .u8 2] 5)) (some ⟨w.heap.size, 0, none⟩) 10 10 [1, 0, 0, 0, 0, 0, 0, 0, x, 2]) := fun w x hx => came_new w [1, 0, 0, 0, 0, 0, 0, 0, x, 2] (by
    intro c hc
    simp only [List.mem_cons, List.not_mem_nil, or_false] at hc
    unfold Byte at *
    rcases hc with rfl | rfl | rfl | rfl | rfl | rfl | rfl | rfl | rfl | rfl <;> omega) (by simp)
  clear hn hd
  obtain ⟨i0, hi, hz0, hz1, hz2⟩ := info_parts Try.infoByte
  go_enter Try.func7, Try.ntmps7
  go_wp2_with fail
  refine (known_any w).mono ?_
  rintro _ w1 ⟨rfl, hb1⟩
  have HB := Lib.hid hb1
  clear hb1
  go_wp2_with fail
  refine (within_any n 8 w1 (by omega) (by omega)).mono ?_
  rintro _ _ ⟨rfl, rfl⟩
  obtain ⟨N, hN⟩ : ∃ N : Nat, n % 8 = (N : Int) := ⟨(n % 8).toNat, by omega⟩
  have hN8 : N < 8 := by omega
  rw [hN]
  clear hN
  go_wp2_with fail
  refine (within_any data 1000 w1 (by omega) (by omega)).mono ?_
  rintro _ _ ⟨rfl, rfl⟩
  have hd0 : 0 ≤ data % 1000 := by omega
  have hd1 : data % 1000 < 1000 := by omega
  generalize data % 1000 = d at *
  go_wp2_with (at_builtin; go_must (refine wpList_app1 rfl _ _ rfl w.heap.size (.slice none 0 0) 0 [] 12 w1 rfl (World.ownsRow_nil _ _ _ _) rfl rfl (by omega) HB.out.size ?_))
  intro v2 w2 ho2 hb2
  have HO2 := Lib.hid ho2
  have HB2 := Lib.hid (HB.out.trans hb2)
  clear ho2 hb2 HB
  go_wp2_with fail
  go_loopw [5, 6, 7] (fun b z y X => ∃ i : Nat, i ≤ 6 ∧ y = .int .i64 ((i : Int) + 1) ∧ z = .int .i64 (wantP d i) ∧ Hid (X.ownsRow w.heap.size 5 1 b (1 + 10 * i) (bts (cntC i))) ∧ Hid (Below w.heap.size w X)) (fun _ _ y _ => (8 - intOf y).toNat)
  case atStart => exact ⟨0, by omega, rfl, rfl, HO2, HB2⟩
  case round =>
    clear HO2 HB2
    obtain ⟨i, hi6, rfl, rfl, HO, HB⟩ := hrel
    have hwb := want_bd d hd0 hd1 i (by omega)
    have hwb1 := hwb.1
    have hwb2 := hwb.2
    clear hwb
    by_cases hgo : i + 1 ≤ N ∧ i ≤ 5
    · obtain ⟨hiN, hi5⟩ := hgo
      have hiN' : (i : Int) + 1 ≤ (N : Int) := by omega
      obtain ⟨b3, c3, rfl⟩ := own_slice HO.out
      have hlen : ((1 + 10 * i : Nat) : Int) + 10 ≤ 64 := by omega
      have h10 := hc10 wr ((i : Int) + 1) ⟨by omega, by omega⟩
      go_wp2_with (at_builtin; go_must (refine wpList_append_reads rfl _ _ 22 rfl w.heap.size 5 i0 Try.underlying22 hi hz0 hz1 hz2 _ (1 + 10 * i) (cntC i) rfl (HO.out.alloc _) _ 10 10 [1, 0, 0, 0, 0, 0, 0, 0, (i : Int) + 1, 2] rfl h10.out.reads (fun h => by cases h) (by omega) (by simp; have := HB.out.size; omega) ?_))
      intro v4 w4 ho4 hg4
      have hb4 : Below w.heap.size w w4 := (HB.out.alloc HB.out.size _).grown hg4 (by simp; have := HB.out.size; omega) (fun k hk => (HO.out.lt k hk).1)
      have HO4 : Hid (w4.ownsRow w.heap.size 5 1 v4 (1 + 10 * (i + 1)) (bts (cntC (i + 1)))) := by rw [show 1 + 10 * (i + 1) = 1 + 10 * i + 10 by omega]; exact ho4
      have HB4 := Lib.hid hb4
      clear ho4 hg4 hb4 h10 HO HB hc10
      go_wp2_with fail
      try go_roundw
      case rel => exact ⟨i + 1, by omega, by go_num, rfl, HO4, HB4⟩
      case measure => simp [intOf]; omega
    · obtain ⟨b3, c3, rfl, hc3⟩ := own_came HO.out (cnt_byte i (by omega))
      have HC3 := Lib.hid hc3
      have hgo2 : ¬ ((i : Int) + 1 ≤ (N : Int)) ∨ i = 6 := by omega
      clear hc3 HO hc10 hgo
      have hii : i = 0 ∨ i = 1 ∨ i = 2 ∨ i = 3 ∨ i = 4 ∨ i = 5 ∨ i = 6 := by omega
      rcases hii with rfl | rfl | rfl | rfl | rfl | rfl | rfl
      · have hg1 : ¬ ((1 : Int) ≤ (N : Int)) := by omega
        clear hgo2
        go_wp2_with fail
        refine (run_any HC3.out 0 d 200 H0.out ⟨by omega, by omega⟩ ⟨by decide, by decide⟩).mono ?_
        rintro _ w4 ⟨rfl, hb4⟩
        rw [cnt_0 d hd0 hd1]
        have HB4 := Lib.hid (HB.out.trans (hb4.mono HB.out.size))
        clear hb4 HC3 HB
        generalize wantP d 0 = q at *
        go_wp2_with fail
        go_ret
        exact ⟨rfl, HB4.out⟩
      · have hg1 : ¬ ((2 : Int) ≤ (N : Int)) := by omega
        clear hgo2
        go_wp2_with fail
        refine (run_any HC3.out 0 d 200 H0.out ⟨by omega, by omega⟩ ⟨by decide, by decide⟩).mono ?_
        rintro _ w4 ⟨rfl, hb4⟩
        rw [cnt_1 d hd0 hd1]
        have HB4 := Lib.hid (HB.out.trans (hb4.mono HB.out.size))
        clear hb4 HC3 HB
        generalize wantP d 1 = q at *
        go_wp2_with fail
        go_ret
        exact ⟨rfl, HB4.out⟩
      · have hg1 : ¬ ((3 : Int) ≤ (N : Int)) := by omega
        clear hgo2
        go_wp2_with fail
        refine (run_any HC3.out 0 d 200 H0.out ⟨by omega, by omega⟩ ⟨by decide, by decide⟩).mono ?_
        rintro _ w4 ⟨rfl, hb4⟩
        rw [cnt_2 d hd0 hd1]
        have HB4 := Lib.hid (HB.out.trans (hb4.mono HB.out.size))
        clear hb4 HC3 HB
        generalize wantP d 2 = q at *
        go_wp2_with fail
        go_ret
        exact ⟨rfl, HB4.out⟩
      · have hg1 : ¬ ((4 : Int) ≤ (N : Int)) := by omega
        clear hgo2
        go_wp2_with fail
        refine (run_any HC3.out 0 d 200 H0.out ⟨by omega, by omega⟩ ⟨by decide, by decide⟩).mono ?_
        rintro _ w4 ⟨rfl, hb4⟩
        rw [cnt_3 d hd0 hd1]
        have HB4 := Lib.hid (HB.out.trans (hb4.mono HB.out.size))
        clear hb4 HC3 HB
        generalize wantP d 3 = q at *
        go_wp2_with fail
        go_ret
        exact ⟨rfl, HB4.out⟩
      · have hg1 : ¬ ((5 : Int) ≤ (N : Int)) := by omega
        clear hgo2
        go_wp2_with fail
        refine (run_any HC3.out 0 d 200 H0.out ⟨by omega, by omega⟩ ⟨by decide, by decide⟩).mono ?_
        rintro _ w4 ⟨rfl, hb4⟩
        rw [cnt_4 d hd0 hd1]
        have HB4 := Lib.hid (HB.out.trans (hb4.mono HB.out.size))
        clear hb4 HC3 HB
        generalize wantP d 4 = q at *
        go_wp2_with fail
        go_ret
        exact ⟨rfl, HB4.out⟩
      · have hg1 : ¬ ((6 : Int) ≤ (N : Int)) := by omega
        clear hgo2
        go_wp2_with fail
        refine (run_any HC3.out 0 d 200 H0.out ⟨by omega, by omega⟩ ⟨by decide, by decide⟩).mono ?_
        rintro _ w4 ⟨rfl, hb4⟩
        rw [cnt_5 d hd0 hd1]
        have HB4 := Lib.hid (HB.out.trans (hb4.mono HB.out.size))
        clear hb4 HC3 HB
        generalize wantP d 5 = q at *
        go_wp2_with fail
        go_ret
        exact ⟨rfl, HB4.out⟩
      · clear hgo2
        by_cases hg1 : (7 : Int) ≤ (N : Int)
        all_goals
          go_wp2_with fail
          refine (run_any HC3.out 0 d 200 H0.out ⟨by omega, by omega⟩ ⟨by decide, by decide⟩).mono ?_
          rintro _ w4 ⟨rfl, hb4⟩
          rw [cnt_6 d hd0 hd1]
          have HB4 := Lib.hid (HB.out.trans (hb4.mono HB.out.size))
          clear hb4 HC3 HB
          generalize wantP d 6 = q at *
          go_wp2_with fail
          go_ret
          exact ⟨rfl, HB4.out⟩
end Go.Proofs.Ytdbnfafafhdolaa
