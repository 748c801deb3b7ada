/- A step, paid for, and one that may not be. -/
import Derived.Test.YtdbnfafafhdolaaVAct
namespace Go.Proofs.Ytdbnfafafhdolaa
open Go Go.RowKit
set_option linter.unusedVariables false
set_option linter.unusedSimpArgs false

section
variable {B g : Nat} {c : List Int} {arg data : Int} {m : Ms} {cv sv : Value} {w : World}

def PaidPost (B g : Nat) (c : List Int) (arg data : Int) (m' : Ms) (cv : Value) (w : World) (e : Ending) (w' : World) : Prop :=
  e = .returned (.tuple #[]) ∧ (∃ sv', Mac 34 B g c arg data m' cv sv' w') ∧ But g B w w'

set_option maxRecDepth 100000 in
set_option maxHeartbeats 4000000 in
theorem paid_any (h : Mac 34 B g c arg data m cv sv w) (hF : Fit c arg data m) (hB : B ≤ w.heap.size) (he0 : m.err = 0) :
    Calls Try.prog 35 #[.pointer (some ⟨g, 0, none⟩)] w (PaidPost B g c arg data (paidP c arg data m) cv w) := by
  obtain ⟨ca, cc, rfl, hcc⟩ := own_came h.code hF.bytes
  obtain ⟨c0, -, -, c3, -⟩ := h.cells
  have hpn := hF.pc
  have hlen := hF.len
  obtain ⟨n, hn⟩ : ∃ n, n = c.length := ⟨_, rfl⟩
  obtain ⟨pc, hpc⟩ : ∃ pc, pc = m.pc := ⟨_, rfl⟩
  have hcle := hcc.le
  have hcsm := hcc.small
  unfold maxLen at hcsm
  have hat := fun hlt => hcc.reads.at (p := m.pc) hlt
  rw [← hn] at c0 hlen hcle hpn hcc hat
  rw [← hpc] at c3 hpn hat
  have H := Lib.hid h
  have HF := Lib.hid hF
  have HN := Lib.hid hn
  have HP := Lib.hid hpc
  have HC := Lib.hid hcc
  clear h hF hn hpc hcc
  by_cases hend : pc = n
  · subst hend
    have hp : Hid (paidP c arg data m = m.halt 0) := by unfold paidP; rw [if_pos (.inl (by rw [← HP.out, ← HN.out]))]; exact Lib.hid rfl
    clear hat
    go_enter Try.func35, Try.ntmps35
    go_wp2_with fail
    go_quiet (fail)
    go_wp2_with fail
    refine (end_any (H.out.drewN nq) 0).mono ?_
    rintro _ w1 ⟨rfl, hm, ho⟩
    have hb : But g B w w1 := (But.of_below (below_drewN (Below.refl B w) nq)).trans (.of_only ho (Nat.le_trans hB (below_drewN (Below.refl B w) nq).size))
    go_wp2_with fail
    go_end0
    exact ⟨rfl, by rw [hp.out]; exact ⟨_, hm⟩, hb⟩
  have hlt : pc < n := by omega
  have hlt' : (pc : Int) < (n : Int) := by omega
  have hne' : ((pc : Int) == (n : Int)) = false := by simp; omega
  obtain ⟨ad, rfl, hat'⟩ := hat hlt
  obtain ⟨s, hs⟩ : ∃ s, s = sgn c m := ⟨_, rfl⟩
  have hat2 : w.cell? (ad.add pc) = some (.int .u8 s) := by rw [hs, hat']; unfold sgn; rw [← HP.out]
  have HS := Lib.hid hs
  clear hat hat' hs
  by_cases hs0 : s = 0
  · subst hs0
    have hp : Hid (paidP c arg data m = m.halt 0) := by unfold paidP; rw [if_pos (.inr HS.out.symm)]; exact Lib.hid rfl
    go_enter Try.func35, Try.ntmps35
    go_wp2_with fail
    go_quiet (fail)
    go_wp2_with fail
    refine (end_any (H.out.drewN nq) 0).mono ?_
    rintro _ w1 ⟨rfl, hm, ho⟩
    have hb : But g B w w1 := (But.of_below (below_drewN (Below.refl B w) nq)).trans (.of_only ho (Nat.le_trans hB (below_drewN (Below.refl B w) nq).size))
    go_wp2_with fail
    go_end0
    exact ⟨rfl, by rw [hp.out]; exact ⟨_, hm⟩, hb⟩
  · have hs0' : (s == 0) = false := by simp; exact hs0
    go_enter Try.func35, Try.ntmps35
    go_wp2_with fail
    go_quiet (fail)
    go_wp2_with fail
    refine (act_any (H.out.drewN nq) HF.out hB (by rw [← HP.out, ← HN.out]; exact hlt)).mono ?_
    rintro _ w1 ⟨rfl, ⟨sv1, hm⟩, hb1⟩
    have hp : paidP c arg data m = if actE c arg data m = 0 then actM c arg data m else m.halt (actE c arg data m) := by
      unfold paidP; rw [if_neg (by rw [← HP.out, ← HN.out, ← HS.out]; omega)]
    obtain ⟨E, hE⟩ : ∃ E, E = actE c arg data m := ⟨_, rfl⟩
    rw [← hE] at hp hm ⊢
    have HB1 := Lib.hid ((But.of_below (below_drewN (Below.refl B w) nq)).trans hb1)
    have HM := Lib.hid hm
    have HPP := Lib.hid hp
    clear hm hp hb1 hE
    by_cases hE0 : E = 0
    · subst hE0
      have h1 := HM.out
      rw [if_pos rfl, ← (HPP.out.trans (if_pos rfl))] at h1
      have H1 := Lib.hid h1
      clear h1 HM HPP
      go_wp2_with fail
      go_end0
      exact ⟨rfl, ⟨sv1, H1.out⟩, HB1.out⟩
    · have h1 := HM.out
      rw [if_neg hE0] at h1
      have H1 := Lib.hid h1
      clear h1 HM
      go_wp2_with fail
      refine (end_any H1.out E).mono ?_
      rintro _ w2 ⟨rfl, hm, ho⟩
      have hb : But g B w w2 := HB1.out.trans (.of_only ho (Nat.le_trans hB HB1.out.size))
      go_wp2_with fail
      go_end0
      refine ⟨rfl, ⟨sv1, ?_⟩, hb⟩
      rw [HPP.out, if_neg hE0]
      exact hm

theorem step_any (h : Mac 34 B g c arg data m cv sv w) (hF : Fit c arg data m) (hB : B ≤ w.heap.size) :
    Calls Try.prog 25 #[.pointer (some ⟨g, 0, none⟩)] w (PaidPost B g c arg data (stepP c arg data m) cv w) := by
  obtain ⟨-, -, -, -, -, c5, c6, -⟩ := h.cells
  have hg := hF.gas
  by_cases hd : m.fin = true
  · have hp : Hid (stepP c arg data m = m) := by unfold stepP; rw [if_pos hd]; exact Lib.hid rfl
    rw [hd] at c6
    have H := Lib.hid h
    clear h hF
    go_enter Try.func25, Try.ntmps25
    go_wp2_with fail
    go_end0
    exact ⟨rfl, by rw [hp.out]; exact ⟨_, H.out⟩, But.refl _ _ _⟩
  · have hdf : m.fin = false := by simpa using hd
    rw [hdf] at c6
    by_cases h1 : m.gas < 1
    · have hp : Hid (stepP c arg data m = m.halt 14) := by unfold stepP; rw [if_neg hd, if_pos h1]; exact Lib.hid rfl
      have H := Lib.hid h
      clear h hF
      go_enter Try.func25, Try.ntmps25
      go_wp2_with fail
      refine (end_any H.out 14).mono ?_
      rintro _ w1 ⟨rfl, hm, ho⟩
      have hb : But g B w w1 := .of_only ho hB
      go_wp2_with fail
      go_end0
      exact ⟨rfl, by rw [hp.out]; exact ⟨_, hm⟩, hb⟩
    · have hp : Hid (stepP c arg data m = paidP c arg data m.spend) := by unfold stepP; rw [if_neg hd, if_neg h1]; exact Lib.hid rfl
      have f5 := h.free 5
      have h2 := h.put 5 (.int .i64 (m.gas - 1)) { m with gas := m.gas - 1 } rfl rfl
      have c7 := h2.1.cells.2.2.2.2.2.2.2
      have f7 := h2.1.free 7
      have h3 := h2.1.put 7 (.int .i64 0) m.spend rfl rfl
      have ho := h2.2.trans h3.2
      have H3 := Lib.hid h3.1
      have HB3 : Hid (But g B w _) := But.of_only ho hB
      have HF3 : Hid (Fit c arg data m.spend) := ⟨hF.bytes, hF.len, hF.arg, hF.data, hF.pc, hF.stk, hF.nums, by show 0 ≤ m.gas - 1 ∧ m.gas - 1 ≤ 200; omega⟩
      have hi1 : -9223372036854775808 ≤ m.gas := by omega
      have hi2 : m.gas ≤ 200 := by omega
      obtain ⟨G, hG⟩ : ∃ G, G = m.gas := ⟨_, rfl⟩
      rw [← hG] at c5 H3 HB3 hi1 hi2 h1 c7 f7
      have HG := Lib.hid hG
      clear h hF h2 h3 ho hg hG
      go_enter Try.func25, Try.ntmps25
      go_wp2_with fail
      refine (paid_any H3.out HF3.out (Nat.le_trans hB HB3.out.size) rfl).mono ?_
      rintro _ w1 ⟨rfl, hm, hb⟩
      have hb' := HB3.out.trans hb
      go_wp2_with fail
      go_end0
      exact ⟨rfl, by rw [hp.out]; exact hm, hb'⟩
end
end Go.Proofs.Ytdbnfafafhdolaa
