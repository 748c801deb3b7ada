/- What a sign puts for what it took: those of two numbers; all of them. -/
import Derived.Test.YtdbnfafafhdolaaMakes
import Derived.Deep.RegionWith
namespace Go.Proofs.Ytdbnfafafhdolaa
open Go Go.RowKit
set_option linter.unusedVariables false
set_option linter.unusedSimpArgs false

section
variable {B g : Nat} {c : List Int} {arg data : Int} {m : Ms} {cv sv : Value} {w : World} {a : Option Addr} {l cap : Nat} {took : List Int} {said : Int}
set_option maxHeartbeats 1000000 in
theorem makes2 {s : Int} (hs : 2 ≤ s ∧ s ≤ 7) (hm : Mac 34 B g c arg data m cv sv w) (hF : Fit c arg data m) (hsaid : I64 said) (gs k : Nat) (hn : Nums w (some ⟨gs, k, none⟩) l cap took) (hl : l = 2) :
    Calls Try.prog 41 #[.pointer (some ⟨g, 0, none⟩), .int .u8 s, .int .i64 said, .slice (some ⟨gs, k, none⟩) l cap] w (MakesPost s said took arg data c.length w) := by
  subst hl
  obtain ⟨ad, ha, h0⟩ := hn.cell 0 (by omega)
  have hi0 := hn.at 0 (by omega)
  obtain rfl := Option.some.inj ha
  simp only [Addr.add_zero'] at h0
  obtain ⟨x, hx⟩ : ∃ x, x = took.getD 0 0 := ⟨_, rfl⟩
  rw [← hx] at h0 hi0
  have hc1 : ∀ o, Below w.heap.size w (w.alloc o) := fun o => (Below.refl _ _).alloc (Nat.le_refl _) _
  have h0a : ∀ o, (w.alloc o).cell? ⟨gs, k, none⟩ = some (.int .i64 x) := fun o => by rw [(hc1 o).cell (World.block_lt_of_cell? w _ h0)]; exact h0
  obtain ⟨ad', ha', h1⟩ := hn.cell 1 (by omega)
  have hi1 := hn.at 1 (by omega)
  obtain rfl := Option.some.inj ha'
  obtain ⟨y, hy⟩ : ∃ y, y = took.getD 1 0 := ⟨_, rfl⟩
  rw [← hy] at h1 hi1
  simp [Addr.add] at h1
  have h1a : ∀ o, (w.alloc o).cell? ⟨gs, k + 1, none⟩ = some (.int .i64 y) := fun o => by rw [(hc1 o).cell (World.block_lt_of_cell? w _ h1)]; exact h1
  obtain ⟨p, hpp⟩ : ∃ p, p = pairP s x y := ⟨_, rfl⟩
  have hp : Hid (outP s said took arg data c.length = ([p.1], p.2)) := by
    unfold outP
    rw [if_neg (by omega), if_pos hs, ← hx, ← hy, ← hpp]
    exact Lib.hid rfl
  have hp2 : putsP s = 1 := by unfold putsP; rw [if_neg (by omega), if_pos (by omega)]
  have hcall := fun w => pair_any s x y w hi0 hi1 hs
  rw [← hpp] at hcall
  have HC := Lib.hid hcall
  have HP2 := Lib.hid hp2
  clear hcall hpp hp2 hx hy h0 h1 hc1 hm hF hn
  have hh : s = 2 ∨ s = 3 ∨ s = 4 ∨ s = 5 ∨ s = 6 ∨ s = 7 := by omega
  clear hs
  rcases hh with rfl | rfl | rfl | rfl | rfl | rfl
  all_goals
    go_enter Try.func41, Try.ntmps41
    go_wp2_with fail
    go_region_with (go_at_call 42; refine (HC.out _).mono ?_; rintro _ _ ⟨rfl, rfl⟩)
    all_goals
      go_wp2_with fail
      refine makes_leave w.heap.size p.1 0 p.2 rfl rfl (heap_alloc_new _ _) ⟨⟨_, _, by rw [hp.out], fun _ => by rw [hp.out, HP2.out]; exact rfl⟩, ((Below.refl _ _).alloc (Nat.le_refl _) _).drew⟩

theorem makes_any {s : Int} (hs : Byte s) (hm : Mac 34 B g c arg data m cv sv w) (hF : Fit c arg data m) (hsaid : I64 said) (hn : Nums w a l cap took) (hl : l = takesP s) (ha : 2 ≤ l → ∃ gs k, a = some ⟨gs, k, none⟩) :
    Calls Try.prog 41 #[.pointer (some ⟨g, 0, none⟩), .int .u8 s, .int .i64 said, .slice a l cap] w (MakesPost s said took arg data c.length w) := by
  have two : 2 ≤ s ∧ s ≤ 7 → l = 2 := fun h => by rw [hl]; unfold takesP; rw [if_neg (by omega), if_pos (.inl h)]
  rcases sign_cases hs with rfl | rfl | h | h | h | h | h | h | rfl | rfl | rfl | rfl | rfl | rfl | rfl | rfl | h
  · exact makes0 hm hF hsaid
  · exact makes1 hm hF hsaid
  iterate 6
    · have hb : 2 ≤ s ∧ s ≤ 7 := by omega
      obtain ⟨gs, k, rfl⟩ := ha (by rw [two hb]; omega)
      exact makes2 hb hm hF hsaid gs k hn (two hb)
  · exact makes8 hm hF hsaid hn hl
  · obtain ⟨gs, k, rfl⟩ := ha (by rw [hl]; decide)
    exact makes9 hm hF hsaid gs k hn hl
  · exact makes10 hm hF hsaid
  · exact makes11 hm hF hsaid
  · exact makes12 hm hF hsaid
  · exact makes13 hm hF hsaid hn hl
  · exact makes14 hm hF hsaid hn hl
  · exact makes15 hm hF hsaid hn hl
  · exact makesN h hm hF hsaid
end
end Go.Proofs.Ytdbnfafafhdolaa
