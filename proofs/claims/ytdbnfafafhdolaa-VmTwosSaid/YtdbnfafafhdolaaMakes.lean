/- What a sign puts for what it took. -/
import Derived.Test.YtdbnfafafhdolaaVMac
namespace Go.Proofs.Ytdbnfafafhdolaa
open Go Go.RowKit
set_option linter.unusedVariables false
set_option linter.unusedSimpArgs false

def MakesPost (s said : Int) (took : List Int) (arg data n : Int) (w : World) (e : Ending) (w' : World) : Prop :=
  (∃ p0 p1, e = .returned (.tuple #[.agg #[.int .i64 p0, .int .i64 p1], .int .i64 (outP s said took arg data n).2]) ∧ ((outP s said took arg data n).2 = 0 → [p0, p1].take (putsP s) = (outP s said took arg data n).1)) ∧ Below w.heap.size w w'

theorem size_two : (Try.prog.info? 65).map (·.size) = some 2 := by kernel_rfl
theorem makes_leave {R : Ending → World → Prop} {tmps : Array Value} {w : World} (k : Nat) (p0 p1 E : Int) (h8 : tmps.getD 8 undef = .pointer (some ⟨k, 0, none⟩)) (h9 : tmps.getD 9 undef = .int .i64 E)
    (hk : w.heap[k]? = some (.cells #[.int .i64 p0, .int .i64 p1] 65 (0, 0))) (hR : R (.returned (.tuple #[.agg #[.int .i64 p0, .int .i64 p1], .int .i64 E])) w) :
    bodyPost Try.prog Try.f41 R .ret { tmps := tmps, defers := [] } w := by
  refine bodyPost_ret (v := .tuple #[.agg #[.int .i64 p0, .int .i64 p1], .int .i64 E]) ?_ rfl hR
  have h8' : tmps[8]?.getD undef = .pointer (some ⟨k, 0, none⟩) := by simpa using h8
  have h9' : tmps[9]?.getD undef = .int .i64 E := by simpa using h9
  simp [results, Try.results41, h8', h9', asAddr, run_loadVar_row w k 65 65 _ (0, 0) _ hk Try.underlying65 rfl size_two]

section
variable {B g : Nat} {c : List Int} {arg data : Int} {m : Ms} {cv sv : Value} {w : World} {a : Option Addr} {l cap : Nat} {took : List Int} {said : Int}
set_option maxHeartbeats 1000000 in
theorem makes1 (hm : Mac 34 B g c arg data m cv sv w) (hF : Fit c arg data m) (hsaid : I64 said) :
    Calls Try.prog 41 #[.pointer (some ⟨g, 0, none⟩), .int .u8 1, .int .i64 said, .slice a l cap] w (MakesPost 1 said took arg data c.length w) := by
  have hp : Hid (outP 1 said took arg data c.length = ([said], 0)) := Lib.hid rfl
  go_enter Try.func41, Try.ntmps41
  go_wp2_with fail
  refine makes_leave w.heap.size said 0 0 rfl rfl (heap_alloc_new _ _) ⟨⟨_, _, by rw [hp.out], fun _ => by rw [hp.out]; exact rfl⟩, (Below.refl _ _).alloc (Nat.le_refl _) _⟩
set_option maxHeartbeats 1000000 in
theorem makes0 (hm : Mac 34 B g c arg data m cv sv w) (hF : Fit c arg data m) (hsaid : I64 said) :
    Calls Try.prog 41 #[.pointer (some ⟨g, 0, none⟩), .int .u8 0, .int .i64 said, .slice a l cap] w (MakesPost 0 said took arg data c.length w) := by
  have hp : Hid (outP 0 said took arg data c.length = ([], 10)) := Lib.hid rfl
  go_enter Try.func41, Try.ntmps41
  go_wp2_with fail
  refine makes_leave w.heap.size 0 0 10 rfl rfl (heap_alloc_new _ _) ⟨⟨_, _, by rw [hp.out], fun h => by rw [hp.out] at h; cases h⟩, (Below.refl _ _).alloc (Nat.le_refl _) _⟩
set_option maxHeartbeats 1000000 in
theorem makesN {s : Int} (hs : 15 < s) (hm : Mac 34 B g c arg data m cv sv w) (hF : Fit c arg data m) (hsaid : I64 said) :
    Calls Try.prog 41 #[.pointer (some ⟨g, 0, none⟩), .int .u8 s, .int .i64 said, .slice a l cap] w (MakesPost s said took arg data c.length w) := by
  have hp : Hid (outP s said took arg data c.length = ([], 10)) := by
    unfold outP
    repeat (rw [if_neg (by omega)])
    exact rfl
  go_enter Try.func41, Try.ntmps41
  go_wp2_with fail
  refine makes_leave w.heap.size 0 0 10 rfl rfl (heap_alloc_new _ _) ⟨⟨_, _, by rw [hp.out], fun h => by rw [hp.out] at h; cases h⟩, (Below.refl _ _).alloc (Nat.le_refl _) _⟩
set_option maxHeartbeats 1000000 in
theorem makes10 (hm : Mac 34 B g c arg data m cv sv w) (hF : Fit c arg data m) (hsaid : I64 said) :
    Calls Try.prog 41 #[.pointer (some ⟨g, 0, none⟩), .int .u8 10, .int .i64 said, .slice a l cap] w (MakesPost 10 said took arg data c.length w) := by
  have hp : Hid (outP 10 said took arg data c.length = ([], 0)) := Lib.hid rfl
  go_enter Try.func41, Try.ntmps41
  go_wp2_with fail
  refine makes_leave w.heap.size 0 0 0 rfl rfl (heap_alloc_new _ _) ⟨⟨_, _, by rw [hp.out], fun _ => by rw [hp.out]; exact rfl⟩, (Below.refl _ _).alloc (Nat.le_refl _) _⟩
set_option maxHeartbeats 1000000 in
theorem makes11 (hm : Mac 34 B g c arg data m cv sv w) (hF : Fit c arg data m) (hsaid : I64 said) :
    Calls Try.prog 41 #[.pointer (some ⟨g, 0, none⟩), .int .u8 11, .int .i64 said, .slice a l cap] w (MakesPost 11 said took arg data c.length w) := by
  have hp : Hid (outP 11 said took arg data c.length = ([arg], 0)) := Lib.hid rfl
  obtain ⟨-, c1, c2, -⟩ := hm.cells
  have hg := hm.lt
  have ca : ∀ o, (w.alloc o).cell? ⟨g, 1, none⟩ = some (.int .i64 arg) := fun o => by rw [((Below.refl w.heap.size w).alloc (Nat.le_refl _) o).cell hg]; exact c1
  clear c1 c2 hm
  go_enter Try.func41, Try.ntmps41
  go_wp2_with fail
  refine makes_leave w.heap.size arg 0 0 rfl rfl (heap_alloc_new _ _) ⟨⟨_, _, by rw [hp.out], fun _ => by rw [hp.out]; exact rfl⟩, (Below.refl _ _).alloc (Nat.le_refl _) _⟩
set_option maxHeartbeats 1000000 in
theorem makes12 (hm : Mac 34 B g c arg data m cv sv w) (hF : Fit c arg data m) (hsaid : I64 said) :
    Calls Try.prog 41 #[.pointer (some ⟨g, 0, none⟩), .int .u8 12, .int .i64 said, .slice a l cap] w (MakesPost 12 said took arg data c.length w) := by
  have hp : Hid (outP 12 said took arg data c.length = ([data], 0)) := Lib.hid rfl
  obtain ⟨-, c1, c2, -⟩ := hm.cells
  have hg := hm.lt
  have ca : ∀ o, (w.alloc o).cell? ⟨g, 2, none⟩ = some (.int .i64 data) := fun o => by rw [((Below.refl w.heap.size w).alloc (Nat.le_refl _) o).cell hg]; exact c2
  clear c1 c2 hm
  go_enter Try.func41, Try.ntmps41
  go_wp2_with fail
  refine makes_leave w.heap.size data 0 0 rfl rfl (heap_alloc_new _ _) ⟨⟨_, _, by rw [hp.out], fun _ => by rw [hp.out]; exact rfl⟩, (Below.refl _ _).alloc (Nat.le_refl _) _⟩
set_option maxHeartbeats 1000000 in
theorem makes14 (hm : Mac 34 B g c arg data m cv sv w) (hF : Fit c arg data m) (hsaid : I64 said) (hn : Nums w a l cap took) (hl : l = 1) :
    Calls Try.prog 41 #[.pointer (some ⟨g, 0, none⟩), .int .u8 14, .int .i64 said, .slice a l cap] w (MakesPost 14 said took arg data c.length w) := by
  subst hl
  obtain ⟨ad, ha, h0⟩ := hn.cell 0 (by omega)
  have hi0 := hn.at 0 (by omega)
  subst ha
  simp only [Addr.add_zero'] at h0
  obtain ⟨x, hx⟩ : ∃ x, x = took.getD 0 0 := ⟨_, rfl⟩
  rw [← hx] at h0 hi0
  have hc1 : ∀ o, Below w.heap.size w (w.alloc o) := fun o => (Below.refl _ _).alloc (Nat.le_refl _) _
  have h0a : ∀ o, (w.alloc o).cell? ad = some (.int .i64 x) := fun o => by rw [(hc1 o).cell (World.block_lt_of_cell? w _ h0)]; exact h0
  have hp : Hid (outP 14 said took arg data c.length = ([wrap64 (wrap32 x)], 0)) := by rw [hx]; exact Lib.hid rfl
  have hx1 := hi0.1
  have hx2 := hi0.2
  clear hx h0 hc1 hm hF hn
  go_enter Try.func41, Try.ntmps41
  go_wp2_with fail
  refine makes_leave w.heap.size (wrap64 (wrap32 x)) 0 0 rfl rfl (heap_alloc_new _ _) ⟨⟨_, _, by rw [hp.out], fun _ => by rw [hp.out]; exact rfl⟩, (Below.refl _ _).alloc (Nat.le_refl _) _⟩
set_option maxHeartbeats 1000000 in
theorem makes15 (hm : Mac 34 B g c arg data m cv sv w) (hF : Fit c arg data m) (hsaid : I64 said) (hn : Nums w a l cap took) (hl : l = 1) :
    Calls Try.prog 41 #[.pointer (some ⟨g, 0, none⟩), .int .u8 15, .int .i64 said, .slice a l cap] w (MakesPost 15 said took arg data c.length w) := by
  subst hl
  obtain ⟨ad, ha, h0⟩ := hn.cell 0 (by omega)
  have hi0 := hn.at 0 (by omega)
  subst ha
  simp only [Addr.add_zero'] at h0
  obtain ⟨x, hx⟩ : ∃ x, x = took.getD 0 0 := ⟨_, rfl⟩
  rw [← hx] at h0 hi0
  have hc1 : ∀ o, Below w.heap.size w (w.alloc o) := fun o => (Below.refl _ _).alloc (Nat.le_refl _) _
  have h0a : ∀ o, (w.alloc o).cell? ad = some (.int .i64 x) := fun o => by rw [(hc1 o).cell (World.block_lt_of_cell? w _ h0)]; exact h0
  have hp : Hid (outP 15 said took arg data c.length = ([x % 256], 0)) := by rw [hx]; exact Lib.hid rfl
  have hx1 := hi0.1
  have hx2 := hi0.2
  clear hx h0 hc1 hm hF hn
  go_enter Try.func41, Try.ntmps41
  go_wp2_with fail
  refine makes_leave w.heap.size (x % 256) 0 0 rfl rfl (heap_alloc_new _ _) ⟨⟨_, _, by rw [hp.out], fun _ => by rw [hp.out]; exact rfl⟩, (Below.refl _ _).alloc (Nat.le_refl _) _⟩
set_option maxHeartbeats 1000000 in
theorem makes13 (hm : Mac 34 B g c arg data m cv sv w) (hF : Fit c arg data m) (hsaid : I64 said) (hn : Nums w a l cap took) (hl : l = 1) :
    Calls Try.prog 41 #[.pointer (some ⟨g, 0, none⟩), .int .u8 13, .int .i64 said, .slice a l cap] w (MakesPost 13 said took arg data c.length w) := by
  subst hl
  obtain ⟨ad, ha, h0⟩ := hn.cell 0 (by omega)
  have hi0 := hn.at 0 (by omega)
  subst ha
  simp only [Addr.add_zero'] at h0
  obtain ⟨x, hx⟩ : ∃ x, x = took.getD 0 0 := ⟨_, rfl⟩
  rw [← hx] at h0 hi0
  have hc1 : ∀ o, Below w.heap.size w (w.alloc o) := fun o => (Below.refl _ _).alloc (Nat.le_refl _) _
  have h0a : ∀ o, (w.alloc o).cell? ad = some (.int .i64 x) := fun o => by rw [(hc1 o).cell (World.block_lt_of_cell? w _ h0)]; exact h0
  obtain ⟨c0, -⟩ := hm.cells
  obtain ⟨av, cav, rfl⟩ := own_slice hm.code
  have hg := hm.lt
  have ca : ∀ o, (w.alloc o).cell? ⟨g, 0, none⟩ = some (.slice av c.length cav) := fun o => by rw [(hc1 o).cell hg]; exact c0
  have hlen := hF.len
  have hp : Hid (outP 13 said took arg data c.length = ([], if x = 0 ∧ (c.length : Int) < said then 10 else 0)) := by rw [hx]; exact Lib.hid rfl
  clear hx h0 hc1 hm hF hn c0
  by_cases hx0 : x = 0
  · subst hx0
    by_cases hk : (c.length : Int) < said
    · have hp2 : Hid (outP 13 said took arg data c.length = ([], 10)) := by rw [hp.out, if_pos ⟨rfl, hk⟩]; exact Lib.hid rfl
      go_enter Try.func41, Try.ntmps41
      go_wp2_with fail
      refine makes_leave w.heap.size 0 0 10 rfl rfl (heap_alloc_new _ _) ⟨⟨_, _, by rw [hp2.out], fun h => by rw [hp2.out] at h; cases h⟩, (Below.refl _ _).alloc (Nat.le_refl _) _⟩
    · have hp2 : Hid (outP 13 said took arg data c.length = ([], 0)) := by rw [hp.out, if_neg (fun h => hk h.2)]; exact Lib.hid rfl
      go_enter Try.func41, Try.ntmps41
      go_wp2_with fail
      refine makes_leave w.heap.size 0 0 0 rfl rfl (heap_alloc_new _ _) ⟨⟨_, _, by rw [hp2.out], fun _ => by rw [hp2.out]; exact rfl⟩, (Below.refl _ _).alloc (Nat.le_refl _) _⟩
  · have hp2 : Hid (outP 13 said took arg data c.length = ([], 0)) := by rw [hp.out, if_neg (fun h => hx0 h.1)]; exact Lib.hid rfl
    go_enter Try.func41, Try.ntmps41
    go_wp2_with fail
    refine makes_leave w.heap.size 0 0 0 rfl rfl (heap_alloc_new _ _) ⟨⟨_, _, by rw [hp2.out], fun _ => by rw [hp2.out]; exact rfl⟩, (Below.refl _ _).alloc (Nat.le_refl _) _⟩
set_option maxHeartbeats 1000000 in
theorem makes8 (hm : Mac 34 B g c arg data m cv sv w) (hF : Fit c arg data m) (hsaid : I64 said) (hn : Nums w a l cap took) (hl : l = 1) :
    Calls Try.prog 41 #[.pointer (some ⟨g, 0, none⟩), .int .u8 8, .int .i64 said, .slice a l cap] w (MakesPost 8 said took arg data c.length w) := by
  subst hl
  obtain ⟨ad, ha, h0⟩ := hn.cell 0 (by omega)
  have hi0 := hn.at 0 (by omega)
  subst ha
  simp only [Addr.add_zero'] at h0
  obtain ⟨x, hx⟩ : ∃ x, x = took.getD 0 0 := ⟨_, rfl⟩
  rw [← hx] at h0 hi0
  have hc1 : ∀ o, Below w.heap.size w (w.alloc o) := fun o => (Below.refl _ _).alloc (Nat.le_refl _) _
  have h0a : ∀ o, (w.alloc o).cell? ad = some (.int .i64 x) := fun o => by rw [(hc1 o).cell (World.block_lt_of_cell? w _ h0)]; exact h0
  have hp : Hid (outP 8 said took arg data c.length = ([x, x], 0)) := by rw [hx]; exact Lib.hid rfl
  clear hx h0 hc1 hm hF hn
  go_enter Try.func41, Try.ntmps41
  go_wp2_with fail
  go_region
  go_wp2_with fail
  refine makes_leave w.heap.size x x 0 rfl rfl (heap_alloc_new _ _) ⟨⟨_, _, by rw [hp.out], fun _ => by rw [hp.out]; exact rfl⟩, ((Below.refl _ _).alloc (Nat.le_refl _) _).drew⟩
set_option maxHeartbeats 1000000 in
theorem makes9 (hm : Mac 34 B g c arg data m cv sv w) (hF : Fit c arg data m) (hsaid : I64 said) (gs k : Nat) (hn : Nums w (some ⟨gs, k, none⟩) l cap took) (hl : l = 2) :
    Calls Try.prog 41 #[.pointer (some ⟨g, 0, none⟩), .int .u8 9, .int .i64 said, .slice (some ⟨gs, k, none⟩) l cap] w (MakesPost 9 said took arg data c.length w) := by
  subst hl
  obtain ⟨ad, ha, h0⟩ := hn.cell 0 (by omega)
  have hi0 := hn.at 0 (by omega)
  obtain rfl := Option.some.inj ha
  simp only [Addr.add_zero'] at h0
  obtain ⟨x, hx⟩ : ∃ x, x = took.getD 0 0 := ⟨_, rfl⟩
  rw [← hx] at h0 hi0
  have hc1 : ∀ o, Below w.heap.size w (w.alloc o) := fun o => (Below.refl _ _).alloc (Nat.le_refl _) _
  have h0a : ∀ o, (w.alloc o).cell? ⟨gs, k, none⟩ = some (.int .i64 x) := fun o => by rw [(hc1 o).cell (World.block_lt_of_cell? w _ h0)]; exact h0
  obtain ⟨ad', ha', h1⟩ := hn.cell 1 (by omega)
  have hi1 := hn.at 1 (by omega)
  obtain rfl := Option.some.inj ha'
  obtain ⟨y, hy⟩ : ∃ y, y = took.getD 1 0 := ⟨_, rfl⟩
  rw [← hy] at h1 hi1
  simp [Addr.add] at h1
  have h1a : ∀ o, (w.alloc o).cell? ⟨gs, k + 1, none⟩ = some (.int .i64 y) := fun o => by rw [(hc1 o).cell (World.block_lt_of_cell? w _ h1)]; exact h1
  have hp : Hid (outP 9 said took arg data c.length = ([y, x], 0)) := by rw [hx, hy]; exact Lib.hid rfl
  clear hx hy h0 h1 hc1 hm hF hn
  go_enter Try.func41, Try.ntmps41
  go_wp2_with fail
  go_region
  go_wp2_with fail
  refine makes_leave w.heap.size y x 0 rfl rfl (heap_alloc_new _ _) ⟨⟨_, _, by rw [hp.out], fun _ => by rw [hp.out]; exact rfl⟩, ((Below.refl _ _).alloc (Nat.le_refl _) _).drew⟩
end
end Go.Proofs.Ytdbnfafafhdolaa
