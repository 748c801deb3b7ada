/- P102: taking bytes from a reader's front: they are cut off, or there are too few. -/
import Derived.Test.YtlaafpfpoehonaaRead
namespace Go.Proofs.Ytlaafpfpoehonaa
open Go.RowKit Num
set_option linter.unusedVariables false
set_option linter.unusedSimpArgs false

/-- a panic with an error of package api -/
def Thrown (x : Ending) (e : Int) : Prop := x = .panicked [{ v := .iface 40 (.int .i64 e), recovered := false }]

set_option maxHeartbeats 400000 in
theorem take_cut (r n : Nat) (e : Int) (bs : List Int) (w : World) (h : Rd w r e bs) (hn : bs.length < n) (hn2 : n ≤ 1000000) :
    Calls Try.prog 42 #[.pointer (some ⟨r, 0, none⟩), .int .i64 (n : Int)] w fun x w' => Thrown x 8 ∧ w = w' := by
  obtain ⟨g, off, c, c0, c1, f0, f1, -⟩ := h.cells
  clear h
  obtain ⟨L, hL⟩ : ∃ L, L = bs.length := ⟨_, rfl⟩
  rw [← hL] at c0 hn
  clear hL
  go_enter Try.func42, Try.ntmps42
  go_wp2
  exact ⟨rfl, rfl, rfl⟩

set_option maxHeartbeats 400000 in
theorem take_ok (r n : Nat) (e : Int) (bs : List Int) (w : World) (h : Rd w r e bs) (hn : n ≤ bs.length) :
    Calls Try.prog 42 #[.pointer (some ⟨r, 0, none⟩), .int .i64 (n : Int)] w fun x w' => ∃ g off c, x = .returned (.slice (some ⟨g, off, none⟩) n c) ∧ n ≤ c ∧
      (∀ i, i < n → w'.cell? ⟨g, off + i, none⟩ = some (.int .u8 (bs.getD i 0))) ∧ Rd w' r e (bs.drop n) ∧ Only r w w' := by
  obtain ⟨g, off, c, hr, h1, h2, h3, h4, h5⟩ := h.row
  obtain ⟨g', off', c', c0, c1, f0, f1, -⟩ := h.cells
  clear h
  obtain ⟨rfl, rfl, rfl⟩ : g = g' ∧ off = off' ∧ c = c' := by simp [World.cell?, hr] at c0; exact ⟨c0.1.1, c0.1.2, c0.2⟩
  have R := fun off' ho => Lib.hid (Rd.setRest hr h1 h2 h3 h4 h5 n off' hn ho)
  have HR := Lib.hid R
  have H5 := Lib.hid h5
  clear R hr h5
  obtain ⟨L, hL⟩ : ∃ L, L = bs.length := ⟨_, rfl⟩
  rw [← hL] at c0 hn HR H5 h3
  clear hL
  by_cases hc : c = n
  · obtain rfl : L = n := by omega
    go_enter Try.func42, Try.ntmps42
    go_wp2
    go_ret
    have R := (HR.out off (fun h => absurd h (by omega))).out
    rw [hc, Nat.sub_self] at R
    exact ⟨g, off, L, rfl, Nat.le_refl _, fun i hi => R.2.cell (H5.out i hi) (by simp; omega), R.1, R.2⟩
  · go_enter Try.func42, Try.ntmps42
    go_wp2
    go_ret
    have R := (HR.out (off + n) (fun _ => rfl)).out
    exact ⟨g, off, c, rfl, by omega, fun i hi => R.2.cell (H5.out i (by omega)) (by simp; omega), R.1, R.2⟩
end Go.Proofs.Ytlaafpfpoehonaa
