/- What a slice of numbers, a slice of slices of bytes, that came in as arguments hold. -/
import Derived.Test.YtlaafpfpoehonaaCame
import Derived.ProofKit
import Derived.OpenShut
import Derived.Deep.Matrix
namespace Go.Proofs.Ytlaafpfpoehonaa
open Go.RowKit Num
set_option linter.unusedVariables false

theorem Came.below {w w' : World} {a : Option Addr} {len cap : Nat} {xs : List Int} (h : Came w a len cap xs) (hb : Below w.heap.size w w') : Came w' a len cap xs :=
  ⟨h.reads.below hb, h.le, h.small, h.nil, h.bytes⟩

/-- a slice of numbers of 64 bits that came in -/
structure Nums (w : World) (a : Option Addr) (len cap : Nat) (ns : List Int) : Prop where
  sz : ns.length = len
  le : len ≤ cap
  small : cap ≤ maxLen
  cell : ∀ i, i < len → ∃ ad, a = some ad ∧ w.cell? (ad.add i) = some (.int .i64 (ns.getD i 0))
  i64 : ∀ z ∈ ns, I64 z

theorem Nums.below {w w' : World} {a : Option Addr} {len cap : Nat} {ns : List Int} (h : Nums w a len cap ns) (hb : Below w.heap.size w w') : Nums w' a len cap ns := by
  refine ⟨h.sz, h.le, h.small, fun i hi => ?_, h.i64⟩
  obtain ⟨ad, h1, h2⟩ := h.cell i hi
  exact ⟨ad, h1, by rw [hb.cell (World.block_lt_of_cell? w _ h2)]; exact h2⟩

theorem Nums.at {w : World} {a : Option Addr} {len cap : Nat} {ns : List Int} (h : Nums w a len cap ns) (i : Nat) (hi : i < len) : I64 (ns.getD i 0) := by
  refine h.i64 _ ?_
  have : i < ns.length := by rw [h.sz]; exact hi
  simp [List.getD, this]

theorem came64_of {w : World} {a : Option Addr} {len cap : Nat} {zs : List Int}
    (h : (a = none ∧ len = 0 ∧ cap = 0 ∧ zs = []) ∨
      ∃ x, a = some x ∧ len ≤ cap ∧ cap ≤ maxLen ∧ zs.length = cap ∧ (∀ i, i < zs.length → w.cell? (x.add i) = some (.int .i64 (zs.getD i 0))) ∧ ∀ n ∈ zs, (Lit.int .i64 n).wf = true) :
    Nums w a len cap (zs.take len) := by
  rcases h with ⟨rfl, rfl, rfl, rfl⟩ | ⟨x, rfl, hl, hm, hz, hc, hw⟩
  · exact ⟨rfl, Nat.le_refl _, by unfold maxLen; omega, fun i hi => absurd hi (by omega), by simp⟩
  · refine ⟨by rw [List.length_take]; omega, hl, hm, fun i hi => ⟨x, rfl, ?_⟩, fun c hc => i64_of (hw c (List.mem_of_mem_take hc))⟩
    rw [hc i (by omega)]
    simp [List.getD, hi]

/-- a slice of slices of bytes that came in -/
structure Mat (w : World) (a : Option Addr) (len cap : Nat) (zss : List (List Int)) : Prop where
  sz : zss.length = len
  le : len ≤ cap
  small : cap ≤ maxLen
  row : ∀ i, i < len → ∃ ad, a = some ad ∧ ∃ b l c, w.cell? (ad.add i) = some (.slice b l c) ∧ Came w b l c (zss.getD i [])

theorem Mat.below {w w' : World} {a : Option Addr} {len cap : Nat} {zss : List (List Int)} (h : Mat w a len cap zss) (hb : Below w.heap.size w w') : Mat w' a len cap zss := by
  refine ⟨h.sz, h.le, h.small, fun i hi => ?_⟩
  obtain ⟨ad, h1, b, l, c, h2, h3⟩ := h.row i hi
  exact ⟨ad, h1, b, l, c, by rw [hb.cell (World.block_lt_of_cell? w _ h2)]; exact h2, h3.below hb⟩

theorem open_rows {H : Type} {enc : TypeId × Value → H} {w : World} {base : Nat} {held : Bool} {a : Option Addr} {len cap : Nat} {d : DataW H} {p : List MemPlace}
    (h : DataW.Trod enc Try.prog w base (fun _ => true) held 44 (.slice a len cap) d p) : ∃ zss, Mat w a len cap zss := by
  obtain ⟨fuel, hf⟩ := h
  rcases Go.Deep.open_int_rows Try.underlying44 Try.underlying22 Try.underlying5 (by kernel_rfl) (by kernel_rfl) hf with ⟨hcs, -⟩ | ⟨x, l, c, A, L, C, Z, hcs, -, hl, hm, -, hr⟩
  · simp [Value.cells] at hcs
    obtain ⟨rfl, rfl, rfl⟩ := hcs
    exact ⟨[], rfl, Nat.le_refl _, by unfold maxLen; omega, fun i hi => absurd hi (by omega)⟩
  · simp [Value.cells] at hcs
    obtain ⟨rfl, rfl, rfl⟩ := hcs
    refine ⟨(List.range len).map fun r => (Z r).take (L r), by simp, hl, hm, fun i hi => ⟨x, rfl, A i, L i, C i, (hr i (by omega)).1, ?_⟩⟩
    obtain ⟨-, h1, h2, h3, h4, h5, h6⟩ := hr i (by omega)
    have e : ((List.range len).map fun r => (Z r).take (L r)).getD i [] = (Z i).take (L i) := by simp [List.getD, hi]
    rw [e]
    refine came_of ?_
    cases hA : A i with
    | none =>
      have hc0 := h5 hA
      refine .inl ⟨rfl, by omega, hc0, List.eq_nil_of_length_eq_zero (by omega)⟩
    | some ad =>
      exact .inr ⟨ad, rfl, h1, h2, h3, fun j hj => (h6 ad hA).2 j (by omega), h4⟩

end Go.Proofs.Ytlaafpfpoehonaa
