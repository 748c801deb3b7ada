/- What the frame of a proof hands to a walk: a number of 64 bits; a slice of bytes, of numbers, that came in. -/
import Derived.Test.YtlaafpfpoehonaaKnown
namespace Go.Proofs.Ytlaafpfpoehonaa
open Go.RowKit Num

theorem i64_of {n : Int} (h : (Lit.int .i64 n).wf = true) : I64 n := by
  have := h
  simp [Lit.wf, IntKind.min, IntKind.max, IntKind.bits, IntKind.signed] at this
  exact this

/-- a slice of bytes that came in -/
structure Came (w : World) (a : Option Addr) (len cap : Nat) (xs : List Int) : Prop where
  reads : Reads w a len xs
  le : len ≤ cap
  small : cap ≤ maxLen
  nil : a = none → len = 0 ∧ cap = 0
  bytes : ∀ c ∈ xs, Byte c

theorem byte_of {n : Int} (h : (Lit.int .u8 n).wf = true) : Byte n := by
  have := h
  simp [Lit.wf, IntKind.min, IntKind.max, IntKind.bits, IntKind.signed] at this
  exact ⟨by omega, by omega⟩

theorem came_of {w : World} {a : Option Addr} {len cap : Nat} {zs : List Int}
    (h : (a = none ∧ len = 0 ∧ cap = 0 ∧ zs = []) ∨
      ∃ x, a = some x ∧ len ≤ cap ∧ cap ≤ maxLen ∧ zs.length = cap ∧ (∀ i, i < zs.length → w.cell? (x.add i) = some (.int .u8 (zs.getD i 0))) ∧ ∀ n ∈ zs, (Lit.int .u8 n).wf = true) :
    Came w a len cap (zs.take len) := by
  rcases h with ⟨rfl, rfl, rfl, rfl⟩ | ⟨x, rfl, hl, hm, hz, hc, hw⟩
  · exact ⟨⟨rfl, fun h => absurd h (by omega)⟩, Nat.le_refl _, by unfold maxLen; omega, fun _ => ⟨rfl, rfl⟩, by simp⟩
  · refine ⟨⟨by simp; omega, fun _ => ⟨x, rfl, fun j v hv => ?_⟩⟩, hl, hm, (fun h => by cases h), fun c hc => byte_of (hw c (List.mem_of_mem_take hc))⟩
    have hj : j < (bts (zs.take len)).length := (List.getElem?_eq_some_iff.1 hv).1
    rw [bts_length, List.length_take] at hj
    rw [hc j (by omega)]
    rw [← hv]
    simp [bts, List.getD, show j < len by omega, show j < zs.length by omega]

end Go.Proofs.Ytlaafpfpoehonaa
