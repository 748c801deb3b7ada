/- What a sum that came in as an argument reads as: 32 bytes. -/
import Derived.Test.YtlaafpfpoehonaaCame
import Derived.Test.YtlaafpfpoehonaaHash
import Derived.ProofKit
import Derived.OpenShut
namespace Go.Proofs.Ytlaafpfpoehonaa
open Go.RowKit Num
set_option linter.unusedVariables false

theorem underlying_sum : Try.prog.underlying 24 = some (.array 32 5) := by kernel_rfl
theorem cellsOf_sum : Try.prog.cellsOf 24 = 32 := by kernel_rfl
theorem cellsOf_byte : Try.prog.cellsOf 5 = 1 := by kernel_rfl

def numAt (cs : Array Value) (i : Nat) : Int :=
  match cs[i]? with
  | some (Value.int _ n) => n
  | _ => 0

theorem open_sum {H : Type} {enc : TypeId × Value → H} {w : World} {base : Nat} {sp : Nat → Bool} {held : Bool} {v : Value} {d : DataW H} {p : List MemPlace}
    (h : DataW.Trod enc Try.prog w base sp held 24 v d p) : ∃ cs hs, v = .agg cs ∧ Sum cs hs := by
  obtain ⟨fuel, hf⟩ := h
  obtain ⟨xs, m, rfl, -, hl, hn, hi⟩ := DataW.trod_array underlying_sum hf
  rw [cellsOf_sum] at hl
  simp only [cellsOf_byte, Nat.mul_one] at hi
  have hv : ∃ cs, v = .agg cs := by
    cases v <;> simp [Value.cells] at hl
    exact ⟨_, rfl⟩
  obtain ⟨cs, rfl⟩ := hv
  simp only [Value.cells, Array.length_toList] at hl hi
  have hb : ∀ i, i < 32 → ∃ n, cs[i]? = some (.int .u8 n) ∧ Byte n := by
    intro i h32
    have h1 := hi i h32
    have h2 : xs[i]? = some xs[i] := by simp [hn, h32]
    rw [h2] at h1
    obtain ⟨n, e1, -, e3⟩ := DataW.trod_int Try.underlying5 h1
    refine ⟨n, ?_, byte_of e3⟩
    have := congrArg (fun l => l[0]?) e1
    simpa [List.getElem?_take, List.getElem?_drop] using this
  refine ⟨cs, (List.range 32).map (numAt cs), rfl, ?_, by simp, ?_⟩
  · apply List.ext_getElem?
    intro i
    by_cases h32 : i < 32
    · obtain ⟨n, h1, -⟩ := hb i h32
      simp [bts, numAt, h1, h32]
    · simp [bts, h32, hl]
  · intro c hc
    obtain ⟨i, hi, rfl⟩ := List.mem_map.1 hc
    obtain ⟨n, h1, h2⟩ := hb i (by simpa using hi)
    unfold numAt; rw [h1]; exact h2

end Go.Proofs.Ytlaafpfpoehonaa
