/- The words of a block: lists of words with noughts behind; the program's block.words. -/
import Derived.Test.YtlamjdpifhpofaaDoorRot
import Derived.Test.YtlamjdpifhpofaaDoorThen
namespace Go.Proofs.YtlamjdpifhpofaaDoor
open Go.RowKit Sha
set_option linter.unusedVariables false
set_option linter.unusedSimpArgs false

def noughts64' : List W := List.replicate 64 0

theorem n64_eq : (us noughts64').toArray = #[.int .u32 0, .int .u32 0, .int .u32 0, .int .u32 0, .int .u32 0, .int .u32 0, .int .u32 0, .int .u32 0, .int .u32 0, .int .u32 0, .int .u32 0, .int .u32 0, .int .u32 0, .int .u32 0, .int .u32 0, .int .u32 0, .int .u32 0, .int .u32 0, .int .u32 0, .int .u32 0, .int .u32 0, .int .u32 0, .int .u32 0, .int .u32 0, .int .u32 0, .int .u32 0, .int .u32 0, .int .u32 0, .int .u32 0, .int .u32 0, .int .u32 0, .int .u32 0, .int .u32 0, .int .u32 0, .int .u32 0, .int .u32 0, .int .u32 0, .int .u32 0, .int .u32 0, .int .u32 0, .int .u32 0, .int .u32 0, .int .u32 0, .int .u32 0, .int .u32 0, .int .u32 0, .int .u32 0, .int .u32 0, .int .u32 0, .int .u32 0, .int .u32 0, .int .u32 0, .int .u32 0, .int .u32 0, .int .u32 0, .int .u32 0, .int .u32 0, .int .u32 0, .int .u32 0, .int .u32 0, .int .u32 0, .int .u32 0, .int .u32 0, .int .u32 0] := rfl

/-- a list with noughts behind, 64 in all -/
def fill (l : List W) : List W := l ++ List.replicate (64 - l.length) 0

theorem fill_nil : fill [] = noughts64' := rfl
theorem fill_length {l : List W} (h : l.length ≤ 64) : (fill l).length = 64 := by simp [fill]; omega
theorem fill_full {l : List W} (h : l.length = 64) : fill l = l := by simp [fill, h]
theorem fill_at {l : List W} {j : Nat} (h : j < l.length) : (fill l).getD j 0 = l.getD j 0 := by
  simp [fill, List.getD, List.getElem?_append, h]
theorem fill_zero {l : List W} (h : l.length < 64) : fill l = fill (l ++ [0]) := by
  simp only [fill, List.length_append, List.length_singleton, List.append_assoc, List.singleton_append]
  rw [← List.replicate_succ, show 64 - (l.length + 1) + 1 = 64 - l.length by omega]
theorem fill_set {l : List W} {x y : W} (h : l.length < 64) : (fill (l ++ [x])).set l.length y = fill (l ++ [y]) := by
  simp only [fill, List.append_assoc, List.singleton_append, List.length_append, List.length_singleton]
  rw [List.set_append_right _ _ (Nat.le_refl _), Nat.sub_self]
  rfl
theorem fill_put {l : List W} {y : W} (h : l.length < 64) : (fill l).set l.length y = fill (l ++ [y]) := by rw [fill_zero h, fill_set h]

theorem sched_length (t : List Int) (p i : Nat) : (sched t p i).length = i := by
  induction i with
  | zero => rfl
  | succ i ih => simp [sched, ih]

theorem sched_congr {t t' : List Int} {p p' : Nat} (h : ∀ k, k < 64 → t.getD (p + k) 0 = t'.getD (p' + k) 0) (i : Nat) : sched t p i = sched t' p' i := by
  induction i with
  | zero => rfl
  | succ i ih =>
    simp only [sched, ih]
    by_cases hi : i < 16
    · rw [if_pos hi, if_pos hi]
      unfold word
      rw [h (4 * i) (by omega), show p + 4 * i + 1 = p + (4 * i + 1) by omega, show p + 4 * i + 2 = p + (4 * i + 2) by omega, show p + 4 * i + 3 = p + (4 * i + 3) by omega,
        h (4 * i + 1) (by omega), h (4 * i + 2) (by omega), h (4 * i + 3) (by omega)]
      rfl
    · rw [if_neg hi, if_neg hi]

theorem block_congr {t t' : List Int} {p p' : Nat} (h : ∀ k, k < 64 → t.getD (p + k) 0 = t'.getD (p' + k) 0) (s : St) : block t p s = block t' p' s := by
  unfold block
  rw [sched_congr h]

/-- a word under way: its first bytes -/
def acc (B : List Int) (q : Nat) : Nat → W
  | 0 => 0
  | k + 1 => acc B q k <<< 8 ||| by32 (B.getD (q + k) 0)

theorem acc_four (B : List Int) (q : Nat) : acc B q 4 = word B q := by
  simp only [acc, word, four, Nat.add_zero]
  simp only [BitVec.shiftLeft_or_distrib, ← BitVec.shiftLeft_add]
  simp

theorem by32_val {c : Int} (h : Byte c) : c = ((by32 c).toNat : Int) := by
  obtain ⟨h0, h1⟩ := h
  unfold by32
  rw [BitVec.toNat_ofNat]
  omega

/-- a block's bytes as a value -/
structure Blk (cs : Array Value) (B : List Int) : Prop where
  cells : cs.toList = bts B
  len : B.length = 64
  bytes : ∀ c ∈ B, Byte c

theorem Blk.boxed {cs : Array Value} {B : List Int} (h : Blk cs B) (w : World) (t : TypeId) : Reads (w.alloc (.cells cs t)) (some ⟨w.heap.size, 0, none⟩) 64 B := by
  refine ⟨h.len, fun _ => ⟨_, rfl, fun j v hv => ?_⟩⟩
  rw [Addr.add_lit, Nat.zero_add, World.cell?_alloc_at _ _ _ _ rfl]
  have hc := h.cells
  show cs[j]? = some v
  rw [← hv, ← hc]
  simp

theorem Blk.at {cs : Array Value} {B : List Int} (h : Blk cs B) {j : Nat} (hj : j < 64) : Byte (B.getD j 0) := by
  refine h.bytes _ ?_
  have : j < B.length := by rw [h.len]; exact hj
  simp [List.getD, this]

end Go.Proofs.YtlamjdpifhpofaaDoor
