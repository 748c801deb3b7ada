/- Numbers of 32 bits in the model; what the program's table holds. -/
import Derived.Test.YtgggecpnmliolaaDoorGen3
import Derived.Test.YtgggecpnmliolaaDoorFrP
namespace Go.Proofs.YtgggecpnmliolaaDoor
open Go.RowKit Frm
set_option linter.unusedVariables false
set_option linter.unusedSimpArgs false

theorem bits_xor (a b : W) : bits .xor .u32 (a.toNat : Int) (b.toNat : Int) = ((a ^^^ b).toNat : Int) := by
  rw [u32_xor_nat _ _ a.isLt b.isLt, BitVec.toNat_xor]
theorem bits_and (a b : W) : bits .and .u32 (a.toNat : Int) (b.toNat : Int) = ((a &&& b).toNat : Int) := by
  rw [u32_and_nat _ _ a.isLt b.isLt, BitVec.toNat_and]
theorem shr_val (a : W) (n : Nat) : (a.toNat : Int) / 2 ^ n = ((a >>> n).toNat : Int) := by
  rw [BitVec.toNat_ushiftRight, Nat.shiftRight_eq_div_pow, Int.natCast_ediv, Int.natCast_pow]; rfl

/-- the program's table -/
structure Laid (w : World) : Prop where
  tab : ∀ i, i < 16 → w.cell? ⟨0, i, none⟩ = some (.int .u32 ((halves.getD i 0).toNat : Int))

theorem Laid.keep {w w' : World} (h : Laid w) (hb : Below w.heap.size w w') : Laid w' :=
  ⟨fun i hi => by rw [hb.cell (World.block_lt_of_cell? w _ (h.tab i hi))]; exact h.tab i hi⟩
theorem Laid.drewN {w : World} (h : Laid w) (n : Nat) : Laid (w.drewN n) := ⟨h.tab⟩

theorem by32_val {x : Int} (h : Byte x) : ((by32 x).toNat : Int) = x := by
  have h1 := h.1
  have h2 := h.2
  unfold by32
  rw [BitVec.toNat_ofNat]
  omega

theorem ret_u32 {a b : Int} (h : a = b) : Ending.returned (Value.int .u32 a) = Ending.returned (Value.int .u32 b) := by rw [h]
theorem u32_cong {a b : Int} (h : a = b) : Value.int .u32 a = Value.int .u32 b := by rw [h]

def nibs : Nat → W → W
  | 0, c => c
  | n + 1, c => nib (nibs n c)

theorem nibs2 (c : W) (x : Int) : nibs 2 (c ^^^ by32 x) = upd c x := (upd_nib c x).symm

theorem compl_val (a : W) : bits .xor .u32 IntKind.u32.max (a.toNat : Int) = ((~~~ a).toNat : Int) := by
  rw [show IntKind.u32.max = ((4294967295 : W).toNat : Int) from rfl, bits_xor, BitVec.xor_comm]
  congr 2
  apply BitVec.eq_of_getLsbD_eq
  intro i hi
  have hm : ∀ j, j < 32 → (4294967295 : W).getLsbD j = true := by decide
  rw [BitVec.getLsbD_xor, hm i hi, BitVec.getLsbD_not]
  simp [hi]

/-- what the first k bytes say -/
def part (z : List Int) : Nat → Int
  | 0 => 0
  | k + 1 => part z k + z.getD k 0 * 256 ^ k

theorem getD_byte {z : List Int} (h : ∀ c ∈ z, Byte c) (i : Nat) : Byte (z.getD i 0) := by
  by_cases hi : i < z.length
  · have e : z.getD i 0 = z[i] := by simp [List.getD, hi]
    rw [e]
    exact h _ (List.getElem_mem hi)
  · have e : z.getD i 0 = 0 := by simp [List.getD, List.getElem?_eq_none (Nat.le_of_not_lt hi)]
    rw [e]
    exact ⟨by omega, by omega⟩

theorem num_part {z : List Int} (h : ∀ c ∈ z, Byte c) : part z 4 = (num z : Int) := by
  have h0 := getD_byte h 0
  have h1 := getD_byte h 1
  have h2 := getD_byte h 2
  have h3 := getD_byte h 3
  unfold Byte at *
  simp only [part, num, Nat.reducePow, Int.reducePow, Int.pow_succ, Int.pow_zero]
  omega

theorem or_add (a x k : Nat) (ha : a < 2 ^ k) (hs : a + x * 2 ^ k < 4294967296) : bits .or .u32 (a : Int) ((x * 2 ^ k : Nat) : Int) = ((a + x * 2 ^ k : Nat) : Int) := by
  have h1 : a < 4294967296 := by omega
  have h2 : x * 2 ^ k < 4294967296 := by omega
  rw [u32_or_nat _ _ h1 h2, Nat.or_comm, Nat.mul_comm x, ← Nat.two_pow_add_eq_or_of_lt ha, Nat.add_comm]

theorem or8 {a x : Int} (ha : 0 ≤ a ∧ a < 256) (hx : Byte x) : bits .or .u32 a (x * 256) = a + x * 256 := by
  have h1 := hx.1
  have h2 := hx.2
  have h := or_add a.toNat x.toNat 8 (by omega) (by omega)
  rw [show ((a.toNat : Nat) : Int) = a by omega, show ((x.toNat * 2 ^ 8 : Nat) : Int) = x * 256 by omega] at h
  rw [h]
  omega
theorem or16 {a x : Int} (ha : 0 ≤ a ∧ a < 65536) (hx : Byte x) : bits .or .u32 a (x * 65536) = a + x * 65536 := by
  have h1 := hx.1
  have h2 := hx.2
  have h := or_add a.toNat x.toNat 16 (by omega) (by omega)
  rw [show ((a.toNat : Nat) : Int) = a by omega, show ((x.toNat * 2 ^ 16 : Nat) : Int) = x * 65536 by omega] at h
  rw [h]
  omega
theorem or24 {a x : Int} (ha : 0 ≤ a ∧ a < 16777216) (hx : Byte x) : bits .or .u32 a (x * 16777216) = a + x * 16777216 := by
  have h1 := hx.1
  have h2 := hx.2
  have h := or_add a.toNat x.toNat 24 (by omega) (by omega)
  rw [show ((a.toNat : Nat) : Int) = a by omega, show ((x.toNat * 2 ^ 24 : Nat) : Int) = x * 16777216 by omega] at h
  rw [h]
  omega
theorem or0 {x : Int} (hx : Byte x) : bits .or .u32 0 x = x := by
  have h1 := hx.1
  have h2 := hx.2
  have h := or_add 0 x.toNat 0 (by omega) (by omega)
  rw [show ((x.toNat * 2 ^ 0 : Nat) : Int) = x by omega, show ((0 + x.toNat * 2 ^ 0 : Nat) : Int) = x by omega] at h
  exact h
theorem or_comm32 {a b : Int} (ha : 0 ≤ a ∧ a < 4294967296) (hb : 0 ≤ b ∧ b < 4294967296) : bits .or .u32 a b = bits .or .u32 b a := by
  have h1 := u32_or_nat a.toNat b.toNat (by omega) (by omega)
  have h2 := u32_or_nat b.toNat a.toNat (by omega) (by omega)
  rw [show ((a.toNat : Nat) : Int) = a by omega, show ((b.toNat : Nat) : Int) = b by omega] at h1 h2
  rw [h1, h2, Nat.or_comm]

theorem part_bd {z : List Int} (h : ∀ c ∈ z, Byte c) : ∀ k, 0 ≤ part z k ∧ part z k < 256 ^ k
  | 0 => by simp [part]
  | k + 1 => by
    have ih := part_bd h k
    have hx := getD_byte h k
    have h0 := hx.1
    have h1 := hx.2
    have hp : (0 : Int) < 256 ^ k := Int.pow_pos (by omega)
    have e1 : z.getD k 0 * 256 ^ k ≤ 255 * 256 ^ k := Int.mul_le_mul_of_nonneg_right (by omega) (by omega)
    have e2 : 0 ≤ z.getD k 0 * 256 ^ k := Int.mul_nonneg h0 (by omega)
    show 0 ≤ part z k + z.getD k 0 * 256 ^ k ∧ part z k + z.getD k 0 * 256 ^ k < 256 ^ (k + 1)
    rw [Int.pow_succ]
    omega

end Go.Proofs.YtgggecpnmliolaaDoor
