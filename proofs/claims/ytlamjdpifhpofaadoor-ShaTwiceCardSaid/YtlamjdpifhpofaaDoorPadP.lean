/- The padded bytes, block by block; two blocks compared. -/
import Derived.Test.YtlamjdpifhpofaaDoorClosing
namespace Go.Proofs.YtlamjdpifhpofaaDoor
open Go.RowKit Sha
set_option linter.unusedVariables false
set_option linter.unusedSimpArgs false

theorem lens_length (n : Nat) : (lens n).length = 8 := rfl
theorem tail_length (z : List Int) (n : Nat) : (tail z n).length = z.length + 1 + gap z.length + 8 := by simp [tail, lens_length]; omega
theorem pad_len (b : List Int) : (pad b).length = b.length + 1 + gap b.length + 8 := by simp [pad, lens_length]; omega
theorem zeros_at (k m : Nat) : (List.replicate k (0 : Int))[m]?.getD 0 = 0 := by
  rw [List.getElem?_replicate]
  split <;> rfl
theorem ends_length {z : List Int} (n : Nat) (h : z.length < 64) : (ends z n).length = 128 := by
  have h1 := tail_length z n
  have h2 : gap z.length = (119 - z.length % 64) % 64 := rfl
  simp only [ends, List.length_append, List.length_replicate]
  omega

theorem getD_append_zeros (l : List Int) (k m : Nat) : (l ++ List.replicate k 0).getD m 0 = l.getD m 0 := by
  by_cases h : m < l.length
  · simp [List.getD, List.getElem?_append, h]
  · simp only [List.getD, List.getElem?_append, h, if_false, List.getElem?_eq_none (Nat.le_of_not_lt h), List.getElem?_replicate]
    split <;> rfl

theorem pad_split (z : List Int) : pad z = z.take (64 * (z.length / 64)) ++ tail (z.drop (64 * (z.length / 64))) z.length := by
  have hg : gap z.length = gap (z.drop (64 * (z.length / 64))).length := by
    rw [List.length_drop]
    unfold gap
    omega
  unfold pad tail
  rw [hg]
  conv => lhs; rw [← List.take_append_drop (64 * (z.length / 64)) z]
  simp only [List.append_assoc]
  rw [List.take_append_drop]

theorem pad_at (z : List Int) (m : Nat) : (pad z).getD (64 * (z.length / 64) + m) 0 = (ends (z.drop (64 * (z.length / 64))) z.length).getD m 0 := by
  unfold ends
  rw [getD_append_zeros, pad_split]
  have hl : (z.take (64 * (z.length / 64))).length = 64 * (z.length / 64) := by rw [List.length_take]; omega
  simp only [List.getD]
  rw [List.getElem?_append_right (by omega), hl, Nat.add_sub_cancel_left]

theorem block_end (z : List Int) (k : Nat) (s : St) : block (((ends (z.drop (64 * (z.length / 64))) z.length).drop (64 * k)).take 64) 0 s = block (pad z) (64 * (z.length / 64 + k)) s := by
  refine block_congr (fun i hi => ?_) s
  rw [show 64 * (z.length / 64 + k) + i = 64 * (z.length / 64) + (64 * k + i) by omega, pad_at]
  simp [List.getD, List.getElem?_take, List.getElem?_drop, hi]

theorem block_whole (z : List Int) (j : Nat) (hj : j < z.length / 64) (s : St) : block (front (z.drop (64 * j))) 0 s = block (pad z) (64 * j) s := by
  refine block_congr (fun i hi => ?_) s
  unfold front
  rw [Nat.zero_add, getD_append_zeros]
  unfold pad
  simp only [List.append_assoc]
  simp only [List.getD]
  rw [List.getElem?_append_left (by omega)]
  simp [List.getElem?_take, List.getElem?_drop, hi]

theorem pad_count (z : List Int) : (pad z).length / 64 = z.length / 64 + (if (z.drop (64 * (z.length / 64))).length < 56 then 1 else 2) := by
  rw [pad_len, List.length_drop]
  have hg : gap z.length = (119 - z.length % 64) % 64 := rfl
  split <;> omega

theorem blank_one {z : List Int} (n : Nat) (h : z.length < 56) : ((ends z n).drop 64).take 64 = List.replicate 64 0 := by
  have h1 := tail_length z n
  have h2 : gap z.length = (119 - z.length % 64) % 64 := rfl
  have h3 : (tail z n).length = 64 := by omega
  unfold ends
  rw [List.drop_append_of_le_length (by omega), List.drop_of_length_le (by omega), h3]
  simp

theorem full_zero {z : List Int} (n : Nat) (h : z.length < 64) : (ends z n).take 64 ≠ List.replicate 64 0 := by
  intro he
  have h1 := congrArg (fun l => l.getD z.length 0) he
  simp only [List.getD, List.getElem?_take, h, if_true, zeros_at] at h1
  unfold ends tail at h1
  simp only [List.append_assoc] at h1
  rw [List.getElem?_append_right (Nat.le_refl _), Nat.sub_self] at h1
  simp at h1

theorem full_one {z : List Int} (n : Nat) (h : z.length < 64) (h56 : 56 ≤ z.length) (hn : 0 < n) (hm : n ≤ 281474976710656) : ((ends z n).drop 64).take 64 ≠ List.replicate 64 0 := by
  intro he
  have h2 : gap z.length = (119 - z.length % 64) % 64 := rfl
  have hat : ∀ i, i < 8 → (lens n).getD i 0 = 0 := by
    intro i hi
    have h1 := congrArg (fun l => l.getD (56 + i) 0) he
    simp only [List.getD, List.getElem?_take, List.getElem?_drop, show 56 + i < 64 by omega, if_true] at h1
    unfold ends at h1
    have h3 := tail_length z n
    rw [List.getElem?_append_left (by omega)] at h1
    unfold tail at h1
    rw [List.getElem?_append_right (by simp; omega)] at h1
    have e : 64 + (56 + i) - (z ++ [128] ++ List.replicate (gap z.length) 0).length = i := by simp; omega
    rw [e] at h1
    simp only [List.getD]
    rw [h1, zeros_at]
  have a0 := hat 0 (by omega)
  have a1 := hat 1 (by omega)
  have a2 := hat 2 (by omega)
  have a3 := hat 3 (by omega)
  have a4 := hat 4 (by omega)
  have a5 := hat 5 (by omega)
  have a6 := hat 6 (by omega)
  have a7 := hat 7 (by omega)
  simp only [lens, List.getD, List.getElem?_cons_zero, List.getElem?_cons_succ, Option.getD_some] at a0 a1 a2 a3 a4 a5 a6 a7
  omega

theorem Blk.cell {cs : Array Value} {hs : List Int} (h : Blk cs hs) (i : Nat) (hi : i < 64) : cs[i]? = some (.int .u8 (hs.getD i 0)) := by
  have hc := congrArg (fun l => l[i]?) h.cells
  simp only [Array.getElem?_toList] at hc
  rw [hc]
  have hl := h.len
  simp [bts, List.getD, show i < hs.length by omega]

theorem eqItems_blk (d : Nat) {cs ds : Array Value} {xs ys : List Int} (hx : Blk cs xs) (hy : Blk ds ys) (w : World) : ∀ (is : List Nat), (∀ i ∈ is, i < 64) →
    (Op.eqItems (d + 1) 5 1 cs ds is).run Tryd.prog w = .ok (is.all fun i => xs.getD i 0 == ys.getD i 0) w := by
  intro is
  induction is with
  | nil => intro _; simp [Op.eqItems]
  | cons i is ih =>
    intro hi
    have h1 := hi i (by simp)
    have p1 := run_part_plain (P := Tryd.prog) w plain_byte (hx.cell i h1)
    have p2 := run_part_plain (P := Tryd.prog) w plain_byte (hy.cell i h1)
    have p3 := run_equalIn_int (P := Tryd.prog) w d 5 .u8 _ (xs.getD i 0) (ys.getD i 0) Tryd.underlying5
    simp only [Op.eqItems, Nat.mul_one, Sem.run_bind, p1, p2, p3, Result.andThen_ok, List.all_cons]
    cases hb : xs.getD i 0 == ys.getD i 0
    · simp
    · simp only [Bool.not_true, Bool.false_eq_true, if_false, Bool.true_and]
      exact ih (fun j hj => hi j (by simp [hj]))

theorem all_eq64 {xs ys : List Int} (hx : xs.length = 64) (hy : ys.length = 64) : ((List.range 64).all fun i => xs.getD i 0 == ys.getD i 0) = decide (xs = ys) := by
  rw [Bool.eq_iff_iff]
  simp only [List.all_eq_true, List.mem_range, beq_iff_eq, decide_eq_true_eq]
  constructor
  · intro h
    apply List.ext_getElem (by rw [hx, hy])
    intro i h1 h2
    have := h i (by omega)
    simpa [List.getD, h1, h2] using this
  · rintro rfl i _; rfl

theorem array_blk : ∃ n, n = 64 ∧ Tryd.prog.underlying 36 = some (.array n 5) := ⟨64, rfl, by kernel_rfl⟩

theorem neq_blk {cs ds : Array Value} {xs ys : List Int} (hx : Blk cs xs) (hy : Blk ds ys) (w : World) : (binOp .neq 36 (.agg cs) (.agg ds)).run Tryd.prog w = .ok (.bool (!decide (xs = ys))) w := by
  obtain ⟨i0, hi, -⟩ := info_parts Tryd.infoByte
  obtain ⟨n, hn, hu⟩ := array_blk
  have r := run_equalIn_array (P := Tryd.prog) w 9999 cs ds hu hi
  rw [cells_byte, hn, eqItems_blk 9998 hx hy w _ (by intro i hi; simpa using hi), all_eq64 hx.len hy.len] at r
  rw [run_neq_struct, r]
  rfl

theorem zeros64_blk : Blk blanks.toArray (List.replicate 64 0) := ⟨by simp [blanks, bts], by simp, fun c hc => by rw [List.eq_of_mem_replicate hc]; exact ⟨by omega, by omega⟩⟩

theorem lens_byte (n : Nat) : ∀ c ∈ lens n, Byte c := by
  intro c hc
  simp only [lens, List.mem_cons, List.not_mem_nil, or_false] at hc
  rcases hc with rfl | rfl | rfl | rfl | rfl | rfl | rfl | rfl <;> exact ⟨by omega, by omega⟩
theorem ends_byte {z : List Int} (n : Nat) (h : ∀ c ∈ z, Byte c) : ∀ c ∈ ends z n, Byte c := by
  intro c hc
  unfold ends tail at hc
  simp only [List.mem_append, List.mem_singleton] at hc
  rcases hc with ((((h1 | rfl) | h1) | h1) | h1)
  · exact h c h1
  · exact ⟨by omega, by omega⟩
  · rw [List.eq_of_mem_replicate h1]; exact ⟨by omega, by omega⟩
  · exact lens_byte n c h1
  · rw [List.eq_of_mem_replicate h1]; exact ⟨by omega, by omega⟩
theorem pad_byte {z : List Int} (h : ∀ c ∈ z, Byte c) : ∀ c ∈ pad z, Byte c := by
  intro c hc
  unfold pad at hc
  simp only [List.mem_append, List.mem_singleton] at hc
  rcases hc with ((h1 | rfl) | h1) | h1
  · exact h c h1
  · exact ⟨by omega, by omega⟩
  · rw [List.eq_of_mem_replicate h1]; exact ⟨by omega, by omega⟩
  · exact lens_byte _ c h1
theorem ends_blk {z : List Int} (n k : Nat) (hl : z.length < 64) (h : ∀ c ∈ z, Byte c) (hk : k < 2) : Blk (bts (((ends z n).drop (64 * k)).take 64)).toArray (((ends z n).drop (64 * k)).take 64) :=
  ⟨by simp, by rw [List.length_take, List.length_drop, ends_length n hl]; omega, fun c hc => ends_byte n h c (List.mem_of_mem_drop (List.mem_of_mem_take hc))⟩
end Go.Proofs.YtlamjdpifhpofaaDoor
