/- The program's cut: the block that bytes begin with. -/
import Derived.Test.YtlamjdpifhpofaaDoorBytes
namespace Go.Proofs.YtlamjdpifhpofaaDoor
open Go.RowKit Sha
set_option linter.unusedVariables false
set_option linter.unusedSimpArgs false

/-- 64 noughts, as cells -/
def blanks : List Value := List.replicate 64 (.int .u8 0)
theorem blanks_eq : blanks.toArray = #[.int .u8 0, .int .u8 0, .int .u8 0, .int .u8 0, .int .u8 0, .int .u8 0, .int .u8 0, .int .u8 0, .int .u8 0, .int .u8 0, .int .u8 0, .int .u8 0, .int .u8 0, .int .u8 0, .int .u8 0, .int .u8 0, .int .u8 0, .int .u8 0, .int .u8 0, .int .u8 0, .int .u8 0, .int .u8 0, .int .u8 0, .int .u8 0, .int .u8 0, .int .u8 0, .int .u8 0, .int .u8 0, .int .u8 0, .int .u8 0, .int .u8 0, .int .u8 0, .int .u8 0, .int .u8 0, .int .u8 0, .int .u8 0, .int .u8 0, .int .u8 0, .int .u8 0, .int .u8 0, .int .u8 0, .int .u8 0, .int .u8 0, .int .u8 0, .int .u8 0, .int .u8 0, .int .u8 0, .int .u8 0, .int .u8 0, .int .u8 0, .int .u8 0, .int .u8 0, .int .u8 0, .int .u8 0, .int .u8 0, .int .u8 0, .int .u8 0, .int .u8 0, .int .u8 0, .int .u8 0, .int .u8 0, .int .u8 0, .int .u8 0, .int .u8 0] := rfl

/-- the first 64 bytes, noughts behind them -/
def front (l : List Int) : List Int := l.take 64 ++ List.replicate (64 - l.length) 0

theorem front_length (l : List Int) : (front l).length = 64 := by simp [front]; omega
theorem front_byte {l : List Int} (h : ∀ c ∈ l, Byte c) : ∀ c ∈ front l, Byte c := by
  intro c hc
  rcases List.mem_append.1 hc with h1 | h1
  · exact h c (List.mem_of_mem_take h1)
  · rw [List.eq_of_mem_replicate h1]; exact ⟨by omega, by omega⟩
theorem front_splice (l : List Int) : splice blanks 0 (bts (l.take 64)) = bts (front l) := by
  unfold splice front blanks
  simp only [List.take_zero, List.nil_append, Nat.zero_add, bts_length, bts_append, List.drop_replicate, List.length_take]
  congr 1
  simp only [bts, List.map_replicate]
  congr 1
  omega
theorem front_blk {l : List Int} (h : ∀ c ∈ l, Byte c) : Blk (bts (front l)).toArray (front l) := ⟨by simp, front_length l, front_byte h⟩
theorem bts_all (l : List Int) : (bts l).toArray.all (·.oneCell') = true := by
  rw [Array.all_eq_true_iff_forall_mem]
  intro v hv
  exact bts_one l v (by simpa using hv)

set_option maxRecDepth 100000 in
set_option maxHeartbeats 4000000 in
theorem cut_any (a0 : Option Addr) (len0 cap0 : Nat) (z0 : List Int) (w : World) (hr : Reads w a0 len0 z0) :
    Calls Tryd.prog 8 #[.slice a0 len0 cap0] w fun e w' => e = .returned (.agg (bts (front z0)).toArray) ∧ Below w.heap.size w w' := by
  obtain ⟨X, hX⟩ : ∃ X, X = w.alloc (.cells blanks.toArray 36) := ⟨_, rfl⟩
  have HD : Hid (X.heap[w.heap.size]? = some (.cells blanks.toArray 36 (0, 0))) := by rw [hX]; exact heap_alloc_new w _
  have HL : Hid (Below w.heap.size w X) := by rw [hX]; exact (Below.refl _ _).alloc (Nat.le_refl _) _
  have HR : Hid (Reads X a0 len0 z0) := hr.below HL.out
  have HN : Hid ((bts (z0.take 64)).length = Nat.min len0 64) := by show _ = _; rw [bts_length, List.length_take, hr.1]; exact Nat.min_comm _ _
  have HPS : Hid (0 < (bts (z0.take 64)).length → some (⟨w.heap.size, 0, none⟩ : Addr) = some ⟨w.heap.size, 0, none⟩ ∧ ∃ ad, a0 = some ad ∧ ∀ j v, (bts (z0.take 64))[j]? = some v → X.cell? (ad.add j) = some v) := by
    intro hp
    refine ⟨rfl, ?_⟩
    have hl := HN.out
    obtain ⟨ad, h1, h2⟩ := HR.out.2 (by have : Nat.min len0 64 ≤ len0 := Nat.min_le_left _ _; omega)
    refine ⟨ad, h1, fun j v hj => h2 j v ?_⟩
    have hjl := (List.getElem?_eq_some_iff.1 hj).1
    rw [bts_length, List.length_take] at hjl
    have e : bts (z0.take 64) = (bts z0).take 64 := by simp [bts, List.map_take]
    rw [e, List.getElem?_take, if_pos (by omega)] at hj
    exact hj
  have HX := Lib.hid hX
  clear hX hr
  obtain ⟨i0, hi, hz0, hz1, hz2⟩ := info_parts Tryd.infoByte
  go_enter Tryd.func8, Tryd.ntmps8
  go_upto_region 1 with (fail)
  rw [← blanks_eq, ← HX.out]
  go_upto_region 2 with (refine wpList_copy_splice rfl (.tmp 3) (.tmp 4) 25 25 rfl 5 Tryd.underlying25 Tryd.sizeByte _ _ 64 64 len0 cap0 rfl rfl w.heap.size 0 blanks 36 HD.out (bts (z0.take 64)) HN.out HPS.out (by rw [HN.out]; show 0 + Nat.min len0 64 ≤ 64; have : Nat.min len0 64 ≤ 64 := Nat.min_le_right _ _; omega) (bts_one _) w.heap.size w HL.out (Nat.le_refl _) ?_; intro w3 HG3 hb3)
  rw [front_splice] at HG3
  have HS : Hid ((Tryd.prog.info? 36).map (·.size) = some (bts (front z0)).toArray.size) := by rw [List.size_toArray, bts_length, front_length]; exact info_k
  have HB3 := Lib.hid hb3
  clear hb3
  go_wp2_with (first
    | (refine wpList_load_row rfl 36 (.tmp 2) rfl w.heap.size rfl 36 (bts (front z0)).toArray (0, 0) _ HG3.out und_k rfl HS.out ?_)
    | (refine wpList_store_row rfl 36 (.tmp 2) (.tmp 6) rfl w.heap.size _ rfl rfl 36 _ HG3.out HS.out rfl (bts_all _) ?_))
  have hrow := setRow_heap w3 w.heap.size _ (bts (front z0)).toArray _ _ HG3.out
  exact bodyPost_ret (v := .agg (bts (front z0)).toArray) (results_cell_row (P := Tryd.prog) rfl _ _ w.heap.size 36 _ (0, 0) _ rfl hrow und_k rfl HS.out) rfl ⟨rfl, below_setRow HB3.out (Nat.le_refl _) _⟩
end Go.Proofs.YtlamjdpifhpofaaDoor
