/- The chapter's example. -/
import Derived.Test.YtlamjdpifhpofaaDoorHex
import Derived.Lib.SlBytesConst
import Derived.Lib.Bytes
namespace Go.Proofs.YtlamjdpifhpofaaDoor
open Go.RowKit Sha
set_option linter.unusedVariables false
set_option linter.unusedSimpArgs false

theorem sum_is (z : List Int) : Sum (cur (sum z)) (sum z) := out_sum _

theorem three_new (w : World) (a b c : Int) (fr : Nat × Nat) : Reads (w.alloc (Obj.cells #[Value.int IntKind.u8 a, Value.int IntKind.u8 b, Value.int IntKind.u8 c] 5 fr)) (some ⟨w.heap.size, 0, none⟩) 3 [a, b, c] := by
  have hh : (w.alloc (Obj.cells #[Value.int IntKind.u8 a, Value.int IntKind.u8 b, Value.int IntKind.u8 c] 5 fr)).heap[w.heap.size]? = some (Obj.cells #[Value.int IntKind.u8 a, Value.int IntKind.u8 b, Value.int IntKind.u8 c] 5 fr) := by
    show (w.heap.push _)[w.heap.size]? = _
    simp
  refine ⟨rfl, fun _ => ⟨_, rfl, fun j u hj => ?_⟩⟩
  rw [Addr.add_lit, Nat.zero_add]
  simp only [World.cell?, hh]
  match j, hj with
  | 0, hj => simpa [bts] using hj
  | 1, hj => simpa [bts] using hj
  | 2, hj => simpa [bts] using hj

theorem extract_nums (xs : List Int) (n : Nat) : (strOfNums xs).extract 0 n = strOfNums (xs.take n) := by
  apply ByteArray.ext
  rw [ByteArray.data_extract]
  apply Array.ext'
  simp [strOfNums, List.map_take]

theorem abc_digits : ((strOfNums (hexOf (sum [97, 98, 99]))).extract 0 8).toList = [98, 97, 55, 56, 49, 54, 98, 102] := by
  have e : (hexOf (sum [97, 98, 99])).take 8 = hexOf ((sum [97, 98, 99]).take 4) := by
    have h := hexOf_append ((sum [97, 98, 99]).take 4) ((sum [97, 98, 99]).drop 4)
    rw [List.take_append_drop] at h
    rw [h, List.take_append_of_le_length (by rw [hexOf_length, List.length_take, (sum_is _).len]; decide), List.take_of_length_le (by rw [hexOf_length, List.length_take, (sum_is _).len]; decide)]
  rw [extract_nums, e, abc, Lib.strOfNums_toList]
  rfl

set_option maxRecDepth 100000 in
set_option maxHeartbeats 4000000 in
theorem known_any (w : World) (hlaid : Laid w) : Calls Tryd.prog 4 #[] w fun e w' => e = .returned (.bool true) ∧ Below w.heap.size w w' := by
  obtain ⟨X, hX⟩ : ∃ X, X = w.alloc (.cells #[.int .u8 97, .int .u8 98, .int .u8 99] 5 (3, 4)) := ⟨_, rfl⟩
  have HL : Hid (Below w.heap.size w X) := by rw [hX]; exact (Below.refl _ _).alloc (Nat.le_refl _) _
  have HR : Hid (Reads X (some ⟨w.heap.size, 0, none⟩) 3 [97, 98, 99]) := by rw [hX]; exact three_new w 97 98 99 _
  have HLA : Hid (Laid X) := hlaid.keep HL.out
  have HX := Lib.hid hX
  clear hX hlaid
  go_enter Tryd.func4, Tryd.ntmps4
  have hcv : (convert 25 25 (.slice (some ⟨w.heap.size, 0, none⟩) 3 3)).run Tryd.prog (w.alloc (.cells #[.int .u8 97, .int .u8 98, .int .u8 99] 5)) = .ok (.slice (some ⟨w.heap.size, 0, none⟩) 3 3) (w.alloc (.cells #[.int .u8 97, .int .u8 98, .int .u8 99] 5 (3, 4))) :=
    Lib.run_convert_bytes_const w 25 5 #[.int .u8 97, .int .u8 98, .int .u8 99] 3 3 Tryd.underlying25 Tryd.underlying5
  go_wp2_with fail
  clear hcv
  rw [← HX.out]
  refine (sum_any _ 3 3 [97, 98, 99] X HR.out (Nat.le_refl _) (fun h => by cases h) (by intro c hc; simp at hc; rcases hc with rfl | rfl | rfl <;> exact ⟨by omega, by omega⟩) (by omega) HLA.out).mono ?_
  rintro _ w2 ⟨rfl, hb2⟩
  have HL2 : Hid (Below w.heap.size w w2) := HL.out.trans (hb2.mono HL.out.size)
  clear hb2 HX HL HR HLA X
  go_wp2_with fail
  refine (hex_any _ _ (sum_is _) w2).mono ?_
  rintro _ w3 ⟨rfl, hb3⟩
  have HL3 : Hid (Below w.heap.size w w3) := HL2.out.trans (hb3.mono HL2.out.size)
  have hl : (strOfNums (hexOf (sum [97, 98, 99]))).size = 64 := by
    rw [strOfNums_size, hexOf_length, (sum_is _).len]
  obtain ⟨S, hS⟩ : ∃ S, S = strOfNums (hexOf (sum [97, 98, 99])) := ⟨_, rfl⟩
  rw [← hS] at hl ⊢
  have HS := Lib.hid hS
  clear hS hb3 HL2 w2
  go_wp2
  go_ret
  refine ⟨?_, HL3.out⟩
  rw [HS.out, abc_digits]
  rfl
end Go.Proofs.YtlamjdpifhpofaaDoor
