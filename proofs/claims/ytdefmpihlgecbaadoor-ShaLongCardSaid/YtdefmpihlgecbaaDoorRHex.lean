/- The second saying's Hex. -/
import Derived.Test.YtdefmpihlgecbaaDoorKnown2
namespace Go.Proofs.YtdefmpihlgecbaaDoor
open Go.RowKit Sha
set_option linter.unusedVariables false
set_option linter.unusedSimpArgs false

theorem dcut0 (w : World) : (Instr.sliceAt 9 (.string { data := #[48, 49, 50, 51, 52, 53, 54, 55, 56, 57, 97, 98, 99, 100, 101, 102] }) (some (.int .u8 0)) (some (.int .u8 1)) none).run Tryd.prog w = .ok (.string (strOfNums [dig 0])) w := by kernel_rfl
theorem dcut1 (w : World) : (Instr.sliceAt 9 (.string { data := #[48, 49, 50, 51, 52, 53, 54, 55, 56, 57, 97, 98, 99, 100, 101, 102] }) (some (.int .u8 1)) (some (.int .u8 2)) none).run Tryd.prog w = .ok (.string (strOfNums [dig 1])) w := by kernel_rfl
theorem dcut2 (w : World) : (Instr.sliceAt 9 (.string { data := #[48, 49, 50, 51, 52, 53, 54, 55, 56, 57, 97, 98, 99, 100, 101, 102] }) (some (.int .u8 2)) (some (.int .u8 3)) none).run Tryd.prog w = .ok (.string (strOfNums [dig 2])) w := by kernel_rfl
theorem dcut3 (w : World) : (Instr.sliceAt 9 (.string { data := #[48, 49, 50, 51, 52, 53, 54, 55, 56, 57, 97, 98, 99, 100, 101, 102] }) (some (.int .u8 3)) (some (.int .u8 4)) none).run Tryd.prog w = .ok (.string (strOfNums [dig 3])) w := by kernel_rfl
theorem dcut4 (w : World) : (Instr.sliceAt 9 (.string { data := #[48, 49, 50, 51, 52, 53, 54, 55, 56, 57, 97, 98, 99, 100, 101, 102] }) (some (.int .u8 4)) (some (.int .u8 5)) none).run Tryd.prog w = .ok (.string (strOfNums [dig 4])) w := by kernel_rfl
theorem dcut5 (w : World) : (Instr.sliceAt 9 (.string { data := #[48, 49, 50, 51, 52, 53, 54, 55, 56, 57, 97, 98, 99, 100, 101, 102] }) (some (.int .u8 5)) (some (.int .u8 6)) none).run Tryd.prog w = .ok (.string (strOfNums [dig 5])) w := by kernel_rfl
theorem dcut6 (w : World) : (Instr.sliceAt 9 (.string { data := #[48, 49, 50, 51, 52, 53, 54, 55, 56, 57, 97, 98, 99, 100, 101, 102] }) (some (.int .u8 6)) (some (.int .u8 7)) none).run Tryd.prog w = .ok (.string (strOfNums [dig 6])) w := by kernel_rfl
theorem dcut7 (w : World) : (Instr.sliceAt 9 (.string { data := #[48, 49, 50, 51, 52, 53, 54, 55, 56, 57, 97, 98, 99, 100, 101, 102] }) (some (.int .u8 7)) (some (.int .u8 8)) none).run Tryd.prog w = .ok (.string (strOfNums [dig 7])) w := by kernel_rfl
theorem dcut8 (w : World) : (Instr.sliceAt 9 (.string { data := #[48, 49, 50, 51, 52, 53, 54, 55, 56, 57, 97, 98, 99, 100, 101, 102] }) (some (.int .u8 8)) (some (.int .u8 9)) none).run Tryd.prog w = .ok (.string (strOfNums [dig 8])) w := by kernel_rfl
theorem dcut9 (w : World) : (Instr.sliceAt 9 (.string { data := #[48, 49, 50, 51, 52, 53, 54, 55, 56, 57, 97, 98, 99, 100, 101, 102] }) (some (.int .u8 9)) (some (.int .u8 10)) none).run Tryd.prog w = .ok (.string (strOfNums [dig 9])) w := by kernel_rfl
theorem dcut10 (w : World) : (Instr.sliceAt 9 (.string { data := #[48, 49, 50, 51, 52, 53, 54, 55, 56, 57, 97, 98, 99, 100, 101, 102] }) (some (.int .u8 10)) (some (.int .u8 11)) none).run Tryd.prog w = .ok (.string (strOfNums [dig 10])) w := by kernel_rfl
theorem dcut11 (w : World) : (Instr.sliceAt 9 (.string { data := #[48, 49, 50, 51, 52, 53, 54, 55, 56, 57, 97, 98, 99, 100, 101, 102] }) (some (.int .u8 11)) (some (.int .u8 12)) none).run Tryd.prog w = .ok (.string (strOfNums [dig 11])) w := by kernel_rfl
theorem dcut12 (w : World) : (Instr.sliceAt 9 (.string { data := #[48, 49, 50, 51, 52, 53, 54, 55, 56, 57, 97, 98, 99, 100, 101, 102] }) (some (.int .u8 12)) (some (.int .u8 13)) none).run Tryd.prog w = .ok (.string (strOfNums [dig 12])) w := by kernel_rfl
theorem dcut13 (w : World) : (Instr.sliceAt 9 (.string { data := #[48, 49, 50, 51, 52, 53, 54, 55, 56, 57, 97, 98, 99, 100, 101, 102] }) (some (.int .u8 13)) (some (.int .u8 14)) none).run Tryd.prog w = .ok (.string (strOfNums [dig 13])) w := by kernel_rfl
theorem dcut14 (w : World) : (Instr.sliceAt 9 (.string { data := #[48, 49, 50, 51, 52, 53, 54, 55, 56, 57, 97, 98, 99, 100, 101, 102] }) (some (.int .u8 14)) (some (.int .u8 15)) none).run Tryd.prog w = .ok (.string (strOfNums [dig 14])) w := by kernel_rfl
theorem dcut15 (w : World) : (Instr.sliceAt 9 (.string { data := #[48, 49, 50, 51, 52, 53, 54, 55, 56, 57, 97, 98, 99, 100, 101, 102] }) (some (.int .u8 15)) (some (.int .u8 16)) none).run Tryd.prog w = .ok (.string (strOfNums [dig 15])) w := by kernel_rfl

theorem dcut (d : Int) (h0 : 0 ≤ d) (h1 : d < 16) (w : World) : (Instr.sliceAt 9 (.string { data := #[48, 49, 50, 51, 52, 53, 54, 55, 56, 57, 97, 98, 99, 100, 101, 102] }) (some (.int .u8 d)) (some (.int .u8 (d + 1))) none).run Tryd.prog w = .ok (.string (strOfNums [dig d])) w := by
  have h : d = 0 ∨ d = 1 ∨ d = 2 ∨ d = 3 ∨ d = 4 ∨ d = 5 ∨ d = 6 ∨ d = 7 ∨ d = 8 ∨ d = 9 ∨ d = 10 ∨ d = 11 ∨ d = 12 ∨ d = 13 ∨ d = 14 ∨ d = 15 := by omega
  rcases h with rfl | rfl | rfl | rfl | rfl | rfl | rfl | rfl | rfl | rfl | rfl | rfl | rfl | rfl | rfl | rfl
  · exact dcut0 w
  · exact dcut1 w
  · exact dcut2 w
  · exact dcut3 w
  · exact dcut4 w
  · exact dcut5 w
  · exact dcut6 w
  · exact dcut7 w
  · exact dcut8 w
  · exact dcut9 w
  · exact dcut10 w
  · exact dcut11 w
  · exact dcut12 w
  · exact dcut13 w
  · exact dcut14 w
  · exact dcut15 w

theorem nums_add (xs ys : List Int) : strOfNums xs ++ strOfNums ys = strOfNums (xs ++ ys) := by
  apply ByteArray.ext
  apply Array.ext'
  simp [strOfNums, ByteArray.data_append]

set_option maxRecDepth 100000 in
set_option maxHeartbeats 8000000 in
theorem rhex_any (cs : Array Value) (hs : List Int) (h : Sum cs hs) (w : World) :
    Calls Tryd.prog 15 #[.agg cs] w fun y w' => y = .returned (.string (strOfNums (hexOf hs))) ∧ Below w.heap.size w w' := by
  obtain ⟨X, hX⟩ : ∃ X, X = w.alloc (.cells cs 24) := ⟨_, rfl⟩
  have HD : Hid (X.heap[w.heap.size]? = some (.cells cs 24 (0, 0))) := by rw [hX]; exact heap_alloc_new w _
  have HL : Hid (Below w.heap.size w X) := by rw [hX]; exact (Below.refl _ _).alloc (Nat.le_refl _) _
  have HS := Lib.hid h
  have HX := Lib.hid hX
  clear hX h
  go_enter Tryd.func15, Tryd.ntmps15
  go_upto_region 1 with (fail)
  rw [← HX.out]
  go_wp2_with fail
  obtain ⟨E, hE⟩ : ∃ E : ByteArray, E = { data := #[] } := ⟨_, rfl⟩
  go_loopw [4, 5] (fun t v X => ∃ k : Nat, k ≤ 32 ∧ v = .int .i64 (k : Int) ∧ t = .string (strOfNums (hexOf (hs.take k))) ∧ Hid (X.heap[w.heap.size]? = some (.cells cs 24 (0, 0))) ∧ Hid (Below w.heap.size w X)) (fun _ v _ => (32 - intOf v).toNat)
  case atStart => exact ⟨0, by omega, rfl, rfl, HD, HL⟩
  case round =>
    clear HD HL
    obtain ⟨k, hk, rfl, rfl, HD, HL⟩ := hrel
    by_cases hk32 : k < 32
    · have hby : Byte (hs.getD k 0) := HS.out.bytes _ (by have := HS.out.len; simp [List.getD, show k < hs.length by omega])
      have hcell : wr.cell? ⟨w.heap.size, k, none⟩ = some (.int .u8 (hs.getD k 0)) := by
        simp only [World.cell?, HD.out]
        exact HS.out.at k hk32
      have hnx := hexOf_next (hs := hs) (k := k) (by rw [HS.out.len]; exact hk32)
      obtain ⟨c, hc⟩ : ∃ c, c = hs.getD k 0 := ⟨_, rfl⟩
      rw [← hc] at hcell hby hnx
      clear hc
      have hc0 := hby.1
      have hc1 := hby.2
      have hhl : 0 ≤ c / 16 ∧ c / 16 < 16 ∧ 0 ≤ c % 16 ∧ c % 16 < 16 := by omega
      have HNX := Lib.hid hnx
      have hpl : (hexOf (hs.take k)).length = 2 * k := by rw [hexOf_length, List.length_take, HS.out.len]; omega
      obtain ⟨P, hP⟩ : ∃ P, P = hexOf (hs.take k) := ⟨_, rfl⟩
      rw [← hP] at HNX hpl ⊢
      have HPL := Lib.hid hpl
      clear hpl
      have HHL := Lib.hid hhl
      clear hnx hby hP hhl
      have hgd : decide ((k : Int) < 32) = true := by simp; omega
      go_upto_region 6 with (fail)
      try simp only [hgd]
      go_quiet (fail)
      go_wp2_with fail
      obtain ⟨ch, hch⟩ : ∃ h, h = c / 16 := ⟨_, rfl⟩
      obtain ⟨cl, hcl⟩ : ∃ h, h = c % 16 := ⟨_, rfl⟩
      try rw [← hch]
      try rw [← hcl]
      rw [← hch, ← hcl] at HNX HHL
      have hd0 := HHL.out.1
      have hd1 := HHL.out.2.1
      have hd2 := HHL.out.2.2.1
      have hd3 := HHL.out.2.2.2
      have hx1 := dcut ch hd0 hd1
      have hx2 := dcut cl hd2 hd3
      clear hch hcl hcell hc0 hc1
      have hz1 : (strOfNums P).size = 2 * k := by rw [strOfNums_size, HPL.out]
      have hz2 : (strOfNums [dig ch]).size = 1 := by rw [strOfNums_size]; rfl
      have hz3 : (strOfNums P ++ strOfNums [dig ch]).size = 2 * k + 1 := by rw [nums_add, strOfNums_size, List.length_append, HPL.out]; rfl
      have hz4 : (strOfNums [dig cl]).size = 1 := by rw [strOfNums_size]; rfl
      go_quiet (fail)
      clear hz1 hz2 hz3 hz4 hx1 hx2
      go_wp2_with fail
      go_roundw
      case rel => exact ⟨k + 1, by omega, by go_num, by rw [HNX.out, nums_add, nums_add, List.append_assoc]; rfl, HD, below_drewN HL.out _⟩
      case measure => simp [intOf]; omega
    · have hk3 : k = 32 := by omega
      rw [show hs.take k = hs from by rw [hk3]; exact List.take_of_length_le (by rw [HS.out.len]; omega)]
      clear hk3
      go_wp2
      go_ret
      exact ⟨rfl, HL.out⟩
end Go.Proofs.YtdefmpihlgecbaaDoor
