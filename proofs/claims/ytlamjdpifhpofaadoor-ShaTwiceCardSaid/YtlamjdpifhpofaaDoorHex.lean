/- The program's Hex: digits. -/
import Derived.Test.YtlamjdpifhpofaaDoorDSum
namespace Go.Proofs.YtlamjdpifhpofaaDoor
open Go.RowKit Sha
set_option linter.unusedVariables false
set_option linter.unusedSimpArgs false

/-- a digit -/
def dig (d : Int) : Int := if d < 10 then 48 + d else 87 + d
def hexOf (hs : List Int) : List Int := hs.flatMap fun c => [dig (c / 16), dig (c % 16)]

theorem hexOf_length (hs : List Int) : (hexOf hs).length = 2 * hs.length := by
  induction hs with
  | nil => rfl
  | cons c hs ih => simp only [hexOf, List.flatMap_cons, List.length_append, List.length_cons, List.length_nil] at *; omega

theorem hexOf_append (xs ys : List Int) : hexOf (xs ++ ys) = hexOf xs ++ hexOf ys := by simp [hexOf]

theorem hexOf_next {hs : List Int} {k : Nat} (hk : k < hs.length) : hexOf (hs.take (k + 1)) = hexOf (hs.take k) ++ [dig (hs.getD k 0 / 16), dig (hs.getD k 0 % 16)] := by
  rw [List.take_add_one, hexOf_append]
  simp [hexOf, hk, List.getD]

theorem dig_byte {d : Int} (h0 : 0 ≤ d) (h1 : d < 16) : Byte (dig d) := by unfold dig; split <;> exact ⟨by omega, by omega⟩

theorem dig0 (w : World) : (Instr.index 9 (.string { data := #[48, 49, 50, 51, 52, 53, 54, 55, 56, 57, 97, 98, 99, 100, 101, 102] }) (.int .u8 0)).run Tryd.prog w = .ok (.int .u8 (dig 0)) w := by kernel_rfl
theorem dig1 (w : World) : (Instr.index 9 (.string { data := #[48, 49, 50, 51, 52, 53, 54, 55, 56, 57, 97, 98, 99, 100, 101, 102] }) (.int .u8 1)).run Tryd.prog w = .ok (.int .u8 (dig 1)) w := by kernel_rfl
theorem dig2 (w : World) : (Instr.index 9 (.string { data := #[48, 49, 50, 51, 52, 53, 54, 55, 56, 57, 97, 98, 99, 100, 101, 102] }) (.int .u8 2)).run Tryd.prog w = .ok (.int .u8 (dig 2)) w := by kernel_rfl
theorem dig3 (w : World) : (Instr.index 9 (.string { data := #[48, 49, 50, 51, 52, 53, 54, 55, 56, 57, 97, 98, 99, 100, 101, 102] }) (.int .u8 3)).run Tryd.prog w = .ok (.int .u8 (dig 3)) w := by kernel_rfl
theorem dig4 (w : World) : (Instr.index 9 (.string { data := #[48, 49, 50, 51, 52, 53, 54, 55, 56, 57, 97, 98, 99, 100, 101, 102] }) (.int .u8 4)).run Tryd.prog w = .ok (.int .u8 (dig 4)) w := by kernel_rfl
theorem dig5 (w : World) : (Instr.index 9 (.string { data := #[48, 49, 50, 51, 52, 53, 54, 55, 56, 57, 97, 98, 99, 100, 101, 102] }) (.int .u8 5)).run Tryd.prog w = .ok (.int .u8 (dig 5)) w := by kernel_rfl
theorem dig6 (w : World) : (Instr.index 9 (.string { data := #[48, 49, 50, 51, 52, 53, 54, 55, 56, 57, 97, 98, 99, 100, 101, 102] }) (.int .u8 6)).run Tryd.prog w = .ok (.int .u8 (dig 6)) w := by kernel_rfl
theorem dig7 (w : World) : (Instr.index 9 (.string { data := #[48, 49, 50, 51, 52, 53, 54, 55, 56, 57, 97, 98, 99, 100, 101, 102] }) (.int .u8 7)).run Tryd.prog w = .ok (.int .u8 (dig 7)) w := by kernel_rfl
theorem dig8 (w : World) : (Instr.index 9 (.string { data := #[48, 49, 50, 51, 52, 53, 54, 55, 56, 57, 97, 98, 99, 100, 101, 102] }) (.int .u8 8)).run Tryd.prog w = .ok (.int .u8 (dig 8)) w := by kernel_rfl
theorem dig9 (w : World) : (Instr.index 9 (.string { data := #[48, 49, 50, 51, 52, 53, 54, 55, 56, 57, 97, 98, 99, 100, 101, 102] }) (.int .u8 9)).run Tryd.prog w = .ok (.int .u8 (dig 9)) w := by kernel_rfl
theorem dig10 (w : World) : (Instr.index 9 (.string { data := #[48, 49, 50, 51, 52, 53, 54, 55, 56, 57, 97, 98, 99, 100, 101, 102] }) (.int .u8 10)).run Tryd.prog w = .ok (.int .u8 (dig 10)) w := by kernel_rfl
theorem dig11 (w : World) : (Instr.index 9 (.string { data := #[48, 49, 50, 51, 52, 53, 54, 55, 56, 57, 97, 98, 99, 100, 101, 102] }) (.int .u8 11)).run Tryd.prog w = .ok (.int .u8 (dig 11)) w := by kernel_rfl
theorem dig12 (w : World) : (Instr.index 9 (.string { data := #[48, 49, 50, 51, 52, 53, 54, 55, 56, 57, 97, 98, 99, 100, 101, 102] }) (.int .u8 12)).run Tryd.prog w = .ok (.int .u8 (dig 12)) w := by kernel_rfl
theorem dig13 (w : World) : (Instr.index 9 (.string { data := #[48, 49, 50, 51, 52, 53, 54, 55, 56, 57, 97, 98, 99, 100, 101, 102] }) (.int .u8 13)).run Tryd.prog w = .ok (.int .u8 (dig 13)) w := by kernel_rfl
theorem dig14 (w : World) : (Instr.index 9 (.string { data := #[48, 49, 50, 51, 52, 53, 54, 55, 56, 57, 97, 98, 99, 100, 101, 102] }) (.int .u8 14)).run Tryd.prog w = .ok (.int .u8 (dig 14)) w := by kernel_rfl
theorem dig15 (w : World) : (Instr.index 9 (.string { data := #[48, 49, 50, 51, 52, 53, 54, 55, 56, 57, 97, 98, 99, 100, 101, 102] }) (.int .u8 15)).run Tryd.prog w = .ok (.int .u8 (dig 15)) w := by kernel_rfl

theorem digit_at (d : Int) (h0 : 0 ≤ d) (h1 : d < 16) (w : World) : (Instr.index 9 (.string { data := #[48, 49, 50, 51, 52, 53, 54, 55, 56, 57, 97, 98, 99, 100, 101, 102] }) (.int .u8 d)).run Tryd.prog w = .ok (.int .u8 (dig d)) w := by
  have h : d = 0 ∨ d = 1 ∨ d = 2 ∨ d = 3 ∨ d = 4 ∨ d = 5 ∨ d = 6 ∨ d = 7 ∨ d = 8 ∨ d = 9 ∨ d = 10 ∨ d = 11 ∨ d = 12 ∨ d = 13 ∨ d = 14 ∨ d = 15 := by omega
  rcases h with rfl | rfl | rfl | rfl | rfl | rfl | rfl | rfl | rfl | rfl | rfl | rfl | rfl | rfl | rfl | rfl 
  · exact dig0 w
  · exact dig1 w
  · exact dig2 w
  · exact dig3 w
  · exact dig4 w
  · exact dig5 w
  · exact dig6 w
  · exact dig7 w
  · exact dig8 w
  · exact dig9 w
  · exact dig10 w
  · exact dig11 w
  · exact dig12 w
  · exact dig13 w
  · exact dig14 w
  · exact dig15 w

theorem index_hash {cs : Array Value} {hs : List Int} (h : Sum cs hs) (k : Nat) (hk : k < 32) (w : World) : (Instr.index 27 (.agg cs) (.int .i64 (k : Int))).run Tryd.prog w = .ok (.int .u8 (hs.getD k 0)) w := by
  obtain ⟨n, hn, hu⟩ := array_sum
  have hs1 : (sizeOf 5).run Tryd.prog w = .ok 1 w := by kernel_rfl
  have hk2 : k < n := by omega
  simp [Instr.index, asIntOf, run_underlying hu, hk2, hs1, run_part_plain w plain_byte (h.at k hk)]

theorem and15 (c : Int) (h : Byte c) : bits .and .u8 c 15 = c % 16 := by
  obtain ⟨h0, h1⟩ := h
  rw [u8_and c 15 h0 h1 (by omega) (by omega)]
  have e : c.toNat &&& (15 : Int).toNat = c.toNat % 16 := Nat.and_two_pow_sub_one_eq_mod c.toNat 4
  rw [e]
  omega

theorem two_new (w : World) (a b : Int) : Reads (w.alloc (Obj.cells #[Value.int IntKind.u8 a, Value.int IntKind.u8 b] 5)).drew (some ⟨w.heap.size, 0, none⟩) 2 [a, b] := by
  refine ⟨rfl, fun _ => ⟨_, rfl, fun j u hj => ?_⟩⟩
  match j, hj with
  | 0, hj => simp [bts] at hj; subst hj; simp [Addr.add]
  | 1, hj => simp [bts] at hj; subst hj; simp [Addr.add]

set_option maxRecDepth 100000 in
set_option maxHeartbeats 8000000 in
theorem hex_any (cs : Array Value) (hs : List Int) (h : Sum cs hs) (w : World) :
    Calls Tryd.prog 6 #[.agg cs] w fun y w' => y = .returned (.string (strOfNums (hexOf hs))) ∧ Below w.heap.size w w' := by
  obtain ⟨i0, hi, hz0, hz1, hz2⟩ := info_parts Tryd.infoByte
  obtain ⟨X, hX⟩ : ∃ X, X = w.alloc (.cells cs 27) := ⟨_, rfl⟩
  have HD : Hid (X.heap[w.heap.size]? = some (.cells cs 27 (0, 0))) := by rw [hX]; exact heap_alloc_new w _
  have HL : Hid (Below w.heap.size w X) := by rw [hX]; exact (Below.refl _ _).alloc (Nat.le_refl _) _
  have HS := Lib.hid h
  have HX := Lib.hid hX
  obtain ⟨Z, hZ⟩ : ∃ Z, Z = (madeCells (Value.int .u8 0).cells 64).toList.toArray := ⟨_, rfl⟩
  clear hX h
  go_enter Tryd.func6, Tryd.ntmps6
  go_upto_region 1 with (fail)
  rw [← HX.out]
  go_upto_region 2 with (at_make; refine wpList_make_any _ rfl _ _ 25 rfl 5 i0 _ Tryd.underlying25 hi hz0 hz1 hz2 _ _ _ _ 0 64 rfl rfl (by omega) (by omega) (by omega) (by omega) ?_; intro w1 hg hs1 hb)
  have HO1 : Hid (w1.ownsRow X.heap.size 5 1 (.slice (some ⟨X.heap.size, 0, none⟩) 0 64) 0 (bts [])) := ⟨by simp [bts], .inr ⟨X.heap.size, 64, _, rfl, Nat.le_refl _, hg, Nat.zero_le _, by unfold maxLen; omega, by simp [madeCells, Value.cells], by simp [bts]⟩⟩
  have HD1 : Hid (w1.heap[w.heap.size]? = some (.cells cs 27 (0, 0))) := (hb.block _ (Array.getElem?_eq_some_iff.1 HD.out).1).trans HD.out
  have HB1 : Hid (Below X.heap.size X w1) := hb
  clear hg hs1 hb
  go_wp2_with (refine wpList_load_row rfl 27 (.tmp 1) rfl w.heap.size rfl 27 cs (0, 0) _ HD1.out Tryd.underlying27 rfl (sum_info HS.out) ?_)
  go_loopw [3, 8] (fun t v wr => ∃ k : Nat, k ≤ 32 ∧ v = .int .i64 (k : Int) ∧ Hid (wr.ownsRow X.heap.size 5 1 t (2 * k) (bts (hexOf (hs.take k)))) ∧ Hid (Below X.heap.size X wr)) (fun _ v _ => (32 - intOf v).toNat)
  case atStart => exact ⟨0, by omega, rfl, HO1, HB1⟩
  case round =>
    clear HO1 HB1
    obtain ⟨k, hk, rfl, HO, HB⟩ := hrel
    by_cases hk32 : k < 32
    · have hix := index_hash HS.out k hk32
      have hby : Byte (hs.getD k 0) := HS.out.bytes _ (by have := HS.out.len; simp [List.getD, show k < hs.length by omega])
      have hnx := hexOf_next (hs := hs) (k := k) (by rw [HS.out.len]; exact hk32)
      obtain ⟨c, hc⟩ : ∃ c, c = hs.getD k 0 := ⟨_, rfl⟩
      rw [← hc] at hix hby hnx
      clear hc
      obtain ⟨ch, hch⟩ : ∃ h, h = c / 16 := ⟨_, rfl⟩
      obtain ⟨cl, hcl⟩ : ∃ h, h = c % 16 := ⟨_, rfl⟩
      rw [← hch, ← hcl] at hnx
      have hhi : c / 16 = ch := hch.symm
      have hlo : bits .and .u8 c 15 = cl := by rw [and15 c hby, hcl]
      have hb1 : 0 ≤ ch ∧ ch < 16 ∧ 0 ≤ cl ∧ cl < 16 := by have := hby.1; have := hby.2; omega
      have hx1 := digit_at ch hb1.1 hb1.2.1
      have hx2 := digit_at cl hb1.2.2.1 hb1.2.2.2
      have HNX := Lib.hid hnx
      have HBY := Lib.hid hby
      have HHL := Lib.hid hb1
      have hvr := HO.out
      obtain ⟨at', cap', rfl, -⟩ := owned_val hvr
      clear hnx hch hcl hb1 hvr
      have hcb1 := hby.1
      have hcb2 := hby.2
      clear hby
      go_upto_region 5 with (fail)
      refine anyS_start (by kernel_rfl) ?_
      (refine anyS_free (i := 0) (v := ?_) rfl (by kernel_rfl) (by kernel_rfl) (by kernel_rfl) (fun _ _ _ h => h) (fun _ => by simp) (Or.inl ⟨by rfl, fun w' _ => ?_⟩) ?_; rotate_left; (· go_simp; try with_reducible rfl))
      try simp only [Act.put, List.setIfInBounds_toArray, List.set_cons_zero, List.set_cons_succ]
      (refine anyS_free (i := 1) (v := ?_) rfl (by kernel_rfl) (by kernel_rfl) (by kernel_rfl) (fun _ _ _ h => h) (fun _ => by simp) (Or.inl ⟨by rfl, fun w' _ => ?_⟩) ?_; rotate_left; (· go_simp; try with_reducible rfl))
      try simp only [Act.put, List.setIfInBounds_toArray, List.set_cons_zero, List.set_cons_succ]
      (refine anyS_free (i := 2) (v := ?_) rfl (by kernel_rfl) (by kernel_rfl) (by kernel_rfl) (fun _ _ _ h => h) (fun _ => by simp) (Or.inl ⟨by rfl, fun w' _ => ?_⟩) ?_; rotate_left; (· go_simp; try with_reducible rfl))
      try simp only [Act.put, List.setIfInBounds_toArray, List.set_cons_zero, List.set_cons_succ]
      (refine anyS_free (i := 3) (v := ?_) rfl (by kernel_rfl) (by kernel_rfl) (by kernel_rfl) (fun _ _ _ h => h) (fun _ => by simp) (Or.inl ⟨by rfl, fun w' _ => ?_⟩) ?_; rotate_left; (· go_simp; try with_reducible rfl))
      try simp only [Act.put, List.setIfInBounds_toArray, List.set_cons_zero, List.set_cons_succ]
      (refine anyS_free (i := 4) (v := ?_) rfl (by kernel_rfl) (by kernel_rfl) (by kernel_rfl) (fun _ _ _ h => h) (fun _ => by simp) (Or.inl ⟨by rfl, fun w' _ => ?_⟩) ?_; rotate_left; (· go_simp; try with_reducible rfl))
      try simp only [Act.put, List.setIfInBounds_toArray, List.set_cons_zero, List.set_cons_succ]
      (refine anyS_free (i := 5) (v := ?_) rfl (by kernel_rfl) (by kernel_rfl) (by kernel_rfl) (fun _ _ _ h => h) (fun _ => by simp) (Or.inl ⟨by rfl, fun w' _ => ?_⟩) ?_; rotate_left; (· go_simp; try with_reducible rfl))
      try simp only [Act.put, List.setIfInBounds_toArray, List.set_cons_zero, List.set_cons_succ]
      (refine anyS_free (i := 6) (v := ?_) rfl (by kernel_rfl) (by kernel_rfl) (by kernel_rfl) (fun _ _ _ h => h) (fun _ => by simp) (Or.inl ⟨by rfl, fun w' _ => ?_⟩) ?_; rotate_left; (· go_simp; try with_reducible rfl))
      try simp only [Act.put, List.setIfInBounds_toArray, List.set_cons_zero, List.set_cons_succ]
      clear hhi hlo hx1 hx2 hix
      refine anyS_one 7 (by kernel_rfl) rfl (fun K hK => ?_)
      go_simp
      obtain ⟨W7, hW7⟩ : ∃ W7, W7 = (wr.alloc (.cells #[.int .u8 (dig ch), .int .u8 (dig cl)] 5)).drew := ⟨_, rfl⟩
      rw [← hW7]
      have hb7 : Below wr.heap.size wr W7 := by rw [hW7]; exact below_drewN ((Below.refl _ _).alloc (Nat.le_refl _) _) 1
      have HO7 : Hid (W7.ownsRow X.heap.size 5 1 (.slice at' (2 * k) cap') (2 * k) (bts (hexOf (hs.take k)))) := owns_later HO.out hb7
      have HB7 : Hid (Below X.heap.size X W7) := HB.out.trans (hb7.mono HB.out.size)
      have HR7 : Hid (Reads W7 (some ⟨wr.heap.size, 0, none⟩) 2 [dig ch, dig cl]) := by rw [hW7]; exact two_new wr (dig ch) (dig cl)
      refine hK.out _ _ (by simp) ?_
      clear hK K hW7 hb7 HO HB
      try simp only [Act.put, List.setIfInBounds_toArray, List.set_cons_zero, List.set_cons_succ]
      refine anyS_one 8 (by kernel_rfl) rfl (fun K hK => ?_)
      refine step_append_reads rfl (.tmp 11) (.tmp 18) 25 rfl X.heap.size 5 i0 Tryd.underlying25 hi hz0 hz1 hz2 _ (2 * k) _ rfl HO7.out _ 2 2 [dig ch, dig cl] rfl HR7.out (by omega) HB7.out.size ?_
      intro v8 w8 ho8 hg8
      have hb8 : Below X.heap.size X w8 := HB7.out.grown hg8 HB7.out.size (fun q hq => (HO7.out.lt q hq).1)
      have HO8 : Hid (w8.ownsRow X.heap.size 5 1 v8 (2 * (k + 1)) (bts (hexOf (hs.take (k + 1))))) := by rw [HNX.out]; exact ho8
      have HB8 := Lib.hid hb8
      refine hK.out _ _ (by simp) ?_
      clear hK K ho8 hg8 hb8
      try simp only [Act.put, List.setIfInBounds_toArray, List.set_cons_zero, List.set_cons_succ]
      (refine anyS_free (i := 9) (v := ?_) rfl (by kernel_rfl) (by kernel_rfl) (by kernel_rfl) (fun _ _ _ h => h) (fun _ => by simp) (Or.inl ⟨by rfl, fun w' _ => ?_⟩) ?_; rotate_left; (· go_simp; try with_reducible rfl))
      try simp only [Act.put, List.setIfInBounds_toArray, List.set_cons_zero, List.set_cons_succ]
      refine anyS_done (by kernel_rfl) ?_ _
      refine NoPanic.normal ?_
      go_wp2_with fail
      go_roundw
      case rel => exact ⟨k + 1, by omega, by go_num, HO8, HB8⟩
      case measure => simp [intOf]; omega
    · have hk3 : k = 32 := by omega
      rw [hk3] at HO
      have hvr := HO.out
      rw [List.take_of_length_le (by rw [HS.out.len]; omega)] at hvr
      obtain ⟨at', cap', rfl, hrd⟩ := owned_val hvr
      have hcv := conv_reads hrd cap'
      clear hvr hrd HO hk3
      go_wp2
      go_ret
      exact ⟨rfl, HL.out.trans (HB.out.mono HL.out.size)⟩
end Go.Proofs.YtlamjdpifhpofaaDoor
