/- A number's four bytes behind what a slice holds. -/
import Derived.Test.YtgggecpnmliolaaDoorNumb
namespace Go.Proofs.YtgggecpnmliolaaDoor
open Go.RowKit Frm
set_option linter.unusedVariables false
set_option linter.unusedSimpArgs false

theorem four_eq {N : Nat} (h : N < 4294967296) : Frm.four N = [(N : Int) % 256, (N : Int) / 256 % 256, (N : Int) / 65536 % 256, (N : Int) / 16777216] := by
  simp [Frm.four]
  omega

set_option maxRecDepth 100000 in
set_option maxHeartbeats 4000000 in
theorem four_any (B : Nat) (v : Value) (n : Nat) (xs : List Int) (N : Nat) (w : World) (hown : w.ownsRow B 5 1 v n (bts xs)) (hB : B ≤ w.heap.size) (hn : n ≤ 9000000) (hN : N < 4294967296) :
    Calls Tryd.prog 61 #[v, .int .u32 (N : Int)] w fun e w' =>
      ∃ v', e = .returned v' ∧ w'.ownsRow B 5 1 v' (n + 4) (bts (xs ++ Frm.four N)) ∧ Below B w w' := by
  obtain ⟨i0, hi, hz0, hz1, hz2⟩ := info_parts Tryd.infoByte
  have HO0 := Lib.hid hown
  clear hown
  go_enter Tryd.func61, Tryd.ntmps61
  go_wp2_with fail
  go_loopw [0, 6] (fun x y X => ∃ k : Nat, k ≤ 4 ∧ y = .int .i64 (k : Int) ∧ Hid (X.ownsRow B 5 1 x (n + k) (bts (xs ++ ([(N : Int) % 256, (N : Int) / 256 % 256, (N : Int) / 65536 % 256, (N : Int) / 16777216]).take k))) ∧ Hid (Below B w X)) (fun _ y _ => (4 - intOf y).toNat)
  case atStart => exact ⟨0, by omega, rfl, by simpa using HO0, Below.refl _ _⟩
  case round =>
    clear HO0
    obtain ⟨k, hk, rfl, HO, HL⟩ := hrel
    by_cases hlt : k < 4
    · have hkk : k = 0 ∨ k = 1 ∨ k = 2 ∨ k = 3 := by omega
      rcases hkk with rfl | rfl | rfl | rfl
      · go_wp2_with (at_builtin; go_must (refine wpList_append_own _ rfl _ _ 30 rfl B 5 i0 (.int .u8 0) 1 1 Tryd.underlying30 hi hz0 hz1 hz2 rfl (by decide) _ _ _ rfl (HO.out.alloc _) ⟨wr.heap.size, 0, none⟩ 1 1 (bts [(N : Int) % 256]) rfl rfl ?d1 ?d2 ?d3 ?d4 ?d5 ?_))
        case d1 => first | exact one_new wr _ | exact one_new' _
        case d2 => exact bts_one _
        case d3 => unfold maxLen; omega
        case d4 => omega
        case d5 => first | omega | (have := HL.out.size; simp; omega)
        intro v' w1 hown' hgrow _
        have hb1 := (HL.out.alloc (by have := HL.out.size; omega) (.cells #[Value.int .u8 ((N : Int) % 256)] 5)).grown hgrow (by have := HL.out.size; simp; omega) (fun k hk => (HO.out.lt k hk).1)
        have HO1 := Lib.hid hown'
        have HL1 := Lib.hid hb1
        clear hown' hb1 hgrow
        go_wp2_with fail
        try go_roundw
        case rel => exact ⟨1, by omega, by go_num, by have h := HO1.out; rw [← bts_append] at h; first | exact h | (rw [List.append_assoc] at h; exact h), HL1⟩
        case measure => simp [intOf]
      · go_wp2_with (at_builtin; go_must (refine wpList_append_own _ rfl _ _ 30 rfl B 5 i0 (.int .u8 0) 1 1 Tryd.underlying30 hi hz0 hz1 hz2 rfl (by decide) _ _ _ rfl (HO.out.alloc _) ⟨wr.heap.size, 0, none⟩ 1 1 (bts [(N : Int) / 256 % 256]) rfl rfl ?d1 ?d2 ?d3 ?d4 ?d5 ?_))
        case d1 => first | exact one_new wr _ | exact one_new' _
        case d2 => exact bts_one _
        case d3 => unfold maxLen; omega
        case d4 => omega
        case d5 => first | omega | (have := HL.out.size; simp; omega)
        intro v' w1 hown' hgrow _
        have hb1 := (HL.out.alloc (by have := HL.out.size; omega) (.cells #[Value.int .u8 ((N : Int) / 256 % 256)] 5)).grown hgrow (by have := HL.out.size; simp; omega) (fun k hk => (HO.out.lt k hk).1)
        have HO1 := Lib.hid hown'
        have HL1 := Lib.hid hb1
        clear hown' hb1 hgrow
        go_wp2_with fail
        try go_roundw
        case rel => exact ⟨2, by omega, by go_num, by have h := HO1.out; rw [← bts_append] at h; first | exact h | (rw [List.append_assoc] at h; exact h), HL1⟩
        case measure => simp [intOf]
      · go_wp2_with (at_builtin; go_must (refine wpList_append_own _ rfl _ _ 30 rfl B 5 i0 (.int .u8 0) 1 1 Tryd.underlying30 hi hz0 hz1 hz2 rfl (by decide) _ _ _ rfl (HO.out.alloc _) ⟨wr.heap.size, 0, none⟩ 1 1 (bts [(N : Int) / 65536 % 256]) rfl rfl ?d1 ?d2 ?d3 ?d4 ?d5 ?_))
        case d1 => first | exact one_new wr _ | exact one_new' _
        case d2 => exact bts_one _
        case d3 => unfold maxLen; omega
        case d4 => omega
        case d5 => first | omega | (have := HL.out.size; simp; omega)
        intro v' w1 hown' hgrow _
        have hb1 := (HL.out.alloc (by have := HL.out.size; omega) (.cells #[Value.int .u8 ((N : Int) / 65536 % 256)] 5)).grown hgrow (by have := HL.out.size; simp; omega) (fun k hk => (HO.out.lt k hk).1)
        have HO1 := Lib.hid hown'
        have HL1 := Lib.hid hb1
        clear hown' hb1 hgrow
        go_wp2_with fail
        try go_roundw
        case rel => exact ⟨3, by omega, by go_num, by have h := HO1.out; rw [← bts_append] at h; first | exact h | (rw [List.append_assoc] at h; exact h), HL1⟩
        case measure => simp [intOf]
      · go_wp2_with (at_builtin; go_must (refine wpList_append_own _ rfl _ _ 30 rfl B 5 i0 (.int .u8 0) 1 1 Tryd.underlying30 hi hz0 hz1 hz2 rfl (by decide) _ _ _ rfl (HO.out.alloc _) ⟨wr.heap.size, 0, none⟩ 1 1 (bts [(N : Int) / 16777216]) rfl rfl ?d1 ?d2 ?d3 ?d4 ?d5 ?_))
        case d1 => first | exact one_new wr _ | exact one_new' _
        case d2 => exact bts_one _
        case d3 => unfold maxLen; omega
        case d4 => omega
        case d5 => first | omega | (have := HL.out.size; simp; omega)
        intro v' w1 hown' hgrow _
        have hb1 := (HL.out.alloc (by have := HL.out.size; omega) (.cells #[Value.int .u8 ((N : Int) / 16777216)] 5)).grown hgrow (by have := HL.out.size; simp; omega) (fun k hk => (HO.out.lt k hk).1)
        have HO1 := Lib.hid hown'
        have HL1 := Lib.hid hb1
        clear hown' hb1 hgrow
        go_wp2_with fail
        try go_roundw
        case rel => exact ⟨4, by omega, by go_num, by have h := HO1.out; rw [← bts_append] at h; first | exact h | (rw [List.append_assoc] at h; exact h), HL1⟩
        case measure => simp [intOf]
    · have hk4 : k = 4 := by omega
      subst hk4
      go_wp2_with fail
      go_ret
      exact ⟨_, rfl, by rw [four_eq hN]; exact HO.out, HL.out⟩

end Go.Proofs.YtgggecpnmliolaaDoor
