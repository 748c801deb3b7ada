/- VmBad: signs that are none, and signs whose bytes lack, are refused, wherever they stand. -/
import Derived.Test.YtdbnfafafhdolaaVMade
import Derived.Laws.OwnMore
namespace Go.Proofs.Ytdbnfafafhdolaa
open Go Go.RowKit
set_option linter.unusedVariables false
set_option linter.unusedSimpArgs false

theorem came_made {w w' : World} (k : Nat) (hk : k ≤ 1000) (hg : w'.heap[w.heap.size]? = some (.cells (madeCells (Value.int IntKind.u8 0).cells k).toList.toArray 5 (0, 0))) :
    Came w' (some ⟨w.heap.size, 0, none⟩) k k (List.replicate k 0) := by
  have e : (madeCells (Value.int IntKind.u8 0).cells k).toList = bts (List.replicate k 0) := by
    rw [show (Value.int IntKind.u8 0).cells = #[Value.int IntKind.u8 0] from rfl, toList_madeCells_one]
    simp [bts]
  rw [e] at hg
  refine ⟨⟨List.length_replicate, fun hp => ⟨_, rfl, fun j v hv => ?_⟩⟩, Nat.le_refl _, by unfold maxLen; omega, (fun h => by cases h), fun c hc => by rw [List.eq_of_mem_replicate hc]; exact ⟨by omega, by omega⟩⟩
  rw [Addr.add_lit, Nat.zero_add]
  simp only [World.cell?, hg]
  simpa using hv


theorem none_new (w : World) (B : Nat) (hB : B ≤ w.heap.size) : (w.alloc (Obj.cells #[] 5)).ownsRow B 5 1 (.slice (some ⟨w.heap.size, 0, none⟩) 0 0) 0 (bts []) := own_new w B hB [] (by simp)

theorem run_long {c : List Int} (h : 64 < c.length) (arg data gas : Int) : runP c arg data gas = (0, 0, 1) := by unfold runP; rw [if_pos (.inl h)]
theorem run_much {gas : Int} (h : 200 < gas) (c : List Int) (arg data : Int) : runP c arg data gas = (0, 0, 1) := by unfold runP; rw [if_pos (.inr (.inr h))]

set_option maxRecDepth 100000 in
set_option maxHeartbeats 8000000 in
theorem lbad_any (n op lack : Int) (w : World) (hn : I64 n) (ho : I64 op) (hl : I64 lack) :
    Calls Try.prog 12 #[.int .i64 n, .int .i64 op, .int .i64 lack] w fun e w' => e = .returned (.bool true) ∧ Below w.heap.size w w' := by
  have I1 : Hid (I64 1) := ⟨by decide, by decide⟩
  have I2 : Hid (I64 2) := ⟨by decide, by decide⟩
  have I50 : Hid (I64 50) := ⟨by decide, by decide⟩
  clear hn ho hl
  obtain ⟨i0, hi, hz0, hz1, hz2⟩ := info_parts Try.infoByte
  go_enter Try.func12, Try.ntmps12
  go_wp2_with fail
  refine (known_any w).mono ?_
  rintro _ w1 ⟨rfl, hb1⟩
  have HB := Lib.hid hb1
  clear hb1
  go_wp2_with fail
  refine (within_any n 9 w1 (by omega) (by omega)).mono ?_
  rintro _ _ ⟨rfl, rfl⟩
  obtain ⟨k, hk⟩ : ∃ k : Nat, n % 9 = (k : Int) := ⟨(n % 9).toNat, by omega⟩
  have hk9 : k < 9 := by omega
  rw [hk]
  clear hk
  go_wp2_with fail
  go_loopw [7, 8] (fun b y X => ∃ i : Nat, i ≤ k ∧ y = .int .i64 (i : Int) ∧ Hid (X.ownsRow w.heap.size 5 1 b i (bts (List.replicate i 12))) ∧ Hid (Below w.heap.size w X)) (fun _ y _ => ((k : Int) - intOf y).toNat)
  case atStart => exact ⟨0, by omega, rfl, World.ownsRow_nil _ _ _ _, HB⟩
  case round =>
    clear HB
    obtain ⟨i, hi9, rfl, HO, HB⟩ := hrel
    by_cases hlt : i < k
    · have hlt' : (i : Int) < (k : Int) := by omega
      go_wp2_with (at_builtin; go_must (refine wpList_app1 rfl _ _ rfl w.heap.size _ i (List.replicate i 12) 12 wr rfl HO.out rfl rfl (by omega) HB.out.size ?_))
      intro v2 w2 ho2 hb2
      rw [rep_next] at ho2
      have HO2 := Lib.hid ho2
      have HB2 := Lib.hid (HB.out.trans hb2)
      clear ho2 hb2
      go_wp2_with fail
      try go_roundw
      case rel => exact ⟨i + 1, by omega, by go_num, HO2, HB2⟩
      case measure => simp [intOf]; omega
    · have hik : i = k := by omega
      subst hik
      obtain ⟨b3, c3, rfl, hc3⟩ := own_came HO.out (rep_byte i 12 ⟨by decide, by decide⟩)
      have HC := Lib.hid hc3
      clear hc3 hi9 hlt HO
      have h0 := none_new wr wr.heap.size (Nat.le_refl _)
      go_wp2_with (at_builtin; go_must (refine wpList_append_reads rfl _ _ 22 rfl wr.heap.size 5 i0 Try.underlying22 hi hz0 hz1 hz2 _ 0 [] rfl h0 _ i _ (List.replicate i 12) rfl (HC.out.below ((Below.refl wr.heap.size wr).alloc (Nat.le_refl _) _)).reads (fun h => by have := HC.out.nil h; exact this) (by omega) (by simp) ?_))
      intro v4 wA ho4 hg4
      have hb4 : Below wr.heap.size wr wA := ((Below.refl _ _).alloc (Nat.le_refl _) _).grown hg4 (by simp) (fun k hk => by simp [Value.ownBlock] at hk; omega)
      have HO := Lib.hid ho4
      have HW := Lib.hid hb4
      clear ho4 hg4 hb4 h0
      go_wp2_with fail
      refine (within_any op 240 wA (by omega) (by omega)).mono ?_
      rintro _ _ ⟨rfl, rfl⟩
      obtain ⟨o, hod⟩ : ∃ o : Nat, op % 240 = (o : Int) := ⟨(op % 240).toNat, by omega⟩
      have ho240 : o < 240 := by omega
      rw [hod]
      clear hod
      go_wp2_with (at_builtin; go_must (refine wpList_app1 rfl _ _ rfl wr.heap.size _ i (List.replicate i 12) (16 + (o : Int)) wA rfl HO.out rfl rfl (by omega) HW.out.size ?_))
      intro v5 wB ho5 hb5
      obtain ⟨b5, c5, rfl, hc5⟩ := own_came ho5 (fun c hc => (List.mem_append.1 hc).elim (rep_byte i 12 ⟨by decide, by decide⟩ c) (fun h => by simp only [List.mem_cons, List.not_mem_nil, or_false] at h; subst h; exact ⟨by omega, by omega⟩))
      have HC5 := Lib.hid hc5
      have HWB := Lib.hid (HW.out.trans hb5)
      clear hc5 ho5 hb5 HO HW
      go_wp2_with fail
      refine (run_any HC5.out 1 2 50 I1.out I2.out I50.out).mono ?_
      rintro _ wC ⟨rfl, hb6⟩
      have HCn := Lib.hid (HC.out.below (HWB.out.trans (hb6.mono HWB.out.size)))
      have HBn := Lib.hid (HB.out.trans ((HWB.out.trans (hb6.mono HWB.out.size)).mono HB.out.size))
      clear hb6 HC5 HWB HB HC
      have HB := HBn
      have HC := HCn
      clear HBn HCn
      have h1 := bad_one ⟨i, hk9⟩ ⟨o, ho240⟩
      have h1' : (runP (List.replicate i 12 ++ [16 + (o : Int)]) 1 2 50).2 = ((i : Int) + 1, 10) := h1
      rw [h1']
      generalize (runP (List.replicate i 12 ++ [16 + (o : Int)]) 1 2 50).1 = r1 at *
      clear h1 h1'
      have h0 := none_new wC wC.heap.size (Nat.le_refl _)
      go_wp2_with (at_builtin; go_must (refine wpList_append_reads rfl _ _ 22 rfl wC.heap.size 5 i0 Try.underlying22 hi hz0 hz1 hz2 _ 0 [] rfl h0 _ i _ (List.replicate i 12) rfl (HC.out.below ((Below.refl wC.heap.size wC).alloc (Nat.le_refl _) _)).reads (fun h => by have := HC.out.nil h; exact this) (by omega) (by simp) ?_))
      intro v4 wD ho4 hg4
      have hb4 : Below wC.heap.size wC wD := ((Below.refl _ _).alloc (Nat.le_refl _) _).grown hg4 (by simp) (fun k hk => by simp [Value.ownBlock] at hk; omega)
      have HO := Lib.hid ho4
      have HW := Lib.hid hb4
      clear ho4 hg4 hb4 h0
      go_wp2_with (at_builtin; go_must (refine wpList_app1 rfl _ _ rfl wC.heap.size _ i (List.replicate i 12) 1 wD rfl HO.out rfl rfl (by omega) HW.out.size ?_))
      intro v5 wE ho5 hb5
      have HO := Lib.hid ho5
      have HW2 := Lib.hid (HW.out.trans hb5)
      clear ho5 hb5 HW
      have HW := HW2
      clear HW2
      go_wp2_with fail
      refine (within_any lack 8 wE (by omega) (by omega)).mono ?_
      rintro _ _ ⟨rfl, rfl⟩
      obtain ⟨l, hld⟩ : ∃ l : Nat, lack % 8 = (l : Int) := ⟨(lack % 8).toNat, by omega⟩
      have hl8 : l < 8 := by omega
      rw [hld]
      clear hld
      go_wp2_with (at_builtin; go_must (refine wpList_made rfl _ _ rfl wC.heap.size _ (i + 1) _ l rfl HO.out rfl (by omega) (by omega) (by omega) HW.out.size ?_))
      intro v5 wF ho5 hb5
      obtain ⟨b5, c5, rfl, hc5⟩ := own_came ho5 (fun c hc => (List.mem_append.1 hc).elim (rep_byte i 12 ⟨by decide, by decide⟩ c) (fun h => (List.mem_cons.1 h).elim (fun h => by subst h; exact ⟨by decide, by decide⟩) (rep_byte l 0 ⟨by decide, by decide⟩ c)))
      have HC5 := Lib.hid hc5
      have HWB := Lib.hid (HW.out.trans hb5)
      clear hc5 ho5 hb5 HO HW
      go_wp2_with fail
      refine (run_any HC5.out 1 2 50 I1.out I2.out I50.out).mono ?_
      rintro _ wG ⟨rfl, hb6⟩
      have HCn := Lib.hid (HC.out.below (HWB.out.trans (hb6.mono HWB.out.size)))
      have HBn := Lib.hid (HB.out.trans ((HWB.out.trans (hb6.mono HWB.out.size)).mono HB.out.size))
      clear hb6 HC5 HWB HB HC
      have HB := HBn
      have HC := HCn
      clear HBn HCn
      have h2 := bad_two ⟨i, hk9⟩ ⟨l, hl8⟩
      have h2' : (runP (List.replicate i 12 ++ 1 :: List.replicate l 0) 1 2 50).2.2 = 8 := h2
      rw [h2']
      generalize (runP (List.replicate i 12 ++ 1 :: List.replicate l 0) 1 2 50).1 = r2 at *
      generalize (runP (List.replicate i 12 ++ 1 :: List.replicate l 0) 1 2 50).2.1 = u2 at *
      clear h2 h2'
      have h0 := none_new wG wG.heap.size (Nat.le_refl _)
      go_wp2_with (at_builtin; go_must (refine wpList_append_reads rfl _ _ 22 rfl wG.heap.size 5 i0 Try.underlying22 hi hz0 hz1 hz2 _ 0 [] rfl h0 _ i _ (List.replicate i 12) rfl (HC.out.below ((Below.refl wG.heap.size wG).alloc (Nat.le_refl _) _)).reads (fun h => by have := HC.out.nil h; exact this) (by omega) (by simp) ?_))
      intro v4 wH ho4 hg4
      have hb4 : Below wG.heap.size wG wH := ((Below.refl _ _).alloc (Nat.le_refl _) _).grown hg4 (by simp) (fun k hk => by simp [Value.ownBlock] at hk; omega)
      have HO := Lib.hid ho4
      have HW := Lib.hid hb4
      clear ho4 hg4 hb4 h0
      go_wp2_with (at_builtin; go_must (refine wpList_app1 rfl _ _ rfl wG.heap.size _ i (List.replicate i 12) 13 wH rfl HO.out rfl rfl (by omega) HW.out.size ?_))
      intro v5 wI ho5 hb5
      obtain ⟨b5, c5, rfl, hc5⟩ := own_came ho5 (fun c hc => (List.mem_append.1 hc).elim (rep_byte i 12 ⟨by decide, by decide⟩ c) (fun h => by simp only [List.mem_cons, List.not_mem_nil, or_false] at h; subst h; exact ⟨by omega, by omega⟩))
      have HC5 := Lib.hid hc5
      have HWB := Lib.hid (HW.out.trans hb5)
      clear hc5 ho5 hb5 HO HW
      go_wp2_with fail
      refine (run_any HC5.out 1 2 50 I1.out I2.out I50.out).mono ?_
      rintro _ wJ ⟨rfl, hb6⟩
      have HCn := Lib.hid (HC.out.below (HWB.out.trans (hb6.mono HWB.out.size)))
      have HBn := Lib.hid (HB.out.trans ((HWB.out.trans (hb6.mono HWB.out.size)).mono HB.out.size))
      clear hb6 HC5 HWB HB HC
      have HB := HBn
      have HC := HCn
      clear HBn HCn
      have h3 := bad_three ⟨i, hk9⟩
      have h3' : (runP (List.replicate i 12 ++ [13]) 1 2 50).2.2 = 8 := h3
      rw [h3']
      generalize (runP (List.replicate i 12 ++ [13]) 1 2 50).1 = r3 at *
      generalize (runP (List.replicate i 12 ++ [13]) 1 2 50).2.1 = u3 at *
      clear h3 h3'
      go_wp2_with fail
      refine (within_any lack 9 wJ (by omega) (by omega)).mono ?_
      rintro _ _ ⟨rfl, rfl⟩
      obtain ⟨q, hqd⟩ : ∃ q : Nat, lack % 9 = (q : Int) := ⟨(lack % 9).toNat, by omega⟩
      have hq9 : q < 9 := by omega
      rw [hqd]
      clear hqd
      go_wp2_with (at_make; refine wpList_make_any _ rfl _ _ 22 rfl 5 i0 _ Try.underlying22 hi hz0 hz1 hz2 _ _ _ _ (65 + q) (65 + q) rfl rfl (by omega) (by omega) (by omega) (by omega) ?_; intro wK hgm hsm hbm)
      have HCM := Lib.hid (came_made (65 + q) (by omega) hgm)
      refine (run_any HCM.out 1 2 50 I1.out I2.out I50.out).mono ?_
      rintro _ wL ⟨rfl, hb7⟩
      rw [run_long (by rw [List.length_replicate]; omega)]
      have HCL := Lib.hid (HC.out.below (hbm.trans (hb7.mono hbm.size)))
      have HBL := Lib.hid (HB.out.trans ((hbm.trans (hb7.mono hbm.size)).mono HB.out.size))
      clear hgm hsm hbm hb7 HCM HC HB
      go_wp2_with fail
      refine (within_any op 9 wL (by omega) (by omega)).mono ?_
      rintro _ _ ⟨rfl, rfl⟩
      have hp0 : 0 ≤ op % 9 := by omega
      have hp1 : op % 9 < 9 := by omega
      generalize op % 9 = p at *
      go_wp2_with fail
      refine (run_any HCL.out 1 2 (201 + p) I1.out I2.out ⟨by omega, by omega⟩).mono ?_
      rintro _ wM ⟨rfl, hb8⟩
      rw [run_much (by omega)]
      have HBM := Lib.hid (HBL.out.trans (hb8.mono HBL.out.size))
      clear hb8 HCL HBL
      go_wp2_with fail
      go_ret
      exact ⟨rfl, HBM.out⟩
end Go.Proofs.Ytdbnfafafhdolaa
