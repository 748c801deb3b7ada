/- The program's block.words. -/
import Derived.Test.YtlamjdpifhpofaaDoorFill
namespace Go.Proofs.YtlamjdpifhpofaaDoor
open Go.RowKit Sha
set_option linter.unusedVariables false
set_option linter.unusedSimpArgs false

theorem und_blk : Tryd.prog.underlying 36 = some (.array (Tryd.prog.arrayLen 36) (Tryd.prog.elem 36)) := by kernel_rfl
theorem len_blk : Tryd.prog.arrayLen 36 = 64 := by kernel_rfl
theorem elem_blk (w : World) : (sizeOf (Tryd.prog.elem 36)).run Tryd.prog w = .ok 1 w := by kernel_rfl

theorem push8 (x : W) {c : Int} (h : Byte c) : bits .or .u32 ((x.toNat : Int) * (256 : Int) % (4294967296 : Int)) (c % (4294967296 : Int)) = ((x <<< 8 ||| by32 c).toNat : Int) := by
  have e : c % (4294967296 : Int) = ((by32 c).toNat : Int) := by rw [← by32_val h]; have := h.1; have := h.2; omega
  have e2 : (x.toNat : Int) * (256 : Int) % (4294967296 : Int) = ((x <<< 8).toNat : Int) := shl_val x 8
  rw [e, e2, bits_or]

theorem add4_val (a b c d : W) : ((a.toNat : Int) + (b.toNat : Int) + (c.toNat : Int) + (d.toNat : Int)) % (4294967296 : Int) = ((a + b + c + d).toNat : Int) := by
  simp only [BitVec.toNat_add]; omega

theorem slice_blk (g i : Nat) (hi : i < 16) (w : World) : (Instr.sliceAt 36 (.pointer (some ⟨g, 0, none⟩)) (some (.int .i64 (4 * (i : Int)))) (some (.int .i64 (4 * (i : Int) + 4))) none).run Tryd.prog w = .ok (.slice (some ⟨g, 4 * i, none⟩) 4 (64 - 4 * i)) w := by
  have hh := run_sliceAt_array_lh (P := Tryd.prog) w 36 ⟨g, 0, none⟩ und_blk .i64 .i64 (4 * (i : Int)) (4 * (i : Int) + 4) (by omega) (by omega) (by rw [len_blk]; omega)
  rw [hh, elem_blk, len_blk]
  simp only [Result.andThen_ok, slicedAt]
  have e1 : (4 * (i : Int)).toNat = 4 * i := by omega
  have e2 : (4 * (i : Int) + 4).toNat = 4 * i + 4 := by omega
  rw [e1, e2, if_neg (by omega), Nat.mul_one, Addr.add_lit, Nat.zero_add, show 4 * i + 4 - 4 * i = 4 by omega]

set_option maxRecDepth 100000 in
set_option maxHeartbeats 4000000 in
theorem bwords_any (cs : Array Value) (B : List Int) (hB : Blk cs B) (w : World) : Calls Tryd.prog 11 #[.agg cs] w fun e w' => e = .returned (.agg (us (sched B 0 64)).toArray) ∧ Below w.heap.size w w' := by
  obtain ⟨X, hX⟩ : ∃ X, X = (w.alloc (.cells cs 36)).alloc (.cells (us noughts64').toArray 42) := ⟨_, rfl⟩
  have HR0 : Hid (Reads X (some ⟨w.heap.size, 0, none⟩) 64 B) := by rw [hX]; exact (hB.boxed w 36).below ((Below.refl _ _).alloc (Nat.le_refl _) _)
  have HW0 : Hid (Row X (w.heap.size + 1) 42 (fill [])) := by
    have h := heap_alloc_new (w.alloc (.cells cs 36)) (.cells (us noughts64').toArray 42)
    have e : (w.alloc (.cells cs 36)).heap.size = w.heap.size + 1 := by simp
    rw [← hX, e] at h
    rw [fill_nil]
    exact h
  have HL0 : Hid (Below w.heap.size w X) := by rw [hX]; exact ((Below.refl _ _).alloc (Nat.le_refl _) _).alloc (by simp) _
  have HX := Lib.hid hX
  have HBY := Lib.hid hB
  clear hX hB
  go_enter Tryd.func11, Tryd.ntmps11
  go_upto_region 1 with (fail)
  rw [← n64_eq, ← HX.out]
  obtain ⟨g1, hg1⟩ : ∃ g, g = w.heap.size := ⟨_, rfl⟩
  obtain ⟨g2, hg2⟩ : ∃ g, g = w.heap.size + 1 := ⟨_, rfl⟩
  rw [← hg1] at HR0
  rw [← hg2] at HW0
  rw [← hg2, ← hg1]
  have HG : Hid (g1 ≠ g2 ∧ g1 = w.heap.size ∧ g2 = w.heap.size + 1) := ⟨by omega, hg1, hg2⟩
  clear hg1 hg2
  go_wp2_with fail
  go_loopw [7] (fun v X => ∃ i : Nat, i ≤ 16 ∧ v = .int .i64 (i : Int) ∧ Hid (Row X g2 42 (fill (sched B 0 i))) ∧ Hid (Reads X (some ⟨g1, 0, none⟩) 64 B) ∧ Hid (Below w.heap.size w X)) (fun v _ => (16 - intOf v).toNat)
  case atStart => exact ⟨0, by omega, rfl, HW0, HR0, HL0⟩
  case round =>
    clear HW0 HR0 HL0
    obtain ⟨i, hi, rfl, HW, HR, HL⟩ := hrel
    by_cases hi16 : i < 16
    · have hsl := slice_blk g1 i hi16
      go_wp2_with fail
      clear hsl
      have hlt : (sched B 0 i).length < 64 := by rw [sched_length]; omega
      have HLT := Lib.hid hlt
      clear hlt
      go_loopw [17] (fun v X => ∃ k : Nat, k ≤ 4 ∧ v = .int .i64 (k : Int) ∧ Hid (Row X g2 42 (fill (sched B 0 i ++ [acc B (4 * i) k]))) ∧ Hid (Reads X (some ⟨g1, 0, none⟩) 64 B) ∧ Hid (Below w.heap.size w X)) (fun v _ => (4 - intOf v).toNat)
      case atStart => exact ⟨0, by omega, rfl, (by have h := HW.out; rw [fill_zero HLT.out] at h; exact h), HR, HL⟩
      case round =>
        clear HW HR HL
        obtain ⟨k, hk, rfl, HW, HR, HL⟩ := hrel
        by_cases hk4 : k < 4
        · have hc1 : wr.cell? ⟨g1, 4 * i + k, none⟩ = some (.int .u8 (B.getD (4 * i + k) 0)) := by
            obtain ⟨ad, h1, h2⟩ := HR.out.at (p := 4 * i + k) (by omega)
            obtain rfl := Option.some.inj h1
            rw [Addr.add_lit, Nat.zero_add] at h2
            exact h2
          have hc2 := HW.out.at (i := i) (by rw [fill_length (by simp [sched_length]; omega)]; omega)
          have hx : (fill (sched B 0 i ++ [acc B (4 * i) k])).getD i 0 = acc B (4 * i) k := by
            rw [fill_at (by simp [sched_length])]
            have h : (sched B 0 i ++ [acc B (4 * i) k]).getD (sched B 0 i).length 0 = acc B (4 * i) k := by simp [List.getD]
            rw [sched_length] at h
            exact h
          rw [hx] at hc2
          have hby := HBY.out.at (j := 4 * i + k) (by omega)
          have HV := Lib.hid (push8 (acc B (4 * i) k) hby)
          have hk1 : acc B (4 * i) k <<< 8 ||| by32 (B.getD (4 * i + k) 0) = acc B (4 * i) (k + 1) := rfl
          have HK1 := Lib.hid hk1
          obtain ⟨c, hc⟩ : ∃ c, c = B.getD (4 * i + k) 0 := ⟨_, rfl⟩
          rw [← hc] at hc1 HV HK1
          have hf := HW.out.free i
          clear hx hby hk1 hc
          go_wp2_with fail
          rw [HV.out, HK1.out]
          have hp := HW.out.put i (acc B (4 * i) (k + 1))
          have hs := fill_set (x := acc B (4 * i) k) (y := acc B (4 * i) (k + 1)) HLT.out
          rw [sched_length] at hs
          rw [hs] at hp
          refine ⟨⟨k + 1, by omega, by simp, hp.2, reads_only HR.out hp.1 (fun _ ad h => ?_), Below.step HL.out hp.1 (by have := HG.out; omega) (Nat.le_refl _)⟩, by simp [intOf]; omega⟩
          obtain rfl := Option.some.inj h
          exact HG.out.1
        · obtain rfl : k = 4 := by omega
          go_wp2_with fail
          have hw16 : sched B 0 i ++ [acc B (4 * i) 4] = sched B 0 (i + 1) := by
            rw [acc_four]
            show _ = sched B 0 i ++ [if i < 16 then word B (0 + 4 * i) else next (sched B 0 i) i]
            rw [if_pos hi16, Nat.zero_add]
          refine ⟨⟨i + 1, by omega, by simp, by rw [← hw16]; exact HW, HR, HL⟩, by simp [intOf]; omega⟩
    · have hi6 : i = 16 := by omega
      rw [hi6] at HW
      clear hi6
      go_wp2_with fail
      go_loopw [6] (fun v X => ∃ j : Nat, j ≤ 48 ∧ v = .int .i64 ((j : Int) + 16) ∧ Hid (Row X g2 42 (fill (sched B 0 (j + 16)))) ∧ Hid (Reads X (some ⟨g1, 0, none⟩) 64 B) ∧ Hid (Below w.heap.size w X)) (fun v _ => (64 - intOf v).toNat)
      case atStart => exact ⟨0, by omega, rfl, HW, HR, HL⟩
      case round =>
        clear HW HR HL
        obtain ⟨j, hj, rfl, HW, HR, HL⟩ := hrel
        by_cases hj48 : j < 48
        · have hlen : (fill (sched B 0 (j + 16))).length = 64 := fill_length (by rw [sched_length]; omega)
          have hc0 := HW.out.at (i := j) (by rw [hlen]; omega)
          have hc1 := HW.out.at (i := j + 1) (by rw [hlen]; omega)
          have hc2 := HW.out.at (i := j + 9) (by rw [hlen]; omega)
          have hc3 := HW.out.at (i := j + 14) (by rw [hlen]; omega)
          have hc4 := HW.out.at (i := j + 16) (by rw [hlen]; omega)
          have hf := HW.out.free (j + 16)
          obtain ⟨x0, hx0⟩ : ∃ x, x = (fill (sched B 0 (j + 16))).getD j 0 := ⟨_, rfl⟩
          obtain ⟨x1, hx1⟩ : ∃ x, x = (fill (sched B 0 (j + 16))).getD (j + 1) 0 := ⟨_, rfl⟩
          obtain ⟨x2, hx2⟩ : ∃ x, x = (fill (sched B 0 (j + 16))).getD (j + 9) 0 := ⟨_, rfl⟩
          obtain ⟨x3, hx3⟩ : ∃ x, x = (fill (sched B 0 (j + 16))).getD (j + 14) 0 := ⟨_, rfl⟩
          obtain ⟨x4, hx4⟩ : ∃ x, x = (fill (sched B 0 (j + 16))).getD (j + 16) 0 := ⟨_, rfl⟩
          rw [← hx0] at hc0
          rw [← hx1] at hc1
          rw [← hx2] at hc2
          rw [← hx3] at hc3
          rw [← hx4] at hc4
          have HX0 := Lib.hid hx0
          have HX1 := Lib.hid hx1
          have HX2 := Lib.hid hx2
          have HX3 := Lib.hid hx3
          clear hx0 hx1 hx2 hx3 hx4 hlen
          go_upto_region 13 with (fail)
          refine quiet_then 23 1 (by kernel_rfl) (by kernel_rfl) ?_
          simp only [List.take_succ_cons, List.take_zero]
          repeat (go_big_quiet_step (first | exact ((low1_any x3 _).mono fun e w' h => ⟨h.1, _, h.2.symm⟩) | exact ((low0_any x1 _).mono fun e w' h => ⟨h.1, _, h.2.symm⟩)))
          refine wpQuiet_nil ?_
          intro nq
          have hc4' : (wr.drewN nq).cell? ⟨g2, j + 16, none⟩ = some (.int .u32 (x4.toNat : Int)) := hc4
          have hf' : (wr.drewN nq).frozen? ⟨g2, j + 16, none⟩ = false := hf
          refine anyS_one 23 (by kernel_rfl) rfl (fun K hK => ?_)
          go_simp
          rw [add4_val]
          have hd : Hid (Row (wr.drewN nq) g2 42 (fill (sched B 0 (j + 16)))) := HW
          have hp := hd.out.put (j + 16) (sig1 x3 + x2 + sig0 x1 + x0)
          have HP : Hid (Row ((wr.drewN nq).setCell ⟨g2, j + 16, none⟩ (.int .u32 ((sig1 x3 + x2 + sig0 x1 + x0).toNat : Int))) g2 42 (fill (sched B 0 (j + 1 + 16)))) := by
            have hlt : (sched B 0 (j + 16)).length < 64 := by rw [sched_length]; omega
            have h := hp.2
            have e1 : (fill (sched B 0 (j + 16))).set (j + 16) (sig1 x3 + x2 + sig0 x1 + x0) = fill (sched B 0 (j + 1 + 16)) := by
              have e := fill_put (y := sig1 x3 + x2 + sig0 x1 + x0) hlt
              rw [sched_length] at e
              rw [e, show j + 1 + 16 = (j + 16) + 1 by omega]
              show _ = fill (sched B 0 (j + 16) ++ [if j + 16 < 16 then word B (0 + 4 * (j + 16)) else next (sched B 0 (j + 16)) (j + 16)])
              rw [if_neg (by omega)]
              unfold next
              rw [HX0.out, HX1.out, HX2.out, HX3.out, fill_at (by rw [sched_length]; omega), fill_at (by rw [sched_length]; omega), fill_at (by rw [sched_length]; omega), fill_at (by rw [sched_length]; omega)]
              rfl
            rw [e1] at h
            exact h
          have HPO := Lib.hid hp.1
          clear hp hd
          refine hK.out _ _ trivial ?_
          clear hK K
          generalize World.setCell _ _ _ = X3 at *
          refine anyS_done (by kernel_rfl) ?_ _
          refine NoPanic.normal ?_
          go_wp2_with fail
          go_roundw
          case rel =>
            have hw0 : Hid (Below w.heap.size w (wr.drewN nq)) := below_drewN HL.out nq
            refine ⟨j + 1, by omega, by go_num, HP, reads_only (show Reads (wr.drewN nq) _ _ _ from HR.out) HPO.out (fun _ ad h => ?_), Below.step hw0.out HPO.out (by have := HG.out; omega) (Nat.le_refl _)⟩
            obtain rfl := Option.some.inj h
            exact HG.out.1
          case measure => simp [intOf]; omega
        · obtain rfl : j = 48 := by omega
          have hfull : fill (sched B 0 (48 + 16)) = sched B 0 64 := fill_full (sched_length _ _ _)
          rw [hfull] at HW
          obtain ⟨S, hS⟩ : ∃ S, S = sched B 0 64 := ⟨_, rfl⟩
          have hSl : S.length = 64 := by rw [hS, sched_length]
          rw [← hS] at HW
          have HS := Lib.hid hS
          have hin : (Tryd.prog.info? 42).map (·.size) = some S.length := by rw [hSl]; exact info_u64
          have HIN := Lib.hid hin
          have HSL := Lib.hid hSl
          clear hS hSl hin
          go_wp2_with (first
            | (refine wpList_load_us rfl 42 (.tmp 2) rfl g2 S rfl HW.out 64 31 und_u64 HIN.out ?_)
            | (refine wpList_store_us rfl 42 (.tmp 2) (.tmp 59) rfl g2 S rfl rfl HIN.out _ HW.out (by rw [List.size_toArray, us_length]) ?_; intro w1 hr ho))
          exact bodyPost_ret (v := .agg (us S).toArray) (results_cell_row (P := Tryd.prog) rfl _ _ g2 42 _ (0, 0) _ rfl hr und_u64 rfl (by rw [List.size_toArray, us_length]; exact HIN.out)) rfl ⟨by rw [HS.out], Below.step HL.out ho (by have := HG.out; omega) (Nat.le_refl _)⟩
end Go.Proofs.YtlamjdpifhpofaaDoor
