/- The program's sum.mixed: a block more in a sum. -/
import Derived.Test.YtlamjdpifhpofaaDoorBw
namespace Go.Proofs.YtlamjdpifhpofaaDoor
open Go.RowKit Sha
set_option linter.unusedVariables false
set_option linter.unusedSimpArgs false

/-- the rounds' numbers, where the program keeps them -/
def Salts (w : World) : Prop := ∀ i, i < 64 → w.cell? ⟨1, i, none⟩ = some (.int .u32 ((kk.getD i 0).toNat : Int))

theorem Salts.keep {w w' : World} (h : Salts w) (hb : Below w.heap.size w w') : Salts w' := fun i hi => by
  rw [hb.cell (World.block_lt_of_cell? w _ (h i hi))]
  exact h i hi
theorem Salts.only {w w' : World} {r : Nat} (h : Salts w) (ho : Only r w w') (hr : 1 < r) : Salts w' := fun i hi => ho.cell (h i hi) (by show 1 ≠ r; omega)

theorem und_s : Tryd.prog.underlying 33 = some (.array 8 31) := by kernel_rfl
theorem info_s : (Tryd.prog.info? 33).map (·.size) = some 8 := by kernel_rfl
theorem und_k : Tryd.prog.underlying 36 = some (.array 64 5) := by kernel_rfl
theorem info_k : (Tryd.prog.info? 36).map (·.size) = some 64 := by kernel_rfl

theorem us8 (a b c d e f g h : W) : (us [a, b, c, d, e, f, g, h]).toArray = #[.int .u32 (a.toNat : Int), .int .u32 (b.toNat : Int), .int .u32 (c.toNat : Int), .int .u32 (d.toNat : Int), .int .u32 (e.toNat : Int), .int .u32 (f.toNat : Int), .int .u32 (g.toNat : Int), .int .u32 (h.toNat : Int)] := rfl

def noughts8' : List W := List.replicate 8 0
theorem n8_eq : (us noughts8').toArray = #[.int .u32 0, .int .u32 0, .int .u32 0, .int .u32 0, .int .u32 0, .int .u32 0, .int .u32 0, .int .u32 0] := rfl

theorem Blk.size {cs : Array Value} {B : List Int} (h : Blk cs B) : cs.size = 64 := by
  have := congrArg List.length h.cells
  rw [bts_length, h.len] at this
  simpa using this

theorem add5_val (a b c d e : W) : (((a.toNat : Int) + (b.toNat : Int) + (c.toNat : Int) + (d.toNat : Int)) % (4294967296 : Int) + (e.toNat : Int)) % (4294967296 : Int) = ((a + b + c + d + e).toNat : Int) := by
  simp only [BitVec.toNat_add]; omega

theorem index_s0 (w : World) (a b c d e f g h : Int) : (Instr.index 33 (.agg #[.int .u32 a, .int .u32 b, .int .u32 c, .int .u32 d, .int .u32 e, .int .u32 f, .int .u32 g, .int .u32 h]) (.int .i64 0)).run Tryd.prog w = .ok (.int .u32 a) w := by kernel_rfl
theorem index_s1 (w : World) (a b c d e f g h : Int) : (Instr.index 33 (.agg #[.int .u32 a, .int .u32 b, .int .u32 c, .int .u32 d, .int .u32 e, .int .u32 f, .int .u32 g, .int .u32 h]) (.int .i64 1)).run Tryd.prog w = .ok (.int .u32 b) w := by kernel_rfl
theorem index_s2 (w : World) (a b c d e f g h : Int) : (Instr.index 33 (.agg #[.int .u32 a, .int .u32 b, .int .u32 c, .int .u32 d, .int .u32 e, .int .u32 f, .int .u32 g, .int .u32 h]) (.int .i64 2)).run Tryd.prog w = .ok (.int .u32 c) w := by kernel_rfl
theorem index_s3 (w : World) (a b c d e f g h : Int) : (Instr.index 33 (.agg #[.int .u32 a, .int .u32 b, .int .u32 c, .int .u32 d, .int .u32 e, .int .u32 f, .int .u32 g, .int .u32 h]) (.int .i64 3)).run Tryd.prog w = .ok (.int .u32 d) w := by kernel_rfl
theorem index_s4 (w : World) (a b c d e f g h : Int) : (Instr.index 33 (.agg #[.int .u32 a, .int .u32 b, .int .u32 c, .int .u32 d, .int .u32 e, .int .u32 f, .int .u32 g, .int .u32 h]) (.int .i64 4)).run Tryd.prog w = .ok (.int .u32 e) w := by kernel_rfl
theorem index_s5 (w : World) (a b c d e f g h : Int) : (Instr.index 33 (.agg #[.int .u32 a, .int .u32 b, .int .u32 c, .int .u32 d, .int .u32 e, .int .u32 f, .int .u32 g, .int .u32 h]) (.int .i64 5)).run Tryd.prog w = .ok (.int .u32 f) w := by kernel_rfl
theorem index_s6 (w : World) (a b c d e f g h : Int) : (Instr.index 33 (.agg #[.int .u32 a, .int .u32 b, .int .u32 c, .int .u32 d, .int .u32 e, .int .u32 f, .int .u32 g, .int .u32 h]) (.int .i64 6)).run Tryd.prog w = .ok (.int .u32 g) w := by kernel_rfl
theorem index_s7 (w : World) (a b c d e f g h : Int) : (Instr.index 33 (.agg #[.int .u32 a, .int .u32 b, .int .u32 c, .int .u32 d, .int .u32 e, .int .u32 f, .int .u32 g, .int .u32 h]) (.int .i64 7)).run Tryd.prog w = .ok (.int .u32 h) w := by kernel_rfl

set_option maxRecDepth 100000 in
set_option maxHeartbeats 8000000 in
theorem mixed_any (s : St) (vs : Array Value) (hvs : vs = (us s.list).toArray) (cs : Array Value) (B : List Int) (hB : Blk cs B) (w : World) (hS : Salts w) (h1 : 1 < w.heap.size) :
    Calls Tryd.prog 7 #[.agg vs, .agg cs] w fun e w' => e = .returned (.agg (us (block B 0 s).list).toArray) ∧ Below w.heap.size w w' := by
  obtain ⟨X, hX⟩ : ∃ X, X = ((w.alloc (.cells vs 33)).alloc (.cells cs 36)).alloc (.cells (us noughts8').toArray 33) := ⟨_, rfl⟩
  have HR0 : Hid (Row X w.heap.size 33 s.list) := by
    have h : Row (w.alloc (.cells vs 33)) w.heap.size 33 s.list := by rw [hvs]; exact heap_alloc_new w _
    rw [hX]
    exact (h.keep ((Below.refl _ _).alloc (Nat.le_refl _) _)).keep ((Below.refl _ _).alloc (Nat.le_refl _) _)
  have HC0 : Hid (X.heap[w.heap.size + 1]? = some (.cells cs 36 (0, 0))) := by
    have h := heap_alloc_new (w.alloc (.cells vs 33)) (.cells cs 36)
    have e : (w.alloc (.cells vs 33)).heap.size = w.heap.size + 1 := by simp
    rw [e] at h
    rw [hX]
    exact (((Below.refl _ _).alloc (Nat.le_refl _) _ : Below ((w.alloc (.cells vs 33)).alloc (.cells cs 36)).heap.size _ _).block _ (by simp)).trans h
  have HD0 : Hid (Row X (w.heap.size + 1 + 1) 33 noughts8') := by
    have h := heap_alloc_new ((w.alloc (.cells vs 33)).alloc (.cells cs 36)) (.cells (us noughts8').toArray 33)
    have e : ((w.alloc (.cells vs 33)).alloc (.cells cs 36)).heap.size = w.heap.size + 1 + 1 := by simp
    rw [← hX, e] at h
    exact h
  have HL0 : Hid (Below w.heap.size w X) := by rw [hX]; exact (((Below.refl _ _).alloc (Nat.le_refl _) _).alloc (by simp) _).alloc (by simp; omega) _
  have HX := Lib.hid hX
  have HBY := Lib.hid hB
  have HS0 : Hid (Salts X) := hS.keep HL0.out
  have H1 := Lib.hid h1
  clear hX hB hS h1 hvs
  obtain ⟨a, b, c, d, e, f, g, h⟩ := s
  go_enter Tryd.func7, Tryd.ntmps7
  go_upto_region 1 with (fail)
  rw [← n8_eq, ← HX.out]
  obtain ⟨gO, hgO⟩ : ∃ g, g = w.heap.size + 1 + 1 := ⟨_, rfl⟩
  obtain ⟨gK, hgK⟩ : ∃ g, g = w.heap.size + 1 := ⟨_, rfl⟩
  obtain ⟨gS, hgS⟩ : ∃ g, g = w.heap.size := ⟨_, rfl⟩
  rw [← hgO] at HD0
  rw [← hgK] at HC0
  rw [← hgS] at HR0
  rw [← hgO, ← hgK, ← hgS]
  have HG : Hid (1 < gS ∧ gS < gK ∧ gK < gO ∧ gS = w.heap.size) := ⟨by rw [hgS]; exact H1.out, by omega, by omega, hgS⟩
  clear hgO hgK hgS H1 HX
  have hc0 : X.cell? ⟨gS, 0, none⟩ = some (.int .u32 (a.toNat : Int)) := HR0.out.at (i := 0) (show 0 < 8 by omega)
  have hc1 : X.cell? ⟨gS, 1, none⟩ = some (.int .u32 (b.toNat : Int)) := HR0.out.at (i := 1) (show 1 < 8 by omega)
  have hc2 : X.cell? ⟨gS, 2, none⟩ = some (.int .u32 (c.toNat : Int)) := HR0.out.at (i := 2) (show 2 < 8 by omega)
  have hc3 : X.cell? ⟨gS, 3, none⟩ = some (.int .u32 (d.toNat : Int)) := HR0.out.at (i := 3) (show 3 < 8 by omega)
  have hc4 : X.cell? ⟨gS, 4, none⟩ = some (.int .u32 (e.toNat : Int)) := HR0.out.at (i := 4) (show 4 < 8 by omega)
  have hc5 : X.cell? ⟨gS, 5, none⟩ = some (.int .u32 (f.toNat : Int)) := HR0.out.at (i := 5) (show 5 < 8 by omega)
  have hc6 : X.cell? ⟨gS, 6, none⟩ = some (.int .u32 (g.toNat : Int)) := HR0.out.at (i := 6) (show 6 < 8 by omega)
  have hc7 : X.cell? ⟨gS, 7, none⟩ = some (.int .u32 (h.toNat : Int)) := HR0.out.at (i := 7) (show 7 < 8 by omega)
  go_quiet (fail)
  clear hc0 hc1 hc2 hc3 hc4 hc5 hc6 hc7
  have HR1 : Hid (Row (X.drewN nq) gS 33 [a, b, c, d, e, f, g, h]) := HR0.out
  have HC1 : Hid ((X.drewN nq).heap[gK]? = some (.cells cs 36 (0, 0))) := HC0.out
  have HD1 : Hid (Row (X.drewN nq) gO 33 noughts8') := HD0.out
  have HL1 : Hid (Below w.heap.size w (X.drewN nq)) := below_drewN HL0.out nq
  have HS1 : Hid (Salts (X.drewN nq)) := HS0.out
  clear HR0 HC0 HD0 HL0 HS0
  generalize X.drewN nq = X1 at *
  clear nq X
  go_wp2_with (first
    | (refine wpList_load_row rfl 36 (.tmp 3) rfl gK rfl 36 cs (0, 0) _ HC1.out und_k rfl (by rw [HBY.out.size]; exact info_k) ?_))
  refine (bwords_any cs B HBY.out X1).mono ?_
  rintro _ X2 ⟨rfl, hb2⟩
  have HR2 : Hid (Row X2 gS 33 [a, b, c, d, e, f, g, h]) := HR1.out.keep hb2
  have HD2 : Hid (Row X2 gO 33 noughts8') := HD1.out.keep hb2
  have HL2 : Hid (Below w.heap.size w X2) := HL1.out.trans (hb2.mono HL1.out.size)
  have HS2 : Hid (Salts X2) := HS1.out.keep hb2
  have HA2 : Hid ((X2.alloc (.cells (us noughts64').toArray 42)).heap[X2.heap.size]? = some (.cells (us noughts64').toArray 42 (0, 0))) := heap_alloc_new X2 _
  obtain ⟨S, hSS⟩ : ∃ S, S = sched B 0 64 := ⟨_, rfl⟩
  have hSl : S.length = 64 := by rw [hSS, sched_length]
  have HIN : Hid ((Tryd.prog.info? 42).map (·.size) = some S.length) := by rw [hSl]; exact info_u64
  have HZ : Hid ((us noughts64').toArray.size = S.length) := by rw [hSl, List.size_toArray, us_length]; rfl
  rw [← hSS]
  have HSS := Lib.hid hSS
  have HSL := Lib.hid hSl
  clear hb2 HR1 HC1 HD1 HL1 HS1 hSS hSl
  go_upto_region 3 with (refine wpList_store_us rfl 42 (.tmp 13) (.tmp 36) rfl X2.heap.size S rfl rfl HIN.out _ HA2.out HZ.out ?_; intro X3 hw3 ho3)
  have hb3 : Below X2.heap.size X2 X3 := ((Below.refl _ _).alloc (Nat.le_refl _) (.cells (us noughts64').toArray 42)).trans (ho3.below (Nat.le_refl _) (by simp))
  have HR3 : Hid (Row X3 gS 33 [a, b, c, d, e, f, g, h]) := HR2.out.keep hb3
  have HD3 : Hid (Row X3 gO 33 noughts8') := HD2.out.keep hb3
  have HL3 : Hid (Below w.heap.size w X3) := HL2.out.trans (hb3.mono HL2.out.size)
  have HS3 : Hid (Salts X3) := HS2.out.keep hb3
  have HW3 := Lib.hid hw3
  have HGW : Hid (gO < X2.heap.size) := HD2.out.lt
  clear hb3 hw3 ho3 HR2 HD2 HL2 HS2 HA2 HZ
  obtain ⟨gW, hgW⟩ : ∃ g, g = X2.heap.size := ⟨_, rfl⟩
  rw [← hgW] at HW3 HGW ⊢
  clear hgW X2
  go_wp2_with fail
  go_loopw [5, 6, 7, 8, 9, 10, 11, 12, 37] (fun v5 v6 v7 v8 v9 v10 v11 v12 v X => ∃ (i : Nat) (r : St), i ≤ 64 ∧ v = .int .i64 (i : Int) ∧ v5 = .int .u32 (r.a.toNat : Int) ∧ v6 = .int .u32 (r.b.toNat : Int) ∧ v7 = .int .u32 (r.c.toNat : Int) ∧ v8 = .int .u32 (r.d.toNat : Int) ∧ v9 = .int .u32 (r.e.toNat : Int) ∧ v10 = .int .u32 (r.f.toNat : Int) ∧ v11 = .int .u32 (r.g.toNat : Int) ∧ v12 = .int .u32 (r.h.toNat : Int) ∧
      Hid (r = rounds ⟨a, b, c, d, e, f, g, h⟩ S i) ∧ Hid (Row X gS 33 [a, b, c, d, e, f, g, h]) ∧ Hid (Row X gO 33 noughts8') ∧ Hid (Row X gW 42 S) ∧ Hid (Salts X) ∧ Hid (Below w.heap.size w X)) (fun _ _ _ _ _ _ _ _ v _ => (64 - intOf v).toNat)
  case atStart => exact ⟨0, ⟨a, b, c, d, e, f, g, h⟩, by omega, rfl, rfl, rfl, rfl, rfl, rfl, rfl, rfl, rfl, rfl, HR3, HD3, HW3, HS3, HL3⟩
  case round =>
    clear HR3 HD3 HW3 HS3 HL3
    obtain ⟨i, r, hi, rfl, rfl, rfl, rfl, rfl, rfl, rfl, rfl, rfl, HRR, HR, HD, HW, HS, HL⟩ := hrel
    by_cases hi64 : i < 64
    · have hc1 := HW.out.at (i := i) (by rw [HSL.out]; exact hi64)
      have hc2 := HS.out i hi64
      obtain ⟨x, hx⟩ : ∃ x, x = S.getD i 0 := ⟨_, rfl⟩
      obtain ⟨y, hy⟩ : ∃ y, y = kk.getD i 0 := ⟨_, rfl⟩
      rw [← hx] at hc1
      rw [← hy] at hc2
      have HX := Lib.hid hx
      have HY := Lib.hid hy
      clear hx hy
      obtain ⟨ra, rb, rc, rd, re, rf, rg, rh⟩ := r
      simp only []
      go_upto_region 6 with (fail)
      go_quiet (first | exact ((high1_any re _).mono fun e w' h => ⟨h.1, _, h.2.symm⟩) | exact ((choice_any re rf rg _).mono fun e w' h => ⟨h.1, _, h.2.symm⟩))
      rw [add5_val]
      clear hc1 hc2
      have HR1 : Hid (Row (wr.drewN nq) gS 33 [a, b, c, d, e, f, g, h]) := HR.out
      have HD1 : Hid (Row (wr.drewN nq) gO 33 noughts8') := HD.out
      have HW1 : Hid (Row (wr.drewN nq) gW 42 S) := HW.out
      have HS1 : Hid (Salts (wr.drewN nq)) := HS.out
      have HL1 : Hid (Below w.heap.size w (wr.drewN nq)) := below_drewN HL.out nq
      clear HR HD HW HS HL
      generalize wr.drewN nq = X4 at *
      clear wr nq
      obtain ⟨one, hone⟩ : ∃ z, z = rh + big1 re + ch re rf rg + y + x := ⟨_, rfl⟩
      rw [← hone]
      have HONE := Lib.hid hone
      clear hone
      go_wp2_with fail
      refine (high0_any ra X4).mono ?_
      rintro _ _ ⟨rfl, rfl⟩
      go_wp2_with fail
      refine (most_any ra rb rc X4).mono ?_
      rintro _ _ ⟨rfl, rfl⟩
      go_upto_region 8 with (fail)
      rw [add_val]
      obtain ⟨two, htwo⟩ : ∃ z, z = big0 ra + maj ra rb rc := ⟨_, rfl⟩
      rw [← htwo]
      have HTWO := Lib.hid htwo
      clear htwo
      go_wp2_with fail
      go_roundw
      case rel =>
        refine ⟨i + 1, rnd ⟨ra, rb, rc, rd, re, rf, rg, rh⟩ y x, by omega, by go_num, ?_, rfl, rfl, rfl, ?_, rfl, rfl, rfl, ?_, HR1, HD1, HW1, HS1, HL1⟩
        · rw [add_val]; show Value.int IntKind.u32 _ = Value.int IntKind.u32 _; rw [HONE.out, HTWO.out]; rfl
        · rw [add_val]; show Value.int IntKind.u32 _ = Value.int IntKind.u32 _; rw [HONE.out]; rfl
        · show rnd _ y x = rounds ⟨a, b, c, d, e, f, g, h⟩ S (i + 1)
          rw [HRR.out, HX.out, HY.out]
          rfl
      case measure => simp [intOf]; omega
    · have hi6 : i = 64 := by omega
      rw [hi6] at HRR
      clear hi6
      obtain ⟨ra, rb, rc, rd, re, rf, rg, rh⟩ := r
      simp only []
      go_upto_region 11 with (fail)
      go_loopw [86] (fun v X => ∃ (k : Nat), k ≤ 8 ∧ v = .int .i64 (k : Int) ∧ Hid (Row X gS 33 (([a + ra, b + rb, c + rc, d + rd, e + re, f + rf, g + rg, h + rh] : List W).take k ++ ([a, b, c, d, e, f, g, h] : List W).drop k)) ∧ Hid (Row X gO 33 noughts8') ∧ Hid (Below w.heap.size w X)) (fun v _ => (8 - intOf v).toNat)
      case atStart => exact ⟨0, by omega, rfl, HR, HD, HL⟩
      case round =>
        clear HR HD HW HS HL
        obtain ⟨k, hk, rfl, HR, HD, HL⟩ := hrel
        by_cases hk8 : k < 8
        · have hk07 : k = 0 ∨ k = 1 ∨ k = 2 ∨ k = 3 ∨ k = 4 ∨ k = 5 ∨ k = 6 ∨ k = 7 := by omega
          clear hk hk8
          rcases hk07 with rfl | rfl | rfl | rfl | rfl | rfl | rfl | rfl
          · have HRk : Hid (Row wr gS 33 [a, b, c, d, e, f, g, h]) := HR
            clear HR
            have hc : wr.cell? ⟨gS, 0, none⟩ = some (.int .u32 (a.toNat : Int)) := HRk.out.at (i := 0) (show 0 < 8 by omega)
            have hf : wr.frozen? ⟨gS, 0, none⟩ = false := HRk.out.free 0
            have hix := fun w => index_s0 w (ra.toNat : Int) (rb.toNat : Int) (rc.toNat : Int) (rd.toNat : Int) (re.toNat : Int) (rf.toNat : Int) (rg.toNat : Int) (rh.toNat : Int)
            go_wp2_with fail
            rw [add_val]
            have hp := HRk.out.put 0 (a + ra)
            have HP : Hid (Row (wr.setCell ⟨gS, 0, none⟩ (.int .u32 ((a + ra).toNat : Int))) gS 33 [a + ra, b, c, d, e, f, g, h]) := hp.2
            have HPO := Lib.hid hp.1
            clear hp hc hf HRk
            generalize World.setCell _ _ _ = X3 at HP HPO ⊢
            exact ⟨⟨1, by omega, rfl, HP, HD.out.only HPO.out (by have := HG.out; omega), Below.step HL.out HPO.out (by have := HG.out; omega) (Nat.le_refl _)⟩, by simp [intOf]⟩
          · have HRk : Hid (Row wr gS 33 [a + ra, b, c, d, e, f, g, h]) := HR
            clear HR
            have hc : wr.cell? ⟨gS, 1, none⟩ = some (.int .u32 (b.toNat : Int)) := HRk.out.at (i := 1) (show 1 < 8 by omega)
            have hf : wr.frozen? ⟨gS, 1, none⟩ = false := HRk.out.free 1
            have hix := fun w => index_s1 w (ra.toNat : Int) (rb.toNat : Int) (rc.toNat : Int) (rd.toNat : Int) (re.toNat : Int) (rf.toNat : Int) (rg.toNat : Int) (rh.toNat : Int)
            go_wp2_with fail
            rw [add_val]
            have hp := HRk.out.put 1 (b + rb)
            have HP : Hid (Row (wr.setCell ⟨gS, 1, none⟩ (.int .u32 ((b + rb).toNat : Int))) gS 33 [a + ra, b + rb, c, d, e, f, g, h]) := hp.2
            have HPO := Lib.hid hp.1
            clear hp hc hf HRk
            generalize World.setCell _ _ _ = X3 at HP HPO ⊢
            exact ⟨⟨2, by omega, rfl, HP, HD.out.only HPO.out (by have := HG.out; omega), Below.step HL.out HPO.out (by have := HG.out; omega) (Nat.le_refl _)⟩, by simp [intOf]⟩
          · have HRk : Hid (Row wr gS 33 [a + ra, b + rb, c, d, e, f, g, h]) := HR
            clear HR
            have hc : wr.cell? ⟨gS, 2, none⟩ = some (.int .u32 (c.toNat : Int)) := HRk.out.at (i := 2) (show 2 < 8 by omega)
            have hf : wr.frozen? ⟨gS, 2, none⟩ = false := HRk.out.free 2
            have hix := fun w => index_s2 w (ra.toNat : Int) (rb.toNat : Int) (rc.toNat : Int) (rd.toNat : Int) (re.toNat : Int) (rf.toNat : Int) (rg.toNat : Int) (rh.toNat : Int)
            go_wp2_with fail
            rw [add_val]
            have hp := HRk.out.put 2 (c + rc)
            have HP : Hid (Row (wr.setCell ⟨gS, 2, none⟩ (.int .u32 ((c + rc).toNat : Int))) gS 33 [a + ra, b + rb, c + rc, d, e, f, g, h]) := hp.2
            have HPO := Lib.hid hp.1
            clear hp hc hf HRk
            generalize World.setCell _ _ _ = X3 at HP HPO ⊢
            exact ⟨⟨3, by omega, rfl, HP, HD.out.only HPO.out (by have := HG.out; omega), Below.step HL.out HPO.out (by have := HG.out; omega) (Nat.le_refl _)⟩, by simp [intOf]⟩
          · have HRk : Hid (Row wr gS 33 [a + ra, b + rb, c + rc, d, e, f, g, h]) := HR
            clear HR
            have hc : wr.cell? ⟨gS, 3, none⟩ = some (.int .u32 (d.toNat : Int)) := HRk.out.at (i := 3) (show 3 < 8 by omega)
            have hf : wr.frozen? ⟨gS, 3, none⟩ = false := HRk.out.free 3
            have hix := fun w => index_s3 w (ra.toNat : Int) (rb.toNat : Int) (rc.toNat : Int) (rd.toNat : Int) (re.toNat : Int) (rf.toNat : Int) (rg.toNat : Int) (rh.toNat : Int)
            go_wp2_with fail
            rw [add_val]
            have hp := HRk.out.put 3 (d + rd)
            have HP : Hid (Row (wr.setCell ⟨gS, 3, none⟩ (.int .u32 ((d + rd).toNat : Int))) gS 33 [a + ra, b + rb, c + rc, d + rd, e, f, g, h]) := hp.2
            have HPO := Lib.hid hp.1
            clear hp hc hf HRk
            generalize World.setCell _ _ _ = X3 at HP HPO ⊢
            exact ⟨⟨4, by omega, rfl, HP, HD.out.only HPO.out (by have := HG.out; omega), Below.step HL.out HPO.out (by have := HG.out; omega) (Nat.le_refl _)⟩, by simp [intOf]⟩
          · have HRk : Hid (Row wr gS 33 [a + ra, b + rb, c + rc, d + rd, e, f, g, h]) := HR
            clear HR
            have hc : wr.cell? ⟨gS, 4, none⟩ = some (.int .u32 (e.toNat : Int)) := HRk.out.at (i := 4) (show 4 < 8 by omega)
            have hf : wr.frozen? ⟨gS, 4, none⟩ = false := HRk.out.free 4
            have hix := fun w => index_s4 w (ra.toNat : Int) (rb.toNat : Int) (rc.toNat : Int) (rd.toNat : Int) (re.toNat : Int) (rf.toNat : Int) (rg.toNat : Int) (rh.toNat : Int)
            go_wp2_with fail
            rw [add_val]
            have hp := HRk.out.put 4 (e + re)
            have HP : Hid (Row (wr.setCell ⟨gS, 4, none⟩ (.int .u32 ((e + re).toNat : Int))) gS 33 [a + ra, b + rb, c + rc, d + rd, e + re, f, g, h]) := hp.2
            have HPO := Lib.hid hp.1
            clear hp hc hf HRk
            generalize World.setCell _ _ _ = X3 at HP HPO ⊢
            exact ⟨⟨5, by omega, rfl, HP, HD.out.only HPO.out (by have := HG.out; omega), Below.step HL.out HPO.out (by have := HG.out; omega) (Nat.le_refl _)⟩, by simp [intOf]⟩
          · have HRk : Hid (Row wr gS 33 [a + ra, b + rb, c + rc, d + rd, e + re, f, g, h]) := HR
            clear HR
            have hc : wr.cell? ⟨gS, 5, none⟩ = some (.int .u32 (f.toNat : Int)) := HRk.out.at (i := 5) (show 5 < 8 by omega)
            have hf : wr.frozen? ⟨gS, 5, none⟩ = false := HRk.out.free 5
            have hix := fun w => index_s5 w (ra.toNat : Int) (rb.toNat : Int) (rc.toNat : Int) (rd.toNat : Int) (re.toNat : Int) (rf.toNat : Int) (rg.toNat : Int) (rh.toNat : Int)
            go_wp2_with fail
            rw [add_val]
            have hp := HRk.out.put 5 (f + rf)
            have HP : Hid (Row (wr.setCell ⟨gS, 5, none⟩ (.int .u32 ((f + rf).toNat : Int))) gS 33 [a + ra, b + rb, c + rc, d + rd, e + re, f + rf, g, h]) := hp.2
            have HPO := Lib.hid hp.1
            clear hp hc hf HRk
            generalize World.setCell _ _ _ = X3 at HP HPO ⊢
            exact ⟨⟨6, by omega, rfl, HP, HD.out.only HPO.out (by have := HG.out; omega), Below.step HL.out HPO.out (by have := HG.out; omega) (Nat.le_refl _)⟩, by simp [intOf]⟩
          · have HRk : Hid (Row wr gS 33 [a + ra, b + rb, c + rc, d + rd, e + re, f + rf, g, h]) := HR
            clear HR
            have hc : wr.cell? ⟨gS, 6, none⟩ = some (.int .u32 (g.toNat : Int)) := HRk.out.at (i := 6) (show 6 < 8 by omega)
            have hf : wr.frozen? ⟨gS, 6, none⟩ = false := HRk.out.free 6
            have hix := fun w => index_s6 w (ra.toNat : Int) (rb.toNat : Int) (rc.toNat : Int) (rd.toNat : Int) (re.toNat : Int) (rf.toNat : Int) (rg.toNat : Int) (rh.toNat : Int)
            go_wp2_with fail
            rw [add_val]
            have hp := HRk.out.put 6 (g + rg)
            have HP : Hid (Row (wr.setCell ⟨gS, 6, none⟩ (.int .u32 ((g + rg).toNat : Int))) gS 33 [a + ra, b + rb, c + rc, d + rd, e + re, f + rf, g + rg, h]) := hp.2
            have HPO := Lib.hid hp.1
            clear hp hc hf HRk
            generalize World.setCell _ _ _ = X3 at HP HPO ⊢
            exact ⟨⟨7, by omega, rfl, HP, HD.out.only HPO.out (by have := HG.out; omega), Below.step HL.out HPO.out (by have := HG.out; omega) (Nat.le_refl _)⟩, by simp [intOf]⟩
          · have HRk : Hid (Row wr gS 33 [a + ra, b + rb, c + rc, d + rd, e + re, f + rf, g + rg, h]) := HR
            clear HR
            have hc : wr.cell? ⟨gS, 7, none⟩ = some (.int .u32 (h.toNat : Int)) := HRk.out.at (i := 7) (show 7 < 8 by omega)
            have hf : wr.frozen? ⟨gS, 7, none⟩ = false := HRk.out.free 7
            have hix := fun w => index_s7 w (ra.toNat : Int) (rb.toNat : Int) (rc.toNat : Int) (rd.toNat : Int) (re.toNat : Int) (rf.toNat : Int) (rg.toNat : Int) (rh.toNat : Int)
            go_wp2_with fail
            rw [add_val]
            have hp := HRk.out.put 7 (h + rh)
            have HP : Hid (Row (wr.setCell ⟨gS, 7, none⟩ (.int .u32 ((h + rh).toNat : Int))) gS 33 [a + ra, b + rb, c + rc, d + rd, e + re, f + rf, g + rg, h + rh]) := hp.2
            have HPO := Lib.hid hp.1
            clear hp hc hf HRk
            generalize World.setCell _ _ _ = X3 at HP HPO ⊢
            exact ⟨⟨8, by omega, rfl, HP, HD.out.only HPO.out (by have := HG.out; omega), Below.step HL.out HPO.out (by have := HG.out; omega) (Nat.le_refl _)⟩, by simp [intOf]⟩
        · obtain rfl : k = 8 := by omega
          have HR8 : Hid (Row wr gS 33 (block B 0 ⟨a, b, c, d, e, f, g, h⟩).list) := by
            have e : block B 0 ⟨a, b, c, d, e, f, g, h⟩ = addS ⟨a, b, c, d, e, f, g, h⟩ ⟨ra, rb, rc, rd, re, rf, rg, rh⟩ := by
              rw [HRR.out, HSS.out]
              rfl
            rw [e]
            exact HR
          clear HR
          obtain ⟨T, hT⟩ : ∃ T, T = (block B 0 ⟨a, b, c, d, e, f, g, h⟩).list := ⟨_, rfl⟩
          have hTl : T.length = 8 := by rw [hT]; rfl
          rw [← hT] at HR8
          have HTL := Lib.hid hTl
          have hin : (Tryd.prog.info? 33).map (·.size) = some T.length := by rw [hTl]; exact info_s
          have HIN2 := Lib.hid hin
          have HT := Lib.hid hT
          clear hT hTl hin
          have HOI : Hid (gS ≠ gO) := by have := HG.out; show gS ≠ gO; omega
          have HN8 : Hid ((us noughts8').toArray.size = T.length) := by rw [HTL.out]; rfl
          go_wp2_with (first
            | (refine wpList_load_us rfl 33 (.tmp 2) rfl gS T rfl HR8.out 8 31 und_s HIN2.out ?_)
            | (refine wpList_store_us rfl 33 (.tmp 4) (.tmp 97) rfl gO T rfl rfl HIN2.out _ HD.out HN8.out ?_; intro w1 hr ho))
          exact bodyPost_ret (v := .agg (us T).toArray) (results_cell_row (P := Tryd.prog) rfl _ _ gO 33 _ (0, 0) _ rfl hr und_s rfl (by rw [List.size_toArray, us_length]; exact HIN2.out)) rfl ⟨by rw [HT.out], Below.step HL.out ho (by have := HG.out; omega) (Nat.le_refl _)⟩
end Go.Proofs.YtlamjdpifhpofaaDoor
