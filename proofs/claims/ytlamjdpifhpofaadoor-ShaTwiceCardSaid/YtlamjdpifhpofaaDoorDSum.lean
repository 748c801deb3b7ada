/- The program's Sum is the document's. -/
import Derived.Test.YtlamjdpifhpofaaDoorPadP
namespace Go.Proofs.YtlamjdpifhpofaaDoor
open Go.RowKit Sha
set_option linter.unusedVariables false
set_option linter.unusedSimpArgs false

theorem Row.range {w : World} {g : Nat} {T : TypeId} {xs : List W} (h : Row w g T xs) : w.rangeAt g 0 (us xs) := fun j v hv => by
  unfold Row at h
  simp only [World.cell?, h, Nat.zero_add]
  simpa using hv

theorem step_store_us {ops : Array Oper} {o : Oper} {a : Act} {w : World} {K : Act → World → Prop} {Q : Exit → Act → World → Prop} {E : Prop} (hgd : o.guard = none) (T : TypeId) (x y : Operand) (ho : o.op = .store T x y)
    (g : Nat) (xs : List W) (hx : a.eval x = .pointer (some ⟨g, 0, none⟩)) (hy : a.eval y = .agg (us xs).toArray) (hi : (Tryd.prog.info? T).map (·.size) = some xs.length)
    (old : Array Value) (hg : w.heap[g]? = some (.cells old T (0, 0))) (hold : old.size = xs.length)
    (h : ∀ w', Row w' g T xs → Only g w w' → K (a.put o.dst undef) w') : if Region.wanted o (yielded ops a.tmps) = true then Oper.wp Tryd.prog o a w K Q else E := by
  have hw : Region.wanted o (yielded ops a.tmps) = true := by simp [Region.wanted, hgd]
  rw [if_pos hw]
  exact wp_store_row T x y ho g _ hx hy T old hg (by rw [List.size_toArray, us_length]; exact hi) (by rw [show (us xs).toArray.size = xs.length by simp [us]]; exact hold) (us_one xs)
    (h _ (setRow_heap _ _ _ _ _ _ hg) ⟨rfl, rfl, rfl, by simp, fun k hk hne => setRow_other w g k _ (fun e => hne (by simp [e]))⟩)

theorem extract_bts (E : List Int) (i : Nat) : (bts E).toArray.extract i (i + 64) = (bts ((E.drop i).take 64)).toArray := by
  rw [List.extract_toArray, List.extract_eq_take_drop]
  simp [bts, List.map_take, List.map_drop]
theorem index_e0' (w : World) (cs : Array Value) : (Instr.index 38 (.agg cs) (.int .i64 0)).run Tryd.prog w = .ok (.agg (cs.extract 0 (0 + 64))) w := by kernel_rfl
theorem index_e1' (w : World) (cs : Array Value) : (Instr.index 38 (.agg cs) (.int .i64 1)).run Tryd.prog w = .ok (.agg (cs.extract 64 (64 + 64))) w := by kernel_rfl
theorem index_e0 (w : World) (E : List Int) : (Instr.index 38 (.agg (bts E).toArray) (.int .i64 0)).run Tryd.prog w = .ok (.agg (bts ((E.drop 0).take 64)).toArray) w := by rw [index_e0', extract_bts]
theorem index_e1 (w : World) (E : List Int) : (Instr.index 38 (.agg (bts E).toArray) (.int .i64 1)).run Tryd.prog w = .ok (.agg (bts ((E.drop 64).take 64)).toArray) w := by rw [index_e1', extract_bts]

theorem slice_from (a : Option Addr) (len cap p : Nat) (hp : p ≤ len) (n : Int) (hn : n = (p : Int)) (w : World) :
    (Instr.sliceAt 25 (.slice a len cap) (some (.int .i64 n)) none none).run Tryd.prog w = .ok (.slice (if cap = p then a else Option.map (fun x => x.add p) a) (len - p) (cap - p)) w := by
  subst hn
  have e := run_slice_l (P := Tryd.prog) (a := a) (len := len) (cap := cap) w 25 (by kernel_rfl) .i64 (p : Int) (by omega) (by omega)
  have hs : (sizeOf (Tryd.prog.elem 25)).run Tryd.prog w = .ok 1 w := by kernel_rfl
  rw [run_sliceAt_slice _ _ _ _ _ _ (by kernel_rfl), e, hs]
  simp [sliced]

/-- what the program's variables hold -/
structure Laid (w : World) : Prop where
  start : w.rangeAt 0 0 (us first.list)
  salts : Salts w
  one : 1 < w.heap.size

theorem Laid.keep {w w' : World} (h : Laid w) (hb : Below w.heap.size w w') : Laid w' := by
  refine ⟨fun j v hv => ?_, h.salts.keep hb, Nat.lt_of_lt_of_le h.one hb.size⟩
  have := h.start j v hv
  rw [hb.cell (World.block_lt_of_cell? w _ this)]
  exact this
theorem Laid.drewN {w : World} (h : Laid w) (n : Nat) : Laid (w.drewN n) := ⟨h.start, h.salts, h.one⟩

/-- the memory of a sum under way -/
structure SMem (w X : World) (g : Nat) (a : Option Addr) (n : Nat) (z : List Int) (s : St) : Prop where
  sr : Row X g 33 s.list
  out : OutRow X w.heap.size []
  rd : Reads X a n z
  salts : Salts X
  below : Below w.heap.size w X
  o : w.heap.size < g
  one : 1 < w.heap.size

section
variable {w X X' : World} {g n : Nat} {a : Option Addr} {z : List Int} {s t : St}
theorem SMem.keep (h : SMem w X g a n z s) (hb : Below X.heap.size X X') : SMem w X' g a n z s :=
  ⟨h.sr.keep hb, h.out.keep hb, h.rd.below hb, h.salts.keep hb, h.below.trans (hb.mono h.below.size), h.o, h.one⟩
theorem SMem.drewN (h : SMem w X g a n z s) (k : Nat) : SMem w (X.drewN k) g a n z s := h.keep (below_drewN (Below.refl _ _) k)
theorem SMem.put (h : SMem w X g a n z s) (hr : Row X' g 33 t.list) (ho : Only g X X') : SMem w X' g a n z t :=
  ⟨hr, h.out.only ho (Nat.ne_of_lt h.o), reads_only h.rd ho (row_apart h.sr h.rd), h.salts.only ho (Nat.lt_trans h.one h.o), Below.step h.below ho (Nat.le_of_lt h.o) (Nat.le_refl _), h.o, h.one⟩
end

set_option maxRecDepth 100000 in
set_option maxHeartbeats 16000000 in
theorem sum_any (a0 : Option Addr) (len0 cap0 : Nat) (z0 : List Int) (w : World) (hr : Reads w a0 len0 z0) (hcap : len0 ≤ cap0) (hnil : a0 = none → len0 = 0 ∧ cap0 = 0) (hby : ∀ c ∈ z0, Byte c) (hn : len0 ≤ 281474976710656) (hlaid : Laid w) :
    Calls Tryd.prog 5 #[.slice a0 len0 cap0] w fun y w' => y = .returned (.agg (cur (sum z0))) ∧ Below w.heap.size w w' := by
  obtain ⟨X, hX⟩ : ∃ X, X = w.alloc (.cells noughts.toArray 27) := ⟨_, rfl⟩
  have hbX : Below w.heap.size w X := by rw [hX]; exact (Below.refl _ _).alloc (Nat.le_refl _) _
  have HD : Hid (OutRow X w.heap.size []) := by
    have h := heap_alloc_new w (.cells noughts.toArray 27)
    rw [← hX, ← cur_nil] at h
    exact h
  have HR := Lib.hid (hr.below hbX)
  have HLA := Lib.hid (hlaid.keep hbX)
  have HL := Lib.hid hbX
  have H1 := Lib.hid hlaid.one
  have HZL := Lib.hid hr.1
  have HNIL := Lib.hid hnil
  have HBY := Lib.hid hby
  have HX := Lib.hid hX
  clear hX hr hnil hby hlaid hbX
  have HA0 : Hid ((X.alloc (.cells (us noughts8').toArray 33)).heap[X.heap.size]? = some (.cells (us noughts8').toArray 33 (0, 0))) := heap_alloc_new X _
  go_enter Tryd.func5, Tryd.ntmps5
  go_upto_region 1 with (fail)
  rw [← noughts_eq, ← HX.out]
  go_upto_region 2 with (first
    | (refine wpList_load_mid rfl 33 (.global 0) rfl 0 0 rfl (us first.list) _ HLA.out.start und_s rfl (by rw [us_length]; exact info_s) ?_)
    | (refine wpList_store_us rfl 33 (.tmp 3) (.tmp 8) rfl X.heap.size first.list rfl rfl info_s _ HA0.out rfl ?_; intro w1 hr1 ho1))
  have hgX : w.heap.size < X.heap.size := HD.out.lt
  have hb1 : Below X.heap.size X w1 := ((Below.refl _ _).alloc (Nat.le_refl _) (.cells (us noughts8').toArray 33)).trans (ho1.below (Nat.le_refl _) (by simp))
  have HM : Hid (SMem w w1 X.heap.size a0 len0 z0 first) := ⟨hr1, HD.out.keep hb1, HR.out.below hb1, HLA.out.salts.keep hb1, HL.out.trans (hb1.mono HL.out.size), hgX, H1.out⟩
  clear HD HR HLA HL H1 HX HA0 hr1 ho1 hb1 hgX
  obtain ⟨g, hg⟩ : ∃ g, g = X.heap.size := ⟨_, rfl⟩
  rw [← hg] at HM ⊢
  clear hg X
  obtain ⟨J, hJ⟩ : ∃ J, J = len0 / 64 := ⟨_, rfl⟩
  go_upto_region 3 with (fail)
  have hJJ : (len0 : Int) / 64 * 64 = 64 * (J : Int) := by omega
  rw [hJJ]
  have hJl : 64 * J ≤ len0 ∧ len0 < 64 * J + 64 := by omega
  have HJ := Lib.hid hJ
  clear hJ hJJ
  go_wp2_with fail
  go_loopw [5] (fun v X => ∃ j : Nat, j ≤ J ∧ v = .int .i64 (64 * (j : Int)) ∧ Hid (SMem w X g a0 len0 z0 (blocks (pad z0) j))) (fun v _ => (64 * (J : Int) - intOf v).toNat)
  case atStart => exact ⟨0, by omega, rfl, HM⟩
  case round =>
    clear HM
    obtain ⟨j, hj, rfl, HM⟩ := hrel
    by_cases hjJ : j < J
    · have hjl : 64 * j + 64 ≤ len0 := by omega
      have hgd : decide ((64 : Int) * (j : Int) < 64 * (J : Int)) = true := by simp; omega
      have HBK : Hid (Blk (bts (front (z0.drop (64 * j)))).toArray (front (z0.drop (64 * j)))) := front_blk (fun c hc => HBY.out c (List.mem_of_mem_drop hc))
      have hsr := slice_reads (P1 := 64 * j) (v := len0 - 64 * j) HM.out.rd HNIL.out (by omega) hcap
      have HSR : Hid (Reads wr.drew (if cap0 = 64 * j then a0 else Option.map (fun x => x.add (64 * j)) a0) (len0 - 64 * j) (z0.drop (64 * j))) := by
        have h := hsr.1
        rw [List.take_of_length_le (by rw [List.length_drop, HZL.out]; omega)] at h
        exact h
      clear hsr
      have hnx : block (front (z0.drop (64 * j))) 0 (blocks (pad z0) j) = blocks (pad z0) (j + 1) := block_whole z0 j (by rw [HZL.out, ← HJ.out]; exact hjJ) _
      obtain ⟨s, hs⟩ : ∃ s, s = blocks (pad z0) j := ⟨_, rfl⟩
      rw [← hs] at HM hnx
      have HNX := Lib.hid hnx
      clear hs hnx
      go_upto_region 6 with (fail)
      have hb0 : (0 : Int) ≤ 64 * (j : Int) := by omega
      have hb1 : (64 : Int) * (j : Int) ≤ (len0 : Int) := by omega
      have hb2 : ((64 : Int) * (j : Int)).toNat = 64 * j := by omega
      refine anyS_start (by kernel_rfl) ?_
      (refine anyS_free (i := 1) (v := ?_) rfl (by kernel_rfl) (by kernel_rfl) (by kernel_rfl) (fun _ _ _ h => h) (fun _ => by simp) (Or.inl ⟨by rfl, fun w' _ => ?_⟩) ?_; rotate_left; (· go_simp; try with_reducible rfl))
      try simp only [Act.put, List.setIfInBounds_toArray, List.set_cons_zero, List.set_cons_succ]
      (refine anyS_free (i := 2) (v := ?_) rfl (by kernel_rfl) (by kernel_rfl) (by kernel_rfl) (fun _ _ _ h => h) (fun _ => by simp) (Or.inl ⟨by rfl, fun w' _ => ?_⟩) ?_; rotate_left; (· go_simp; try with_reducible rfl))
      try simp only [Act.put, List.setIfInBounds_toArray, List.set_cons_zero, List.set_cons_succ]
      (refine anyS_free (i := 3) (v := ?_) rfl (by kernel_rfl) (by kernel_rfl) (by kernel_rfl) (fun _ _ _ h => h) (fun _ => by simp) (Or.inl ⟨by rfl, fun w' _ => ?_⟩) ?_; rotate_left; (· go_simp; try with_reducible rfl))
      try simp only [Act.put, List.setIfInBounds_toArray, List.set_cons_zero, List.set_cons_succ]
      clear hb0 hb1 hb2
      refine anyS_takeNew (fun w' => w'.rangeAt g 0 (us s.list)) [4] (i := 0) (HM.out.sr.range : (wr.drew).rangeAt g 0 (us s.list)) rfl (by kernel_rfl) (by kernel_rfl) (by kernel_rfl) (by kernel_rfl) (fun _ _ _ h => h) (fun _ _ => by simp_all) (yieldsIf_load_mid (by rfl) _ _ rfl _ _ rfl _ _ (fun _ h => h) und_s rfl (by rw [us_length]; exact info_s)) ?_
      try simp only [Act.put, List.setIfInBounds_toArray, List.set_cons_zero, List.set_cons_succ]
      refine anyS_one 4 (by kernel_rfl) rfl (fun K hK => ?_)
      go_simp
      go_at_call 8
      refine (cut_any _ _ _ (z0.drop (64 * j)) _ HSR.out).mono ?_
      rintro _ w4 ⟨rfl, hb4⟩
      have HM4 : Hid (SMem w w4 g a0 len0 z0 s) := (HM.out.drewN 1).keep hb4
      have hr4 := HM4.out.sr.range
      refine hK.out _ _ (by simpa using hr4) ?_
      clear hK K hb4 hr4
      try simp only [Act.put, List.setIfInBounds_toArray, List.set_cons_zero, List.set_cons_succ]
      refine anyS_one 5 (by kernel_rfl) rfl (fun K hK => ?_)
      go_simp
      go_at_call 7
      refine (mixed_any s _ rfl _ _ HBK.out _ HM4.out.salts (Nat.lt_of_lt_of_le HM4.out.one HM4.out.below.size)).mono ?_
      rintro _ w5 ⟨rfl, hb5⟩
      have HM5 : Hid (SMem w w5 g a0 len0 z0 s) := HM4.out.keep hb5
      rw [HNX.out]
      refine hK.out _ _ (by simp) ?_
      clear hK K hb5
      try simp only [Act.put, List.setIfInBounds_toArray, List.set_cons_zero, List.set_cons_succ]
      refine anyS_one 6 (by kernel_rfl) rfl (fun K hK => ?_)
      refine step_store_us rfl 33 (.tmp 3) (.tmp 23) rfl g (blocks (pad z0) (j + 1)).list rfl rfl info_s _ HM5.out.sr rfl ?_
      intro w6 hr6 ho6
      have HM6 : Hid (SMem w w6 g a0 len0 z0 (blocks (pad z0) (j + 1))) := HM5.out.put hr6 ho6
      refine hK.out _ _ (by simp) ?_
      clear hK K hr6 ho6
      try simp only [Act.put, List.setIfInBounds_toArray, List.set_cons_zero, List.set_cons_succ]
      refine anyS_done (by kernel_rfl) ?_ _
      refine NoPanic.normal ?_
      go_wp2_with fail
      go_roundw
      case rel => exact ⟨j + 1, by omega, by go_num, HM6⟩
      case measure => simp [intOf]; omega
    · obtain rfl : j = J := by omega
      have hJl0 := hJl.1
      have hsr := slice_reads (P1 := 64 * j) (v := len0 - 64 * j) HM.out.rd HNIL.out (by omega) hcap
      have HSR : Hid (Reads wr (if cap0 = 64 * j then a0 else Option.map (fun x => x.add (64 * j)) a0) (len0 - 64 * j) (z0.drop (64 * j))) := by
        have h := hsr.1
        rw [List.take_of_length_le (by rw [List.length_drop, HZL.out]; omega)] at h
        exact h
      have HRL : Hid ((z0.drop (64 * j)).length < 64) := by show _ < _; rw [List.length_drop, HZL.out]; omega
      have HRB : Hid (∀ c ∈ z0.drop (64 * j), Byte c) := fun c hc => HBY.out c (List.mem_of_mem_drop hc)
      clear hsr
      have hsl := slice_from a0 len0 cap0 (64 * j) hJl0 (64 * (j : Int)) (by omega)
      obtain ⟨ar, har⟩ : ∃ ar, ar = if cap0 = 64 * j then a0 else Option.map (fun x => x.add (64 * j)) a0 := ⟨_, rfl⟩
      rw [← har] at hsl HSR
      clear har
      go_wp2_with fail
      refine (closing_any _ _ _ (z0.drop (64 * j)) len0 _ HSR.out (by omega) hn).mono ?_
      rintro _ w2 ⟨rfl, hb2'⟩
      have HM2 : Hid (SMem w w2 g a0 len0 z0 (blocks (pad z0) j)) := HM.out.keep hb2'
      obtain ⟨E, hE⟩ : ∃ E, E = ends (z0.drop (64 * j)) len0 := ⟨_, rfl⟩
      have HEL : Hid (E.length = 128) := by rw [hE]; exact ends_length _ HRL.out
      rw [← hE]
      have HE := Lib.hid hE
      clear hb2' HM HSR hE hsl hj hjJ
      go_wp2_with fail
      go_loopw [30] (fun v X => ∃ k : Nat, k ≤ 2 ∧ v = .int .i64 (k : Int) ∧ Hid (SMem w X g a0 len0 z0 (if k = 0 then blocks (pad z0) j else if k = 1 then blocks (pad z0) (j + 1) else blocks (pad z0) ((pad z0).length / 64)))) (fun v _ => (2 - intOf v).toNat)
      case atStart => exact ⟨0, by omega, rfl, HM2⟩
      case round =>
        clear HM2
        obtain ⟨k, hk, rfl, HM⟩ := hrel
        have hk3 : k = 0 ∨ k = 1 ∨ k = 2 := by omega
        clear hk
        rcases hk3 with rfl | rfl | rfl
        · have HM0 : Hid (SMem w wr g a0 len0 z0 (blocks (pad z0) (j))) := HM
          clear HM
          have hix := fun w => index_e0 w E
          have HA : Hid ((wr.alloc (.cells blanks.toArray 36)).heap[wr.heap.size]? = some (.cells blanks.toArray 36 (0, 0))) := heap_alloc_new wr _
          obtain ⟨B, hB⟩ : ∃ B, B = (E.drop 0).take 64 := ⟨_, rfl⟩
          have HBK : Hid (Blk (bts B).toArray B) := by rw [hB, HE.out]; exact ends_blk (z := z0.drop (64 * j)) len0 0 HRL.out HRB.out (by omega)
          have HIB : Hid ((Tryd.prog.info? 36).map (·.size) = some (bts B).toArray.size) := by rw [HBK.out.size]; exact info_k
          have HSB : Hid (blanks.toArray.size = (bts B).toArray.size) := by rw [HBK.out.size]; rfl
          rw [← hB] at hix
          have HB := Lib.hid hB
          clear hB
          go_upto_region 10 with (refine wpList_store_row rfl 36 (.tmp 7) (.tmp 32) rfl wr.heap.size (bts B).toArray rfl rfl 36 _ HA.out HIB.out HSB.out (bts_all _) ?_)
          clear hix
          rw [← blanks_eq]
          have HRW : Hid (((wr.alloc (.cells blanks.toArray 36)).setRow wr.heap.size (bts B).toArray).heap[wr.heap.size]? = some (.cells (bts B).toArray 36 (0, 0))) := setRow_heap (wr.alloc (.cells blanks.toArray 36)) wr.heap.size _ (bts B).toArray _ _ HA.out
          have HM1 : Hid (SMem w ((wr.alloc (.cells blanks.toArray 36)).setRow wr.heap.size (bts B).toArray) g a0 len0 z0 (blocks (pad z0) (j))) := HM0.out.keep (below_setRow ((Below.refl _ _).alloc (Nat.le_refl _) _) (Nat.le_refl _) _)
          clear HA HM0 HSB
          generalize World.setRow _ _ _ = X5 at HRW HM1 ⊢
          obtain ⟨gk, hgk⟩ : ∃ g, g = wr.heap.size := ⟨_, rfl⟩
          rw [← hgk] at HRW ⊢
          clear hgk wr
          have hne : ∀ w, (binOp .neq 36 (.agg (bts B).toArray) (.agg blanks.toArray)).run Tryd.prog w = .ok (.bool true) w := fun w => by
            rw [neq_blk HBK.out zeros64_blk, decide_eq_false (by rw [HB.out, HE.out, List.drop_zero]; exact full_zero len0 HRL.out)]
            rfl
          rw [blanks_eq] at hne
          have hnx : block B 0 (blocks (pad z0) (j)) = blocks (pad z0) (j + 1) := by
            have h := block_end z0 0 (blocks (pad z0) (j))
            rw [HZL.out, ← HJ.out] at h
            rw [HB.out, HE.out]
            exact h
          obtain ⟨s, hs⟩ : ∃ s, s = blocks (pad z0) (j) := ⟨_, rfl⟩
          rw [← hs] at HM1 hnx
          have HNX := Lib.hid hnx
          clear hs hnx
          go_upto_region 11 with (refine wpList_load_row rfl 36 (.tmp 7) rfl gk rfl 36 (bts B).toArray (0, 0) _ HRW.out und_k rfl HIB.out ?_)
          clear hne
          go_wp2_with (first
            | (refine wpList_load_us rfl 33 (.tmp 3) rfl g s.list rfl HM1.out.sr 8 31 und_s info_s ?_)
            | (refine wpList_load_row rfl 36 (.tmp 7) rfl gk rfl 36 (bts B).toArray (0, 0) _ HRW.out und_k rfl HIB.out ?_))
          refine (mixed_any s _ rfl _ _ HBK.out _ HM1.out.salts (Nat.lt_of_lt_of_le HM1.out.one HM1.out.below.size)).mono ?_
          rintro _ w5 ⟨rfl, hb5⟩
          have HM5 : Hid (SMem w w5 g a0 len0 z0 s) := HM1.out.keep hb5
          rw [HNX.out]
          clear hb5
          go_wp2_with (refine wpList_store_us rfl 33 (.tmp 3) (.tmp 38) rfl g (blocks (pad z0) (j + 1)).list rfl rfl info_s _ HM5.out.sr rfl ?_; intro w6 hr6 ho6; have HM6 : Hid (SMem w w6 g a0 len0 z0 (blocks (pad z0) (j + 1))) := HM5.out.put hr6 ho6; clear hr6 ho6)
          go_roundw
          case rel => exact ⟨1, by omega, by go_num, HM6⟩
          case measure => simp [intOf]
        · have HM0 : Hid (SMem w wr g a0 len0 z0 (blocks (pad z0) (j + 1))) := HM
          clear HM
          have hix := fun w => index_e1 w E
          have HA : Hid ((wr.alloc (.cells blanks.toArray 36)).heap[wr.heap.size]? = some (.cells blanks.toArray 36 (0, 0))) := heap_alloc_new wr _
          obtain ⟨B, hB⟩ : ∃ B, B = (E.drop 64).take 64 := ⟨_, rfl⟩
          have HBK : Hid (Blk (bts B).toArray B) := by rw [hB, HE.out]; exact ends_blk (z := z0.drop (64 * j)) len0 1 HRL.out HRB.out (by omega)
          have HIB : Hid ((Tryd.prog.info? 36).map (·.size) = some (bts B).toArray.size) := by rw [HBK.out.size]; exact info_k
          have HSB : Hid (blanks.toArray.size = (bts B).toArray.size) := by rw [HBK.out.size]; rfl
          rw [← hB] at hix
          have HB := Lib.hid hB
          clear hB
          go_upto_region 10 with (refine wpList_store_row rfl 36 (.tmp 7) (.tmp 32) rfl wr.heap.size (bts B).toArray rfl rfl 36 _ HA.out HIB.out HSB.out (bts_all _) ?_)
          clear hix
          rw [← blanks_eq]
          have HRW : Hid (((wr.alloc (.cells blanks.toArray 36)).setRow wr.heap.size (bts B).toArray).heap[wr.heap.size]? = some (.cells (bts B).toArray 36 (0, 0))) := setRow_heap (wr.alloc (.cells blanks.toArray 36)) wr.heap.size _ (bts B).toArray _ _ HA.out
          have HM1 : Hid (SMem w ((wr.alloc (.cells blanks.toArray 36)).setRow wr.heap.size (bts B).toArray) g a0 len0 z0 (blocks (pad z0) (j + 1))) := HM0.out.keep (below_setRow ((Below.refl _ _).alloc (Nat.le_refl _) _) (Nat.le_refl _) _)
          clear HA HM0 HSB
          generalize World.setRow _ _ _ = X5 at HRW HM1 ⊢
          obtain ⟨gk, hgk⟩ : ∃ g, g = wr.heap.size := ⟨_, rfl⟩
          rw [← hgk] at HRW ⊢
          clear hgk wr
          by_cases h56 : (z0.drop (64 * j)).length < 56
          · have hbl : B = List.replicate 64 0 := by rw [HB.out, HE.out]; exact blank_one len0 h56
            have hne : ∀ w, (binOp .neq 36 (.agg (bts B).toArray) (.agg blanks.toArray)).run Tryd.prog w = .ok (.bool false) w := fun w => by
              rw [neq_blk HBK.out zeros64_blk, decide_eq_true hbl]
              rfl
            rw [blanks_eq] at hne
            have hct : (pad z0).length / 64 = j + 1 := by
              have h := pad_count z0
              rw [HZL.out, ← HJ.out, if_pos h56] at h
              exact h
            have HCT := Lib.hid hct
            clear hct hbl h56
            go_upto_region 12 with (refine wpList_load_row rfl 36 (.tmp 7) rfl gk rfl 36 (bts B).toArray (0, 0) _ HRW.out und_k rfl HIB.out ?_)
            clear hne
            go_wp2_with fail
            go_roundw
            case rel => exact ⟨2, by omega, by go_num, (by rw [HCT.out]; exact HM1)⟩
            case measure => simp [intOf]
          · have hct : (pad z0).length / 64 = j + 2 := by
              have h := pad_count z0
              rw [HZL.out, ← HJ.out, if_neg h56] at h
              exact h
            have HCT := Lib.hid hct
            have H56 : Hid (56 ≤ (z0.drop (64 * j)).length ∧ 0 < len0) := by
              have h := Nat.le_of_not_lt h56
              refine ⟨h, ?_⟩
              rw [List.length_drop, HZL.out] at h
              omega
            clear hct h56
            have hne : ∀ w, (binOp .neq 36 (.agg (bts B).toArray) (.agg blanks.toArray)).run Tryd.prog w = .ok (.bool true) w := fun w => by
              rw [neq_blk HBK.out zeros64_blk, decide_eq_false (by rw [HB.out, HE.out]; exact full_one len0 HRL.out H56.out.1 H56.out.2 hn)]
              rfl
            rw [blanks_eq] at hne
            have hnx : block B 0 (blocks (pad z0) (j + 1)) = blocks (pad z0) (j + 1 + 1) := by
              have h := block_end z0 1 (blocks (pad z0) (j + 1))
              rw [HZL.out, ← HJ.out] at h
              rw [HB.out, HE.out]
              exact h
            obtain ⟨s, hs⟩ : ∃ s, s = blocks (pad z0) (j + 1) := ⟨_, rfl⟩
            rw [← hs] at HM1 hnx
            have HNX := Lib.hid hnx
            clear hs hnx
            go_upto_region 11 with (refine wpList_load_row rfl 36 (.tmp 7) rfl gk rfl 36 (bts B).toArray (0, 0) _ HRW.out und_k rfl HIB.out ?_)
            clear hne
            go_wp2_with (first
              | (refine wpList_load_us rfl 33 (.tmp 3) rfl g s.list rfl HM1.out.sr 8 31 und_s info_s ?_)
              | (refine wpList_load_row rfl 36 (.tmp 7) rfl gk rfl 36 (bts B).toArray (0, 0) _ HRW.out und_k rfl HIB.out ?_))
            refine (mixed_any s _ rfl _ _ HBK.out _ HM1.out.salts (Nat.lt_of_lt_of_le HM1.out.one HM1.out.below.size)).mono ?_
            rintro _ w5 ⟨rfl, hb5⟩
            have HM5 : Hid (SMem w w5 g a0 len0 z0 s) := HM1.out.keep hb5
            rw [HNX.out]
            clear hb5
            go_wp2_with (refine wpList_store_us rfl 33 (.tmp 3) (.tmp 38) rfl g (blocks (pad z0) (j + 1 + 1)).list rfl rfl info_s _ HM5.out.sr rfl ?_; intro w6 hr6 ho6; have HM6 : Hid (SMem w w6 g a0 len0 z0 (blocks (pad z0) (j + 1 + 1))) := HM5.out.put hr6 ho6; clear hr6 ho6)
            go_roundw
            case rel => exact ⟨2, by omega, by go_num, (by rw [HCT.out]; exact HM6)⟩
            case measure => simp [intOf]
        · have HM0 : Hid (SMem w wr g a0 len0 z0 (blocks (pad z0) ((pad z0).length / 64))) := HM
          clear HM
          obtain ⟨s, hs⟩ : ∃ s, s = blocks (pad z0) ((pad z0).length / 64) := ⟨_, rfl⟩
          rw [← hs] at HM0
          have HS := Lib.hid hs
          clear hs
          go_wp2_with (refine wpList_load_us rfl 33 (.tmp 3) rfl g s.list rfl HM0.out.sr 8 31 und_s info_s ?_)
          refine (bytes_any s _ rfl _).mono ?_
          rintro _ w5 ⟨rfl, hb5⟩
          have HM5 : Hid (SMem w w5 g a0 len0 z0 s) := HM0.out.keep hb5
          have HOS := Lib.hid (out_sum s)
          clear hb5
          go_wp2_with (refine wpList_store_row rfl 27 (.tmp 2) (.tmp 41) rfl w.heap.size (cur (out s)) rfl rfl 27 _ HM5.out.out (sum_info HOS.out) (by rw [sum_size HOS.out, cur_nil]; rfl) (sum_one HOS.out) ?_)
          have hrow := setRow_heap w5 w.heap.size _ (cur (out s)) _ _ HM5.out.out
          refine bodyPost_ret (v := .agg (cur (out s))) (results_cell_row (P := Tryd.prog) rfl _ _ w.heap.size 27 _ (0, 0) _ rfl hrow Tryd.underlying27 rfl (sum_info HOS.out)) rfl ⟨?_, below_setRow HM5.out.below (Nat.le_refl _) _⟩
          unfold sum
          rw [HS.out]
end Go.Proofs.YtlamjdpifhpofaaDoor
