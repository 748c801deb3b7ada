/- ShaTwice: the walk. -/
import Derived.Test.YtlamjdpifhpofaaDoorKnown2
import Derived.Test.YtlamjdpifhpofaaDoorQuiet
import Derived.Great.BuildSlice
import Derived.Great.FillDense
namespace Go.Proofs.YtlamjdpifhpofaaDoor
open Go.RowKit Sha
set_option linter.unusedVariables false
set_option linter.unusedSimpArgs false

theorem infoHash : (Tryd.prog.info? 27).map (fun i => (i.zero, i.size, i.bytes)) = some (some (.agg noughts.toArray), 32, 32) := by kernel_rfl

/-- sums, one behind the other -/
def sumsOf (zss : List (List Int)) : List Value := zss.flatMap fun z => bts (sum z)

theorem sumsOf_length (zss : List (List Int)) : (sumsOf zss).length = zss.length * 32 := by
  induction zss with
  | nil => rfl
  | cons z zs ih =>
    have h : (bts (sum z)).length = 32 := by rw [bts_length, (sum_is z).len]
    simp only [sumsOf, List.flatMap_cons, List.length_append, List.length_cons] at *
    omega

theorem sumsOf_next {zss : List (List Int)} {i : Nat} (hi : i < zss.length) : sumsOf (zss.take (i + 1)) = sumsOf (zss.take i) ++ bts (sum (zss.getD i [])) := by
  have h : zss[i]? = some (zss.getD i []) := by simp [List.getD, hi]
  rw [List.take_add_one, h]
  show List.flatMap _ (zss.take i ++ [zss.getD i []]) = _
  rw [List.flatMap_append]
  show _ ++ (bts (sum (zss.getD i [])) ++ []) = _
  rw [List.append_nil]
  rfl

theorem und_hs : Tryd.prog.underlying 24 = some (.slice 27) := by kernel_rfl

theorem fill_one (cs : Array Value) (C : Array Value) (hcs : cs.size = 32) (hC : C.size = 32) : Instr.fill (fun i => some (i * 32, 32)) cs [(0, .agg C)] = some C := by
  have h := Great.fill_whole (s := 32) (by omega) [Value.agg C] cs (by intro v hv; rw [List.mem_singleton.1 hv]; exact hC) (by rw [hcs]; rfl)
  simpa [Value.cells] using h

theorem wpList_build_hash {ops : Array Oper} {rest : List Oper} {o : Oper} {a : Act} {w : World} {Q : Exit → Act → World → Prop} (hg : o.guard = none) (x : Operand) (ho : o.op = .buildSlice 24 1 #[(0, x)])
    (C : Array Value) (hx : a.eval x = .agg C) (hC : C.size = 32)
    (h : wpList Tryd.prog ops Q rest (a.put o.dst (.slice (some ⟨w.heap.size, 0, none⟩) 1 1)) (w.alloc (.cells C 27))) : wpList Tryd.prog ops Q (o :: rest) a w := by
  obtain ⟨i0, hi0, hz0, hz1, hz2⟩ := info_parts infoHash
  refine wpList_buildSlice hg 24 27 1 #[(0, x)] ho C i0 (.agg noughts.toArray) und_hs hi0 hz0 (by rw [hz1]; omega) (by rw [hz1]; omega) ?_ h
  rw [hz1]
  simp only [List.map_toArray, List.map_cons, List.map_nil, hx]
  exact fill_one _ C (by simp) hC

theorem eq_same (z : List Int) (w : World) : (Op.equalIn 10000 27 (.agg (cur (sum z))) (.agg (bts (sum z)).toArray)).run Tryd.prog w = .ok true w := by
  rw [equalIn_sum (sum_is z) (⟨by simp, (sum_is z).len, (sum_is z).bytes⟩ : Sum (bts (sum z)).toArray (sum z)) w]
  simp

theorem eq_same2 (z : List Int) (w : World) : (Op.equalIn 10000 27 (.agg (bts (sum z)).toArray) (.agg (bts (sum z)).toArray)).run Tryd.prog w = .ok true w := by
  rw [equalIn_sum (⟨by simp, (sum_is z).len, (sum_is z).bytes⟩ : Sum (bts (sum z)).toArray (sum z)) (⟨by simp, (sum_is z).len, (sum_is z).bytes⟩ : Sum (bts (sum z)).toArray (sum z)) w]
  simp

theorem u8_inj {a b : Int} (ha : Byte a) (hb : Byte b) (h : UInt8.ofNat a.toNat = UInt8.ofNat b.toNat) : a = b := by
  have h' := congrArg UInt8.toNat h
  simp only [UInt8.toNat_ofNat'] at h'
  have h1 := ha.1
  have h2 := ha.2
  have h3 := hb.1
  have h4 := hb.2
  omega

theorem map_inj8 : ∀ {xs ys : List Int}, (∀ c ∈ xs, Byte c) → (∀ c ∈ ys, Byte c) → xs.map (fun n : Int => UInt8.ofNat n.toNat) = ys.map (fun n : Int => UInt8.ofNat n.toNat) → xs = ys
  | [], [], _, _, _ => rfl
  | [], _ :: _, _, _, h => by simp at h
  | _ :: _, [], _, _, h => by simp at h
  | x :: xs, y :: ys, hx, hy, h => by
    simp only [List.map_cons, List.cons.injEq] at h
    rw [u8_inj (hx x (by simp)) (hy y (by simp)) h.1, map_inj8 (fun c hc => hx c (by simp [hc])) (fun c hc => hy c (by simp [hc])) h.2]

theorem nums_inj {xs ys : List Int} (hx : ∀ c ∈ xs, Byte c) (hy : ∀ c ∈ ys, Byte c) (h : strOfNums xs = strOfNums ys) : xs = ys := by
  have h1 := congrArg ByteArray.data h
  unfold strOfNums at h1
  exact map_inj8 hx hy (by simpa using h1)

theorem nums_injL {xs ys : List Int} (hx : ∀ c ∈ xs, Byte c) (hy : ∀ c ∈ ys, Byte c) (h : (strOfNums xs).toList = (strOfNums ys).toList) : xs = ys := by
  rw [Lib.strOfNums_toList, Lib.strOfNums_toList] at h
  exact map_inj8 hx hy h

theorem q_skip {P : Program} {ops : Array Oper} {K : World → Prop} {Q : Act → Prop} {a : Act} {o : Oper} {rest : List Oper} (hw : Region.wanted o (yielded ops a.tmps) = false) (hk : wpQuiet P ops K Q rest (a.put o.dst undef)) : wpQuiet P ops K Q (o :: rest) a := by
  unfold wpQuiet
  rw [if_neg (by rw [hw]; exact Bool.false_ne_true)]
  exact hk

/-- a goal in a box: 'refine' looks at the type of each hole, and would reckon through all operations that are passed over -/
structure Bx (p : Prop) : Prop where
  out : p

theorem q_skipH {P : Program} {ops : Array Oper} {K : World → Prop} {Q : Act → Prop} {a : Act} {o : Oper} {rest : List Oper} (hw : Region.wanted o (yielded ops a.tmps) = false) (hk : Bx (wpQuiet P ops K Q rest (a.put o.dst undef))) : Bx (wpQuiet P ops K Q (o :: rest) a) := ⟨q_skip hw hk.out⟩

theorem q_yieldH {P : Program} {ops : Array Oper} {C : World → Prop} {Q : Act → Prop} {a : Act} {o : Oper} {rest : List Oper} {v : Value} (hy : YieldsIf P ops C o v a) (hk : Bx (wpQuiet P ops C Q rest (a.put o.dst v))) : Bx (wpQuiet P ops C Q (o :: rest) a) := ⟨q_yield hy hk.out⟩

theorem sumsOf_get : ∀ (zss : List (List Int)) (j x : Nat) (v : Value), j < zss.length → (bts (sum (zss.getD j [])))[x]? = some v → (sumsOf zss)[j * 32 + x]? = some v
  | [], j, x, v, hj, _ => absurd hj (by simp)
  | z :: zs, 0, x, v, _, h => by
    have h : (bts (sum z))[x]? = some v := h
    have hx := (List.getElem?_eq_some_iff.1 h).1
    show (bts (sum z) ++ sumsOf zs)[0 * 32 + x]? = some v
    rw [Nat.zero_mul, Nat.zero_add, List.getElem?_append_left hx]
    exact h
  | z :: zs, j + 1, x, v, hj, h => by
    have hl : (bts (sum z)).length = 32 := by rw [bts_length, (sum_is z).len]
    show (bts (sum z) ++ sumsOf zs)[(j + 1) * 32 + x]? = some v
    rw [List.getElem?_append_right (by omega), hl]
    have e : (j + 1) * 32 + x - 32 = j * 32 + x := by omega
    rw [e]
    exact sumsOf_get zs j x v (by simpa using hj) h

theorem owned_sums {w : World} {B : Nat} {v : Value} {n : Nat} {zss : List (List Int)} (h : w.ownsRow B 27 32 v n (sumsOf (zss.take n))) (hn : n ≤ zss.length) :
    ∃ a c, v = .slice a n c ∧ ∀ j, j < n → ∃ g, a = some ⟨g, 0, none⟩ ∧ ∀ X, Below w.heap.size w X → X.rangeAt g (0 + j * 32) (bts (sum (zss.getD j []))) := by
  rcases h.2 with ⟨rfl, rfl⟩ | ⟨g, cap, cur, rfl, hb, hh, h1, h2, h3, h4⟩
  · exact ⟨_, _, rfl, fun j hj => absurd hj (by omega)⟩
  · refine ⟨_, _, rfl, fun j hj => ⟨g, rfl, fun X hX x u hu => ?_⟩⟩
    have hx := (List.getElem?_eq_some_iff.1 hu).1
    rw [bts_length, (sum_is _).len] at hx
    have hlt := (Array.getElem?_eq_some_iff.1 hh).1
    have hh' := (hX.block g hlt).trans hh
    have e1 : (zss.take n).getD j [] = zss.getD j [] := by simp [List.getD, List.getElem?_take, hj]
    have hg := sumsOf_get (zss.take n) j x u (by simp; omega) (by rw [e1]; exact hu)
    rw [← h4, List.getElem?_take, if_pos (by omega)] at hg
    rw [Nat.zero_add]
    simp only [World.cell?, hh']
    simpa using hg

set_option maxRecDepth 100000 in
set_option maxHeartbeats 8000000 in
theorem ltwice_any (a0 : Option Addr) (len0 cap0 : Nat) (zss : List (List Int)) (w : World) (hm : Mat w a0 len0 cap0 zss) (hlaid : Laid w) :
    Calls Tryd.prog 3 #[.slice a0 len0 cap0] w fun e w' => e = .returned (.bool true) ∧ Below w.heap.size w w' := by
  obtain ⟨i0, hi0, hz0, hz1, hz2⟩ := info_parts infoHash
  have HM := Lib.hid hm
  have HLA := Lib.hid hlaid
  clear hm hlaid
  go_enter Tryd.func3, Tryd.ntmps3
  go_wp2_with fail
  refine (known_any w HLA.out).mono ?_
  rintro _ w1 ⟨rfl, hb1⟩
  have HB1 := Lib.hid hb1
  clear hb1
  go_wp2_with fail
  go_loopw [3, 4] (fun t v X => ∃ (i : Nat), i ≤ len0 ∧ i ≤ 10 ∧ v = .int .i64 (i : Int) ∧ Hid (X.ownsRow w.heap.size 27 32 t i (sumsOf (zss.take i))) ∧ Hid (∀ j, j < i → (zss.getD j []).length ≤ 300) ∧ Hid (Below w.heap.size w X)) (fun _ v _ => (10 - intOf v).toNat)
  case atStart => exact ⟨0, by omega, by omega, rfl, ⟨rfl, .inl ⟨rfl, rfl⟩⟩, fun j hj => absurd hj (by omega), HB1.out⟩
  case round =>
    clear HB1
    obtain ⟨i, hil, hi10, rfl, HO, H3, HB⟩ := hrel
    by_cases hgo : i < len0 ∧ i < 10
    · obtain ⟨hg1, hg2⟩ := hgo
      obtain ⟨ad, rfl, b, l, c, hcell, hcame⟩ := HM.out.row i hg1
      have hcell' : wr.cell? (ad.add i) = some (.slice b l c) := by rw [HB.out.cell (World.block_lt_of_cell? w _ hcell)]; exact hcell
      have HC := Lib.hid (hcame.below HB.out)
      have HC0 := Lib.hid hcell
      clear hcell hcame
      by_cases hl300 : 300 < l
      · go_wp2
        go_ret
        exact ⟨rfl, HB.out⟩
      · have hz := HC.out
        obtain ⟨z, hzz⟩ : ∃ z, z = zss.getD i [] := ⟨_, rfl⟩
        rw [← hzz] at hz
        have HZ := Lib.hid hz
        have HZZ := Lib.hid hzz
        have hnx := sumsOf_next (zss := zss) (i := i) (by rw [HM.out.sz]; exact hg1)
        rw [← hzz] at hnx
        have HNX := Lib.hid hnx
        clear hz hzz hnx
        go_upto_region 9 with (fail)
        go_wp2_with fail
        refine (sum_any b l c z wr HZ.out.reads HZ.out.le HZ.out.nil HZ.out.bytes (by omega) (HLA.out.keep HB.out)).mono ?_
        rintro _ w5 ⟨rfl, hb5⟩
        have HO5 := Lib.hid (HO.out.kept (row := none) ⟨hb5.os, hb5.tape, hb5.output, hb5.size, fun k hk _ => hb5.block k hk⟩ (by cases hv : u3.ownBlock <;> simp))
        have HB5 := Lib.hid (HB.out.trans (hb5.mono HB.out.size))
        clear hb5
        obtain ⟨C, hC⟩ : ∃ C, C = cur (sum z) := ⟨_, rfl⟩
        have HSC : Hid (Sum C (sum z)) := by rw [hC]; exact sum_is z
        rw [← hC]
        clear hC
        have hCs : C.size = 32 := by rw [← Array.length_toList, HSC.out.cells, bts_length, HSC.out.len]
        rename_i hKK
        refine hKK _ _ ?_
        clear hKK
        refine wpList_build_hash rfl (Operand.tmp 31) rfl C rfl hCs ?_
        have hown6 : (w5.alloc (.cells C 27)).ownsRow w.heap.size 27 32 u3 i (sumsOf (List.take i zss)) := by
          have hb6 := ((Below.refl w5.heap.size w5).alloc (Nat.le_refl _) (.cells C 27))
          exact HO5.out.kept (row := none) ⟨hb6.os, hb6.tape, hb6.output, hb6.size, fun k hk _ => hb6.block k hk⟩ (by cases hv : u3.ownBlock <;> simp)
        refine wpList_append_own _ rfl _ _ 24 rfl w.heap.size 27 i0 (.agg noughts.toArray) 32 32 und_hs hi0 hz0 hz1 hz2 ?d1 (by omega) u3 i (sumsOf (List.take i zss)) rfl hown6 ⟨w5.heap.size, 0, none⟩ 1 1 (bts (sum z)) rfl ?d2 ?d3 (bts_one _) ?d4 ?d5 ?d6 ?_
        case d1 => simp [noughts, Value.cells]
        case d2 => rw [bts_length, HSC.out.len]
        case d3 =>
          intro j u hj
          have hjl := (List.getElem?_eq_some_iff.1 hj).1
          obtain ⟨ad', h1, h2⟩ := (HSC.out.boxed w5 27).2 (by omega)
          obtain rfl := Option.some.inj h1
          exact h2 j u hj
        case d4 => unfold maxLen; omega
        case d5 => omega
        case d6 => have h := HB5.out.size; simp; omega
        intro v' w7 hown' hgrow _
        have hb7 := (HB5.out.alloc (by have h := HB5.out.size; omega) (.cells C 27)).grown hgrow (by have h := HB5.out.size; simp; omega) (fun k hk => (hown6.lt k hk).1)
        rw [← HNX.out] at hown'
        have HO7 := Lib.hid hown'
        have HB7 := Lib.hid hb7
        clear hown' hb7 hgrow hown6 HO HO5 HB HB5 hCs
        go_wp2_with fail
        go_roundw
        case rel =>
          refine ⟨i + 1, by omega, by omega, by go_num, HO7, ?_, HB7⟩
          refine Lib.hid (fun j hj => ?_)
          by_cases hji : j < i
          · exact H3.out j hji
          · obtain rfl : j = i := by omega
            rw [← HZZ.out, HZ.out.reads.1]
            omega
        case measure => simp [intOf]; omega
    · obtain ⟨a3, c3, rfl, hrg⟩ := owned_sums HO.out (by rw [HM.out.sz]; exact hil)
      have HRG := Lib.hid hrg
      clear hrg HO
      rename World => W1
      go_wp2_with fail
      all_goals (
        go_loopw [5] (fun v X => ∃ k : Nat, k ≤ i ∧ v = .int .i64 ((k : Int) - 1) ∧ Hid (Below W1.heap.size W1 X)) (fun v _ => (intOf v + 1).toNat)
        case atStart => exact ⟨i, by omega, by go_num, Lib.hid (Below.refl _ _)⟩
        case round =>
          obtain ⟨k, hki, rfl, HX⟩ := hrel
          by_cases hk0 : k = 0
          · subst hk0
            go_wp2_with fail
            go_ret
            exact ⟨rfl, HB.out.trans (HX.out.mono HB.out.size)⟩
          · obtain ⟨m, rfl⟩ := Nat.exists_eq_succ_of_ne_zero hk0
            have e : ((Nat.succ m : Nat) : Int) - 1 = (m : Int) := by omega
            rw [e]
            clear e hk0
            have hm1 : m < len0 := by omega
            have hm2 : m < i := by omega
            obtain ⟨ad, rfl, b, l, c, hcell, hcame⟩ := HM.out.row m hm1
            obtain ⟨g, rfl, hrr⟩ := HRG.out m hm2
            have HWW : Hid (∀ X, Below wr.heap.size wr X → Below w.heap.size w X) := Lib.hid fun X hX => HB.out.trans ((HX.out.trans (hX.mono HX.out.size)).mono HB.out.size)
            obtain ⟨z, hz⟩ : ∃ z, z = zss.getD m [] := ⟨_, rfl⟩
            have hl300 : l ≤ 300 := by
              have h1 := H3.out m hm2
              rw [hcame.reads.1] at h1
              exact h1
            rw [← hz] at hcame hrr
            have HZ := Lib.hid hz
            have HCL : Hid (∀ X, Below wr.heap.size wr X → X.cell? (ad.add m) = some (.slice b l c)) := Lib.hid fun X hX => by rw [(HWW.out X hX).cell (World.block_lt_of_cell? w _ hcell)]; exact hcell
            have HCW : Hid (∀ X, Below wr.heap.size wr X → Came X b l c z) := Lib.hid fun X hX => hcame.below (HWW.out X hX)
            have HRR : Hid (∀ X, Below wr.heap.size wr X → X.rangeAt g (m * 32) (bts (sum z))) := Lib.hid fun X hX => by have h := hrr X (HX.out.trans (hX.mono HX.out.size)); rwa [Nat.zero_add] at h
            have HSL : Hid ((sum z).length = 32) := Lib.hid (sum_is z).len
            have hcl := HCL.out wr (Below.refl _ _)
            have hcv := conv_reads (HCW.out wr (Below.refl _ _)).reads c
            have HC0 := Lib.hid hcell
            have HCM0 := Lib.hid hcame
            have HRM := Lib.hid hrr
            clear hcell hcame hrr hz
            go_upto_region 14 with (fail)
            clear hcl hcv
            refine quiet_start (fun w' => Below wr.heap.size wr w') (by kernel_rfl) (by kernel_rfl) (below_drewN (Below.refl _ _) 1) ?_
            (refine q_yield (v := ?_) (Or.inl ⟨by rfl, fun w' hw' => ?_⟩) ?_; rotate_left; (· go_simp; try with_reducible rfl))
            try simp only [Act.put, List.setIfInBounds_toArray, List.set_cons_zero, List.set_cons_succ]
            (refine q_yield (v := ?_) (Or.inl ⟨by rfl, fun w' hw' => ?_⟩) ?_; rotate_left; (· go_simp; try with_reducible rfl))
            try simp only [Act.put, List.setIfInBounds_toArray, List.set_cons_zero, List.set_cons_succ]
            (refine q_yield (v := ?_) (Or.inl ⟨by rfl, fun w' hw' => ?_⟩) ?_; rotate_left; (· go_simp; try with_reducible rfl))
            try simp only [Act.put, List.setIfInBounds_toArray, List.set_cons_zero, List.set_cons_succ]
            (refine q_yield (v := ?_) (Or.inl ⟨by rfl, fun w' hw' => ?_⟩) ?_; rotate_left; (· have hq := HCL.out w' hw'; go_simp; try with_reducible rfl))
            try simp only [Act.put, List.setIfInBounds_toArray, List.set_cons_zero, List.set_cons_succ]
            refine q_call (.agg (cur (sum z))) (by rfl) (fun w' => by go_simp; exact ⟨rfl, rfl⟩) (fun w' hw' => ?_) ?_
            · refine (sum_any b l c z w' (HCW.out w' hw').reads (HCW.out w' hw').le (HCW.out w' hw').nil (HCW.out w' hw').bytes (by omega) (HLA.out.keep (HWW.out w' hw'))).mono fun e w'' h => ⟨h.1, hw'.trans (h.2.mono hw'.size)⟩
            try simp only [Act.put, List.setIfInBounds_toArray, List.set_cons_zero, List.set_cons_succ]
            (refine q_yield (v := ?_) (Or.inl ⟨by rfl, fun w' hw' => ?_⟩) ?_; rotate_left; (· go_simp; try with_reducible rfl))
            try simp only [Act.put, List.setIfInBounds_toArray, List.set_cons_zero, List.set_cons_succ]
            (refine q_yield (v := ?_) (Or.inl ⟨by rfl, fun w' hw' => ?_⟩) ?_; rotate_left; (· go_simp; try with_reducible rfl))
            try simp only [Act.put, List.setIfInBounds_toArray, List.set_cons_zero, List.set_cons_succ]
            (refine q_yield (v := ?_) (Or.inl ⟨by rfl, fun w' hw' => ?_⟩) ?_; rotate_left; (· go_simp; try with_reducible rfl))
            try simp only [Act.put, List.setIfInBounds_toArray, List.set_cons_zero, List.set_cons_succ]
            refine q_yield (yieldsIf_load_mid (by rfl) 27 _ rfl g (m * 32) rfl (bts (sum z)) _ (fun w' hw' => HRR.out w' hw') Tryd.underlying27 rfl (by rw [bts_length, HSL.out]; exact Tryd.sizeSum)) ?_
            try simp only [Act.put, List.setIfInBounds_toArray, List.set_cons_zero, List.set_cons_succ]
            refine q_yield (v := .bool false) (Or.inl ⟨by rfl, fun w' hw' => by go_simp; rw [eq_same z w']; rfl⟩) ?_
            try simp only [Act.put, List.setIfInBounds_toArray, List.set_cons_zero, List.set_cons_succ]
            (refine q_yield (v := ?_) (Or.inl ⟨by rfl, fun w' hw' => ?_⟩) ?_; rotate_left; (· go_simp; try with_reducible rfl))
            try simp only [Act.put, List.setIfInBounds_toArray, List.set_cons_zero, List.set_cons_succ]
            (refine q_yield (v := ?_) (Or.inl ⟨by rfl, fun w' hw' => ?_⟩) ?_; rotate_left; (· go_simp; try with_reducible rfl))
            try simp only [Act.put, List.setIfInBounds_toArray, List.set_cons_zero, List.set_cons_succ]
            (refine q_yield (v := ?_) (Or.inl ⟨by rfl, fun w' hw' => ?_⟩) ?_; rotate_left; (· go_simp; try with_reducible rfl))
            try simp only [Act.put, List.setIfInBounds_toArray, List.set_cons_zero, List.set_cons_succ]
            (refine q_yield (v := ?_) (Or.inl ⟨by rfl, fun w' hw' => ?_⟩) ?_; rotate_left; (· go_simp; try with_reducible rfl))
            try simp only [Act.put, List.setIfInBounds_toArray, List.set_cons_zero, List.set_cons_succ]
            (refine q_yield (v := ?_) (Or.inl ⟨by rfl, fun w' hw' => ?_⟩) ?_; rotate_left; (· have hq := HCL.out w' hw'; go_simp; try with_reducible rfl))
            try simp only [Act.put, List.setIfInBounds_toArray, List.set_cons_zero, List.set_cons_succ]
            (refine q_yield (v := ?_) (Or.inl ⟨by rfl, fun w' hw' => ?_⟩) ?_; rotate_left; (· have hq := conv_reads (HCW.out w' hw').reads c; go_simp; try with_reducible rfl))
            try simp only [Act.put, List.setIfInBounds_toArray, List.set_cons_zero, List.set_cons_succ]
            (refine q_yield (v := ?_) (Or.inl ⟨by rfl, fun w' hw' => ?_⟩) ?_; rotate_left; (· go_simp; try with_reducible rfl))
            try simp only [Act.put, List.setIfInBounds_toArray, List.set_cons_zero, List.set_cons_succ]
            (refine q_yield (v := ?_) (Or.inl ⟨by rfl, fun w' hw' => ?_⟩) ?_; rotate_left; (· go_simp; try with_reducible rfl))
            try simp only [Act.put, List.setIfInBounds_toArray, List.set_cons_zero, List.set_cons_succ]
            (refine q_yield (v := ?_) (Or.inl ⟨by rfl, fun w' hw' => ?_⟩) ?_; rotate_left; (· go_simp; try with_reducible rfl))
            try simp only [Act.put, List.setIfInBounds_toArray, List.set_cons_zero, List.set_cons_succ]
            refine wpQuiet_nil ?_
            intro w' hw'
            clear HCL HRR HWW
            have HWX := Lib.hid (HX.out.trans (hw'.mono HX.out.size))
            clear HCW
            clear hw'
            clear HX
            go_wp2_with fail
            go_loopw [7] (fun v X => ∃ q : Nat, q ≤ m ∧ v = .int .i64 (q : Int) ∧ Hid (Below W1.heap.size W1 X)) (fun v _ => ((m : Int) - intOf v).toNat)
            case atStart => exact ⟨0, by omega, rfl, HWX⟩
            case round =>
              clear HWX
              obtain ⟨q, hqm, rfl, HX3⟩ := hrel
              by_cases hq0 : q < m
              · obtain ⟨ad1, hade, b1, l1, c1, hcell1, hcame1⟩ := HM.out.row q (by omega)
                cases hade
                obtain ⟨g1, hge, hrr1⟩ := HRG.out q (by omega)
                cases hge
                have HWW : Hid (∀ X, Below wr.heap.size wr X → Below w.heap.size w X) := Lib.hid fun X hX => HB.out.trans ((HX3.out.trans (hX.mono HX3.out.size)).mono HB.out.size)
                obtain ⟨z1, hz1⟩ : ∃ z1, z1 = zss.getD q [] := ⟨_, rfl⟩
                rw [← hz1] at hcame1 hrr1
                clear hz1
                have hm3 : q < len0 := by omega
                have hm4 : q < i := by omega
                have HCL : Hid (∀ X, Below wr.heap.size wr X → X.cell? (ad.add m) = some (.slice b l c)) := Lib.hid fun X hX => by rw [(HWW.out X hX).cell (World.block_lt_of_cell? w _ HC0.out)]; exact HC0.out
                have HCW : Hid (∀ X, Below wr.heap.size wr X → Came X b l c z) := Lib.hid fun X hX => HCM0.out.below (HWW.out X hX)
                have HRR : Hid (∀ X, Below wr.heap.size wr X → X.rangeAt g (m * 32) (bts (sum z))) := Lib.hid fun X hX => by have h := HRM.out X (HX3.out.trans (hX.mono HX3.out.size)); rwa [Nat.zero_add] at h
                have HCL1 : Hid (∀ X, Below wr.heap.size wr X → X.cell? (ad.add q) = some (.slice b1 l1 c1)) := Lib.hid fun X hX => by rw [(HWW.out X hX).cell (World.block_lt_of_cell? w _ hcell1)]; exact hcell1
                have HCW1 : Hid (∀ X, Below wr.heap.size wr X → Came X b1 l1 c1 z1) := Lib.hid fun X hX => hcame1.below (HWW.out X hX)
                have HRR1 : Hid (∀ X, Below wr.heap.size wr X → X.rangeAt g (q * 32) (bts (sum z1))) := Lib.hid fun X hX => by have h := hrr1 X (HX3.out.trans (hX.mono HX3.out.size)); rwa [Nat.zero_add] at h
                clear hcell1 hcame1 hrr1
                by_cases hzz : z1 = z
                · rw [hzz] at HCW1 HRR1
                  clear hzz
                  go_upto_region 19 with (fail)
                  refine quiet_start (fun w' => Below wr.heap.size wr w') (by kernel_rfl) (by kernel_rfl) (below_drewN (Below.refl _ _) 1) ?_
                  (refine q_yield (v := ?_) (Or.inl ⟨by rfl, fun w' hw' => ?_⟩) ?_; rotate_left; (· go_simp; try with_reducible rfl))
                  try simp only [Act.put, List.setIfInBounds_toArray, List.set_cons_zero, List.set_cons_succ]
                  (refine q_yield (v := ?_) (Or.inl ⟨by rfl, fun w' hw' => ?_⟩) ?_; rotate_left; (· go_simp; try with_reducible rfl))
                  try simp only [Act.put, List.setIfInBounds_toArray, List.set_cons_zero, List.set_cons_succ]
                  (refine q_yield (v := ?_) (Or.inl ⟨by rfl, fun w' hw' => ?_⟩) ?_; rotate_left; (· go_simp; try with_reducible rfl))
                  try simp only [Act.put, List.setIfInBounds_toArray, List.set_cons_zero, List.set_cons_succ]
                  (refine q_yield (v := ?_) (Or.inl ⟨by rfl, fun w' hw' => ?_⟩) ?_; rotate_left; (· have hq := HCL1.out w' hw'; go_simp; try with_reducible rfl))
                  try simp only [Act.put, List.setIfInBounds_toArray, List.set_cons_zero, List.set_cons_succ]
                  (refine q_yield (v := ?_) (Or.inl ⟨by rfl, fun w' hw' => ?_⟩) ?_; rotate_left; (· have hq := conv_reads (HCW1.out w' hw').reads c1; go_simp; try with_reducible rfl))
                  try simp only [Act.put, List.setIfInBounds_toArray, List.set_cons_zero, List.set_cons_succ]
                  (refine q_yield (v := ?_) (Or.inl ⟨by rfl, fun w' hw' => ?_⟩) ?_; rotate_left; (· go_simp; try with_reducible rfl))
                  try simp only [Act.put, List.setIfInBounds_toArray, List.set_cons_zero, List.set_cons_succ]
                  (refine q_yield (v := ?_) (Or.inl ⟨by rfl, fun w' hw' => ?_⟩) ?_; rotate_left; (· go_simp; try with_reducible rfl))
                  try simp only [Act.put, List.setIfInBounds_toArray, List.set_cons_zero, List.set_cons_succ]
                  (refine q_yield (v := ?_) (Or.inl ⟨by rfl, fun w' hw' => ?_⟩) ?_; rotate_left; (· go_simp; try with_reducible rfl))
                  try simp only [Act.put, List.setIfInBounds_toArray, List.set_cons_zero, List.set_cons_succ]
                  (refine q_yield (v := ?_) (Or.inl ⟨by rfl, fun w' hw' => ?_⟩) ?_; rotate_left; (· have hq := HCL.out w' hw'; go_simp; try with_reducible rfl))
                  try simp only [Act.put, List.setIfInBounds_toArray, List.set_cons_zero, List.set_cons_succ]
                  (refine q_yield (v := ?_) (Or.inl ⟨by rfl, fun w' hw' => ?_⟩) ?_; rotate_left; (· have hq := conv_reads (HCW.out w' hw').reads c; go_simp; try with_reducible rfl))
                  try simp only [Act.put, List.setIfInBounds_toArray, List.set_cons_zero, List.set_cons_succ]
                  refine q_yield (v := .bool true) (Or.inl ⟨by rfl, fun w' hw' => by first | (go_simp; (try with_reducible rfl); done) | (go_simp; simp) | (go_simp; rfl)⟩) ?_
                  try simp only [Act.put, List.setIfInBounds_toArray, List.set_cons_zero, List.set_cons_succ]
                  (refine q_yield (v := ?_) (Or.inl ⟨by rfl, fun w' hw' => ?_⟩) ?_; rotate_left; (· go_simp; try with_reducible rfl))
                  try simp only [Act.put, List.setIfInBounds_toArray, List.set_cons_zero, List.set_cons_succ]
                  (refine q_yield (v := ?_) (Or.inl ⟨by rfl, fun w' hw' => ?_⟩) ?_; rotate_left; (· go_simp; try with_reducible rfl))
                  try simp only [Act.put, List.setIfInBounds_toArray, List.set_cons_zero, List.set_cons_succ]
                  (refine q_yield (v := ?_) (Or.inl ⟨by rfl, fun w' hw' => ?_⟩) ?_; rotate_left; (· go_simp; try with_reducible rfl))
                  try simp only [Act.put, List.setIfInBounds_toArray, List.set_cons_zero, List.set_cons_succ]
                  (refine q_yield (v := ?_) (Or.inl ⟨by rfl, fun w' hw' => ?_⟩) ?_; rotate_left; (· go_simp; try with_reducible rfl))
                  try simp only [Act.put, List.setIfInBounds_toArray, List.set_cons_zero, List.set_cons_succ]
                  refine q_yield (yieldsIf_load_mid (by rfl) 27 _ rfl g (q * 32) rfl (bts (sum z)) _ (fun w' hw' => HRR1.out w' hw') Tryd.underlying27 rfl (by rw [bts_length, HSL.out]; exact Tryd.sizeSum)) ?_
                  try simp only [Act.put, List.setIfInBounds_toArray, List.set_cons_zero, List.set_cons_succ]
                  (refine q_yield (v := ?_) (Or.inl ⟨by rfl, fun w' hw' => ?_⟩) ?_; rotate_left; (· go_simp; try with_reducible rfl))
                  try simp only [Act.put, List.setIfInBounds_toArray, List.set_cons_zero, List.set_cons_succ]
                  (refine q_yield (v := ?_) (Or.inl ⟨by rfl, fun w' hw' => ?_⟩) ?_; rotate_left; (· go_simp; try with_reducible rfl))
                  try simp only [Act.put, List.setIfInBounds_toArray, List.set_cons_zero, List.set_cons_succ]
                  (refine q_yield (v := ?_) (Or.inl ⟨by rfl, fun w' hw' => ?_⟩) ?_; rotate_left; (· go_simp; try with_reducible rfl))
                  try simp only [Act.put, List.setIfInBounds_toArray, List.set_cons_zero, List.set_cons_succ]
                  refine q_yield (yieldsIf_load_mid (by rfl) 27 _ rfl g (m * 32) rfl (bts (sum z)) _ (fun w' hw' => HRR.out w' hw') Tryd.underlying27 rfl (by rw [bts_length, HSL.out]; exact Tryd.sizeSum)) ?_
                  try simp only [Act.put, List.setIfInBounds_toArray, List.set_cons_zero, List.set_cons_succ]
                  refine q_yield (v := .bool false) (Or.inl ⟨by rfl, fun w' hw' => by go_simp; rw [eq_same2 z w']; rfl⟩) ?_
                  try simp only [Act.put, List.setIfInBounds_toArray, List.set_cons_zero, List.set_cons_succ]
                  (refine q_yield (v := ?_) (Or.inl ⟨by rfl, fun w' hw' => ?_⟩) ?_; rotate_left; (· go_simp; try with_reducible rfl))
                  try simp only [Act.put, List.setIfInBounds_toArray, List.set_cons_zero, List.set_cons_succ]
                  refine wpQuiet_nil ?_
                  intro w2 hw2
                  clear HCL HRR HCL1 HCW1 HRR1 HCW HWW
                  have HX7 := Lib.hid (HX3.out.trans (hw2.mono HX3.out.size))
                  clear HX3 hw2
                  go_wp2_with fail
                  go_roundw
                  case rel => exact ⟨q + 1, by omega, by go_num, HX7⟩
                  case measure => simp [intOf]; omega
                · have hsne : ¬ (strOfNums z1).toList = (strOfNums z).toList := fun h => hzz (nums_injL (HCW1.out wr (Below.refl _ _)).bytes (HCW.out wr (Below.refl _ _)).bytes h)
                  clear hzz
                  go_upto_region 19 with (fail)
                  refine quiet_start (fun w' => Below wr.heap.size wr w') (by kernel_rfl) (by kernel_rfl) (below_drewN (Below.refl _ _) 1) ?_
                  (refine q_yield (v := ?_) (Or.inl ⟨by rfl, fun w' hw' => ?_⟩) ?_; rotate_left; (· go_simp; try with_reducible rfl))
                  try simp only [Act.put, List.setIfInBounds_toArray, List.set_cons_zero, List.set_cons_succ]
                  (refine q_yield (v := ?_) (Or.inl ⟨by rfl, fun w' hw' => ?_⟩) ?_; rotate_left; (· go_simp; try with_reducible rfl))
                  try simp only [Act.put, List.setIfInBounds_toArray, List.set_cons_zero, List.set_cons_succ]
                  (refine q_yield (v := ?_) (Or.inl ⟨by rfl, fun w' hw' => ?_⟩) ?_; rotate_left; (· go_simp; try with_reducible rfl))
                  try simp only [Act.put, List.setIfInBounds_toArray, List.set_cons_zero, List.set_cons_succ]
                  (refine q_yield (v := ?_) (Or.inl ⟨by rfl, fun w' hw' => ?_⟩) ?_; rotate_left; (· have hq := HCL1.out w' hw'; go_simp; try with_reducible rfl))
                  try simp only [Act.put, List.setIfInBounds_toArray, List.set_cons_zero, List.set_cons_succ]
                  (refine q_yield (v := ?_) (Or.inl ⟨by rfl, fun w' hw' => ?_⟩) ?_; rotate_left; (· have hq := conv_reads (HCW1.out w' hw').reads c1; go_simp; try with_reducible rfl))
                  try simp only [Act.put, List.setIfInBounds_toArray, List.set_cons_zero, List.set_cons_succ]
                  (refine q_yield (v := ?_) (Or.inl ⟨by rfl, fun w' hw' => ?_⟩) ?_; rotate_left; (· go_simp; try with_reducible rfl))
                  try simp only [Act.put, List.setIfInBounds_toArray, List.set_cons_zero, List.set_cons_succ]
                  (refine q_yield (v := ?_) (Or.inl ⟨by rfl, fun w' hw' => ?_⟩) ?_; rotate_left; (· go_simp; try with_reducible rfl))
                  try simp only [Act.put, List.setIfInBounds_toArray, List.set_cons_zero, List.set_cons_succ]
                  (refine q_yield (v := ?_) (Or.inl ⟨by rfl, fun w' hw' => ?_⟩) ?_; rotate_left; (· go_simp; try with_reducible rfl))
                  try simp only [Act.put, List.setIfInBounds_toArray, List.set_cons_zero, List.set_cons_succ]
                  (refine q_yield (v := ?_) (Or.inl ⟨by rfl, fun w' hw' => ?_⟩) ?_; rotate_left; (· have hq := HCL.out w' hw'; go_simp; try with_reducible rfl))
                  try simp only [Act.put, List.setIfInBounds_toArray, List.set_cons_zero, List.set_cons_succ]
                  (refine q_yield (v := ?_) (Or.inl ⟨by rfl, fun w' hw' => ?_⟩) ?_; rotate_left; (· have hq := conv_reads (HCW.out w' hw').reads c; go_simp; try with_reducible rfl))
                  try simp only [Act.put, List.setIfInBounds_toArray, List.set_cons_zero, List.set_cons_succ]
                  refine q_yield (v := .bool false) (Or.inl ⟨by rfl, fun w' hw' => by first | (go_simp; done) | (go_simp; exact hsne)⟩) ?_
                  clear hsne
                  try simp only [Act.put, List.setIfInBounds_toArray, List.set_cons_zero, List.set_cons_succ]
                  refine Bx.out ?_
                  refine q_yieldH (v := .bool false) (Or.inl ⟨by rfl, fun w' hw' => by rfl⟩) ?_
                  try simp only [Act.put, List.setIfInBounds_toArray, List.set_cons_zero, List.set_cons_succ]
                  refine q_skipH (by rfl) ?_
                  try simp only [Act.put, List.setIfInBounds_toArray, List.set_cons_zero, List.set_cons_succ]
                  refine q_skipH (by rfl) ?_
                  try simp only [Act.put, List.setIfInBounds_toArray, List.set_cons_zero, List.set_cons_succ]
                  refine q_skipH (by rfl) ?_
                  try simp only [Act.put, List.setIfInBounds_toArray, List.set_cons_zero, List.set_cons_succ]
                  refine q_skipH (by rfl) ?_
                  try simp only [Act.put, List.setIfInBounds_toArray, List.set_cons_zero, List.set_cons_succ]
                  refine q_skipH (by rfl) ?_
                  try simp only [Act.put, List.setIfInBounds_toArray, List.set_cons_zero, List.set_cons_succ]
                  refine q_skipH (by rfl) ?_
                  try simp only [Act.put, List.setIfInBounds_toArray, List.set_cons_zero, List.set_cons_succ]
                  refine q_skipH (by rfl) ?_
                  try simp only [Act.put, List.setIfInBounds_toArray, List.set_cons_zero, List.set_cons_succ]
                  refine q_skipH (by rfl) ?_
                  try simp only [Act.put, List.setIfInBounds_toArray, List.set_cons_zero, List.set_cons_succ]
                  refine q_skipH (by rfl) ?_
                  try simp only [Act.put, List.setIfInBounds_toArray, List.set_cons_zero, List.set_cons_succ]
                  refine Bx.mk ?_
                  (refine q_yield (v := ?_) (Or.inl ⟨by rfl, fun w' hw' => ?_⟩) ?_; rotate_left; (· go_simp; try with_reducible rfl))
                  try simp only [Act.put, List.setIfInBounds_toArray, List.set_cons_zero, List.set_cons_succ]
                  refine wpQuiet_nil ?_
                  intro w2 hw2
                  clear HCL HRR HCL1 HCW1 HRR1 HCW HWW
                  have HX7 := Lib.hid (HX3.out.trans (hw2.mono HX3.out.size))
                  clear HX3 hw2
                  go_wp2_with fail
                  go_roundw
                  case rel => exact ⟨q + 1, by omega, by go_num, HX7⟩
                  case measure => simp [intOf]; omega
              · go_wp2_with fail
                go_roundw
                case rel => exact ⟨m, by omega, by go_num, HX3⟩
                case measure => first | (simp [intOf]; done) | (simp [intOf]; omega)
      )
end Go.Proofs.YtlamjdpifhpofaaDoor
