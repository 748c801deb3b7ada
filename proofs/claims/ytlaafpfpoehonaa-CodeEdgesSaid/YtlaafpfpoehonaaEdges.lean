/- P101: numbers at the ends of each length are written as such, and read again: the walk of CodeEdges. -/
import Derived.Test.YtlaafpfpoehonaaLoose
import Derived.Deep.DeepCutAuto
namespace Go.Proofs.Ytlaafpfpoehonaa
open Go.RowKit Num
set_option linter.unusedVariables false
set_option linter.unusedSimpArgs false

theorem sev_last : ∀ (f : Nat) (u : Int), 1 ≤ u → (sev f u).getD ((sev f u).length - 1) 0 ≠ 0 := by
  intro f
  induction f with
  | zero => intro u h; simp [sev]; omega
  | succ f ih =>
    intro u h
    unfold sev
    split
    · simp; omega
    · have h1 := ih (u / 128) (by omega)
      have h2 := (sev_len f (u / 128)).1
      have e : ((u % 128 + 128) :: sev f (u / 128)).length - 1 = ((sev f (u / 128)).length - 1) + 1 := by simp; omega
      rw [e, List.getD_cons_succ]
      exact h1

theorem sev_shape : ∀ (f : Nat) (u : Int), 0 ≤ u → u < 128 ^ (f + 1) → ∀ j, j < (sev f u).length → (128 ≤ (sev f u).getD j 0 ↔ j + 1 < (sev f u).length) := by
  intro f
  induction f with
  | zero => intro u h0 h1 j hj; simp [sev] at hj ⊢; subst hj; simp; omega
  | succ f ih =>
    intro u h0 h1 j hj
    unfold sev at hj ⊢
    by_cases h : u < 128
    · rw [if_pos h] at hj ⊢
      simp at hj ⊢; subst hj; simp; omega
    · rw [if_neg h] at hj ⊢
      have h2 := (sev_len f (u / 128)).1
      cases j with
      | zero => simp; omega
      | succ j =>
        have := ih (u / 128) (by omega) (by rw [Int.pow_succ] at h1; omega) j (by simpa using hj)
        rw [List.getD_cons_succ, this]
        simp

theorem enc_shape {n : Int} (h : I64 n) : ∀ j, j < (enc n).length → (128 ≤ (enc n).getD j 0 ↔ j + 1 < (enc n).length) :=
  sev_shape 9 _ (zig_bd h.1 h.2).1 (zig_pow h)

theorem enc_last {n : Int} (h : I64 n) (hl : 1 < (enc n).length) : (enc n).getD ((enc n).length - 1) 0 ≠ 0 := by
  refine sev_last 9 _ ?_
  have h0 := (zig_bd h.1 h.2).1
  rcases Int.lt_or_le (zig n) 1 with h1 | h1
  · have e : zig n = 0 := by omega
    exfalso
    unfold enc at hl
    rw [e] at hl
    revert hl; decide
  · exact h1

/-- the first m of some numbers, written one behind the other -/
def encs (l : List Int) (m : Nat) : List Int := ((l.take m).map enc).flatten

theorem encs_succ (l : List Int) (m : Nat) (hm : m < l.length) : encs l (m + 1) = encs l m ++ enc (l.getD m 0) := by
  unfold encs
  rw [List.take_succ_eq_append_getElem hm, List.map_append, List.flatten_append]
  simp [List.getD, hm]

theorem encs_len (l : List Int) (m : Nat) : (encs l m).length ≤ 10 * m := by
  induction m with
  | zero => simp [encs]
  | succ m ih =>
    rcases Nat.lt_or_ge m l.length with h | h
    · rw [encs_succ l m h, List.length_append]
      have := (enc_len (l.getD m 0)).2
      omega
    · have e : encs l (m + 1) = encs l m := by unfold encs; rw [List.take_of_length_le (by omega), List.take_of_length_le h]
      rw [e]; omega

theorem owns_below {w w' : World} {B n : Nat} {v : Value} {xs : List Value} (h : w.ownsRow B 5 1 v n xs) (hb : Below w.heap.size w w') : w'.ownsRow B 5 1 v n xs :=
  h.kept (row := none) ⟨hb.os, hb.tape, hb.output, hb.size, fun k hk _ => hb.block k hk⟩ (by cases hv : v.ownBlock <;> simp)

/-- what is left of some numbers from the m-th on -/
def encsFrom (l : List Int) (m : Nat) : List Int := ((l.drop m).map enc).flatten

theorem encsFrom_succ (l : List Int) (m : Nat) (hm : m < l.length) : encsFrom l m = enc (l.getD m 0) ++ encsFrom l (m + 1) := by
  unfold encsFrom
  rw [List.drop_eq_getElem_cons hm, List.map_cons, List.flatten_cons]
  simp [List.getD, hm]

theorem encsFrom_bytes {l : List Int} (h : ∀ m, m < 4 → I64 (l.getD m 0)) (hl : l.length ≤ 4) (m : Nat) : ∀ c ∈ encsFrom l m, Byte c := by
  intro c hc
  unfold encsFrom at hc
  obtain ⟨b, hb, hcb⟩ := List.mem_flatten.1 hc
  obtain ⟨z, hz, rfl⟩ := List.mem_map.1 hb
  obtain ⟨i, hi, rfl⟩ := List.getElem_of_mem (List.mem_of_mem_drop hz)
  have := h i (by omega)
  simp only [List.getD, hi, getElem?_pos, Option.getD_some] at this
  exact enc_bytes this c hcb

theorem four_mk (w : World) (a b c d : Int) (t : TypeId) : ∀ m, m < 4 → (w.alloc (.cells #[.int .i64 a, .int .i64 b, .int .i64 c, .int .i64 d] t)).cell? ⟨w.heap.size, m, none⟩ = some (.int .i64 ([a, b, c, d].getD m 0)) := by
  intro m hm
  rw [World.cell?_alloc_at _ _ _ _ rfl]
  match m, hm with
  | 0, _ => rfl
  | 1, _ => rfl
  | 2, _ => rfl
  | 3, _ => rfl

theorem four_i64 {a b c d : Int} (ha : I64 a) (hb : I64 b) (hc : I64 c) (hd : I64 d) : ∀ m, m < 4 → I64 ([a, b, c, d].getD m 0) := by
  intro m hm
  match m, hm with
  | 0, _ => exact ha
  | 1, _ => exact hb
  | 2, _ => exact hc
  | 3, _ => exact hd

set_option maxRecDepth 100000 in
set_option maxHeartbeats 4000000 in
theorem edges_any (a0 a1 : Int) (w : World) (h0 : I64 a0) (h1 : I64 a1) :
    Calls Try.prog 9 #[.int .i64 a0, .int .i64 a1] w fun e w' => e = .returned (.bool true) ∧ Below w.heap.size w w' := by
  clear h0 h1
  obtain ⟨i0, hi, hz0, hz1, hz2⟩ := info_parts Try.infoByte
  go_enter Try.func9, Try.ntmps9
  go_wp2_with fail
  refine (known_any _).mono ?_
  rintro e w1 ⟨rfl, hb1⟩
  have HB1 := Lib.hid hb1
  clear hb1
  go_wp2_with fail
  refine (within_any a0 63 _ (by omega) (by omega)).mono ?_
  rintro e w2 ⟨rfl, rfl⟩
  obtain ⟨k, hk, hk2⟩ : ∃ k : Nat, a0 % 63 = k ∧ k ≤ 62 := ⟨(a0 % 63).toNat, by omega, by omega⟩
  rw [hk]
  clear hk
  have hp62 := pow62 hk2
  obtain ⟨p, hp⟩ : ∃ p : Int, p = 2 ^ k := ⟨_, rfl⟩
  rw [← hp] at hp62
  have hw : wrap64 (2 ^ k) = p := by rw [← hp]; unfold wrap64; omega
  clear hp
  obtain ⟨p1, p2⟩ := hp62
  go_wp2_with fail
  refine (within_any a1 5 _ (by omega) (by omega)).mono ?_
  rintro e w2 ⟨rfl, rfl⟩
  obtain ⟨q, hq⟩ : ∃ q : Int, q = a1 % 5 := ⟨_, rfl⟩
  have hq1 : 0 ≤ q := by omega
  have hq2 : q < 5 := by omega
  rw [← hq]
  clear hq
  go_upto_region 5 with (fail)
  have hC := four_mk w1 (p + (q - 2)) (-p + (q - 2)) 9223372036854775807 (-9223372036854775808) 3
  have hI : ∀ m, m < 4 → I64 ([p + (q - 2), -p + (q - 2), 9223372036854775807, -9223372036854775808].getD m 0) := four_i64 ⟨by omega, by omega⟩ ⟨by omega, by omega⟩ ⟨by omega, by omega⟩ ⟨by omega, by omega⟩
  have hB : Below w1.heap.size w1 (w1.alloc (.cells #[.int .i64 (p + (q - 2)), .int .i64 (-p + (q - 2)), .int .i64 9223372036854775807, .int .i64 (-9223372036854775808)] 3)) := (Below.refl _ _).alloc (Nat.le_refl _) _
  have hS : (w1.alloc (.cells #[.int .i64 (p + (q - 2)), .int .i64 (-p + (q - 2)), .int .i64 9223372036854775807, .int .i64 (-9223372036854775808)] 3)).heap.size = w1.heap.size + 1 := by simp
  obtain ⟨N, hN⟩ : ∃ N : List Int, N = [p + (q - 2), -p + (q - 2), 9223372036854775807, -9223372036854775808] := ⟨_, rfl⟩
  have hNL : N.length = 4 := by rw [hN]; rfl
  rw [← hN] at hC hI
  clear hN
  generalize hW : World.alloc w1 _ = W at *
  clear hW
  have HC := Lib.hid hC
  have HI := Lib.hid hI
  have HB := Lib.hid hB
  have HS := Lib.hid hS
  have HNL := Lib.hid hNL
  have HB4 := Lib.hid (HB1.out.trans (hB.mono HB1.out.size))
  clear hC hI hB hS hNL hw
  go_wp2_with fail
  go_loopw [6, 7] (fun v i wr => ∃ m : Nat, m ≤ 4 ∧ i = .int .i64 (m : Int) ∧ Hid (wr.ownsRow (w1.heap.size + 1) 5 1 v (encs N m).length (bts (encs N m))) ∧ Hid (Below (w1.heap.size + 1) W wr)) (fun _ i _ => 4 - (intOf i).toNat)
  case atStart => exact ⟨0, by omega, rfl, World.ownsRow_nil _ _ _ _, Below.refl _ _⟩
  case round =>
    obtain ⟨m, hm, rfl, hown, hbel⟩ := hrel
    by_cases hm4 : m < 4
    · have hcm : wr.cell? ⟨w1.heap.size, m, none⟩ = some (.int .i64 (N.getD m 0)) := by rw [hbel.out.cell (by simp)]; exact HC.out m hm4
      have HIm := Lib.hid (HI.out m hm4)
      obtain ⟨z, hz⟩ : ∃ z, z = N.getD m 0 := ⟨_, rfl⟩
      rw [← hz] at hcm HIm
      have HZ := Lib.hid hz
      clear hz
      go_wp2_with fail
      refine (int_any none 0 0 [] z _ (reads_nil _) (by omega) HIm.out).mono ?_
      rintro e w2 ⟨v2, rfl, ho2, hb2⟩
      simp only [Nat.zero_add, List.nil_append] at ho2
      have hl := enc_len z
      obtain ⟨g2, c2, rfl, hg2, hs2, hlc2, hcm2, hc2⟩ := owned_slice ho2 (by omega)
      have HSH := Lib.hid (enc_shape HIm.out)
      have HLA := Lib.hid (enc_last HIm.out)
      have HR2 : Hid (Reads w2 (some ⟨g2, 0, none⟩) (enc z).length (enc z)) := by
        obtain ⟨a', c', hv, hr⟩ := owned_val ho2
        simp only [Value.slice.injEq] at hv
        rw [hv.1]; exact hr
      obtain ⟨L, hL⟩ : ∃ L, L = (enc z).length := ⟨_, rfl⟩
      have HLZ := Lib.hid hL
      rw [← hL] at hl hlc2 hc2 HSH HLA HR2 ⊢
      have HOW := Lib.hid (owns_below hown.out hb2)
      have HSW := Lib.hid (show w1.heap.size + 1 ≤ wr.heap.size by have := hbel.out.size; have := HS.out; omega)
      have HSZ := Lib.hid (Nat.le_trans HSW.out hb2.size)
      have HC2 := Lib.hid hc2
      have HB2 := Lib.hid hb2
      obtain ⟨l1, l10⟩ := hl
      clear hL ho2 hc2 hb2 hcm hg2 hcm2
      have hcase : (1 < L ∧ ∃ y : Int, w2.cell? ⟨g2, L - 1, none⟩ = some (.int .u8 y) ∧ (y == 0) = false) ∨ L ≤ 1 := by
        rcases Nat.lt_or_ge 1 L with h | h
        · exact .inl ⟨h, _, HC2.out (L - 1) (by omega), by have := HLA.out h; simpa using this⟩
        · exact .inr h
      rcases hcase with ⟨hL1, y, hcy, hy0⟩ | hL1
      all_goals
        go_wp2_with fail
        go_loop [9] (fun j => ∃ n : Nat, n ≤ L ∧ j = .int .i64 (n : Int)) (fun j => L - (intOf j).toNat)
        case atStart => exact ⟨0, by omega, rfl⟩
        case round =>
          obtain ⟨n, hn, rfl⟩ := hrel
          by_cases hnL : n < L
          · have hcn := HC2.out n hnL
            have hsh := HSH.out n hnL
            obtain ⟨c, hc⟩ : ∃ c, c = (enc z).getD n 0 := ⟨_, rfl⟩
            rw [← hc] at hcn hsh
            clear hc
            by_cases hn1 : n + 1 < L
            · have hc128 := hsh.2 hn1
              have q1 : decide (128 ≤ c) = true := by simpa using hc128
              have q2 : decide ((n : Int) < (L : Int) - 1) = true := by simp; omega
              clear hsh
              go_wp2_with fail
              go_round
              case rel => exact ⟨n + 1, by omega, by go_num⟩
              case measure => simp [intOf]; omega
            · have hc128 : ¬ 128 ≤ c := fun h => hn1 (hsh.1 h)
              have q1 : decide (128 ≤ c) = false := by simpa using hc128
              have q2 : decide ((n : Int) < (L : Int) - 1) = false := by simp; omega
              clear hsh
              go_wp2_with fail
              go_round
              case rel => exact ⟨n + 1, by omega, by go_num⟩
              case measure => simp [intOf]; omega
          · go_wp2_with (at_builtin; go_must (refine wpList_append_reads rfl _ _ 22 rfl (w1.heap.size + 1) 5 i0 Try.underlying22 hi hz0 hz1 hz2 u6 _ (encs N m) rfl HOW.out _ L c2 (enc z) rfl HR2.out (fun h => by cases h) (by have := encs_len N m; omega) HSZ.out ?_; intro v3 w3 ho3 hg3))
            have HREL : Hid (w3.ownsRow (w1.heap.size + 1) 5 1 v3 (encs N (m + 1)).length (bts (encs N (m + 1)))) := by
              have e := encs_succ N m (by rw [HNL.out]; exact hm4)
              rw [← HZ.out] at e
              rw [e, List.length_append, ← HLZ.out]
              exact ho3
            have HBEL := Lib.hid ((hbel.out.trans (HB2.out.mono HSW.out)).grown hg3 HSZ.out (fun k hk => (HOW.out.lt k hk).1))
            clear ho3 hg3
            go_wp2
            go_roundw
            case rel => exact ⟨m + 1, by omega, by go_num, HREL.out, HBEL.out⟩
            case measure => simp [intOf]; omega
    · have hm : m = 4 := by omega
      subst hm
      obtain ⟨a6, c6, rfl, hr6⟩ := owned_val hown.out
      have hl40 := encs_len N 4
      have HR6 := Lib.hid hr6
      have HLL : Hid ((encs N 4).length ≤ 40) := by have := hl40; show _ ≤ _; omega
      have HSW := Lib.hid (show w1.heap.size + 1 ≤ wr.heap.size by have := hbel.out.size; have := HS.out; omega)
      clear hr6 hl40
      go_wp2_with fail
      refine (new_any a6 _ c6 (encs N 4) _ HR6.out (by have := HLL.out; omega)).mono ?_
      rintro e w2 ⟨r, rfl, hrd, hrr, hb⟩
      have e0 : encs N 4 = encsFrom N 0 := by unfold encs encsFrom; rw [List.take_of_length_le (by rw [HNL.out]; omega)]; rfl
      rw [e0] at hrd
      have HRD := Lib.hid hrd
      have HRR := Lib.hid (Nat.le_trans HSW.out hrr)
      have HB2 := Lib.hid (hbel.out.trans (hb.mono HSW.out))
      clear hrd hrr hb e0
      go_wp2_with fail
      go_loopw [11] (fun i wq => ∃ m : Nat, m ≤ 4 ∧ i = .int .i64 (m : Int) ∧ Hid (Rd wq r 0 (encsFrom N m)) ∧ Hid (Below (w1.heap.size + 1) W wq)) (fun i _ => 4 - (intOf i).toNat)
      case atStart => exact ⟨0, by omega, rfl, HRD.out, HB2.out⟩
      case round =>
        obtain ⟨m, hm, rfl, hrd, hbel⟩ := hrel
        by_cases hm4 : m < 4
        · have hcm : wr.cell? ⟨w1.heap.size, m, none⟩ = some (.int .i64 (N.getD m 0)) := by rw [hbel.out.cell (by simp)]; exact HC.out m hm4
          have HIm := Lib.hid (HI.out m hm4)
          have hes := encsFrom_succ N m (by rw [HNL.out]; exact hm4)
          obtain ⟨z, hz⟩ : ∃ z, z = N.getD m 0 := ⟨_, rfl⟩
          rw [← hz] at hcm HIm hes
          have hne := num_enc z (encsFrom N (m + 1)) HIm.out.1 HIm.out.2
          have e5 : rdInt 0 (encsFrom N m) = (0, encsFrom N (m + 1), z) := by
            rw [hes]
            unfold rdInt
            rw [hne]
            simp
          have HE5 := Lib.hid e5
          have HBY : Hid (∀ c ∈ encsFrom N m, Byte c) := encsFrom_bytes HI.out (by rw [HNL.out]; omega) m
          have HDR : Hid (Rd wr.drew r 0 (encsFrom N m)) := hrd.out.keep (Below.refl _ _).drew
          have HCM := Lib.hid hcm
          have HSD : Hid (w1.heap.size + 1 ≤ wr.drew.heap.size) := (show w1.heap.size + 1 ≤ wr.heap.size by have := HS.out; have := hbel.out.size; omega)
          clear hz hes hne e5
          go_wp2_with fail
          go_region_law (go_simp; refine (rint_any r 0 _ _ HDR.out HBY.out).mono ?_; rintro x w5 ⟨hx, hrd5, ho⟩; rw [HE5.out] at hx hrd5; subst hx; have hcB : w5.cell? ⟨w1.heap.size, m, none⟩ = some (.int .i64 z) := (Only.cell ho (a := ⟨w1.heap.size, m, none⟩) HCM.out (by have := HRR.out; simp; omega)); have HD5 := Lib.hid hrd5; have HB5 := Lib.hid ((hbel.out.trans (Below.refl _ _).drew).trans (ho.below HRR.out HSD.out)); clear hrd5 ho)
          all_goals
            clear hcB hcm
            go_wp2_with fail
            go_roundw
            case rel => exact ⟨m + 1, by omega, by go_num, HD5.out, HB5.out⟩
            case measure => simp [intOf]; omega
        · have hm : m = 4 := by omega
          subst hm
          have e6 : encsFrom N 4 = [] := by unfold encsFrom; rw [List.drop_eq_nil_of_le (by rw [HNL.out]; omega)]; rfl
          have HE6 := Lib.hid e6
          clear e6
          go_wp2_with fail
          refine (end_any r 0 _ _ hrd.out).mono ?_
          rintro e w6 ⟨rfl, rfl⟩
          rw [HE6.out]
          have e7 : endOf 0 [] = 0 := rfl
          rw [e7]
          have HFIN := Lib.hid (HB4.out.trans (hbel.out.mono (by have := HB1.out.size; omega)))
          clear e7
          go_wp2
          go_ret
          exact ⟨rfl, HFIN.out⟩

end Go.Proofs.Ytlaafpfpoehonaa
