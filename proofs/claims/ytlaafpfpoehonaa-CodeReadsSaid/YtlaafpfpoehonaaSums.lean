/- P101: a sum is 32 bytes as they are, between others: the walk of CodeSums. -/
import Derived.Test.YtlaafpfpoehonaaLoose
import Derived.Deep.DeepCutAuto
namespace Go.Proofs.Ytlaafpfpoehonaa
open Go.RowKit Num
set_option linter.unusedVariables false
set_option linter.unusedSimpArgs false

/-- what a variable that holds a sum holds -/
def sumAt (w : World) (g : Nat) : Option (Array Value) :=
  match w.heap[g]? with
  | some (.cells cs _ (0, 0)) => if cs.size = 32 then some cs else none
  | _ => none

theorem sumAt_mk {w : World} {g : Nat} {cs : Array Value} {t : TypeId} (h : w.heap[g]? = some (.cells cs t (0, 0))) (hs : cs.size = 32) : sumAt w g = some cs := by
  simp [sumAt, h, hs]

theorem sumAt_below {w w' : World} {g B : Nat} (hb : Below B w w') (hg : g < B) : sumAt w' g = sumAt w g := by
  unfold sumAt; rw [hb.block g hg]

/-- may a sum be loaded there? and which -/
def loadable (w : World) : Value → Bool
  | .pointer (some ⟨g, 0, none⟩) => (sumAt w g).isSome
  | _ => false
def sumOf (w : World) : Value → Array Value
  | .pointer (some a) => (sumAt w a.block).getD #[]
  | _ => #[]
theorem loadable_ptr (w : World) (g : Nat) : loadable w (.pointer (some ⟨g, 0, none⟩)) = (sumAt w g).isSome := rfl
theorem sumOf_ptr (w : World) (g : Nat) : sumOf w (.pointer (some ⟨g, 0, none⟩)) = (sumAt w g).getD #[] := rfl

theorem load_run (w : World) (g : Nat) (h : (sumAt w g).isSome = true) : (loadVar 24 ⟨g, 0, none⟩).run Try.prog w = .ok (.agg ((sumAt w g).getD #[])) w := by
  unfold sumAt at h ⊢
  split at h
  · rename_i cs t hg
    split at h
    · rename_i hs
      rw [if_pos hs]
      exact run_loadVar_row w g t 24 cs (0, 0) _ hg Try.underlying24 rfl (by rw [hs]; exact Try.sizeSum)
    · simp at h
  · simp at h

theorem load_rule (w : World) (ρ : Operand → Value) (dst : Option Tmp) (x : Operand) (ty : TypeId) (pos : String) (after : Array Edge) (guard : Option (Nat × Bool)) (h : loadable w (ρ x) = true) :
    (execOp ρ { dst := dst, op := .load 24 x, type := ty, pos := pos, after := after, guard := guard }).run Try.prog w = .ok (.value (.agg (sumOf w (ρ x)))) w := by
  unfold loadable at h
  split at h
  · rename_i g hx
    unfold execOp
    simp only [hx, Instr.loadAt, Instr.sureAddr, Sem.run_bind, Sem.run_pure, Result.andThen_ok, load_run w g h, sumOf_ptr]
  · simp at h

attribute [local go_sem ↓] load_rule
attribute [local go_sem] loadable_ptr sumOf_ptr

theorem owned_val2 {w : World} {B : Nat} {v : Value} {n : Nat} {xs : List Int} (h : w.ownsRow B 5 1 v n (bts xs)) : ∃ a c, v = .slice a n c ∧ Reads w a n xs ∧ n ≤ c ∧ c ≤ maxLen := by
  have hl : xs.length = n := by have := h.1; rw [bts_length] at this; omega
  rcases h.2 with ⟨rfl, rfl⟩ | ⟨g, cap, cur, rfl, h1, h2, h3, h4, _⟩
  · exact ⟨none, 0, rfl, ⟨hl, fun hp => absurd hp (by omega)⟩, Nat.le_refl _, by unfold maxLen; omega⟩
  · exact ⟨_, cap, rfl, ⟨hl, fun _ => ⟨_, rfl, h.cells rfl⟩⟩, h3, h4⟩

theorem sum_same {cs ds : Array Value} {hs : List Int} (h : Sum cs hs) (h' : Sum ds hs) : cs = ds := by
  apply Array.ext'
  rw [h.cells, h'.cells]

theorem sumAt_only {w w' : World} {r g : Nat} {cs : Array Value} (ho : Only r w w') (hg : g < r) (h : sumAt w g = some cs) : sumAt w' g = some cs := by
  have hl : g < w.heap.size := by
    unfold sumAt at h
    split at h
    · rename_i hx; exact (Array.getElem?_eq_some_iff.1 hx).1
    · cases h
  unfold sumAt at h ⊢
  rw [ho.block g hl (by simp; omega)]
  exact h

set_option maxRecDepth 100000 in
set_option maxHeartbeats 4000000 in
theorem sums_any (cs : Array Value) (hs : List Int) (ds : Array Value) (gs : List Int) (a2 a3 : Int) (w : World) (hh : Sum cs hs) (hg : Sum ds gs) (h2 : I64 a2) (_h3 : I64 a3) :
    Calls Try.prog 11 #[.agg cs, .agg ds, .int .i64 a2, .int .i64 a3] w fun e w' => e = .returned (.bool true) ∧ Below w.heap.size w w' := by
  have HH := Lib.hid hh
  have HG := Lib.hid hg
  have H2 := Lib.hid h2
  clear hh hg h2 _h3
  go_enter Try.func11, Try.ntmps11
  go_upto_region 1 with (fail)
  have hb0 : Below w.heap.size w ((w.alloc (.cells cs 24)).alloc (.cells ds 24)) := ((Below.refl _ _).alloc (Nat.le_refl _) _).alloc (by simp) _
  have hs1 : sumAt ((w.alloc (.cells cs 24)).alloc (.cells ds 24)) w.heap.size = some cs := sumAt_mk (heap_alloc2_old w _ _) (sum_size HH.out)
  have hs2 : sumAt ((w.alloc (.cells cs 24)).alloc (.cells ds 24)) (w.heap.size + 1) = some ds := sumAt_mk (heap_alloc2_new w _ _) (sum_size HG.out)
  have hz : ((w.alloc (.cells cs 24)).alloc (.cells ds 24)).heap.size = w.heap.size + 2 := by simp
  generalize hW : World.alloc (World.alloc w _) _ = W at *
  clear hW
  have HB0 := Lib.hid hb0
  have HS1 := Lib.hid hs1
  have HS2 := Lib.hid hs2
  have HZ := Lib.hid hz
  clear hb0 hs1 hs2 hz
  go_wp2_with fail
  refine (known_any _).mono ?_
  rintro e w1 ⟨rfl, hb1⟩
  have hs1 : sumAt w1.drew w.heap.size = some cs := (sumAt_below hb1 (by rw [HZ.out]; omega)).trans HS1.out
  have hs2 : sumAt w1.drew (w.heap.size + 1) = some ds := (sumAt_below hb1 (by rw [HZ.out]; omega)).trans HS2.out
  have HB1 := Lib.hid (HB0.out.trans (hb1.mono HB0.out.size))
  have HZ1 : Hid (w.heap.size + 2 ≤ w1.heap.size) := by have := hb1.size; have := HZ.out; show _ ≤ _; omega
  clear hb1
  go_wp2_with fail
  have HS1 := Lib.hid hs1
  have HS2 := Lib.hid hs2
  have HBD : Hid (Below w.heap.size w w1.drew) := HB1.out.drew
  have HZD : Hid (w.heap.size + 2 ≤ w1.drew.heap.size) := HZ1.out
  go_cut [9] (fun b wx => ∃ a n c, b = .slice a n c ∧ n ≤ c ∧ c ≤ maxLen ∧ Hid (n = 64 + (enc a2).length) ∧ Hid (Reads wx a n (hs ++ enc a2 ++ gs)) ∧ Hid (Below w.heap.size w wx) ∧ Hid (w.heap.size + 2 ≤ wx.heap.size) ∧ Hid (sumAt wx w.heap.size = some cs) ∧ Hid (sumAt wx (w.heap.size + 1) = some ds))
  case first =>
   go_region_law (first
    | (go_simp; (with_reducible refine (hash_any aB nB cB (hs ++ enc a2) gs ds _ HRB.out HNB.out HG.out).mono ?_); rintro x w4 ⟨v4, rfl, ho4, hb4⟩; obtain ⟨aC, cC, rfl, hrC, hlC, hmC⟩ := owned_val2 ho4; have HRC := Lib.hid hrC; have HBC := Lib.hid (HBB.out.trans (hb4.mono HZB.out)); have HZC := Lib.hid hb4.size; have HS1C := Lib.hid ((sumAt_below hb4 (by have := HZB2.out; omega)).trans HS1B.out); have HS2C := Lib.hid ((sumAt_below hb4 (by have := HZB2.out; omega)).trans HS2B.out); clear ho4 hrC hb4)
    | (go_simp; (with_reducible refine (int_any aA 32 cA hs a2 _ HRA.out (by omega) H2.out).mono ?_); rintro x w3 ⟨v3, rfl, ho3, hb3⟩; obtain ⟨aB, cB, rfl, hrB⟩ := owned_val ho3; obtain ⟨nB, hnB⟩ : ∃ n, n = 32 + (enc a2).length := ⟨_, rfl⟩; rw [← hnB] at hrB; rw [← hnB]; have HNB : Hid (nB ≤ 1000000) := (show nB ≤ 1000000 by have := (enc_len a2).2; omega); have HRB := Lib.hid hrB; have HNE := Lib.hid hnB; have HBB := Lib.hid (HBA.out.trans (hb3.mono HZA.out)); have HZB := Lib.hid (Nat.le_trans HZA.out hb3.size); have HZB2 := Lib.hid (Nat.le_trans HZA2.out hb3.size); have hs1B := (sumAt_below hb3 (by have := HZA2.out; omega)).trans HS1A.out; have hs2B := (sumAt_below hb3 (by have := HZA2.out; omega)).trans HS2A.out; have HS1B := Lib.hid hs1B; have HS2B := Lib.hid hs2B; clear ho3 hrB hb3 hnB)
    | (go_simp; (with_reducible refine (hash_any none 0 0 [] hs cs _ (reads_nil _) (by omega) HH.out).mono ?_); rintro x w2 ⟨v2, rfl, ho2, hb2⟩; simp only [Nat.zero_add, List.nil_append] at ho2; obtain ⟨aA, cA, rfl, hrA⟩ := owned_val ho2; have HRA := Lib.hid hrA; have HBA := Lib.hid (HBD.out.trans (hb2.mono HBD.out.size)); have HZA := Lib.hid (Nat.le_trans HBD.out.size hb2.size); have HZA2 := Lib.hid (Nat.le_trans HZD.out hb2.size); have hs1A := (sumAt_below hb2 (by have := HZD.out; omega)).trans HS1.out; have hs2A := (sumAt_below hb2 (by have := HZD.out; omega)).trans HS2.out; have HS1A := Lib.hid hs1A; have HS2A := Lib.hid hs2A; clear ho2 hrA hb2))
   all_goals
    clear hs1 hs2 hs1A hs2A hs1B hs2B
    go_wp2_with fail
    go_meet
    exact ⟨aC, nB + 32, cC, rfl, hlC, hmC, (show _ = _ by rw [HNE.out]; omega), HRC.out, HBC.out, Nat.le_trans HZB2.out HZC.out, HS1C.out, HS2C.out⟩
  case rest =>
    clear hs1 hs2
    obtain ⟨a9, n9, c9, rfl, hnc9, hm9, HN9, HR9, HB9, HZ9, HS91, HS92⟩ := hcut
    go_wp2_with fail
    have hn65 : 65 ≤ n9 ∧ n9 ≤ 74 := by have := enc_len a2; have := HN9.out; omega
    obtain ⟨n65, n74⟩ := hn65
    have hd65 : decide ((n9 : Int) < 65) = false := by simp; omega
    refine (new_any a9 n9 c9 _ _ HR9.out (by omega)).mono ?_
    rintro e w4 ⟨r, rfl, hrd, hrr, hb⟩
    have HRR := Lib.hid hrr
    have HRD0 : Hid (Rd w4.drew r 0 (hs ++ enc a2 ++ gs)) := hrd.keep (Below.refl _ _).drew
    have hs1 : sumAt w4.drew w.heap.size = some cs := (sumAt_below hb (by have := HZ9.out; omega)).trans HS91.out
    have hs2 : sumAt w4.drew (w.heap.size + 1) = some ds := (sumAt_below hb (by have := HZ9.out; omega)).trans HS92.out
    have HB4 : Hid (Below wc.heap.size wc w4.drew) := hb.drew
    have HBY : Hid (∀ c ∈ hs ++ enc a2 ++ gs, Byte c) := by
      intro c hc
      rcases List.mem_append.1 hc with h | h
      · rcases List.mem_append.1 h with h | h
        · exact HH.out.bytes c h
        · exact enc_bytes H2.out c h
      · exact HG.out.bytes c h
    have HE1 : Hid (rdHash 0 (hs ++ enc a2 ++ gs) = (0, enc a2 ++ gs, hs)) := by
      have hl := HH.out.len
      show _ = _
      rw [rdHash, if_neg (by simp), if_neg (by simp; omega), List.append_assoc, List.drop_left' hl, List.take_left' hl]
    have HE2 : Hid (rdInt 0 (enc a2 ++ gs) = (0, gs, a2)) := by
      have hne := num_enc a2 gs H2.out.1 H2.out.2
      show _ = _
      unfold rdInt; rw [hne]; simp
    have HE3 : Hid (rdHash 0 gs = (0, [], gs)) := by
      have hl := HG.out.len
      show _ = _
      rw [rdHash, if_neg (by simp), if_neg (by omega), List.drop_eq_nil_of_le (by omega), List.take_of_length_le (by omega)]
    have HBYa : Hid (∀ c ∈ enc a2 ++ gs, Byte c) := fun c hc => HBY.out c (by rw [List.append_assoc]; exact List.mem_append_right _ hc)
    have hq1 : ∀ w, (binOp .neq 24 (.agg cs) (.agg cs)).run Try.prog w = .ok (.bool false) w := fun w => by rw [neq_sum HH.out HH.out]; simp
    have hq2 : ∀ w, (binOp .neq 24 (.agg ds) (.agg ds)).run Try.prog w = .ok (.bool false) w := fun w => by rw [neq_sum HG.out HG.out]; simp
    have hgd := eqGuard_sum
    have HS1a := Lib.hid hs1
    have HS2a := Lib.hid hs2
    clear hb hrd hrr
    go_wp2_with fail
    go_cut [47] (fun c wx => c = .bool false ∧ Hid (Below wc.heap.size wc wx))
    case first =>
      go_region_law (first
        | (go_simp; (with_reducible refine (end_any r 0 [] _ HRDc.out).mono ?_); rintro x w8 ⟨rfl, rfl⟩; rw [show endOf 0 [] = 0 from rfl]; have DONE := trivial)
        | (go_simp; (with_reducible refine (rhash_any r 0 gs _ HRDb.out HG.out.bytes).mono ?_); rintro x w7 ⟨dC, hx, hsC, hrdC, hoC⟩; rw [HE3.out] at hsC hrdC; obtain rfl := sum_same hsC HG.out; subst hx; have HRDc := Lib.hid hrdC; have HBz := Lib.hid (Below.step HBb.out hoC HRR.out (Nat.le_refl _)); have hs1C := (sumAt_only hoC (by have := HRR.out; have := HZ9.out; omega) HS1c.out); have hs2C := (sumAt_only hoC (by have := HRR.out; have := HZ9.out; omega) HS2c.out); clear hsC hrdC hoC)
        | (go_simp; (with_reducible refine (rint_any r 0 (enc a2 ++ gs) _ HRDa.out HBYa.out).mono ?_); rintro x w6 ⟨hx, hrdB, hoB⟩; rw [HE2.out] at hx hrdB; subst hx; have HRDb := Lib.hid hrdB; have HBb := Lib.hid (Below.step HBa.out hoB HRR.out (Nat.le_refl _)); have hs1B := (sumAt_only hoB (by have := HRR.out; have := HZ9.out; omega) HS1b.out); have hs2B := (sumAt_only hoB (by have := HRR.out; have := HZ9.out; omega) HS2b.out); have HS1c := Lib.hid hs1B; have HS2c := Lib.hid hs2B; clear hrdB hoB)
        | (go_simp; (with_reducible refine (rhash_any r 0 (hs ++ enc a2 ++ gs) _ HRD0.out HBY.out).mono ?_); rintro x w5 ⟨cA, hx, hsA, hrdA, hoA⟩; rw [HE1.out] at hsA hrdA; obtain rfl := sum_same hsA HH.out; subst hx; have HRDa := Lib.hid hrdA; have HBa := Lib.hid (Below.step HB4.out hoA HRR.out (Nat.le_refl _)); have hs1A := (sumAt_only hoA (by have := HRR.out; have := HZ9.out; omega) HS1a.out); have hs2A := (sumAt_only hoA (by have := HRR.out; have := HZ9.out; omega) HS2a.out); have HS1b := Lib.hid hs1A; have HS2b := Lib.hid hs2A; clear hsA hrdA hoA))
      all_goals
        clear hs1 hs2 hs1A hs2A hs1B hs2B hs1C hs2C hq1 hq2
        go_wp2_with fail
        go_meet
        exact ⟨rfl, HBz.out⟩
    case rest =>
      clear hs1 hs2 hq1 hq2
      obtain ⟨rfl, hbc⟩ := hcut
      have HBC := Lib.hid hbc
      clear hbc
      go_wp2_with fail
      refine (within_any a3 32 _ (by omega) (by omega)).mono ?_
      rintro e w5 ⟨rfl, rfl⟩
      obtain ⟨k, hk, hk2⟩ : ∃ k : Nat, a3 % 32 = k ∧ k < 32 := ⟨(a3 % 32).toNat, by omega, by omega⟩
      rw [hk]
      have hkc : k ≤ c9 := by omega
      clear hk
      go_wp2_with fail
      have hr9 := (HR9.out.below HBC.out).take (k := k) (by omega)
      obtain ⟨l, hl⟩ : ∃ l, l = (hs ++ enc a2 ++ gs).take k := ⟨_, rfl⟩
      rw [← hl] at hr9
      have HBYl : Hid (∀ c ∈ l, Byte c) := fun c hc => HBY.out c (by rw [hl] at hc; exact List.mem_of_mem_take hc)
      have HRK := Lib.hid hr9
      have HE6 : Hid (rdHash 0 l = (8, l, zeros)) := by
        show _ = _
        rw [rdHash, if_neg (by simp), if_pos (by rw [hr9.1]; exact hk2)]
      clear hl hr9
      refine (new_any a9 k c9 l _ HRK.out (by omega)).mono ?_
      rintro e w6 ⟨r2, rfl, hrd, hrr, hb⟩
      have HRX := Lib.hid hrd
      have HBF := Lib.hid (HB9.out.trans ((HBC.out.mono HB9.out.size).trans (hb.mono (Nat.le_trans HB9.out.size HBC.out.size))))
      have HR2 := Lib.hid (Nat.le_trans (Nat.le_trans HB9.out.size HBC.out.size) hrr)
      clear hrd hrr hb
      have heq := eql_noughts
      go_wp2_with fail
      refine (rhash_any r2 0 l _ HRX.out HBYl.out).mono ?_
      rintro e w7 ⟨cz, hx, hsum, hrd, ho⟩
      rw [HE6.out] at hsum hrd
      obtain rfl := zeros_only hsum
      subst hx
      have HRX7 := Lib.hid hrd
      have HB7 := Lib.hid (Below.step HBF.out ho HR2.out (Nat.le_refl _))
      clear hsum hrd ho
      go_wp2_with fail
      refine (end_any r2 8 _ _ HRX7.out).mono ?_
      rintro e w8 ⟨rfl, rfl⟩
      rw [show endOf 8 l = 8 from by rw [endOf, if_neg (fun h => absurd h.1 (by decide))]]
      go_wp2
      go_ret
      exact ⟨rfl, HB7.out⟩

end Go.Proofs.Ytlaafpfpoehonaa
