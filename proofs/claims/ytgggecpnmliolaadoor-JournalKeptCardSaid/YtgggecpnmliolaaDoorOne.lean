/- One record is read, twice. -/
import Derived.Test.YtgggecpnmliolaaDoorFirst
namespace Go.Proofs.YtgggecpnmliolaaDoor
open Go.RowKit Frm
set_option linter.unusedVariables false
set_option linter.unusedSimpArgs false

theorem oneE_zero {z : List Int} (h : oneE z = 0) : 8 ≤ z.length ∧ num z ≤ 4194304 ∧ z.length = 8 + num z ∧ (crc (z.drop 8)).toNat = num (z.drop 4) := by
  unfold oneE at h
  split at h
  · omega
  · split at h
    · omega
    · split at h
      · omega
      · split at h
        · omega
        · split at h
          · omega
          · rename_i h5
            exact ⟨by omega, by omega, by omega, by simpa using h5⟩

theorem oneE_lt (z : List Int) : oneE z ≤ 10 := by
  unfold oneE
  repeat' split
  all_goals omega

set_option maxRecDepth 100000 in
set_option maxHeartbeats 4000000 in
theorem onep_any {a0 : Option Addr} {len0 cap0 : Nat} {z : List Int} {w : World} (hc : Came w a0 len0 cap0 z) (hlaid : Laid w) :
    Calls Tryd.prog 41 #[.slice a0 len0 cap0] w fun e w' => ∃ v, e = .returned (.tuple #[v, .int .i64 (oneE z : Int)]) ∧ w'.ownsRow w.heap.size 5 1 v (oneR z).length (bts (oneR z)) ∧ Below w.heap.size w w' := by
  have hmf : ∀ (fn : Fn) (first cap : Array Value) (w : World), (Instr.makeFunc fn first cap).run Tryd.prog w = .ok (.func fn first cap) w := fun _ _ _ _ => rfl
  have HC := Lib.hid hc
  have HL := Lib.hid hlaid
  clear hc hlaid
  go_enter Tryd.func41, Tryd.ntmps41
  go_wp2_with fail
  have hb0 : ∀ o, Below w.heap.size w (w.alloc o) := fun o => (Below.refl _ _).alloc (Nat.le_refl _) o
  refine (one_any (HC.out.below (hb0 _)) (HL.out.keep (hb0 _)) w.heap.size (by simp only [World.cell?, heap_alloc_new]; rfl) (by simp only [World.cell?, heap_alloc_new]; rfl) (by simp only [World.cell?, heap_alloc_new]; rfl) (by simp only [World.cell?, heap_alloc_new]; rfl) (by simp only [World.cell?, heap_alloc_new]; rfl)).mono ?_
  rintro _ w1 ⟨rfl, k1, hk1⟩
  have HB1 : Hid (Below w.heap.size w w1) := by rw [hk1]; exact below_drewN (hb0 _) _
  clear hk1 hb0
  obtain ⟨q, hq⟩ : ∃ q, q = oneE z := ⟨_, rfl⟩
  have HQ : Hid (oneE z = q) := hq.symm
  rw [← hq]
  by_cases h0 : q = 0
  · have hz := oneE_zero (hq.symm.trans h0)
    have hl := HC.out.reads.1
    have HR : Hid (oneR z = z.drop 8) := by unfold oneR Hid; rw [← hq, if_pos h0]
    have HT : Hid ((z.drop 8).take (num z) = z.drop 8 ∧ (z.drop 8).length = num z) := ⟨List.take_of_length_le (by rw [List.length_drop]; omega), by rw [List.length_drop]; omega⟩
    have hz1 := hz.2.1
    have hz2 : 8 + num z ≤ len0 := by omega
    subst h0
    clear hz hl hq
    go_wp2_with fail
    refine (record_any (HC.out.below HB1.out) hz2 hz1).mono ?_
    rintro _ w2 ⟨v, rfl, ho, hb⟩
    have HO := Lib.hid (show w2.ownsRow w.heap.size 5 1 v _ _ from owns_mono ho HB1.out.size)
    have HB2 := Lib.hid (HB1.out.trans (hb.mono HB1.out.size))
    clear ho hb
    go_wp2_with fail
    go_ret2
    exact ⟨v, by rw [HQ.out]; rfl, by have h := HO.out; rw [HT.out.1] at h; rw [HR.out, HT.out.2]; exact h, HB2.out⟩
  · have hlt := oneE_lt z
    rw [← hq] at hlt
    have HR : Hid (oneR z = []) := by unfold oneR Hid; rw [← hq, if_neg h0]
    clear hq
    go_wp2_with fail
    go_ret2
    exact ⟨_, by rw [HQ.out]; rfl, by rw [HR.out]; exact World.ownsRow_nil _ _ _ _, HB1.out⟩

set_option maxRecDepth 100000 in
set_option maxHeartbeats 4000000 in
theorem ronep_any {a0 : Option Addr} {len0 cap0 : Nat} {z : List Int} {w : World} (hc : Came w a0 len0 cap0 z) (hn : len0 ≤ 4294967296) :
    Calls Tryd.prog 21 #[.slice a0 len0 cap0] w fun e w' => ∃ v, e = .returned (.tuple #[v, .int .i64 (oneE z : Int)]) ∧ w'.ownsRow w.heap.size 5 1 v (oneR z).length (bts (oneR z)) ∧ Below w.heap.size w w' := by
  obtain ⟨i0, hi, hz0, hz1, hz2⟩ := info_parts Tryd.infoByte
  have HC := Lib.hid hc
  have hl := hc.reads.1
  have hle := hc.le
  have hnl := num_lt hc.bytes
  by_cases h8 : len0 < 8
  · have HR : Hid (oneE z = 8 ∧ oneR z = []) := by
      have e : oneE z = 8 := by unfold oneE; rw [if_pos (by omega)]
      exact ⟨e, by unfold oneR; rw [e, if_neg (by omega)]⟩
    rw [HR.out.1, HR.out.2]
    clear hc hl
    go_enter Tryd.func21, Tryd.ntmps21
    go_wp2_with fail
    go_ret2
    exact ⟨_, rfl, World.ownsRow_nil _ _ _ _, Below.refl _ _⟩
  · have e8 : z.drop 8 = (z.drop 8).take (len0 - 8) := (List.take_of_length_le (by rw [List.length_drop]; omega)).symm
    have hA := came_drop hc 8 (by omega)
    have hB := came_drop hc 4 (by omega)
    have hs1 : ∀ w, (Instr.sliceAt 30 (.slice a0 len0 cap0) (some (.int .i64 8)) none none).run Tryd.prog w = .ok (.slice (cutAt a0 cap0 8) (len0 - 8) (cap0 - 8)) w := fun w => slice_from22 a0 len0 cap0 8 (by omega) 8 rfl w
    have hs2 : ∀ w, (Instr.sliceAt 30 (.slice a0 len0 cap0) (some (.int .i64 4)) none none).run Tryd.prog w = .ok (.slice (cutAt a0 cap0 4) (len0 - 4) (cap0 - 4)) w := fun w => slice_from22 a0 len0 cap0 4 (by omega) 4 rfl w
    obtain ⟨a8, ha8⟩ : ∃ a, a = cutAt a0 cap0 8 := ⟨_, rfl⟩
    obtain ⟨a4, ha4⟩ : ∃ a, a = cutAt a0 cap0 4 := ⟨_, rfl⟩
    rw [← ha8] at hs1 hA
    rw [← ha4] at hs2 hB
    obtain ⟨c, hcc⟩ : ∃ c, c = crc (z.drop 8) := ⟨_, rfl⟩
    obtain ⟨m, hm⟩ : ∃ m, m = num (z.drop 4) := ⟨_, rfl⟩
    obtain ⟨n, hne⟩ : ∃ n, n = num z := ⟨_, rfl⟩
    have HE : Hid (oneE z = if 4194304 < n then 5 else if len0 < 8 + n then 8 else if 8 + n < len0 then 9 else if c.toNat ≠ m then 10 else 0) := by
      unfold oneE Hid
      rw [if_neg (by omega), hl, ← hne, ← hcc, ← hm]
    have HR : Hid (oneR z = if oneE z = 0 then z.drop 8 else []) := rfl
    have HA := Lib.hid hA
    have HB := Lib.hid hB
    have HN := Lib.hid hne
    have HCC := Lib.hid hcc
    have HM := Lib.hid hm
    have HL := Lib.hid hl
    rw [← hne] at hnl
    have h4 : 4 ≤ len0 := by omega
    have h44 : 4 ≤ len0 - 4 := by omega
    clear hc hl hA hB hcc hm hne ha8 ha4 e8
    go_enter Tryd.func21, Tryd.ntmps21
    go_wp2_with fail
    refine (get_any a0 len0 cap0 z w HC.out.reads HC.out.bytes h4).mono ?_
    rintro _ w1 ⟨rfl, k1, hk1⟩
    have HB1 : Hid (Below w.heap.size w w1) := by rw [hk1]; exact below_drewN (Below.refl _ _) _
    rw [← HN.out]
    clear hk1
    by_cases c1 : 4194304 < n
    · have HF : Hid (oneE z = 5 ∧ oneR z = []) := by
        have e : oneE z = 5 := by rw [HE.out, if_pos c1]
        exact ⟨e, by rw [HR.out, e, if_neg (by omega)]⟩
      go_wp2_with fail
      go_ret2
      exact ⟨_, by rw [HF.out.1]; rfl, by rw [HF.out.2]; exact World.ownsRow_nil _ _ _ _, HB1.out⟩
    · by_cases c2 : len0 < 8 + n
      · have HF : Hid (oneE z = 8 ∧ oneR z = []) := by
          have e : oneE z = 8 := by rw [HE.out, if_neg c1, if_pos c2]
          exact ⟨e, by rw [HR.out, e, if_neg (by omega)]⟩
        go_wp2_with fail
        go_ret2
        exact ⟨_, by rw [HF.out.1]; rfl, by rw [HF.out.2]; exact World.ownsRow_nil _ _ _ _, HB1.out⟩
      · by_cases c3 : 8 + n < len0
        · have HF : Hid (oneE z = 9 ∧ oneR z = []) := by
            have e : oneE z = 9 := by rw [HE.out, if_neg c1, if_neg c2, if_pos c3]
            exact ⟨e, by rw [HR.out, e, if_neg (by omega)]⟩
          go_wp2_with fail
          go_ret2
          exact ⟨_, by rw [HF.out.1]; rfl, by rw [HF.out.2]; exact World.ownsRow_nil _ _ _ _, HB1.out⟩
        · have HA1 := Lib.hid (HA.out.below HB1.out)
          have HB2 := Lib.hid (HB.out.below HB1.out)
          have hnv := ne_val c.toNat m
          by_cases c4 : c.toNat ≠ m
          · have HF : Hid (oneE z = 10 ∧ oneR z = []) := by
              have e : oneE z = 10 := by rw [HE.out, if_neg c1, if_neg c2, if_neg c3, if_pos c4]
              exact ⟨e, by rw [HR.out, e, if_neg (by omega)]⟩
            rw [decide_eq_true c4] at hnv
            go_upto_region 10 with (fail)
            go_quiet (first
              | exact ((rcrc_any a8 (len0 - 8) (cap0 - 8) _ _ (Came.drewN HA1.out _).reads HA1.out.bytes (by omega)).mono fun e w' h => ⟨by rw [h.1, ← HCC.out], _, h.2.symm⟩)
              | exact Calls.quiet_of ((get_any a4 (len0 - 4) (cap0 - 4) (z.drop 4) _ (Came.drewN HB2.out _).reads HB2.out.bytes h44).mono fun e w' h => ⟨h.1.trans (by rw [← HM.out]), h.2⟩))
            go_wp2_with fail
            go_ret2
            exact ⟨_, by rw [HF.out.1]; rfl, by rw [HF.out.2]; exact World.ownsRow_nil _ _ _ _, below_drewN HB1.out _⟩
          · have HF : Hid (oneE z = 0 ∧ oneR z = z.drop 8) := by
              have e : oneE z = 0 := by rw [HE.out, if_neg c1, if_neg c2, if_neg c3, if_neg c4]
              exact ⟨e, by rw [HR.out, if_pos e]⟩
            rw [decide_eq_false c4] at hnv
            go_upto_region 10 with (fail)
            go_quiet (first
              | exact ((rcrc_any a8 (len0 - 8) (cap0 - 8) _ _ (Came.drewN HA1.out _).reads HA1.out.bytes (by omega)).mono fun e w' h => ⟨by rw [h.1, ← HCC.out], _, h.2.symm⟩)
              | exact Calls.quiet_of ((get_any a4 (len0 - 4) (cap0 - 4) (z.drop 4) _ (Came.drewN HB2.out _).reads HB2.out.bytes h44).mono fun e w' h => ⟨h.1.trans (by rw [← HM.out]), h.2⟩))
            go_upto_region 12 with (fail)
            obtain ⟨X, hX⟩ : ∃ X, X = w1.drewN nq := ⟨_, rfl⟩
            have HBX : Hid (Below w.heap.size w X) := by rw [hX]; exact below_drewN HB1.out _
            rw [← hX]
            have HMK := Lib.hid (World.ownsRow_made (base := w.heap.size) (e := 5) (size := 1) X #[] 0 HBX.out.size (by unfold maxLen; omega) rfl)
            have HBa : Hid (Below w.heap.size w (X.alloc (.cells #[] 5))) := HBX.out.alloc HBX.out.size _
            have HA2 := Lib.hid (HA.out.below HBa.out)
            clear hX hnv
            go_wp2_with (at_builtin; go_must (refine wpList_append_reads rfl _ _ 30 rfl w.heap.size 5 i0 Tryd.underlying30 hi hz0 hz1 hz2 _ 0 [] rfl HMK.out a8 (len0 - 8) (cap0 - 8) (z.drop 8) rfl HA2.out.reads HA2.out.nil ?d4 ?d5 ?_))
            case d4 => omega
            case d5 => exact HBa.out.size
            intro v3 w3 ho3 hg3
            have hb3 := HBa.out.grown hg3 HBa.out.size (fun k hk => (HMK.out.lt k hk).1)
            have HO3 := Lib.hid ho3
            have HB3 := Lib.hid hb3
            clear ho3 hb3 hg3
            go_wp2_with fail
            go_ret2
            exact ⟨v3, by rw [HF.out.1]; rfl, by have h := HO3.out; rw [HF.out.2, List.length_drop, HL.out]; simpa using h, HB3.out⟩
end Go.Proofs.YtgggecpnmliolaaDoor
