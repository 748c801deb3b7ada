/- The second saying's Scan. -/
import Derived.Test.YtgggecpnmliolaaDoorRws
namespace Go.Proofs.YtgggecpnmliolaaDoor
open Go.RowKit Frm
set_option linter.unusedVariables false
set_option linter.unusedSimpArgs false

theorem num_take {y : List Int} {k : Nat} (h : 4 ≤ k) : num (y.take k) = num y := by
  unfold num
  simp only [List.getD, List.getElem?_take]
  rw [if_pos (by omega), if_pos (by omega), if_pos (by omega), if_pos (by omega)]

theorem oneE_take {y : List Int} (h1 : 8 ≤ y.length) (h2 : num y ≤ 4194304) (h3 : 8 + num y ≤ y.length) : oneE (y.take (8 + num y)) = scanE y ∧ oneR (y.take (8 + num y)) = if scanE y = 0 then (y.drop 8).take (num y) else [] := by
  have hl : (y.take (8 + num y)).length = 8 + num y := by rw [List.length_take]; omega
  have hn : num (y.take (8 + num y)) = num y := num_take (by omega)
  have h8 : (y.take (8 + num y)).drop 8 = (y.drop 8).take (num y) := by rw [List.drop_take, Nat.add_sub_cancel_left]
  have h4 : num ((y.take (8 + num y)).drop 4) = num (y.drop 4) := by rw [List.drop_take]; exact num_take (by omega)
  have hE : oneE (y.take (8 + num y)) = scanE y := by
    unfold oneE scanE
    rw [hl, hn, h8, h4]
    have c1 : ¬ (8 + num y < 8) := by omega
    have c2 : ¬ (4194304 < num y) := by omega
    have c3 : ¬ (8 + num y < 8 + num y) := by omega
    have c5 : ¬ (y.length < 8) := by omega
    have c6 : ¬ (y.length < 8 + num y) := by omega
    simp only [c1, c2, c3, c5, c6, if_false]
  exact ⟨hE, by unfold oneR; rw [hE, h8]⟩

theorem not_whole {y : List Int} (h : ¬ (8 ≤ y.length ∧ num y ≤ 4194304 ∧ 8 + num y ≤ y.length)) : whole y = false := by
  cases hb : whole y with
  | false => rfl
  | true =>
    have hp := whole_parts hb
    exact absurd ⟨hp.1, hp.2.1, hp.2.2.1⟩ h

set_option maxRecDepth 100000 in
set_option maxHeartbeats 4000000 in
theorem rscanp_any {a0 : Option Addr} {len0 cap0 : Nat} {z : List Int} {w : World} (hc : Came w a0 len0 cap0 z) (hn : len0 ≤ 5000000) :
    Calls Tryd.prog 16 #[.slice a0 len0 cap0] w fun e w' => ∃ v vs, e = .returned (.tuple #[v, .int .i64 (bulk (scan z) : Int)]) ∧ Rws w' w.heap.size v (scan z) vs ∧ Below w.heap.size w w' := by
  obtain ⟨i0, hi, hz0, hz1, hz2⟩ := info_parts Tryd.infoRow
  have HC := Lib.hid hc
  have hle := hc.le
  clear hc
  go_enter Tryd.func16, Tryd.ntmps16
  go_wp2_with fail
  go_loopw [4, 5] (fun t v X => ∃ (n : Nat) (rs : List (List Int)) (vs : List Value), n ≤ len0 ∧ v = .int .i64 (n : Int) ∧ Hid (Rws X w.heap.size t rs vs) ∧ Hid (scan z = rs ++ scan (z.drop n)) ∧ Hid (bulk rs = n) ∧ Hid (Below w.heap.size w X)) (fun _ v _ => ((len0 : Int) - intOf v).toNat)
  case atStart => exact ⟨0, [], [], by omega, rfl, Rws.nil _ _, rfl, rfl, Below.refl _ _⟩
  case round =>
    obtain ⟨n, rs, vs, hnl, rfl, HR, HS, HU, HB⟩ := hrel
    have hz1l : (z.drop n).length = len0 - n := by rw [List.length_drop, HC.out.reads.1]
    have HZL := Lib.hid hz1l
    have HEND : Hid (whole (z.drop n) = false → scan z = rs) := fun h1 => HS.out.trans (by rw [scan_none h1, List.append_nil])
    clear hz1l
    by_cases h8 : n + 8 ≤ len0
    · have hsl : ∀ w, (Instr.sliceAt 30 (.slice a0 len0 cap0) (some (.int .i64 (n : Int))) none none).run Tryd.prog w = .ok (.slice (cutAt a0 cap0 n) (len0 - n) (cap0 - n)) w := fun w => slice_from22 a0 len0 cap0 n hnl n rfl w
      have hall : ∀ X, Below w.heap.size w X → Came X (cutAt a0 cap0 n) (len0 - n) (cap0 - n) (z.drop n) := fun X hX => came_drop (HC.out.below hX) n hnl
      obtain ⟨a1, ha1⟩ : ∃ a, a = cutAt a0 cap0 n := ⟨_, rfl⟩
      obtain ⟨l1, hl1⟩ : ∃ l, l = len0 - n := ⟨_, rfl⟩
      obtain ⟨c1, hc1⟩ : ∃ c, c = cap0 - n := ⟨_, rfl⟩
      rw [← ha1, ← hl1, ← hc1] at hsl hall
      have HD := Lib.hid (hall wr HB.out)
      have hl2 : l1 + n = len0 := by omega
      have HA1 := Lib.hid ha1
      have HC1 := Lib.hid hc1
      clear hall ha1 hc1 hl1
      go_wp2_with fail
      refine (get_any a1 l1 c1 (z.drop n) wr HD.out.reads HD.out.bytes (by omega)).mono ?_
      rintro _ w1 ⟨rfl, k1, hk1⟩
      have HB1 : Hid (Below wr.heap.size wr w1) := by rw [hk1]; exact below_drewN (Below.refl _ _) _
      clear hk1 hsl
      obtain ⟨N, hN⟩ : ∃ N, N = num (z.drop n) := ⟨_, rfl⟩
      have hN32 := num_lt HD.out.bytes
      rw [← hN] at hN32 ⊢
      have HNN := Lib.hid hN
      clear hN
      by_cases b1 : 4194304 < N
      · have HE : Hid (scan z = rs) := HEND.out (not_whole (by rw [← HNN.out]; omega))
        clear HD
        go_wp2_with fail
        go_ret2
        first | exact ⟨_, vs, by rw [HE.out, HU.out]; rfl, by rw [HE.out]; exact HR.out.keep HB1.out, HB.out.trans (HB1.out.mono HB.out.size)⟩ | exact ⟨_, by rw [HE.out, HU.out]; rfl, ⟨vs, by rw [HE.out]; exact HR.out.keep HB1.out⟩, HB.out.trans (HB1.out.mono HB.out.size)⟩
      · by_cases b2 : l1 < 8 + N
        · have HE : Hid (scan z = rs) := HEND.out (not_whole (by rw [← HNN.out, HZL.out]; omega))
          have b3 : (len0 : Int) - n - 8 < N := by omega
          clear HD
          go_wp2_with fail
          go_ret2
          first | exact ⟨_, vs, by rw [HE.out, HU.out]; rfl, by rw [HE.out]; exact HR.out.keep HB1.out, HB.out.trans (HB1.out.mono HB.out.size)⟩ | exact ⟨_, by rw [HE.out, HU.out]; rfl, ⟨vs, by rw [HE.out]; exact HR.out.keep HB1.out⟩, HB.out.trans (HB1.out.mono HB.out.size)⟩
        · have b3 : ¬ ((len0 : Int) - n - 8 < N) := by omega
          have hsl : ∀ w, (Instr.sliceAt 30 (.slice a0 len0 cap0) (some (.int .i64 (n : Int))) (some (.int .i64 ((n : Int) + 8 + (N : Int)))) none).run Tryd.prog w = .ok (.slice (cutAt a0 cap0 n) (8 + N) (cap0 - n)) w := fun w => by
            have h := slice_mid22 a0 len0 cap0 n (n + (8 + N)) (by omega) (by omega) n ((n : Int) + 8 + (N : Int)) rfl (by omega) w
            rwa [Nat.add_sub_cancel_left] at h
          rw [← HA1.out, ← HC1.out] at hsl
          have hone := came_take HD.out (8 + N) (by omega)
          have het := oneE_take (y := z.drop n) (by rw [HZL.out]; omega) (by rw [← HNN.out]; omega) (by rw [← HNN.out, HZL.out]; omega)
          rw [← HNN.out] at het
          obtain ⟨q, hq⟩ : ∃ q, q = scanE (z.drop n) := ⟨_, rfl⟩
          have HQ : Hid (scanE (z.drop n) = q) := hq.symm
          have hq10 := scanE_lt (z.drop n)
          rw [← hq] at hq10 het
          have HONE := Lib.hid (hone.below HB1.out)
          have HET := Lib.hid het
          clear hq hone het HD
          go_wp2_with fail
          refine (ronep_any HONE.out (by omega)).mono ?_
          rintro _ w2 ⟨v, rfl, ho, hb⟩
          have HB2 := Lib.hid (HB1.out.trans (hb.mono HB1.out.size))
          have HO := Lib.hid ho
          have HV := Lib.hid hb
          clear ho hb hsl
          rw [HET.out.1]
          by_cases h0 : q = 0
          · subst h0
            have hw := (scanE_whole _).1 HQ.out
            have hp := whole_parts hw
            have hnx := scan_next hw
            have her := HET.out.2
            rw [if_pos rfl] at her
            have ho := HO.out
            rw [her] at ho
            have hcl := HC.out
            obtain ⟨r, hr⟩ : ∃ r, r = List.take N (List.drop 8 (z.drop n)) := ⟨_, rfl⟩
            have HRB : Hid (∀ c ∈ r, Byte c) := by rw [hr]; exact fun c hc => HC.out.bytes c (List.mem_of_mem_drop (List.mem_of_mem_drop (List.mem_of_mem_take hc)))
            rw [← HNN.out] at hnx hp
            have hrl := hp.2.2.2
            rw [← hr] at ho hnx hrl
            have HNX := Lib.hid hnx
            have HRL := Lib.hid hrl
            rw [hrl] at ho
            obtain ⟨b3, c3, rfl, hcv⟩ := own_came ho HRB.out
            have HO3 := Lib.hid ho
            clear hw hp hnx her ho hr hrl hcv hcl HO HET HONE
            have HBW := Lib.hid (HB.out.trans (HB2.out.mono HB.out.size))
            have hra : Rws (w2.alloc (.cells #[.slice b3 N c3] 30)) w.heap.size u4 rs vs := (HR.out.keep HB2.out).keep ((Below.refl _ _).alloc (Nat.le_refl _) _)
            have HRA := Lib.hid hra
            have hua : (w2.alloc (.cells #[.slice b3 N c3] 30)).ownsRow w.heap.size 5 1 (.slice b3 N c3) r.length (bts r) := by
              rw [HRL.out]
              exact own_later (owns_mono HO3.out (Nat.le_trans HB.out.size HB1.out.size)) ((Below.refl _ _).alloc (Nat.le_refl _) _)
            have HUA := Lib.hid hua
            have HBA := Lib.hid (HBW.out.alloc HBW.out.size (.cells #[.slice b3 N c3] 30))
            have hrn : 8 * rs.length ≤ n := by have h := bulk_ge rs; rw [HU.out] at h; exact h
            clear hra hua
            go_wp2_with (at_builtin; go_must (refine wpList_append_own _ rfl _ _ 22 rfl w.heap.size 30 i0 (.slice none 0 0) 1 24 Tryd.underlying22 hi hz0 hz1 hz2 rfl (by decide) u4 rs.length vs rfl HRA.out.own ⟨w2.heap.size, 0, none⟩ 1 1 [.slice b3 N c3] rfl rfl ?d1 ?d2 ?d3 ?d4 ?d5 ?_))
            case d1 => exact cell_one_new _ _ _
            case d2 => simp [Value.oneCell']
            case d3 => unfold maxLen; omega
            case d4 => omega
            case d5 => exact HBA.out.size
            intro v' w3 hown' hgrow _
            have hb3 := HBA.out.grown hgrow HBA.out.size (fun k hk => (HRA.out.own.lt k hk).1)
            have hrn2 := HRA.out.next HUA.out (by simp [Value.oneCell']) HRB.out hown' hgrow
            have HB3 := Lib.hid hb3
            have HRN := Lib.hid hrn2
            clear hown' hgrow hb3 hrn2
            go_wp2_with fail
            try go_roundw
            case rel => exact ⟨n + (8 + N), rs ++ [r], _, by omega, by go_num, HRN, by have h := HS.out; rw [HNX.out, List.drop_drop] at h; exact h.trans (by rw [List.append_assoc]; rfl), by have h := HRL.out; have h2 := HU.out; show bulk (rs ++ [r]) = _; rw [bulk_append, h2, ← h]; rfl, HB3⟩
            case measure => simp [intOf]; omega
          · have HE : Hid (scan z = rs) := HEND.out (by
              cases hb : whole (z.drop n) with
              | false => rfl
              | true => exact absurd (HQ.out.symm.trans ((scanE_whole _).2 hb)) h0)
            clear HET HONE
            go_wp2_with fail
            go_ret2
            first | exact ⟨_, vs, by rw [HE.out, HU.out]; rfl, by rw [HE.out]; exact HR.out.keep HB2.out, HB.out.trans (HB2.out.mono HB.out.size)⟩ | exact ⟨_, by rw [HE.out, HU.out]; rfl, ⟨vs, by rw [HE.out]; exact HR.out.keep HB2.out⟩, HB.out.trans (HB2.out.mono HB.out.size)⟩
    · have HE : Hid (scan z = rs) := HEND.out (not_whole (by rw [HZL.out]; omega))
      go_wp2_with fail
      go_ret2
      first | exact ⟨_, vs, by rw [HE.out, HU.out]; rfl, by rw [HE.out]; exact HR.out, HB.out⟩ | exact ⟨_, by rw [HE.out, HU.out]; rfl, ⟨vs, by rw [HE.out]; exact HR.out⟩, HB.out⟩
end Go.Proofs.YtgggecpnmliolaaDoor
