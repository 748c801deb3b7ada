/- The program's Scan. -/
import Derived.Test.YtgggecpnmliolaaDoorRws
namespace Go.Proofs.YtgggecpnmliolaaDoor
open Go.RowKit Frm
set_option linter.unusedVariables false
set_option linter.unusedSimpArgs false

set_option maxRecDepth 100000 in
set_option maxHeartbeats 4000000 in
theorem scanp_any {a0 : Option Addr} {len0 cap0 : Nat} {z : List Int} {w : World} (hc : Came w a0 len0 cap0 z) (hlaid : Laid w) (hn : len0 ≤ 5000000) :
    Calls Tryd.prog 26 #[.slice a0 len0 cap0] w fun e w' => ∃ v vs, e = .returned (.tuple #[v, .int .i64 (bulk (scan z) : Int)]) ∧ Rws w' w.heap.size v (scan z) vs ∧ Below w.heap.size w w' := by
  have hmf : ∀ (fn : Fn) (first cap : Array Value) (w : World), (Instr.makeFunc fn first cap).run Tryd.prog w = .ok (.func fn first cap) w := fun _ _ _ _ => rfl
  obtain ⟨i0, hi, hz0, hz1, hz2⟩ := info_parts Tryd.infoRow
  have HC := Lib.hid hc
  have HL := Lib.hid hlaid
  clear hc hlaid
  go_enter Tryd.func26, Tryd.ntmps26
  go_wp2_with fail
  go_loopw [2, 3] (fun t v X => ∃ (n : Nat) (rs : List (List Int)) (vs : List Value), n ≤ len0 ∧ v = .int .i64 (n : Int) ∧ Hid (Rws X w.heap.size t rs vs) ∧ Hid (scan z = rs ++ scan (z.drop n)) ∧ Hid (bulk rs = n) ∧ Hid (Below w.heap.size w X)) (fun _ v _ => ((len0 : Int) - intOf v).toNat)
  case atStart => exact ⟨0, [], [], by omega, rfl, Rws.nil _ _, rfl, rfl, Below.refl _ _⟩
  case round =>
    obtain ⟨n, rs, vs, hnl, rfl, HR, HS, HU, HB⟩ := hrel
    have hle := HC.out.le
    have hsl : ∀ w, (Instr.sliceAt 30 (.slice a0 len0 cap0) (some (.int .i64 (n : Int))) none none).run Tryd.prog w = .ok (.slice (cutAt a0 cap0 n) (len0 - n) (cap0 - n)) w := fun w => slice_from22 a0 len0 cap0 n hnl n rfl w
    have hall : ∀ X, Below w.heap.size w X → Came X (cutAt a0 cap0 n) (len0 - n) (cap0 - n) (z.drop n) := fun X hX => came_drop (HC.out.below hX) n hnl
    obtain ⟨a1, ha1⟩ : ∃ a, a = cutAt a0 cap0 n := ⟨_, rfl⟩
    obtain ⟨l1, hl1⟩ : ∃ l, l = len0 - n := ⟨_, rfl⟩
    obtain ⟨c1, hc1⟩ : ∃ c, c = cap0 - n := ⟨_, rfl⟩
    rw [← ha1, ← hl1, ← hc1] at hsl hall
    have HALL := Lib.hid hall
    have HD := Lib.hid (hall wr HB.out)
    have hz1l := HD.out.reads.1
    have HLX := Lib.hid (HL.out.keep HB.out)
    have hl2 : l1 + n = len0 := by omega
    have hz2l := Lib.hid hz1l
    clear hall ha1 hc1 hl1 hz1l
    go_wp2_with fail
    have hb0 : ∀ o, Below wr.heap.size wr (wr.alloc o) := fun o => (Below.refl _ _).alloc (Nat.le_refl _) o
    refine (scan_any (HD.out.below (hb0 _)) (HLX.out.keep (hb0 _)) wr.heap.size (by simp only [World.cell?, heap_alloc_new]; rfl) (by simp only [World.cell?, heap_alloc_new]; rfl) (by simp only [World.cell?, heap_alloc_new]; rfl) (by simp only [World.cell?, heap_alloc_new]; rfl)).mono ?_
    rintro _ w1 ⟨rfl, k1, hk1⟩
    have HB1 : Hid (Below wr.heap.size wr w1) := by rw [hk1]; exact below_drewN (hb0 _) _
    clear hk1 hb0 hsl
    obtain ⟨q, hq⟩ : ∃ q, q = scanE (z.drop n) := ⟨_, rfl⟩
    have HQ : Hid (scanE (z.drop n) = q) := hq.symm
    have hq10 := scanE_lt (z.drop n)
    rw [← hq] at hq10 ⊢
    clear hq
    by_cases h0 : q = 0
    · subst h0
      have hw := (scanE_whole _).1 HQ.out
      have hp := whole_parts hw
      have hnx := scan_next hw
      have hp1 := hp.2.1
      have hz1l := hz2l.out
      have hp2 : 8 + num (z.drop n) ≤ l1 := by omega
      have HP3 := Lib.hid hp.2.2.2
      have HNX := Lib.hid hnx
      clear hw hp hnx hz1l
      go_wp2_with fail
      refine (record_any (HD.out.below HB1.out) hp2 hp1).mono ?_
      rintro _ w2 ⟨v, rfl, ho, hb⟩
      obtain ⟨b3, c3, rfl, hcv⟩ := own_came ho (fun c hc => (HC.out.bytes c (List.mem_of_mem_drop (List.mem_of_mem_drop (List.mem_of_mem_take hc)))))
      have HB2 := Lib.hid (HB1.out.trans (hb.mono HB1.out.size))
      have HO := Lib.hid ho
      clear ho hb hcv
      obtain ⟨r, hr⟩ : ∃ r, r = List.take (num (z.drop n)) (List.drop 8 (z.drop n)) := ⟨_, rfl⟩
      have HRB : Hid (∀ c ∈ r, Byte c) := by rw [hr]; exact fun c hc => HC.out.bytes c (List.mem_of_mem_drop (List.mem_of_mem_drop (List.mem_of_mem_take hc)))
      rw [← hr] at HO HNX HP3
      obtain ⟨N, hN⟩ : ∃ N, N = num (z.drop n) := ⟨_, rfl⟩
      rw [← hN] at HO HNX HP3 hp1 hp2 ⊢
      have HNN := Lib.hid hN
      clear hr hN
      have HBW := Lib.hid (HB.out.trans (HB2.out.mono HB.out.size))
      have hra : Rws (w2.alloc (.cells #[.slice b3 N c3] 30)) w.heap.size u2 rs vs := (HR.out.keep HB2.out).keep ((Below.refl _ _).alloc (Nat.le_refl _) _)
      have HRA := Lib.hid hra
      have hua : (w2.alloc (.cells #[.slice b3 N c3] 30)).ownsRow w.heap.size 5 1 (.slice b3 N c3) r.length (bts r) := by
        rw [HP3.out]
        exact own_later (owns_mono HO.out (Nat.le_trans HB.out.size HB1.out.size)) ((Below.refl _ _).alloc (Nat.le_refl _) _)
      have HUA := Lib.hid hua
      have HBA := Lib.hid (HBW.out.alloc HBW.out.size (.cells #[.slice b3 N c3] 30))
      have hrl : 8 * rs.length ≤ n := by have h := bulk_ge rs; rw [HU.out] at h; exact h
      clear hra hua
      go_wp2_with (at_builtin; go_must (refine wpList_append_own _ rfl _ _ 22 rfl w.heap.size 30 i0 (.slice none 0 0) 1 24 Tryd.underlying22 hi hz0 hz1 hz2 rfl (by decide) u2 rs.length vs rfl HRA.out.own ⟨w2.heap.size, 0, none⟩ 1 1 [.slice b3 N c3] rfl rfl ?d1 ?d2 ?d3 ?d4 ?d5 ?_))
      case d1 => exact cell_one_new _ _ _
      case d2 => simp [Value.oneCell']
      case d3 => unfold maxLen; omega
      case d4 => omega
      case d5 => exact HBA.out.size
      intro v' w3 hown' hgrow _
      have hb3 := HBA.out.grown hgrow HBA.out.size (fun k hk => (HRA.out.own.lt k hk).1)
      have hrn := HRA.out.next HUA.out (by simp [Value.oneCell']) HRB.out hown' hgrow
      have HB3 := Lib.hid hb3
      have HRN := Lib.hid hrn
      clear hown' hgrow hb3 hrn
      go_wp2_with fail
      refine (size_any (HALL.out w3 HB3.out) (by omega)).mono ?_
      rintro _ _ ⟨rfl, rfl⟩
      rw [← HNN.out]
      go_wp2_with fail
      try go_roundw
      case rel => exact ⟨n + (8 + N), rs ++ [r], _, by omega, by go_num, HRN, by have h := HS.out; rw [HNX.out, List.drop_drop] at h; exact h.trans (by rw [List.append_assoc]; rfl), by have h := HP3.out; have h2 := HU.out; show bulk (rs ++ [r]) = _; rw [bulk_append, h2, ← h]; rfl, HB3⟩
      case measure => simp [intOf]; omega
    · have HE : Hid (scan z = rs) := by
        have h1 : whole (z.drop n) = false := by
          cases hb : whole (z.drop n) with
          | false => rfl
          | true => exact absurd (HQ.out.symm.trans ((scanE_whole _).2 hb)) h0
        exact HS.out.trans (by rw [scan_none h1, List.append_nil])
      clear HD HLX HALL
      go_wp2_with fail
      go_ret2
      exact ⟨_, vs, by rw [HE.out, HU.out]; rfl, by rw [HE.out]; exact HR.out.keep HB1.out, HB.out.trans (HB1.out.mono HB.out.size)⟩
end Go.Proofs.YtgggecpnmliolaaDoor
