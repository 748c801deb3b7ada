/- What the program asks of bytes: are they as the checksum says? Their copy; the first error of several. -/
import Derived.Test.YtgggecpnmliolaaDoorText
namespace Go.Proofs.YtgggecpnmliolaaDoor
open Go.RowKit Frm
set_option linter.unusedVariables false
set_option linter.unusedSimpArgs false

theorem Came.drewN {w : World} {a : Option Addr} {len cap : Nat} {z : List Int} (h : Came w a len cap z) (k : Nat) : Came (w.drewN k) a len cap z := h.below (below_drewN (Below.refl _ _) k)

theorem ne_val (a n : Nat) : ((a : Int) != (n : Int)) = decide (a ≠ n) := by
  by_cases h : a = n
  · simp [h]
  · have h' : ¬ (a : Int) = (n : Int) := by omega
    simp [h, h']

set_option maxRecDepth 100000 in
set_option maxHeartbeats 4000000 in
theorem bad_any {a0 : Option Addr} {len0 cap0 : Nat} {z : List Int} {w : World} (hc : Came w a0 len0 cap0 z) (h8 : 8 + num z ≤ len0) (hlaid : Laid w) :
    Calls Tryd.prog 46 #[.slice a0 len0 cap0] w fun e w' => e = .returned (.int .i64 (chk (decide ((crc ((z.drop 8).take (num z))).toNat ≠ num (z.drop 4))) 10)) ∧ ∃ k, w' = w.drewN k := by
  have hn := num_lt hc.bytes
  have hle := hc.le
  obtain ⟨n, hne⟩ : ∃ n, n = num z := ⟨_, rfl⟩
  have hs1 : ∀ w, (Instr.sliceAt 66 (.slice a0 len0 cap0) (some (.int .i64 8)) (some (.int .i64 (8 + (n : Int)))) none).run Tryd.prog w = .ok (.slice (cutAt a0 cap0 8) n (cap0 - 8)) w := fun w => by
    have h := slice_mid48 a0 len0 cap0 8 (8 + n) (by omega) (by omega) 8 (8 + (n : Int)) (by omega) (by omega) w
    rwa [Nat.add_sub_cancel_left] at h
  have hs2 : ∀ w, (Instr.sliceAt 66 (.slice a0 len0 cap0) (some (.int .i64 4)) none none).run Tryd.prog w = .ok (.slice (cutAt a0 cap0 4) (len0 - 4) (cap0 - 4)) w := fun w => slice_from48 a0 len0 cap0 4 (by omega) 4 rfl w
  have HC := Lib.hid hc
  have HL := Lib.hid hlaid
  have HA := Lib.hid (came_sub hc 8 n (by omega))
  have HB := Lib.hid (came_drop hc 4 (by omega))
  obtain ⟨c, hcc⟩ : ∃ c, c = crc ((z.drop 8).take n) := ⟨_, rfl⟩
  obtain ⟨m, hm⟩ : ∃ m, m = num (z.drop 4) := ⟨_, rfl⟩
  rw [← hne, ← hcc, ← hm]
  have HN := Lib.hid hne
  have HCC := Lib.hid hcc
  have HM := Lib.hid hm
  rw [← hne] at hn h8
  have h4 : 4 ≤ len0 := by omega
  have h44 : 4 ≤ len0 - 4 := by omega
  obtain ⟨a8, ha8⟩ : ∃ a, a = cutAt a0 cap0 8 := ⟨_, rfl⟩
  obtain ⟨a4, ha4⟩ : ∃ a, a = cutAt a0 cap0 4 := ⟨_, rfl⟩
  rw [← ha8] at hs1 HA
  rw [← ha4] at hs2 HB
  clear hc hlaid hne hcc hm ha8 ha4
  go_enter Tryd.func46, Tryd.ntmps46
  go_upto_region 1 with (fail)
  go_quiet (first
    | exact ((size_any (Came.drewN HC.out _) h4).mono fun e w' h => ⟨by rw [h.1, ← HN.out], _, h.2.symm⟩)
    | exact ((crc_any a8 n (cap0 - 8) _ _ (Came.drewN HA.out _).reads HA.out.bytes (by omega) (HL.out.drewN _)).mono fun e w' h => ⟨by rw [h.1, ← HCC.out], _, h.2.symm⟩)
    | exact ((number_any a4 (len0 - 4) (cap0 - 4) _ _ (Came.drewN HB.out _).reads HB.out.bytes h44).mono fun e w' h => ⟨by rw [h.1, ← HM.out], _, h.2.symm⟩)
    | exact ((failed_any _ _ _).mono fun e w' h => ⟨h.1, _, h.2.symm⟩))
  go_wp2_with fail
  go_ret
  exact ⟨ret_i64 (by rw [ne_val]), _, rfl⟩

theorem eql_nil (ad : Addr) (l c : Nat) (w : World) : (binOp .eql 30 (.slice (some ad) l c) (.slice none 0 0)).run Tryd.prog w = .ok (.bool false) w := by kernel_rfl

set_option maxRecDepth 100000 in
theorem clone_any {ad : Addr} {len0 cap0 : Nat} {z : List Int} {w : World} (hc : Came w (some ad) len0 cap0 z) (hn : len0 ≤ 5000000) :
    Calls Tryd.prog 59 #[.slice (some ad) len0 cap0] w fun e w' => ∃ v, e = .returned v ∧ w'.ownsRow w.heap.size 5 1 v len0 (bts z) ∧ Below w.heap.size w w' := by
  obtain ⟨i0, hi, hz0, hz1, hz2⟩ := info_parts Tryd.infoByte
  have HM := Lib.hid (World.ownsRow_made (base := w.heap.size) (e := 5) (size := 1) w #[] 0 (Nat.le_refl _) (by unfold maxLen; omega) rfl)
  have HB0 := Lib.hid ((Below.refl w.heap.size w).alloc (Nat.le_refl _) (.cells #[] 5))
  have HC0 := Lib.hid (hc.below HB0.out)
  clear hc
  have heq := eql_nil ad len0 cap0
  go_enter Tryd.func59, Tryd.ntmps59
  go_wp2_with (at_builtin; go_must (refine wpList_append_reads rfl _ _ 30 rfl w.heap.size 5 i0 Tryd.underlying30 hi hz0 hz1 hz2 _ 0 [] rfl HM.out (some ad) len0 cap0 z rfl HC0.out.reads HC0.out.nil ?d4 ?d5 ?_))
  case d4 => omega
  case d5 => exact HB0.out.size
  intro v3 w3 ho3 hg3
  have hb3 := HB0.out.grown hg3 HB0.out.size (fun k hk => (HM.out.lt k hk).1)
  have HO3 := Lib.hid ho3
  have HB3 := Lib.hid hb3
  clear ho3 hb3 hg3
  go_wp2_with fail
  go_ret
  exact ⟨v3, rfl, by have h := HO3.out; simpa using h, HB3.out⟩

theorem cutAt_some (ad : Addr) (cap p : Nat) : ∃ ad', cutAt (some ad) cap p = some ad' := by
  unfold cutAt
  split
  · exact ⟨_, rfl⟩
  · exact ⟨_, rfl⟩

set_option maxRecDepth 100000 in
theorem record_any {a0 : Option Addr} {len0 cap0 : Nat} {z : List Int} {w : World} (hc : Came w a0 len0 cap0 z) (h8 : 8 + num z ≤ len0) (hm : num z ≤ 4194304) :
    Calls Tryd.prog 47 #[.slice a0 len0 cap0] w fun e w' => ∃ v, e = .returned v ∧ w'.ownsRow w.heap.size 5 1 v (num z) (bts ((z.drop 8).take (num z))) ∧ Below w.heap.size w w' := by
  have hle := hc.le
  obtain ⟨ad, rfl, -⟩ := hc.reads.at (show 0 < len0 by omega)
  obtain ⟨n, hne⟩ : ∃ n, n = num z := ⟨_, rfl⟩
  have hs1 : ∀ w, (Instr.sliceAt 66 (.slice (some ad) len0 cap0) (some (.int .i64 8)) (some (.int .i64 (8 + (n : Int)))) none).run Tryd.prog w = .ok (.slice (cutAt (some ad) cap0 8) n (cap0 - 8)) w := fun w => by
    have h := slice_mid48 (some ad) len0 cap0 8 (8 + n) (by omega) (by omega) 8 (8 + (n : Int)) (by omega) (by omega) w
    rwa [Nat.add_sub_cancel_left] at h
  have HC := Lib.hid hc
  have HA := Lib.hid (came_sub hc 8 n (by omega))
  rw [← hne] at h8 hm ⊢
  have HN := Lib.hid hne
  have h4 : 4 ≤ len0 := by omega
  obtain ⟨ad8, had8⟩ := cutAt_some ad cap0 8
  rw [had8] at hs1 HA
  clear hc hne had8
  go_enter Tryd.func47, Tryd.ntmps47
  go_wp2_with fail
  refine (size_any HC.out h4).mono ?_
  rintro _ _ ⟨rfl, rfl⟩
  rw [← HN.out]
  go_wp2_with fail
  refine (clone_any HA.out (by omega)).mono ?_
  rintro _ w2 ⟨v, rfl, ho, hb⟩
  have HO := Lib.hid ho
  have HB := Lib.hid hb
  clear ho hb
  go_wp2_with fail
  go_ret
  exact ⟨v, rfl, HO.out, HB.out⟩
end Go.Proofs.YtgggecpnmliolaaDoor
