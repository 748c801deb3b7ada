/- The statements' log: frames of rows, one behind the other. -/
import Derived.Test.YtbgaekokjkdpiaaDoorLaw3
namespace Go.Proofs.YtbgaekokjkdpiaaDoor
open Go.RowKit Frm
set_option linter.unusedVariables false
set_option linter.unusedSimpArgs false

theorem take_next {zss : List (List Int)} {i : Nat} (hi : i < zss.length) : zss.take (i + 1) = zss.take i ++ [zss.getD i []] := by
  have h : zss[i]? = some (zss.getD i []) := by simp [List.getD, hi]
  rw [List.take_add_one, h]
  rfl

theorem bulk_few {zss : List (List Int)} : ∀ i, i ≤ zss.length → (∀ j, j < i → (zss.getD j []).length ≤ 300) → bulk (zss.take i) ≤ 308 * i := by
  intro i
  induction i with
  | zero => intro _ _; simp [bulk]
  | succ i ih =>
    intro hi h
    rw [take_next (by omega), bulk_append]
    have h1 := ih (by omega) (fun j hj => h j (by omega))
    have h2 := h i (by omega)
    simp only [bulk]
    omega

set_option maxRecDepth 100000 in
set_option maxHeartbeats 4000000 in
theorem log_any {a0 : Option Addr} {len0 cap0 : Nat} {zss : List (List Int)} {w : World} (hm : Mat w a0 len0 cap0 zss) (hl : len0 ≤ 10) (h3 : ∀ j, j < len0 → (zss.getD j []).length ≤ 300) :
    Calls Tryd.prog 18 #[.slice a0 len0 cap0] w fun e w' => ∃ v, e = .returned v ∧ w'.ownsRow w.heap.size 5 1 v (bulk zss) (bts (frames zss)) ∧ Below w.heap.size w w' := by
  obtain ⟨i0, hi, hz0, hz1, hz2⟩ := info_parts Tryd.infoByte
  have HM := Lib.hid hm
  have H3 := Lib.hid h3
  clear hm h3
  go_enter Tryd.func18, Tryd.ntmps18
  go_wp2_with fail
  go_loopw [3, 4] (fun t v X => ∃ i : Nat, i ≤ len0 ∧ v = .int .i64 (i : Int) ∧ Hid (X.ownsRow w.heap.size 5 1 t (bulk (zss.take i)) (bts (frames (zss.take i)))) ∧ Hid (Below w.heap.size w X)) (fun _ v _ => ((len0 : Int) - intOf v).toNat)
  case atStart => exact ⟨0, by omega, rfl, World.ownsRow_nil _ _ _ _, Below.refl _ _⟩
  case round =>
    obtain ⟨i, hil, rfl, HO, HB⟩ := hrel
    by_cases hlt : i < len0
    · have h10 : i < 10 := by omega
      obtain ⟨ad, rfl, b, l, c, hcell, hcame⟩ := HM.out.row i hlt
      have hcell' : wr.cell? (ad.add i) = some (.slice b l c) := by rw [HB.out.cell (World.block_lt_of_cell? w _ hcell)]; exact hcell
      have HCM := Lib.hid (hcame.below HB.out)
      have hnx := take_next (zss := zss) (i := i) (by rw [HM.out.sz]; exact hlt)
      have hl3 := H3.out i hlt
      have hbf := bulk_few (zss := zss) i (by rw [HM.out.sz]; exact hil) (fun j hj => H3.out j (by omega))
      rw [hcame.reads.1] at hl3
      have hrl := hcame.reads.1
      obtain ⟨z, hz⟩ : ∃ z, z = zss.getD i [] := ⟨_, rfl⟩
      rw [← hz] at HCM hnx hrl
      obtain ⟨m, hm⟩ : ∃ m, m = bulk (zss.take i) := ⟨_, rfl⟩
      rw [← hm] at HO hbf
      have HNX := Lib.hid hnx
      have HMM := Lib.hid hm
      have HRL := Lib.hid hrl
      clear hcell hcame hz hnx hm hrl
      go_wp2_with fail
      refine (rframe_any b l c z wr HCM.out (by omega)).mono ?_
      rintro _ w1 ⟨v, rfl, ho, hb⟩
      have HO1 := Lib.hid (own_later HO.out hb)
      obtain ⟨b3, c3, rfl, hcv⟩ := own_came ho (frame_byte HCM.out.bytes)
      have HCV := Lib.hid hcv
      have HB1 := Lib.hid (HB.out.trans (hb.mono HB.out.size))
      clear ho hb hcv HO
      go_wp2_with (at_builtin; go_must (refine wpList_append_reads rfl _ _ 22 rfl w.heap.size 5 i0 Tryd.underlying22 hi hz0 hz1 hz2 u3 m (frames (zss.take i)) rfl HO1.out b3 (8 + l) c3 (frame z) rfl HCV.out.reads HCV.out.nil ?d4 ?d5 ?_))
      case d4 => omega
      case d5 => exact HB1.out.size
      intro v3 w3 ho3 hg3
      have hb3 := HB1.out.grown hg3 HB1.out.size (fun k hk => (HO1.out.lt k hk).1)
      have HO3 := Lib.hid ho3
      have HB3 := Lib.hid hb3
      clear ho3 hb3 hg3
      go_wp2_with fail
      try go_roundw
      case rel =>
        refine ⟨i + 1, by omega, by go_num, ?_, HB3⟩
        have h := HO3.out
        have e1 : bulk (zss.take (i + 1)) = m + (8 + l) := by rw [HNX.out, bulk_append, ← HMM.out]; simp only [bulk]; rw [HRL.out]; omega
        have e2 : frames (zss.take (i + 1)) = frames (zss.take i) ++ frame z := by rw [HNX.out, frames_append]; simp [frames]
        rw [e1, e2]
        exact h
      case measure => simp [intOf]; omega
    · obtain rfl : i = len0 := by omega
      have e : zss.take i = zss := List.take_of_length_le (by rw [HM.out.sz]; omega)
      rw [e] at HO
      clear e
      go_wp2_with fail
      go_ret
      exact ⟨_, rfl, HO.out, HB.out⟩
end Go.Proofs.YtbgaekokjkdpiaaDoor
