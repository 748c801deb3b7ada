/- What stands on a disk is changed for other things; what stays of it when the power goes; what it tells. -/
import Derived.Test.YtgggecpnmliolaaDoorStore
import Derived.Deep.MidRow
namespace Go.Proofs.YtgggecpnmliolaaDoor
open Go Go.RowKit
set_option linter.unusedVariables false
set_option linter.unusedSimpArgs false

section
variable {B g : Nat} {d : Dk} {lv sv : Value} {w : World}

theorem log_came (h : Dsk B g d lv sv w) : ∃ a c, lv = .slice a d.log.length c ∧ Came w a d.log.length c d.log := own_came h.log h.lby
theorem snap_came (h : Dsk B g d lv sv w) : ∃ a c, sv = .slice a d.snap.length c ∧ Came w a d.snap.length c d.snap := own_came h.snap h.sby

set_option maxRecDepth 100000 in
set_option maxHeartbeats 1000000 in
theorem logs_any (h : Dsk B g d lv sv w) : Calls Tryd.prog 19 #[.pointer (some ⟨g, 0, none⟩)] w fun e w' => ∃ v, e = .returned v ∧ w'.ownsRow w.heap.size 5 1 v d.log.length (bts d.log) ∧ Below w.heap.size w w' := by
  have h1 := h.fit
  have h2 := h.small
  obtain ⟨a1, n1, rfl, hc⟩ := log_came h
  obtain ⟨c0, -, -, -, -, -, -⟩ := h.cells
  have HC := Lib.hid hc
  clear h hc
  go_enter Tryd.func19, Tryd.ntmps19
  go_wp2_with fail
  refine (copied_any a1 d.log.length n1 d.log w HC.out.reads (by omega)).mono ?_
  rintro _ w1 ⟨v, rfl, ho, hb⟩
  have HO := Lib.hid ho
  have HB := Lib.hid hb
  clear ho hb
  go_wp2_with fail
  go_ret
  exact ⟨v, rfl, HO.out, HB.out⟩

set_option maxRecDepth 100000 in
set_option maxHeartbeats 1000000 in
theorem snaps_any (h : Dsk B g d lv sv w) : Calls Tryd.prog 23 #[.pointer (some ⟨g, 0, none⟩)] w fun e w' => ∃ v, e = .returned v ∧ w'.ownsRow w.heap.size 5 1 v d.snap.length (bts d.snap) ∧ Below w.heap.size w w' := by
  have h1 := h.fit
  have h2 := h.small
  obtain ⟨a1, n1, rfl, hc⟩ := snap_came h
  obtain ⟨-, -, c2, -, -, -, -⟩ := h.cells
  have HC := Lib.hid hc
  clear h hc
  go_enter Tryd.func23, Tryd.ntmps23
  go_wp2_with fail
  refine (copied_any a1 d.snap.length n1 d.snap w HC.out.reads (by omega)).mono ?_
  rintro _ w1 ⟨v, rfl, ho, hb⟩
  have HO := Lib.hid ho
  have HB := Lib.hid hb
  clear ho hb
  go_wp2_with fail
  go_ret
  exact ⟨v, rfl, HO.out, HB.out⟩

set_option maxRecDepth 100000 in
set_option maxHeartbeats 1000000 in
theorem swap_any (h : Dsk B g d lv sv w) {a0 : Option Addr} {len0 cap0 : Nat} {b : List Int} (hc : Came w a0 len0 cap0 b) (hfit : len0 ≤ d.room) :
    Calls Tryd.prog 39 #[.pointer (some ⟨g, 0, none⟩), .slice a0 len0 cap0] w fun e w' => e = .returned (.tuple #[]) ∧ (∃ sv', Dsk B g (d.swap b) (.slice none 0 0) sv' w') ∧ Tame B w w' := by
  have hsm := h.small
  have hlt := h.lt
  have hold := h.old
  have H := Lib.hid h
  have HC := Lib.hid hc
  clear h hc
  go_enter Tryd.func39, Tryd.ntmps39
  go_wp2_with fail
  refine (copied_any a0 len0 cap0 b w HC.out.reads (by omega)).mono ?_
  rintro _ w1 ⟨v, rfl, ho, hb⟩
  obtain ⟨x1, y1, rfl⟩ := own_slice ho
  have HO := Lib.hid ho
  have HB := Lib.hid hb
  have HD := Lib.hid (H.out.later hb)
  clear ho hb
  have f0 := HD.out.free 0
  have f1 := HD.out.free 1
  have f2 := HD.out.free 2
  obtain ⟨c0, c1, c2, -⟩ := HD.out.cells
  go_wp2_with fail
  go_end0
  have hby : ∀ c ∈ b, Byte c := HC.out.bytes
  have hlen : b.length = len0 := HC.out.reads.1
  have r1 := only_setCell w1 g 0 _ _ (.slice none 0 0) HD.out.row
  have r2 := only_setCell _ g 1 _ _ (.int .i64 0) r1.2
  have r3 := only_setCell _ g 2 _ _ (.slice x1 len0 y1) r2.2
  have hon := (r1.1.trans r2.1).trans r3.1
  have hrow := HD.out.row
  have HBw : Tame B w w1 := Tame.new HB.out (Nat.le_trans hold (Nat.le_of_lt hlt))
  refine ⟨rfl, ⟨.slice x1 len0 y1, ?_, hold, World.ownsRow_nil _ _ _ _, ?_, .inl rfl, ?_, hsm, H.out.few, H.out.stop, by simp [Dk.swap], hby⟩, HBw.trans (Tame.row hrow hon hold (by have := HBw.size; omega))⟩
  · rw [r3.2]
    simp [dcells, Dk.swap]
  · have h3 : w1.ownsRow B 5 1 (.slice x1 len0 y1) b.length (bts b) := by rw [hlen]; exact own_new HO.out (Nat.le_trans hold (Nat.le_of_lt hlt))
    exact own_only h3 hon (row_apart hrow h3)
  · show 0 + b.length ≤ d.room
    omega

set_option maxRecDepth 100000 in
set_option maxHeartbeats 1000000 in
theorem lose_any (h : Dsk B g d lv sv w) (hs : d.syn ≤ d.log.length) (p : Int) (hp : I64 p) :
    Calls Tryd.prog 30 #[.pointer (some ⟨g, 0, none⟩), .int .i64 p] w fun e w' => e = .returned (.int .i64 (d.stays p : Int)) ∧ (∃ lv', Dsk B g (d.lose p) lv' sv w') ∧ Only g w w' := by
  have h1 := h.fit
  have h2 := h.small
  obtain ⟨a1, n1, rfl⟩ := own_slice h.log
  obtain ⟨c0, c1, -, -, -, -, -⟩ := h.cells
  have hlog := Lib.hid (rfl : d.log.length = d.log.length)
  have hb := tmod_bd p ((d.log.length : Int) - (d.syn : Int) + 1) (by omega)
  have HM := Lib.hid (mod_of_tmod p ((d.log.length : Int) - (d.syn : Int) + 1) (by omega))
  have hS0 : 0 ≤ p % ((d.log.length : Int) - (d.syn : Int) + 1) := Int.emod_nonneg _ (by omega)
  have hS1 : p % ((d.log.length : Int) - (d.syn : Int) + 1) < (d.log.length : Int) - (d.syn : Int) + 1 := Int.emod_lt_of_pos _ (by omega)
  have HS : Hid ((d.stays p : Int) = p % ((d.log.length : Int) - (d.syn : Int) + 1)) := by
    show ((p % ((d.log.length : Int) - d.syn + 1)).toNat : Int) = _
    omega
  have hle : d.syn + d.stays p ≤ d.log.length := by have := HS.out; omega
  have H := Lib.hid h
  clear h
  by_cases hneg : p.tmod ((d.log.length : Int) - (d.syn : Int) + 1) < 0
  · have E : Hid ((d.syn : Int) + (p.tmod ((d.log.length : Int) - (d.syn : Int) + 1) + ((d.log.length : Int) - (d.syn : Int) + 1)) = ((d.syn + d.stays p : Nat) : Int)) := by
      have h3 := HM.out
      rw [if_pos hneg] at h3
      have h4 := HS.out
      show _ = _
      push_cast
      omega
    clear hS0 hS1
    go_enter Tryd.func30, Tryd.ntmps30
    go_wp2_with fail
    go_quiet (fail)
    go_wp2_with fail
    rw [E.out]
    refine (dcut_any (H.out.drewN nq) (d.syn + d.stays p) hle).mono ?_
    rintro _ w2 ⟨rfl, ⟨lv', hd⟩, ho⟩
    have HD := Lib.hid hd
    have HO := Lib.hid ((Only.of_below (below_drewN (Below.refl _ w) nq)).trans ho)
    clear hd ho
    go_wp2_with fail
    go_ret
    exact ⟨ret_i64 (by have := E.out; omega), ⟨lv', HD.out⟩, HO.out⟩
  · by_cases hk : 0 ≤ p
    · have E : Hid ((d.syn : Int) + p % ((d.log.length : Int) - (d.syn : Int) + 1) = ((d.syn + d.stays p : Nat) : Int)) := by
        have h4 := HS.out
        show _ = _
        push_cast
        omega
      clear hb hneg
      go_enter Tryd.func30, Tryd.ntmps30
      go_wp2_with fail
      go_quiet (fail)
      go_wp2_with fail
      rw [E.out]
      refine (dcut_any (H.out.drewN nq) (d.syn + d.stays p) hle).mono ?_
      rintro _ w2 ⟨rfl, ⟨lv', hd⟩, ho⟩
      have HD := Lib.hid hd
      have HO := Lib.hid ((Only.of_below (below_drewN (Below.refl _ w) nq)).trans ho)
      clear hd ho
      go_wp2_with fail
      go_ret
      exact ⟨ret_i64 (by have := E.out; omega), ⟨lv', HD.out⟩, HO.out⟩
    · have E : Hid ((d.syn : Int) + p.tmod ((d.log.length : Int) - (d.syn : Int) + 1) = ((d.syn + d.stays p : Nat) : Int)) := by
        have h3 := HM.out
        rw [if_neg hneg] at h3
        have h4 := HS.out
        show _ = _
        push_cast
        omega
      clear hS0 hS1
      go_enter Tryd.func30, Tryd.ntmps30
      go_wp2_with fail
      go_quiet (fail)
      go_wp2_with fail
      rw [E.out]
      refine (dcut_any (H.out.drewN nq) (d.syn + d.stays p) hle).mono ?_
      rintro _ w2 ⟨rfl, ⟨lv', hd⟩, ho⟩
      have HD := Lib.hid hd
      have HO := Lib.hid ((Only.of_below (below_drewN (Below.refl _ w) nq)).trans ho)
      clear hd ho
      go_wp2_with fail
      go_ret
      exact ⟨ret_i64 (by have := E.out; omega), ⟨lv', HD.out⟩, HO.out⟩
end
end Go.Proofs.YtgggecpnmliolaaDoor
