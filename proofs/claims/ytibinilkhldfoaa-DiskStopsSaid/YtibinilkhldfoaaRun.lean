/- An operation: its power, what it does, whether the power is gone; the three closures that operations hand over. -/
import Derived.Test.YtibinilkhldfoaaStore2
namespace Go.Proofs.Ytibinilkhldfoaa
open Go Go.RowKit
set_option linter.unusedVariables false
set_option linter.unusedSimpArgs false

section
variable {B g : Nat} {d : Dk} {lv sv : Value} {w : World}

set_option maxRecDepth 100000 in
set_option maxHeartbeats 1000000 in
theorem run_any (h : Dsk B g d lv sv w) (hB : B ≤ w.heap.size) (hf : d.count < 1000) (F : FuncId) (first caps : Array Value) (op : Dk → Dk) (anyway : Bool) (hdead : (op d.spend).dead = d.spend.dead) (hF : ∀ args w, (callFunc F args).run Try.prog w = .ok (.enter F args) w)
    (hdo : ∀ w1, Dsk B g d.spend lv sv w1 → Only g w w1 → Calls Try.prog F (first ++ caps) w1 fun e w' => e = .returned (.tuple #[]) ∧ (∃ lv' sv', Dsk B g (op d.spend) lv' sv' w') ∧ Below B w1 w') :
    Calls Try.prog 21 #[.pointer (some ⟨g, 0, none⟩), .func (.func F) first caps, .bool anyway] w fun e w' => e = .returned (.int .i64 d.runE) ∧ (∃ lv' sv', Dsk B g (d.run op anyway) lv' sv' w') ∧ Below B w w' := by
  have hold := h.old
  obtain ⟨-, -, -, c3, -, -, -⟩ := h.cells
  have H := Lib.hid h
  have HDO := Lib.hid hdo
  clear h hdo
  cases hd : d.dead with
  | true =>
    rw [hd] at c3
    have hE : Hid (d.runE = 20) := by unfold Hid Dk.runE; rw [if_pos hd]
    have hR : Hid (d.run op anyway = d) := by unfold Hid Dk.run; rw [if_pos hd]
    have HD := Lib.hid hd
    clear hd
    go_enter Try.func21, Try.ntmps21
    go_wp2_with fail
    go_ret
    exact ⟨ret_i64 hE.out.symm, ⟨lv, sv, by rw [hR.out]; exact H.out⟩, Below.refl _ _⟩
  | false =>
    rw [hd] at c3
    have hE : Hid (d.runE = if d.spend.dead = true then 20 else 0) := by unfold Hid Dk.runE; rw [if_neg (by rw [hd]; simp)]
    have hR : Hid (d.run op anyway = d.after op anyway) := by unfold Hid Dk.run; rw [if_neg (by rw [hd]; simp)]
    have HD := Lib.hid hd
    clear hd
    go_enter Try.func21, Try.ntmps21
    go_wp2_with fail
    refine (spend_any H.out hf).mono ?_
    rintro _ w1 ⟨rfl, h1, ho1⟩
    obtain ⟨-, -, -, c13, -, -, -⟩ := h1.cells
    have H1 := Lib.hid h1
    have HO1 := Lib.hid ho1
    have HB1 := Lib.hid (ho1.below hold hB)
    clear h1 ho1 c3
    cases hs : d.spend.dead with
    | false =>
      rw [hs] at c13
      have HA : Hid (d.after op anyway = op d.spend) := by unfold Hid Dk.after; rw [hs]; simp
      have HE : Hid (d.runE = 0) := by have := hE.out; rw [hs] at this; exact this
      have HS := Lib.hid hs
      clear hs
      cases anyway
      all_goals
        go_wp2_with fail
        refine (HDO.out w1 H1.out HO1.out).mono ?_
        rintro _ w2 ⟨rfl, ⟨l2, s2, h2⟩, hb2⟩
        obtain ⟨-, -, -, c23, -, -, -⟩ := h2.cells
        rw [hdead, HS.out] at c23
        have H2 := Lib.hid h2
        have HB2 := Lib.hid (HB1.out.trans hb2)
        clear h2 hb2
        go_wp2_with fail
        go_ret
        exact ⟨ret_i64 HE.out.symm, ⟨l2, s2, by rw [hR.out, HA.out]; exact H2.out⟩, HB2.out⟩
    | true =>
      rw [hs] at c13
      have HE : Hid (d.runE = 20) := by have := hE.out; rw [hs] at this; exact this
      have HS := Lib.hid hs
      clear hs
      cases anyway with
      | false =>
        have HA : Hid (d.after op false = d.spend) := by unfold Hid Dk.after; rw [HS.out]; simp
        go_wp2_with fail
        go_ret
        exact ⟨ret_i64 HE.out.symm, ⟨lv, sv, by rw [hR.out, HA.out]; exact H1.out⟩, HB1.out⟩
      | true =>
        have HA : Hid (d.after op true = op d.spend) := by unfold Hid Dk.after; rw [HS.out]; simp
        go_wp2_with fail
        refine (HDO.out w1 H1.out HO1.out).mono ?_
        rintro _ w2 ⟨rfl, ⟨l2, s2, h2⟩, hb2⟩
        obtain ⟨-, -, -, c23, -, -, -⟩ := h2.cells
        rw [hdead, HS.out] at c23
        have H2 := Lib.hid h2
        have HB2 := Lib.hid (HB1.out.trans hb2)
        clear h2 hb2
        go_wp2_with fail
        go_ret
        exact ⟨ret_i64 HE.out.symm, ⟨l2, s2, by rw [hR.out, HA.out]; exact H2.out⟩, HB2.out⟩

set_option maxRecDepth 100000 in
set_option maxHeartbeats 1000000 in
theorem run_dead (h : Dsk B g d lv sv w) (hd : d.dead = true) (v : Value) (anyway : Bool) :
    Calls Try.prog 21 #[.pointer (some ⟨g, 0, none⟩), v, .bool anyway] w fun e w' => e = .returned (.int .i64 20) ∧ w = w' := by
  obtain ⟨-, -, -, c3, -, -, -⟩ := h.cells
  rw [hd] at c3
  clear hd h
  go_enter Try.func21, Try.ntmps21
  go_wp2_with fail
  go_ret
  exact ⟨rfl, rfl⟩

set_option maxRecDepth 100000 in
set_option maxHeartbeats 1000000 in
theorem doAdd_any (h : Dsk B g d lv sv w) (p q : Nat) {a0 : Option Addr} {len0 cap0 : Nat} {b : List Int} (hp : w.cell? ⟨p, 0, none⟩ = some (.pointer (some ⟨g, 0, none⟩))) (hq : w.cell? ⟨q, 0, none⟩ = some (.slice a0 len0 cap0))
    (hc : Came w a0 len0 cap0 b) (hfit : d.log.length + len0 + d.snap.length ≤ d.room) :
    Calls Try.prog 22 #[.pointer (some ⟨p, 0, none⟩), .pointer (some ⟨q, 0, none⟩)] w fun e w' => e = .returned (.tuple #[]) ∧ (∃ lv' sv', Dsk B g (d.add b) lv' sv' w') ∧ Below B w w' := by
  have H := Lib.hid h
  have HC := Lib.hid hc
  clear h hc
  go_enter Try.func22, Try.ntmps22
  go_region_with (go_at_call 23; refine (add_any H.out.drew (HC.out.below (Below.refl _ _).drew) hfit).mono ?_; rintro e w1 ⟨rfl, ⟨lv', hd⟩, hb⟩)
  all_goals
    go_end0
    exact ⟨rfl, ⟨_, _, hd⟩, ((Below.refl _ _).drew).trans hb⟩

set_option maxRecDepth 100000 in
set_option maxHeartbeats 1000000 in
theorem doSwap_any (h : Dsk B g d lv sv w) (p q : Nat) {a0 : Option Addr} {len0 cap0 : Nat} {b : List Int} (hp : w.cell? ⟨p, 0, none⟩ = some (.pointer (some ⟨g, 0, none⟩))) (hq : w.cell? ⟨q, 0, none⟩ = some (.slice a0 len0 cap0))
    (hc : Came w a0 len0 cap0 b) (hfit : len0 ≤ d.room) :
    Calls Try.prog 27 #[.pointer (some ⟨p, 0, none⟩), .pointer (some ⟨q, 0, none⟩)] w fun e w' => e = .returned (.tuple #[]) ∧ (∃ lv' sv', Dsk B g (d.swap b) lv' sv' w') ∧ Below B w w' := by
  have H := Lib.hid h
  have HC := Lib.hid hc
  clear h hc
  go_enter Try.func27, Try.ntmps27
  go_region_with (go_at_call 28; refine (swap_any H.out.drew (HC.out.below (Below.refl _ _).drew) hfit).mono ?_; rintro e w1 ⟨rfl, ⟨lv', hd⟩, hb⟩)
  all_goals
    go_end0
    exact ⟨rfl, ⟨_, _, hd⟩, ((Below.refl _ _).drew).trans hb⟩

set_option maxRecDepth 100000 in
set_option maxHeartbeats 1000000 in
theorem doCut_any (h : Dsk B g d lv sv w) (hB : B ≤ w.heap.size) (p q : Nat) (n : Nat) (hp : w.cell? ⟨p, 0, none⟩ = some (.pointer (some ⟨g, 0, none⟩))) (hq : w.cell? ⟨q, 0, none⟩ = some (.int .i64 (n : Int)))
    (hn : n ≤ d.log.length) :
    Calls Try.prog 30 #[.pointer (some ⟨p, 0, none⟩), .pointer (some ⟨q, 0, none⟩)] w fun e w' => e = .returned (.tuple #[]) ∧ (∃ lv' sv', Dsk B g (d.cut n) lv' sv' w') ∧ Below B w w' := by
  have hold := h.old
  have H := Lib.hid h
  clear h
  go_enter Try.func30, Try.ntmps30
  go_region_with (go_at_call 31; refine (cut_any H.out.drew n hn).mono ?_; rintro e w1 ⟨rfl, ⟨lv', hd⟩, hb⟩)
  all_goals
    go_end0
    exact ⟨rfl, ⟨_, _, hd⟩, ((Below.refl _ _).drew).trans (hb.below hold hB)⟩
end
end Go.Proofs.Ytibinilkhldfoaa
