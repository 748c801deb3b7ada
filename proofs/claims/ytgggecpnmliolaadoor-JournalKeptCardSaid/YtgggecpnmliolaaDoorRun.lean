/- An operation: its power, what it does, whether the power is gone; the three closures that operations hand over. -/
import Derived.Test.YtgggecpnmliolaaDoorStore2
namespace Go.Proofs.YtgggecpnmliolaaDoor
open Go Go.RowKit
set_option linter.unusedVariables false
set_option linter.unusedSimpArgs false

section
variable {B g : Nat} {d : Dk} {lv sv : Value} {w : World}

set_option maxRecDepth 100000 in
set_option maxHeartbeats 1000000 in
theorem run_any (R : World → World → Prop) (hR0 : ∀ w1, Only g w w1 → R w w1) (hRt : ∀ a b, R w a → R a b → R w b) (h : Dsk B g d lv sv w) (hB : B ≤ w.heap.size) (hf : d.count < 1000) (F : FuncId) (first caps : Array Value) (op : Dk → Dk) (anyway : Bool) (hdead : (op d.spend).dead = d.spend.dead) (hF : ∀ args w, (callFunc F args).run Tryd.prog w = .ok (.enter F args) w)
    (hdo : ∀ w1, Dsk B g d.spend lv sv w1 → Only g w w1 → Calls Tryd.prog F (first ++ caps) w1 fun e w' => e = .returned (.tuple #[]) ∧ (∃ lv' sv', Dsk B g (op d.spend) lv' sv' w') ∧ R w1 w') :
    Calls Tryd.prog 33 #[.pointer (some ⟨g, 0, none⟩), .func (.func F) first caps, .bool anyway] w fun e w' => e = .returned (.int .i64 d.runE) ∧ (∃ lv' sv', Dsk B g (d.run op anyway) lv' sv' w') ∧ R w w' := by
  have hold := h.old
  obtain ⟨-, -, -, c3, -, -, -⟩ := h.cells
  have H := Lib.hid h
  have HDO := Lib.hid hdo
  clear h hdo
  cases hd : d.dead with
  | true =>
    rw [hd] at c3
    have hE : Hid (d.runE = 20) := by unfold Hid Dk.runE; rw [if_pos hd]
    have hR : Hid (d.run op anyway = d) := by unfold Hid Dk.run; rw [if_pos hd]
    have HD := Lib.hid hd
    clear hd
    go_enter Tryd.func33, Tryd.ntmps33
    go_wp2_with fail
    go_ret
    exact ⟨ret_i64 hE.out.symm, ⟨lv, sv, by rw [hR.out]; exact H.out⟩, hR0 _ (Only.refl _ _)⟩
  | false =>
    rw [hd] at c3
    have hE : Hid (d.runE = if d.spend.dead = true then 20 else 0) := by unfold Hid Dk.runE; rw [if_neg (by rw [hd]; simp)]
    have hR : Hid (d.run op anyway = d.after op anyway) := by unfold Hid Dk.run; rw [if_neg (by rw [hd]; simp)]
    have HD := Lib.hid hd
    clear hd
    go_enter Tryd.func33, Tryd.ntmps33
    go_wp2_with fail
    refine (spend_any H.out hf).mono ?_
    rintro _ w1 ⟨rfl, h1, ho1⟩
    obtain ⟨-, -, -, c13, -, -, -⟩ := h1.cells
    have H1 := Lib.hid h1
    have HO1 := Lib.hid ho1
    have HB1 := Lib.hid (hR0 _ ho1)
    clear h1 ho1 c3
    cases hs : d.spend.dead with
    | false =>
      rw [hs] at c13
      have HA : Hid (d.after op anyway = op d.spend) := by unfold Hid Dk.after; rw [hs]; simp
      have HE : Hid (d.runE = 0) := by have := hE.out; rw [hs] at this; exact this
      have HS := Lib.hid hs
      clear hs
      cases anyway
      all_goals
        go_wp2_with fail
        refine (HDO.out w1 H1.out HO1.out).mono ?_
        rintro _ w2 ⟨rfl, ⟨l2, s2, h2⟩, hb2⟩
        obtain ⟨-, -, -, c23, -, -, -⟩ := h2.cells
        rw [hdead, HS.out] at c23
        have H2 := Lib.hid h2
        have HB2 := Lib.hid (hRt _ _ HB1.out hb2)
        clear h2 hb2
        go_wp2_with fail
        go_ret
        exact ⟨ret_i64 HE.out.symm, ⟨l2, s2, by rw [hR.out, HA.out]; exact H2.out⟩, HB2.out⟩
    | true =>
      rw [hs] at c13
      have HE : Hid (d.runE = 20) := by have := hE.out; rw [hs] at this; exact this
      have HS := Lib.hid hs
      clear hs
      cases anyway with
      | false =>
        have HA : Hid (d.after op false = d.spend) := by unfold Hid Dk.after; rw [HS.out]; simp
        go_wp2_with fail
        go_ret
        exact ⟨ret_i64 HE.out.symm, ⟨lv, sv, by rw [hR.out, HA.out]; exact H1.out⟩, HB1.out⟩
      | true =>
        have HA : Hid (d.after op true = op d.spend) := by unfold Hid Dk.after; rw [HS.out]; simp
        go_wp2_with fail
        refine (HDO.out w1 H1.out HO1.out).mono ?_
        rintro _ w2 ⟨rfl, ⟨l2, s2, h2⟩, hb2⟩
        obtain ⟨-, -, -, c23, -, -, -⟩ := h2.cells
        rw [hdead, HS.out] at c23
        have H2 := Lib.hid h2
        have HB2 := Lib.hid (hRt _ _ HB1.out hb2)
        clear h2 hb2
        go_wp2_with fail
        go_ret
        exact ⟨ret_i64 HE.out.symm, ⟨l2, s2, by rw [hR.out, HA.out]; exact H2.out⟩, HB2.out⟩

set_option maxRecDepth 100000 in
set_option maxHeartbeats 1000000 in
theorem run_dead (h : Dsk B g d lv sv w) (hd : d.dead = true) (v : Value) (anyway : Bool) :
    Calls Tryd.prog 33 #[.pointer (some ⟨g, 0, none⟩), v, .bool anyway] w fun e w' => e = .returned (.int .i64 20) ∧ w = w' := by
  obtain ⟨-, -, -, c3, -, -, -⟩ := h.cells
  rw [hd] at c3
  clear hd h
  go_enter Tryd.func33, Tryd.ntmps33
  go_wp2_with fail
  go_ret
  exact ⟨rfl, rfl⟩

set_option maxRecDepth 100000 in
set_option maxHeartbeats 1000000 in
theorem doAdd_any (h : Dsk B g d lv sv w) (p q : Nat) {a0 : Option Addr} {len0 cap0 : Nat} {b : List Int} (hp : w.cell? ⟨p, 0, none⟩ = some (.pointer (some ⟨g, 0, none⟩))) (hq : w.cell? ⟨q, 0, none⟩ = some (.slice a0 len0 cap0))
    (hc : Came w a0 len0 cap0 b) (hfit : d.log.length + len0 + d.snap.length ≤ d.room) :
    Calls Tryd.prog 34 #[.pointer (some ⟨p, 0, none⟩), .pointer (some ⟨q, 0, none⟩)] w fun e w' => e = .returned (.tuple #[]) ∧ (∃ lv' sv', Dsk B g (d.add b) lv' sv' w') ∧ Tame B w w' := by
  have H := Lib.hid h
  have HC := Lib.hid hc
  clear h hc
  go_enter Tryd.func34, Tryd.ntmps34
  go_region_with (go_at_call 35; refine (add_any H.out.drew (HC.out.below (Below.refl _ _).drew) hfit).mono ?_; rintro e w1 ⟨rfl, ⟨lv', hd⟩, hb⟩)
  all_goals
    go_end0
    exact ⟨rfl, ⟨_, _, hd⟩, ((Tame.refl _ _).drew).trans hb⟩

set_option maxRecDepth 100000 in
set_option maxHeartbeats 1000000 in
theorem doSwap_any (h : Dsk B g d lv sv w) (p q : Nat) {a0 : Option Addr} {len0 cap0 : Nat} {b : List Int} (hp : w.cell? ⟨p, 0, none⟩ = some (.pointer (some ⟨g, 0, none⟩))) (hq : w.cell? ⟨q, 0, none⟩ = some (.slice a0 len0 cap0))
    (hc : Came w a0 len0 cap0 b) (hfit : len0 ≤ d.room) :
    Calls Tryd.prog 38 #[.pointer (some ⟨p, 0, none⟩), .pointer (some ⟨q, 0, none⟩)] w fun e w' => e = .returned (.tuple #[]) ∧ (∃ lv' sv', Dsk B g (d.swap b) lv' sv' w') ∧ Tame B w w' := by
  have H := Lib.hid h
  have HC := Lib.hid hc
  clear h hc
  go_enter Tryd.func38, Tryd.ntmps38
  go_region_with (go_at_call 39; refine (swap_any H.out.drew (HC.out.below (Below.refl _ _).drew) hfit).mono ?_; rintro e w1 ⟨rfl, ⟨lv', hd⟩, hb⟩)
  all_goals
    go_end0
    exact ⟨rfl, ⟨_, _, hd⟩, ((Tame.refl _ _).drew).trans hb⟩

set_option maxRecDepth 100000 in
set_option maxHeartbeats 1000000 in
theorem doCut_any (h : Dsk B g d lv sv w) (hB : B ≤ w.heap.size) (p q : Nat) (n : Nat) (hp : w.cell? ⟨p, 0, none⟩ = some (.pointer (some ⟨g, 0, none⟩))) (hq : w.cell? ⟨q, 0, none⟩ = some (.int .i64 (n : Int)))
    (hn : n ≤ d.log.length) :
    Calls Tryd.prog 49 #[.pointer (some ⟨p, 0, none⟩), .pointer (some ⟨q, 0, none⟩)] w fun e w' => e = .returned (.tuple #[]) ∧ (∃ lv' sv', Dsk B g (d.cut n) lv' sv' w') ∧ Only g w w' := by
  have hold := h.old
  have H := Lib.hid h
  clear h
  go_enter Tryd.func49, Tryd.ntmps49
  go_region_with (go_at_call 50; refine (dcut_any H.out.drew n hn).mono ?_; rintro e w1 ⟨rfl, ⟨lv', hd⟩, hb⟩)
  all_goals
    go_end0
    exact ⟨rfl, ⟨_, _, hd⟩, (Only.of_below ((Below.refl _ _).drew)).trans hb⟩
end
end Go.Proofs.YtgggecpnmliolaaDoor
