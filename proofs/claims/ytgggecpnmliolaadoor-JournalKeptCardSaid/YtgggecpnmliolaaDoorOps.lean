/- The disk's operations, as the document has them. -/
import Derived.Test.YtgggecpnmliolaaDoorRun
import Derived.StillTailTactics
namespace Go.Proofs.YtgggecpnmliolaaDoor
open Go Go.RowKit
set_option linter.unusedVariables false
set_option linter.unusedSimpArgs false

namespace Dk
/-- is there no room for n bytes more? -/
def full (n : Nat) (d : Dk) : Bool := !d.dead && decide (d.room < d.log.length + d.snap.length + n)
def append (b : List Int) (d : Dk) : Dk := if d.full b.length = true then d else d.run (add b) true
def appendE (n : Nat) (d : Dk) : Int := if d.full n = true then 19 else d.runE
def wide (n : Nat) (d : Dk) : Bool := !d.dead && decide (d.room < n)
def swaps (b : List Int) (d : Dk) : Dk := if d.wide b.length = true then d else d.run (swap b) d.even
def swapE (n : Nat) (d : Dk) : Int := if d.wide n = true then 19 else d.runE
def off (n : Int) (d : Dk) : Bool := !d.dead && (decide (n < 0) || decide ((d.log.length : Int) < n))
def cuts (n : Int) (d : Dk) : Dk := if d.off n = true then d else d.run (cut n.toNat) d.even
def cutE (n : Int) (d : Dk) : Int := if d.off n = true then 1 else d.runE
def syncs (d : Dk) : Dk := d.run sync false
def crash (p : Int) (d : Dk) : Dk := { d with dead := false, stop := 0, count := 0 }.lose p
end Dk

/-- the first n only read, and call what changes nothing; then the others, as they stand -/
theorem tail_then {P : Program} {id : Nat} {Q : Exit → Act → World → Prop} {a : Act} {w : World} {l : List Oper} (n : Nat) (hm : P.follows .mixedOrders = true) (hB : Region.lexTailB .any l.toArray n = true)
    (h : wpStill P l.toArray w.drew (fun a' => wpList P l.toArray Q (l.drop n) a' w.drew) (l.take n) a) : (Code.region id l.toArray true).wp P Q a w := wp_region_still_tail n hm hB h

theorem syn_run {d e : Dk} {op : Dk → Dk} {anyway : Bool} (h : d.syn ≤ d.log.length) (hop : (op d.spend).syn ≤ (op d.spend).log.length) (he : e = d.run op anyway) : e.syn ≤ e.log.length := by
  subst he
  unfold Dk.run Dk.after
  have hs : d.spend.syn ≤ d.spend.log.length := h
  split
  · exact h
  · split
    · exact hop
    · exact hs

section
variable {B g : Nat} {d : Dk} {lv sv : Value} {w : World}

theorem boxed (h : Dsk B g d lv sv w) (v u : Value) (t s : TypeId) : Dsk B g d lv sv ((w.alloc (.cells #[v] t)).alloc (.cells #[u] s)) ∧ Below w.heap.size w ((w.alloc (.cells #[v] t)).alloc (.cells #[u] s)) ∧
    ((w.alloc (.cells #[v] t)).alloc (.cells #[u] s)).cell? ⟨w.heap.size, 0, none⟩ = some v ∧ ((w.alloc (.cells #[v] t)).alloc (.cells #[u] s)).cell? ⟨w.heap.size + 1, 0, none⟩ = some u := by
  have hb : Below w.heap.size w ((w.alloc (.cells #[v] t)).alloc (.cells #[u] s)) := ((Below.refl _ _).alloc (Nat.le_refl _) _).alloc (by simp) _
  exact ⟨h.later hb, hb, by simp, by simp⟩

set_option maxRecDepth 100000 in
set_option maxHeartbeats 1000000 in
theorem append_any (h : Has B g d w) (hB : B ≤ w.heap.size) (hf : d.count < 1000) {a0 : Option Addr} {len0 cap0 : Nat} {b : List Int} (hc : Came w a0 len0 cap0 b) :
    Calls Tryd.prog 17 #[.pointer (some ⟨g, 0, none⟩), .slice a0 len0 cap0] w fun e w' => e = .returned (.int .i64 (d.appendE len0)) ∧ Has B g (d.append b) w' ∧ Tame B w w' := by
  obtain ⟨hsyn, lv, sv, h⟩ := h
  have hfit := h.fit
  have hsm := h.small
  have hlen := hc.reads.1
  have hle := hc.le
  have hmx := hc.small
  unfold maxLen at hmx
  obtain ⟨-, -, -, c3, -, -, c6⟩ := h.cells
  have H := Lib.hid h
  have HC := Lib.hid hc
  have hmf : ∀ (fn : Fn) (first cap : Array Value) (w : World), (Instr.makeFunc fn first cap).run Tryd.prog w = .ok (.func fn first cap) w := fun _ _ _ _ => rfl
  clear h hc
  cases hd : d.dead with
  | true =>
    rw [hd] at c3
    have HD := Lib.hid hd
    have HE : Hid (d.appendE len0 = 20) := by unfold Hid Dk.appendE Dk.full Dk.runE; rw [hd]; rfl
    have HA : Hid (d.append b = d) := by unfold Hid Dk.append Dk.full Dk.run; rw [hd]; rfl
    clear hd
    go_enter Tryd.func17, Tryd.ntmps17
    go_wp2_with fail
    obtain ⟨h1, hb1, hp, hq⟩ := boxed H.out (.pointer (some ⟨g, 0, none⟩)) (.slice a0 len0 cap0) 25 30
    obtain ⟨-, -, -, c3, -, -, c6⟩ := h1.cells
    have H1 := Lib.hid h1
    have HB1 := Lib.hid hb1
    clear h1 hb1
    generalize (w.alloc (.cells #[.pointer (some ⟨g, 0, none⟩)] 25)).alloc (.cells #[.slice a0 len0 cap0] 30) = W at *
    rw [HD.out] at c3
    go_quiet (fail)
    go_wp2_with fail
    refine (run_dead (H1.out.drewN _) HD.out _ _).mono ?_
    rintro _ _ ⟨rfl, rfl⟩
    go_wp2_with fail
    go_ret
    exact ⟨ret_i64 HE.out.symm, ⟨by rw [HA.out]; exact hsyn, lv, sv, by rw [HA.out]; exact H1.out.drewN nq⟩, Tame.drewN (Tame.new HB1.out hB) (by have := HB1.out.size; omega) nq⟩
  | false =>
    rw [hd] at c3
    have HD := Lib.hid hd
    clear hd
    by_cases hfull : d.room < d.log.length + d.snap.length + len0
    · have HE : Hid (d.appendE len0 = 19) := by unfold Hid Dk.appendE Dk.full; rw [HD.out, decide_eq_true hfull]; rfl
      have HA : Hid (d.append b = d) := by unfold Hid Dk.append Dk.full; rw [HD.out, hlen, decide_eq_true hfull]; rfl
      have hlen' := Lib.hid hlen
      clear hlen
      go_enter Tryd.func17, Tryd.ntmps17
      go_wp2_with fail
      obtain ⟨h1, hb1, hp, hq⟩ := boxed H.out (.pointer (some ⟨g, 0, none⟩)) (.slice a0 len0 cap0) 25 30
      obtain ⟨-, -, -, c3, -, -, c6⟩ := h1.cells
      have H1 := Lib.hid h1
      have HB1 := Lib.hid hb1
      clear h1 hb1
      generalize (w.alloc (.cells #[.pointer (some ⟨g, 0, none⟩)] 25)).alloc (.cells #[.slice a0 len0 cap0] 30) = W at *
      rw [HD.out] at c3
      have hd1 : decide ((d.room : Int) - ((d.log.length : Int) + (d.snap.length : Int)) < (len0 : Int)) = true := by simp; omega
      go_quiet ((go_at_call 32; exact Calls.quiet_of (dsize_any (H1.out.drewN _))))
      go_wp2_with fail
      go_ret
      exact ⟨ret_i64 HE.out.symm, ⟨by rw [HA.out]; exact hsyn, lv, sv, by rw [HA.out]; exact H1.out.drewN nq⟩, Tame.drewN (Tame.new HB1.out hB) (by have := HB1.out.size; omega) nq⟩
    · have HE : Hid (d.appendE len0 = d.runE) := by unfold Hid Dk.appendE Dk.full; rw [HD.out, decide_eq_false hfull]; rfl
      have HA : Hid (d.append b = d.run (Dk.add b) true) := by unfold Hid Dk.append Dk.full; rw [HD.out, hlen, decide_eq_false hfull]; rfl
      have hlen' := Lib.hid hlen
      clear hlen
      go_enter Tryd.func17, Tryd.ntmps17
      go_wp2_with fail
      obtain ⟨h1, hb1, hp, hq⟩ := boxed H.out (.pointer (some ⟨g, 0, none⟩)) (.slice a0 len0 cap0) 25 30
      obtain ⟨-, -, -, c3, -, -, c6⟩ := h1.cells
      have H1 := Lib.hid h1
      have HB1 := Lib.hid hb1
      clear h1 hb1
      have hne1 : w.heap.size ≠ g := by have := H.out.lt; omega
      have hne2 : w.heap.size + 1 ≠ g := by have := H.out.lt; omega
      generalize (w.alloc (.cells #[.pointer (some ⟨g, 0, none⟩)] 25)).alloc (.cells #[.slice a0 len0 cap0] 30) = W at *
      rw [HD.out] at c3
      have hd1 : decide ((d.room : Int) - ((d.log.length : Int) + (d.snap.length : Int)) < (len0 : Int)) = false := by simp; omega
      have HP := Lib.hid hp
      have HQ := Lib.hid hq
      go_quiet ((go_at_call 32; exact Calls.quiet_of (dsize_any (H1.out.drewN _))))
      go_wp2_with fail
      have hcw : Came (W.drewN nq) a0 len0 cap0 b := (HC.out.below HB1.out).below (below_drewN (Below.refl _ _) nq)
      have hrun := run_any (Tame B) (fun w1 ho => Tame.only (H1.out.drewN nq) ho (by have := (below_drewN (HB1.out.mono hB) nq).size; omega)) (fun _ _ h k => h.trans k) (H1.out.drewN nq) (by have := (below_drewN (HB1.out.mono hB) nq).size; omega) hf 34 #[] #[.pointer (some ⟨w.heap.size, 0, none⟩), .pointer (some ⟨w.heap.size + 1, 0, none⟩)] (Dk.add b) true rfl (fun _ _ => rfl) (fun w1 h1 ho1 =>
        doAdd_any h1 w.heap.size (w.heap.size + 1) (ho1.cell (by simpa using HP.out) hne1) (ho1.cell (by simpa using HQ.out) hne2) (came_only hcw ho1 (reads_disk (H1.out.drewN nq) hcw.reads)) (by show d.log.length + len0 + d.snap.length ≤ d.room; omega))
      have HR := Lib.hid hrun
      clear hrun hcw
      refine HR.out.mono ?_
      rintro _ w2 ⟨rfl, ⟨l2, s2, h2⟩, hb2⟩
      have H2 := Lib.hid h2
      have HB2 := Lib.hid ((Tame.drewN (Tame.new HB1.out hB) (by have := HB1.out.size; omega) nq).trans hb2)
      clear h2 hb2
      go_wp2_with fail
      go_ret
      exact ⟨ret_i64 HE.out.symm, ⟨syn_run hsyn (by show d.syn ≤ (d.log ++ b).length; rw [List.length_append]; omega) HA.out, l2, s2, by rw [HA.out]; exact H2.out⟩, HB2.out⟩

set_option maxRecDepth 100000 in
set_option maxHeartbeats 1000000 in
theorem syncs_any (h : Has B g d w) (hB : B ≤ w.heap.size) (hf : d.count < 1000) :
    Calls Tryd.prog 53 #[.pointer (some ⟨g, 0, none⟩)] w fun e w' => e = .returned (.int .i64 d.runE) ∧ Has B g d.syncs w' ∧ Only g w w' := by
  obtain ⟨hsyn, lv, sv, h⟩ := h
  have hold := h.old
  have H := Lib.hid h
  have hmf : ∀ (fn : Fn) (first cap : Array Value) (w : World), (Instr.makeFunc fn first cap).run Tryd.prog w = .ok (.func fn first cap) w := fun _ _ _ _ => rfl
  have hrun := Lib.hid (run_any (Only g) (fun _ h => h) (fun _ _ h k => h.trans k) h hB hf 60 #[.pointer (some ⟨g, 0, none⟩)] #[] Dk.sync false rfl (fun _ _ => rfl) (fun w1 h1 ho1 =>
    (sync_any h1).mono fun e w' ⟨he, h2, ho⟩ => ⟨he, ⟨lv, sv, h2⟩, ho⟩))
  clear h
  go_enter Tryd.func53, Tryd.ntmps53
  go_wp2_with fail
  refine hrun.out.mono ?_
  rintro _ w2 ⟨rfl, ⟨l2, s2, h2⟩, hb2⟩
  have H2 := Lib.hid h2
  have HB2 := Lib.hid hb2
  clear h2 hb2
  go_wp2_with fail
  go_ret
  exact ⟨rfl, ⟨syn_run hsyn (Nat.le_refl _) (rfl : d.syncs = _), l2, s2, H2.out⟩, HB2.out⟩

set_option maxRecDepth 100000 in
set_option maxHeartbeats 1000000 in
theorem swaps_any (h : Has B g d w) (hB : B ≤ w.heap.size) (hf : d.count < 1000) {a0 : Option Addr} {len0 cap0 : Nat} {b : List Int} (hc : Came w a0 len0 cap0 b) :
    Calls Tryd.prog 22 #[.pointer (some ⟨g, 0, none⟩), .slice a0 len0 cap0] w fun e w' => e = .returned (.int .i64 (d.swapE len0)) ∧ Has B g (d.swaps b) w' ∧ Tame B w w' := by
  obtain ⟨hsyn, lv, sv, h⟩ := h
  have hfit := h.fit
  have hsm := h.small
  have hlen := hc.reads.1
  have hle := hc.le
  have hmx := hc.small
  unfold maxLen at hmx
  obtain ⟨-, -, -, c3, -, -, c6⟩ := h.cells
  have H := Lib.hid h
  have HC := Lib.hid hc
  have hmf : ∀ (fn : Fn) (first cap : Array Value) (w : World), (Instr.makeFunc fn first cap).run Tryd.prog w = .ok (.func fn first cap) w := fun _ _ _ _ => rfl
  clear h hc
  cases hd : d.dead with
  | true =>
    rw [hd] at c3
    have HD := Lib.hid hd
    have HE : Hid (d.swapE len0 = 20) := by unfold Hid Dk.swapE Dk.wide Dk.runE; rw [hd]; rfl
    have HA : Hid (d.swaps b = d) := by unfold Hid Dk.swaps Dk.wide Dk.run; rw [hd]; rfl
    clear hd
    go_enter Tryd.func22, Tryd.ntmps22
    go_wp2_with fail
    obtain ⟨h1, hb1, hp, hq⟩ := boxed H.out (.pointer (some ⟨g, 0, none⟩)) (.slice a0 len0 cap0) 25 30
    obtain ⟨-, -, -, c3, -, -, c6⟩ := h1.cells
    have H1 := Lib.hid h1
    have HB1 := Lib.hid hb1
    clear h1 hb1
    generalize (w.alloc (.cells #[.pointer (some ⟨g, 0, none⟩)] 25)).alloc (.cells #[.slice a0 len0 cap0] 30) = W at *
    rw [HD.out] at c3
    go_quiet (fail)
    go_wp2_with fail
    refine tail_then 6 (by kernel_rfl) (by kernel_rfl) ?_
    simp only [List.take_succ_cons, List.take_zero, List.drop_succ_cons, List.drop_zero]
    have HB2 := Lib.hid ((Tame.drewN (Tame.new HB1.out hB) (by have := HB1.out.size; omega) nq).drew)
    have H2 := Lib.hid (H1.out.drewN nq).drew
    have hp2 : (W.drewN nq).drew.cell? ⟨w.heap.size, 0, none⟩ = some (.pointer (some ⟨g, 0, none⟩)) := by simpa using hp
    have hq2 : (W.drewN nq).drew.cell? ⟨w.heap.size + 1, 0, none⟩ = some (.slice a0 len0 cap0) := by simpa using hq
    clear H1 hp hq c3 c6
    generalize (W.drewN nq).drew = W2 at *
    repeat still_step
    still_call ((even_any H2.out).mono fun e w' h => ⟨h.1, h.2.symm⟩)
    refine wpStill_nil ?_
    go_wp2_with fail
    refine (run_dead H2.out HD.out _ _).mono ?_
    rintro _ _ ⟨rfl, rfl⟩
    go_wp2_with fail
    go_ret
    exact ⟨ret_i64 HE.out.symm, ⟨by rw [HA.out]; exact hsyn, lv, sv, by rw [HA.out]; exact H2.out⟩, HB2.out⟩
  | false =>
    rw [hd] at c3
    have HD := Lib.hid hd
    clear hd
    by_cases hfull : d.room < len0
    · have HE : Hid (d.swapE len0 = 19) := by unfold Hid Dk.swapE Dk.wide; rw [HD.out, decide_eq_true hfull]; rfl
      have HA : Hid (d.swaps b = d) := by unfold Hid Dk.swaps Dk.wide; rw [HD.out, hlen, decide_eq_true hfull]; rfl
      have hlen' := Lib.hid hlen
      clear hlen
      go_enter Tryd.func22, Tryd.ntmps22
      go_wp2_with fail
      obtain ⟨h1, hb1, hp, hq⟩ := boxed H.out (.pointer (some ⟨g, 0, none⟩)) (.slice a0 len0 cap0) 25 30
      obtain ⟨c0, -, -, c3, -, -, c6⟩ := h1.cells
      have H1 := Lib.hid h1
      have HB1 := Lib.hid hb1
      clear h1 hb1
      have hne1 : w.heap.size ≠ g := by have := H.out.lt; omega
      have hne2 : w.heap.size + 1 ≠ g := by have := H.out.lt; omega
      generalize (w.alloc (.cells #[.pointer (some ⟨g, 0, none⟩)] 25)).alloc (.cells #[.slice a0 len0 cap0] 30) = W at *
      rw [HD.out] at c3
      have hd1 : decide ((d.room : Int) < (len0 : Int)) = true := by simp; omega
      go_quiet (fail)
      go_wp2_with fail
      go_ret
      exact ⟨ret_i64 HE.out.symm, ⟨by rw [HA.out]; exact hsyn, _, sv, by rw [HA.out]; exact H1.out.drewN nq⟩, Tame.drewN (Tame.new HB1.out hB) (by have := HB1.out.size; omega) nq⟩
    · have HE : Hid (d.swapE len0 = d.runE) := by unfold Hid Dk.swapE Dk.wide; rw [HD.out, decide_eq_false hfull]; rfl
      have HA : Hid (d.swaps b = d.run (Dk.swap b) d.even) := by unfold Hid Dk.swaps Dk.wide; rw [HD.out, hlen, decide_eq_false hfull]; rfl
      have hlen' := Lib.hid hlen
      clear hlen
      go_enter Tryd.func22, Tryd.ntmps22
      go_wp2_with fail
      obtain ⟨h1, hb1, hp, hq⟩ := boxed H.out (.pointer (some ⟨g, 0, none⟩)) (.slice a0 len0 cap0) 25 30
      obtain ⟨c0, -, -, c3, -, -, c6⟩ := h1.cells
      have H1 := Lib.hid h1
      have HB1 := Lib.hid hb1
      clear h1 hb1
      have hne1 : w.heap.size ≠ g := by have := H.out.lt; omega
      have hne2 : w.heap.size + 1 ≠ g := by have := H.out.lt; omega
      generalize (w.alloc (.cells #[.pointer (some ⟨g, 0, none⟩)] 25)).alloc (.cells #[.slice a0 len0 cap0] 30) = W at *
      rw [HD.out] at c3
      have hd1 : decide ((d.room : Int) < (len0 : Int)) = false := by simp; omega
      go_quiet (fail)
      go_wp2_with fail
      refine tail_then 6 (by kernel_rfl) (by kernel_rfl) ?_
      simp only [List.take_succ_cons, List.take_zero, List.drop_succ_cons, List.drop_zero]
      have HB2 := Lib.hid ((Tame.drewN (Tame.new HB1.out hB) (by have := HB1.out.size; omega) nq).drew)
      have HBw2 := Lib.hid ((below_drewN HB1.out nq).drew)
      have H2 := Lib.hid (H1.out.drewN nq).drew
      have hp2 : (W.drewN nq).drew.cell? ⟨w.heap.size, 0, none⟩ = some (.pointer (some ⟨g, 0, none⟩)) := by simpa using hp
      have hq2 : (W.drewN nq).drew.cell? ⟨w.heap.size + 1, 0, none⟩ = some (.slice a0 len0 cap0) := by simpa using hq
      clear H1 hp hq c3 c6 c0
      generalize (W.drewN nq).drew = W2 at *
      have HP := Lib.hid hp2
      have HQ := Lib.hid hq2
      repeat still_step
      still_call ((even_any H2.out).mono fun e w' h => ⟨h.1, h.2.symm⟩)
      refine wpStill_nil ?_
      go_wp2_with fail
      have hcw : Came W2 a0 len0 cap0 b := HC.out.below HBw2.out
      have hrun := run_any (Tame B) (fun w1 ho => Tame.only H2.out ho (by have := HB2.out.size; omega)) (fun _ _ h k => h.trans k) H2.out (by have := HB2.out.size; omega) hf 38 #[] #[.pointer (some ⟨w.heap.size, 0, none⟩), .pointer (some ⟨w.heap.size + 1, 0, none⟩)] (Dk.swap b) d.even rfl (fun _ _ => rfl) (fun w1 h1 ho1 =>
        doSwap_any h1 w.heap.size (w.heap.size + 1) (ho1.cell HP.out hne1) (ho1.cell HQ.out hne2) (came_only hcw ho1 (reads_disk H2.out hcw.reads)) (by show len0 ≤ d.room; omega))
      clear hcw
      have HR := Lib.hid hrun
      clear hrun
      refine HR.out.mono ?_
      rintro _ w2 ⟨rfl, ⟨l2, s2, h2⟩, hb2⟩
      have H3 := Lib.hid h2
      have HB3 := Lib.hid (HB2.out.trans hb2)
      clear h2 hb2
      go_wp2_with fail
      go_ret
      exact ⟨ret_i64 HE.out.symm, ⟨syn_run hsyn (Nat.zero_le _) HA.out, l2, s2, by rw [HA.out]; exact H3.out⟩, HB3.out⟩

set_option maxRecDepth 100000 in
set_option maxHeartbeats 2000000 in
theorem cuts_any (h : Has B g d w) (hB : B ≤ w.heap.size) (hf : d.count < 1000) (n : Int) (hn : I64 n) :
    Calls Tryd.prog 27 #[.pointer (some ⟨g, 0, none⟩), .int .i64 n] w fun e w' => e = .returned (.int .i64 (d.cutE n)) ∧ Has B g (d.cuts n) w' ∧ Only g w w' := by
  obtain ⟨hsyn, lv, sv, h⟩ := h
  have hfit := h.fit
  have hsm := h.small
  obtain ⟨a1, n1, rfl⟩ := own_slice h.log
  obtain ⟨c0, -, -, c3, -, -, c6⟩ := h.cells
  have H := Lib.hid h
  have hmf : ∀ (fn : Fn) (first cap : Array Value) (w : World), (Instr.makeFunc fn first cap).run Tryd.prog w = .ok (.func fn first cap) w := fun _ _ _ _ => rfl
  clear h
  cases hd : d.dead with
  | true =>
    rw [hd] at c3
    have HD := Lib.hid hd
    have HE : Hid (d.cutE n = 20) := by unfold Hid Dk.cutE Dk.off Dk.runE; rw [hd]; rfl
    have HA : Hid (d.cuts n = d) := by unfold Hid Dk.cuts Dk.off Dk.run; rw [hd]; rfl
    clear hd
    go_enter Tryd.func27, Tryd.ntmps27
    go_wp2_with fail
    obtain ⟨h1, hb1, hp, hq⟩ := boxed H.out (.pointer (some ⟨g, 0, none⟩)) (.int .i64 n) 25 3
    obtain ⟨c0, -, -, c3, -, -, c6⟩ := h1.cells
    have H1 := Lib.hid h1
    have HB1 := Lib.hid hb1
    clear h1 hb1
    have hne1 : w.heap.size ≠ g := by have := H.out.lt; omega
    have hne2 : w.heap.size + 1 ≠ g := by have := H.out.lt; omega
    generalize (w.alloc (.cells #[.pointer (some ⟨g, 0, none⟩)] 25)).alloc (.cells #[.int .i64 n] 3) = W at *
    rw [HD.out] at c3
    go_quiet (fail)
    go_wp2_with fail
    refine tail_then 6 (by kernel_rfl) (by kernel_rfl) ?_
    simp only [List.take_succ_cons, List.take_zero, List.drop_succ_cons, List.drop_zero]
    have HB2 := Lib.hid (Only.of_below (r := g) ((below_drewN HB1.out nq).drew))
    have HBw2 := Lib.hid ((below_drewN HB1.out nq).drew)
    have H2 := Lib.hid (H1.out.drewN nq).drew
    have hp2 : (W.drewN nq).drew.cell? ⟨w.heap.size, 0, none⟩ = some (.pointer (some ⟨g, 0, none⟩)) := by simpa using hp
    have hq2 : (W.drewN nq).drew.cell? ⟨w.heap.size + 1, 0, none⟩ = some (.int .i64 n) := by simpa using hq
    clear H1 hp hq c3 c6 c0
    generalize (W.drewN nq).drew = W2 at *
    have HP := Lib.hid hp2
    have HQ := Lib.hid hq2
    repeat still_step
    still_call ((even_any H2.out).mono fun e w' h => ⟨h.1, h.2.symm⟩)
    refine wpStill_nil ?_
    go_wp2_with fail
    refine (run_dead H2.out HD.out _ _).mono ?_
    rintro _ _ ⟨rfl, rfl⟩
    go_wp2_with fail
    go_ret
    exact ⟨ret_i64 HE.out.symm, ⟨by rw [HA.out]; exact hsyn, _, sv, by rw [HA.out]; exact H2.out⟩, HB2.out⟩
  | false =>
    rw [hd] at c3
    have HD := Lib.hid hd
    clear hd
    by_cases hneg : n < 0
    · have hd1 : decide (n < 0) = true := decide_eq_true hneg
      have HE : Hid (d.cutE n = 1) := by unfold Hid Dk.cutE Dk.off; rw [HD.out, hd1]; rfl
      have HA : Hid (d.cuts n = d) := by unfold Hid Dk.cuts Dk.off; rw [HD.out, hd1]; rfl
      go_enter Tryd.func27, Tryd.ntmps27
      go_wp2_with fail
      obtain ⟨h1, hb1, hp, hq⟩ := boxed H.out (.pointer (some ⟨g, 0, none⟩)) (.int .i64 n) 25 3
      obtain ⟨c0, -, -, c3, -, -, c6⟩ := h1.cells
      have H1 := Lib.hid h1
      have HB1 := Lib.hid hb1
      clear h1 hb1
      have hne1 : w.heap.size ≠ g := by have := H.out.lt; omega
      have hne2 : w.heap.size + 1 ≠ g := by have := H.out.lt; omega
      generalize (w.alloc (.cells #[.pointer (some ⟨g, 0, none⟩)] 25)).alloc (.cells #[.int .i64 n] 3) = W at *
      rw [HD.out] at c3
      go_quiet (fail)
      go_wp2_with fail
      go_ret
      exact ⟨ret_i64 HE.out.symm, ⟨by rw [HA.out]; exact hsyn, _, sv, by rw [HA.out]; exact H1.out.drewN nq⟩, Only.of_below (below_drewN HB1.out nq)⟩
    · obtain ⟨N, rfl⟩ := Int.eq_ofNat_of_zero_le (show 0 ≤ n by omega)
      by_cases hfull : d.log.length < N
      · have HE : Hid (d.cutE (N : Int) = 1) := by unfold Hid Dk.cutE Dk.off; rw [HD.out, decide_eq_false hneg, decide_eq_true (show (d.log.length : Int) < (N : Int) by omega)]; rfl
        have HA : Hid (d.cuts (N : Int) = d) := by unfold Hid Dk.cuts Dk.off; rw [HD.out, decide_eq_false hneg, decide_eq_true (show (d.log.length : Int) < (N : Int) by omega)]; rfl
        have hN2 : (N : Int) ≤ 9223372036854775807 := hn.2
        have hd1 : decide (d.log.length < N) = true := decide_eq_true hfull
        go_enter Tryd.func27, Tryd.ntmps27
        go_wp2_with fail
        obtain ⟨h1, hb1, hp, hq⟩ := boxed H.out (.pointer (some ⟨g, 0, none⟩)) (.int .i64 (N : Int)) 25 3
        obtain ⟨c0, -, -, c3, -, -, c6⟩ := h1.cells
        have H1 := Lib.hid h1
        have HB1 := Lib.hid hb1
        clear h1 hb1
        have hne1 : w.heap.size ≠ g := by have := H.out.lt; omega
        have hne2 : w.heap.size + 1 ≠ g := by have := H.out.lt; omega
        generalize (w.alloc (.cells #[.pointer (some ⟨g, 0, none⟩)] 25)).alloc (.cells #[.int .i64 (N : Int)] 3) = W at *
        rw [HD.out] at c3
        go_quiet (fail)
        go_wp2_with fail
        go_ret
        exact ⟨ret_i64 HE.out.symm, ⟨by rw [HA.out]; exact hsyn, _, sv, by rw [HA.out]; exact H1.out.drewN nq⟩, Only.of_below (below_drewN HB1.out nq)⟩
      · have HE : Hid (d.cutE (N : Int) = d.runE) := by unfold Hid Dk.cutE Dk.off; rw [HD.out, decide_eq_false hneg, decide_eq_false (show ¬ (d.log.length : Int) < (N : Int) by omega)]; rfl
        have HA : Hid (d.cuts (N : Int) = d.run (Dk.cut N) d.even) := by unfold Hid Dk.cuts Dk.off; rw [HD.out, decide_eq_false hneg, decide_eq_false (show ¬ (d.log.length : Int) < (N : Int) by omega)]; rfl
        have hN2 : (N : Int) ≤ 9223372036854775807 := hn.2
        have hd1 : decide (d.log.length < N) = false := decide_eq_false hfull
        go_enter Tryd.func27, Tryd.ntmps27
        go_wp2_with fail
        obtain ⟨h1, hb1, hp, hq⟩ := boxed H.out (.pointer (some ⟨g, 0, none⟩)) (.int .i64 (N : Int)) 25 3
        obtain ⟨c0, -, -, c3, -, -, c6⟩ := h1.cells
        have H1 := Lib.hid h1
        have HB1 := Lib.hid hb1
        clear h1 hb1
        have hne1 : w.heap.size ≠ g := by have := H.out.lt; omega
        have hne2 : w.heap.size + 1 ≠ g := by have := H.out.lt; omega
        generalize (w.alloc (.cells #[.pointer (some ⟨g, 0, none⟩)] 25)).alloc (.cells #[.int .i64 (N : Int)] 3) = W at *
        rw [HD.out] at c3
        go_quiet (fail)
        go_wp2_with fail
        refine tail_then 6 (by kernel_rfl) (by kernel_rfl) ?_
        simp only [List.take_succ_cons, List.take_zero, List.drop_succ_cons, List.drop_zero]
        have HB2 := Lib.hid (Only.of_below (r := g) ((below_drewN HB1.out nq).drew))
        have HBw2 := Lib.hid ((below_drewN HB1.out nq).drew)
        have H2 := Lib.hid (H1.out.drewN nq).drew
        have hp2 : (W.drewN nq).drew.cell? ⟨w.heap.size, 0, none⟩ = some (.pointer (some ⟨g, 0, none⟩)) := by simpa using hp
        have hq2 : (W.drewN nq).drew.cell? ⟨w.heap.size + 1, 0, none⟩ = some (.int .i64 (N : Int)) := by simpa using hq
        clear H1 hp hq c3 c6 c0
        generalize (W.drewN nq).drew = W2 at *
        have HP := Lib.hid hp2
        have HQ := Lib.hid hq2
        repeat still_step
        still_call ((even_any H2.out).mono fun e w' h => ⟨h.1, h.2.symm⟩)
        refine wpStill_nil ?_
        go_wp2_with fail
        have hrun := run_any (Only g) (fun _ h => h) (fun _ _ h k => h.trans k) H2.out (by have := HB2.out.size; omega) hf 49 #[] #[.pointer (some ⟨w.heap.size, 0, none⟩), .pointer (some ⟨w.heap.size + 1, 0, none⟩)] (Dk.cut N) d.even rfl (fun _ _ => rfl) (fun w1 h1 ho1 =>
          doCut_any h1 (by have h4 := HB2.out.size; have h5 := ho1.size; omega) w.heap.size (w.heap.size + 1) N (ho1.cell HP.out hne1) (ho1.cell HQ.out hne2) (by show N ≤ d.log.length; omega))
        have HR := Lib.hid hrun
        clear hrun
        refine HR.out.mono ?_
        rintro _ w2 ⟨rfl, ⟨l2, s2, h2⟩, hb2⟩
        have H3 := Lib.hid h2
        have HB3 := Lib.hid (HB2.out.trans hb2)
        clear h2 hb2
        go_wp2_with fail
        go_ret
        exact ⟨ret_i64 HE.out.symm, ⟨syn_run hsyn (by show N ≤ (d.log.take N).length; rw [List.length_take]; omega) HA.out, l2, s2, by rw [HA.out]; exact H3.out⟩, HB3.out⟩

set_option maxRecDepth 100000 in
set_option maxHeartbeats 1000000 in
theorem crash_any (h : Has B g d w) (p : Int) (hp : I64 p) :
    Calls Tryd.prog 15 #[.pointer (some ⟨g, 0, none⟩), .int .i64 p] w fun e w' => e = .returned (.int .i64 (d.stays p : Int)) ∧ Has B g (d.crash p) w' ∧ Only g w w' := by
  obtain ⟨hsyn, lv, sv, h⟩ := h
  obtain ⟨-, -, -, c3, c4, c5, -⟩ := h.cells
  have f3 := h.free 3
  have f4 := h.free 4
  have f5 := h.free 5
  have H := Lib.hid h
  clear h
  go_enter Tryd.func15, Tryd.ntmps15
  go_wp2_with fail
  obtain ⟨h1, ho1⟩ := H.out.put 3 (.bool false) { d with dead := false } (by simp [dcells]) rfl rfl rfl H.out.few H.out.stop
  obtain ⟨h2, ho2⟩ := h1.put 4 (.int .i64 0) { d with dead := false, stop := 0 } (by simp [dcells]) rfl rfl rfl H.out.few (by show I64 0; unfold I64; omega)
  obtain ⟨h3, ho3⟩ := h2.put 5 (.int .i64 0) { d with dead := false, stop := 0, count := 0 } (by simp [dcells]) rfl rfl rfl (by show 0 ≤ 1000; omega) (by show I64 0; unfold I64; omega)
  have HO3 := Lib.hid ((ho1.trans ho2).trans ho3)
  have H3 := Lib.hid h3
  clear h1 ho1 h2 ho2 h3 ho3
  refine (lose_any H3.out hsyn p hp).mono ?_
  rintro _ w4 ⟨rfl, ⟨l4, h4⟩, ho4⟩
  have H4 := Lib.hid h4
  have HO4 := Lib.hid (HO3.out.trans ho4)
  clear h4 ho4
  go_wp2_with fail
  go_ret
  refine ⟨rfl, ⟨?_, _, _, H4.out⟩, HO4.out⟩
  show d.syn + d.stays p ≤ (d.log.take (d.syn + d.stays p)).length
  have hS0 : 0 ≤ p % ((d.log.length : Int) - (d.syn : Int) + 1) := Int.emod_nonneg _ (by omega)
  have hS1 : p % ((d.log.length : Int) - (d.syn : Int) + 1) < (d.log.length : Int) - (d.syn : Int) + 1 := Int.emod_lt_of_pos _ (by omega)
  have hS : (d.stays p : Int) = p % ((d.log.length : Int) - (d.syn : Int) + 1) := by
    show ((p % ((d.log.length : Int) - d.syn + 1)).toNat : Int) = _
    omega
  rw [List.length_take]
  omega

def Dk.new (room : Nat) : Dk := { log := [], syn := 0, snap := [], dead := false, stop := 0, count := 0, room := room }

set_option maxRecDepth 100000 in
set_option maxHeartbeats 1000000 in
theorem new_any (w : World) (B : Nat) (hB : B ≤ w.heap.size) (room : Nat) (h1 : 1 ≤ room) (h2 : room ≤ 2000000) :
    Calls Tryd.prog 8 #[.int .i64 (room : Int)] w fun e w' => ∃ g, e = .returned (.tuple #[.pointer (some ⟨g, 0, none⟩), .int .i64 0]) ∧ Has B g (Dk.new room) w' ∧ w.heap.size ≤ g ∧ Below w.heap.size w w' := by
  go_enter Tryd.func8, Tryd.ntmps8
  go_wp2_with fail
  go_ret2
  exact ⟨w.heap.size, rfl, ⟨Nat.zero_le _, .slice none 0 0, .slice none 0 0, ⟨heap_alloc_new _ _, hB, World.ownsRow_nil _ _ _ _, World.ownsRow_nil _ _ _ _, .inl rfl, Nat.zero_le _, h2, by show 0 ≤ 1000; omega, by show I64 0; unfold I64; omega, by simp [Dk.new], by simp [Dk.new]⟩⟩, Nat.le_refl _, (Below.refl _ _).alloc (Nat.le_refl _) _⟩
end
end Go.Proofs.YtgggecpnmliolaaDoor
