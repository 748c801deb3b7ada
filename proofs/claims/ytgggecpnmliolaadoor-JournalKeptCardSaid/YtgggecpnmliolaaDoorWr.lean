/- A write: a frame is made, handed on, and counted if nothing was wrong. -/
import Derived.Test.YtgggecpnmliolaaDoorJr
namespace Go.Proofs.YtgggecpnmliolaaDoor
open Go Go.RowKit Frm
set_option linter.unusedVariables false
set_option linter.unusedSimpArgs false

section
variable {B g j : Nat} {d d' : Dk} {m : Int} {w : World}

set_option maxRecDepth 100000 in
set_option maxHeartbeats 2000000 in
theorem write_any (H : Has B g d w) (hB : B ≤ w.heap.size) (hJ : Jrn g j m w) (hj : B ≤ j) {a0 : Option Addr} {len0 cap0 : Nat} {b : List Int} (hc : Came w a0 len0 cap0 b) (hl : len0 ≤ 4194304) (hlaid : Laid w) (n M : Int)
    (F : FuncId) (first : Array Value) (E : Int) (hM : (if E = 0 then n else m) = M) (hF : ∀ args w, (callFunc F args).run Tryd.prog w = .ok (.enter F args) w)
    (hput : ∀ w1 a1 c1, Below w.heap.size w w1 → Has B g d w1 → Came w1 a1 (8 + len0) c1 (frame b) → Calls Tryd.prog F (first.push (.slice a1 (8 + len0) c1)) w1 fun e w' => e = .returned (.int .i64 E) ∧ Has B g d' w' ∧ Tame B w1 w') :
    Calls Tryd.prog 28 #[.pointer (some ⟨j, 0, none⟩), .slice a0 len0 cap0, .func (.func F) first #[], .int .i64 n] w fun e w' => e = .returned (.int .i64 E) ∧ Has B g d' w' ∧ Jrn g j M w' ∧ Jame B w w' := by
  have hmf : ∀ (fn : Fn) (first cap : Array Value) (w : World), (Instr.makeFunc fn first cap).run Tryd.prog w = .ok (.func fn first cap) w := fun _ _ _ _ => rfl
  have HH := Lib.hid H
  have HC := Lib.hid hc
  have HLA := Lib.hid hlaid
  have HJ := Lib.hid hJ
  have HP := Lib.hid hput
  have HM := Lib.hid hM
  clear H hc hlaid hJ hput hM
  go_enter_defers Tryd.func28, Tryd.ntmps28
  go_wp2_with fail
  obtain ⟨hw, bj, bn, be⟩ := boxes3 w 29 3 26 (.pointer (some ⟨j, 0, none⟩)) (.int .i64 n) (.int .i64 0)
  have HW := Lib.hid hw
  have BJ := Lib.hid bj
  have BN := Lib.hid bn
  have BE := Lib.hid be
  clear hw bj bn be
  generalize (((w.alloc (Obj.cells #[.pointer (some ⟨j, 0, none⟩)] 29)).alloc (Obj.cells #[.int .i64 n] 3)).alloc (Obj.cells #[.int .i64 0] 26)) = W at *
  refine (frame_any a0 len0 cap0 b W (HC.out.below HW.out) hl (HLA.out.keep HW.out)).mono ?_
  rintro _ w1 ⟨v1, rfl, ho1, hb1⟩
  have hlt1 := BE.out.lt
  obtain ⟨a1, c1, rfl, hc1⟩ := own_came ho1 (frame_byte HC.out.bytes)
  have HB1 := Lib.hid (HW.out.trans (hb1.mono HW.out.size))
  have HC1 := Lib.hid hc1
  have BJ1 := Lib.hid (BJ.out.later hb1)
  have BN1 := Lib.hid (BN.out.later hb1)
  have BE1 := Lib.hid (BE.out.later hb1)
  have HJ1 := Lib.hid (HJ.out.later HB1.out)
  have hap : ∀ ad, a1 = some ad → ad.block ≠ w.heap.size + 1 + 1 := fun ad ha e => by
    subst ha
    have h := (ho1.lt ad.block (by simp [Value.ownBlock])).1
    omega
  have HAP := Lib.hid hap
  clear ho1 hb1 hc1 BJ BN BE hlt1 hap
  have ce := BE1.out.cell
  have fe := BE1.out.free
  have cj := BJ1.out.cell
  have cjd := HJ1.out.cells.1
  have hne : j ≠ w.heap.size + 1 + 1 := by have := HJ.out.lt; omega
  go_wp2_with fail
  obtain ⟨be2, ho2⟩ := BE1.out.put (.int .i64 0)
  have hb2 : Below w.heap.size w (w1.setCell ⟨w.heap.size + 1 + 1, 0, none⟩ (.int .i64 0)) := HB1.out.setCell (show w.heap.size ≤ w.heap.size + 1 + 1 by omega) _
  have BE2 := Lib.hid be2
  have HB2 := Lib.hid hb2
  have BJ2 := Lib.hid (BJ1.out.only ho2 (by omega))
  have BN2 := Lib.hid (BN1.out.only ho2 (by omega))
  have HC2 := Lib.hid (came_only HC1.out ho2 (fun _ => HAP.out))
  have HJ2 := Lib.hid (HJ.out.later hb2)
  have H2 := Lib.hid (HH.out.later hb2)
  clear be2 ho2 hb2 BE1 BJ1 BN1 HC1 HJ1 ce fe cj cjd
  generalize w1.setCell ⟨w.heap.size + 1 + 1, 0, none⟩ (.int .i64 0) = w2 at *
  refine (HP.out w2 a1 c1 HB2.out H2.out HC2.out).mono ?_
  rintro _ w3 ⟨rfl, h3, ht3⟩
  have H3 := Lib.hid h3
  have BE3 := Lib.hid (BE2.out.tame ht3 (by decide) (by decide))
  have BJ3 := Lib.hid (BJ2.out.tame ht3 (by decide) (by decide))
  have BN3 := Lib.hid (BN2.out.tame ht3 (by decide) (by decide))
  have HJ3 := Lib.hid (HJ2.out.tame ht3)
  have HT3 := Lib.hid ((Jame.new HB2.out hB).trans ht3.jame)
  clear h3 ht3 BE2 BJ2 BN2 HJ2 H2 HC2
  have ce := BE3.out.cell
  have fe := BE3.out.free
  go_wp2_with fail
  obtain ⟨be4, ho4⟩ := BE3.out.put (.int .i64 E)
  have hlt := HJ.out.lt
  have BJ4 := Lib.hid (BJ3.out.only ho4 (by omega))
  have BN4 := Lib.hid (BN3.out.only ho4 (by omega))
  have BE4 := Lib.hid be4
  have H4 := Lib.hid (H3.out.aside BE3.out (by decide) (by decide) ho4)
  have HJ4 := Lib.hid (HJ3.out.only ho4 hne)
  have HT4 := Lib.hid (HT3.out.side ho4 (by omega) hB)
  clear BE3 BJ3 BN3 be4 ce fe ho4 H3 HJ3 HT3
  generalize w3.setCell ⟨w.heap.size + 1 + 1, 0, none⟩ (.int .i64 E) = w4 at *
  refine leaves_cons (f := 51) (args := #[.pointer (some ⟨w.heap.size + 1 + 1, 0, none⟩), .pointer (some ⟨w.heap.size + 1, 0, none⟩), .pointer (some ⟨w.heap.size, 0, none⟩)]) (by simp) (by simp [go_sem]) ?_
  refine (done_any (w.heap.size + 1 + 1) (w.heap.size + 1) w.heap.size g j E n m .returning w4 BE4.out.cell BN4.out.cell BJ4.out.cell HJ4.out).mono ?_
  rintro e u' w5 ⟨rfl, rfl, hw5⟩
  obtain ⟨c5, H5, HJ5, HT5⟩ : w5.cell? ⟨w.heap.size + 1 + 1, 0, none⟩ = some (.int .i64 E) ∧ Hid (Has B g d' w5) ∧ Hid (Jrn g j M w5) ∧ Hid (Jame B w w5) := by
    by_cases h0 : E = 0
    · rw [if_pos h0] at hw5
      have e := HM.out
      rw [if_pos h0] at e
      subst e
      obtain ⟨hj5, ho5⟩ := HJ4.out.put n
      rw [← hw5] at hj5 ho5
      exact ⟨(BE4.out.only ho5 (fun e => hne e.symm)).cell, H4.out.aside HJ4.out (by decide) (by decide) ho5, hj5, HT4.out.trans (Jame.only HJ4.out ho5 hj (Nat.le_trans hB HT4.out.size))⟩
    · rw [if_neg h0] at hw5
      have e := HM.out
      rw [if_neg h0] at e
      subst e
      subst hw5
      exact ⟨BE4.out.cell, H4.out, HJ4.out, HT4.out⟩
  clear hw5
  simp [Leaves, settle, results, Tryd.results28, go_sem, c5]
  exact ⟨H5.out, HJ5.out, HT5.out⟩
end
end Go.Proofs.YtgggecpnmliolaaDoor
