/- A record is added; a snapshot is laid. -/
import Derived.Test.YtgggecpnmliolaaDoorWr
namespace Go.Proofs.YtgggecpnmliolaaDoor
open Go Go.RowKit Frm
set_option linter.unusedVariables false
set_option linter.unusedSimpArgs false

namespace Dk
/-- n bytes are appended, and synced -/
def adds (b : List Int) (n : Nat) (d : Dk) : Dk := if d.appendE n = 0 then (d.append b).syncs else d.append b
def addsE (b : List Int) (n : Nat) (d : Dk) : Int := if d.appendE n = 0 then (d.append b).runE else d.appendE n

theorem append_count (d : Dk) (b : List Int) : (d.append b).count ≤ d.count + 1 := by
  unfold append run after add spend
  repeat' split
  all_goals
    show _ ≤ _
    first | exact Nat.le_refl _ | (simp only; omega) | omega
theorem runE_small (d : Dk) : 0 ≤ d.runE ∧ d.runE ≤ 20 := by
  unfold runE
  repeat' split
  all_goals omega
theorem appendE_small (d : Dk) (n : Nat) : 0 ≤ d.appendE n ∧ d.appendE n ≤ 20 := by
  unfold appendE
  split
  · omega
  · exact runE_small d
end Dk

section
variable {B g j : Nat} {d : Dk} {m : Int} {w : World}

set_option maxRecDepth 100000 in
set_option maxHeartbeats 2000000 in
theorem behind_any (H : Has B g d w) (hB : B ≤ w.heap.size) (hf : d.count < 999) (hJ : Jrn g j m w) {a0 : Option Addr} {len0 cap0 : Nat} {b : List Int} (hc : Came w a0 len0 cap0 b) :
    Calls Tryd.prog 29 #[.pointer (some ⟨j, 0, none⟩), .slice a0 len0 cap0] w fun e w' => e = .returned (.int .i64 (d.addsE b len0)) ∧ Has B g (d.adds b len0) w' ∧ Tame B w w' := by
  have hcall := append_any H hB (by omega) hc
  have cj := hJ.cells.1
  have HJ := Lib.hid hJ
  have hcount := d.append_count b
  have hsm := d.appendE_small len0
  obtain ⟨E, hE⟩ : ∃ E, E = d.appendE len0 := ⟨_, rfl⟩
  have HA : Hid (d.adds b len0 = if E = 0 then (d.append b).syncs else d.append b) := by rw [hE]; rfl
  have HE : Hid (d.addsE b len0 = if E = 0 then (d.append b).runE else E) := by rw [hE]; rfl
  rw [← hE] at hcall hsm
  have HC := Lib.hid hcall
  clear hcall hE H hJ hc
  go_enter Tryd.func29, Tryd.ntmps29
  go_wp2_with fail
  refine HC.out.mono ?_
  rintro _ w1 ⟨rfl, h1, ht1⟩
  have H1 := Lib.hid h1
  have HT1 := Lib.hid ht1
  have cj1 := (HJ.out.tame ht1).cells.1
  clear h1 ht1 cj
  by_cases h0 : E = 0
  · subst h0
    have hE := HE.out
    rw [if_pos rfl] at hE
    have hA := HA.out
    rw [if_pos rfl] at hA
    have HE1 := Lib.hid hE
    have HA1 := Lib.hid hA
    clear hE hA
    have hB1 : B ≤ w1.heap.size := Nat.le_trans hB HT1.out.size
    go_wp2_with fail
    refine (syncs_any H1.out hB1 (by omega)).mono ?_
    rintro _ w2 ⟨rfl, h2, ho2⟩
    obtain ⟨-, lv, sv, hd⟩ := H1.out
    have HT2 := Lib.hid (HT1.out.trans (Tame.only hd ho2 hB1))
    have H2 := Lib.hid h2
    clear h2 ho2 hd
    go_wp2_with fail
    go_ret
    exact ⟨ret_i64 HE1.out.symm, by rw [HA1.out]; exact H2.out, HT2.out⟩
  · have hE := HE.out
    rw [if_neg h0] at hE
    have hA := HA.out
    rw [if_neg h0] at hA
    have HE1 := Lib.hid hE
    have HA1 := Lib.hid hA
    clear hE hA
    go_wp2_with fail
    go_ret
    exact ⟨ret_i64 HE1.out.symm, by rw [HA1.out]; exact H1.out, HT1.out⟩

set_option maxRecDepth 100000 in
set_option maxHeartbeats 2000000 in
theorem jadd_any (H : Has B g d w) (hB : B ≤ w.heap.size) (hf : d.count < 999) (hJ : Jrn g j m w) (hj : B ≤ j) {a0 : Option Addr} {len0 cap0 : Nat} {b : List Int} (hc : Came w a0 len0 cap0 b) (hl : len0 ≤ 4194304) (hlaid : Laid w) (hm0 : 0 ≤ m) (hm1 : m ≤ 1000000) (M : Int) (hM : (if d.addsE (frame b) (8 + len0) = 0 then m + 1 else m) = M) :
    Calls Tryd.prog 14 #[.pointer (some ⟨j, 0, none⟩), .slice a0 len0 cap0] w fun e w' => e = .returned (.int .i64 (d.addsE (frame b) (8 + len0))) ∧ Has B g (d.adds (frame b) (8 + len0)) w' ∧ Jrn g j M w' ∧ Jame B w w' := by
  have hmf : ∀ (fn : Fn) (first cap : Array Value) (w : World), (Instr.makeFunc fn first cap).run Tryd.prog w = .ok (.func fn first cap) w := fun _ _ _ _ => rfl
  have hcall := write_any H hB hJ hj hc hl hlaid (m + 1) M 29 #[.pointer (some ⟨j, 0, none⟩)] (d.addsE (frame b) (8 + len0)) hM (fun _ _ => rfl) (d' := d.adds (frame b) (8 + len0))
    (fun w1 a1 c1 hb h1 hc1 => behind_any h1 (Nat.le_trans hB hb.size) hf (hJ.later hb) hc1)
  have HC := Lib.hid hcall
  have c1 := hJ.cells.2
  clear H hJ hc hlaid hcall hM
  go_enter Tryd.func14, Tryd.ntmps14
  go_wp2_with fail
  refine HC.out.mono ?_
  rintro _ w1 ⟨rfl, h1, hj1, ht1⟩
  have H1 := Lib.hid h1
  have HJ1 := Lib.hid hj1
  have HT1 := Lib.hid ht1
  clear h1 hj1 ht1
  go_wp2_with fail
  go_ret
  exact ⟨rfl, H1.out, HJ1.out, HT1.out⟩

set_option maxRecDepth 100000 in
set_option maxHeartbeats 2000000 in
theorem jsnap_any (H : Has B g d w) (hB : B ≤ w.heap.size) (hf : d.count < 999) (hJ : Jrn g j m w) (hj : B ≤ j) {a0 : Option Addr} {len0 cap0 : Nat} {b : List Int} (hc : Came w a0 len0 cap0 b) (hl : len0 ≤ 4194304) (hlaid : Laid w) (M : Int) (hM : (if d.swapE (8 + len0) = 0 then 0 else m) = M) :
    Calls Tryd.prog 13 #[.pointer (some ⟨j, 0, none⟩), .slice a0 len0 cap0] w fun e w' => e = .returned (.int .i64 (d.swapE (8 + len0))) ∧ Has B g (d.swaps (frame b)) w' ∧ Jrn g j M w' ∧ Jame B w w' := by
  have hmf : ∀ (fn : Fn) (first cap : Array Value) (w : World), (Instr.makeFunc fn first cap).run Tryd.prog w = .ok (.func fn first cap) w := fun _ _ _ _ => rfl
  have hcall := write_any H hB hJ hj hc hl hlaid 0 M 22 #[.pointer (some ⟨g, 0, none⟩)] (d.swapE (8 + len0)) hM (fun _ _ => rfl) (d' := d.swaps (frame b))
    (fun w1 a1 c1 hb h1 hc1 => swaps_any h1 (Nat.le_trans hB hb.size) (by omega) hc1)
  have HC := Lib.hid hcall
  have c0 := hJ.cells.1
  clear H hJ hc hlaid hcall hM
  go_enter Tryd.func13, Tryd.ntmps13
  go_wp2_with fail
  refine HC.out.mono ?_
  rintro _ w1 ⟨rfl, h1, hj1, ht1⟩
  have H1 := Lib.hid h1
  have HJ1 := Lib.hid hj1
  have HT1 := Lib.hid ht1
  clear h1 hj1 ht1
  go_wp2_with fail
  go_ret
  exact ⟨rfl, H1.out, HJ1.out, HT1.out⟩
end
end Go.Proofs.YtgggecpnmliolaaDoor
