/- What a disk's snapshot says; what is done behind an opening. -/
import Derived.Test.YtgggecpnmliolaaDoorAdd
namespace Go.Proofs.YtgggecpnmliolaaDoor
open Go Go.RowKit Frm
set_option linter.unusedVariables false
set_option linter.unusedSimpArgs false

/-- what a snapshot's bytes say, and whether they are none -/
def snE (z : List Int) : Nat := if z.length = 0 then 0 else if oneE z = 0 then 0 else 10
def snR (z : List Int) : List Int := if z.length = 0 then [] else oneR z

theorem scan_bulk_any : ∀ (n : Nat) (z : List Int), z.length ≤ n → bulk (scan z) ≤ z.length := by
  intro n
  induction n with
  | zero =>
    intro z hz
    have hw : whole z = false := by
      cases hb : whole z with
      | false => rfl
      | true => have := (whole_parts hb).1; omega
    rw [scan_none hw]
    exact Nat.zero_le _
  | succ n ih =>
    intro z hz
    cases hb : whole z with
    | false => rw [scan_none hb]; exact Nat.zero_le _
    | true =>
      have hp := whole_parts hb
      rw [scan_next hb]
      simp only [bulk]
      have h1 := ih (z.drop (8 + num z)) (by rw [List.length_drop]; omega)
      rw [List.length_drop] at h1
      rw [hp.2.2.2]
      omega
theorem scan_bulk (z : List Int) : bulk (scan z) ≤ z.length := scan_bulk_any z.length z (Nat.le_refl _)

theorem own_low {p b n s : Nat} {e : TypeId} {v : Value} {xs : List Value} {w w' : World} (h : w.ownsRow b e s v n xs) (ho : Only p w w') (hp : p < b) : w'.ownsRow b e s v n xs :=
  h.kept (row := some p) ho (.inr fun e => by
    have := (h.lt p e).1
    omega)
theorem Rws.low {p b : Nat} {v : Value} {rs : List (List Int)} {vs : List Value} {w w' : World} (h : Rws w b v rs vs) (ho : Only p w w') (hp : p < b) : Rws w' b v rs vs :=
  ⟨own_low h.own ho hp, fun j u hu => own_low (h.row j u hu) ho hp, h.one, h.bytes⟩
theorem own_mono {B b n s : Nat} {e : TypeId} {v : Value} {xs : List Value} {w : World} (h : w.ownsRow b e s v n xs) (hB : B ≤ b) : w.ownsRow B e s v n xs :=
  ⟨h.1, h.2.imp id fun ⟨g', cap, cur, h1, h2, h3⟩ => ⟨g', cap, cur, h1, Nat.le_trans hB h2, h3⟩⟩
theorem Rws.mono {b B : Nat} {v : Value} {rs : List (List Int)} {vs : List Value} {w : World} (h : Rws w b v rs vs) (hB : B ≤ b) : Rws w B v rs vs :=
  ⟨own_mono h.own hB, fun j u hu => own_mono (h.row j u hu) hB, h.one, h.bytes⟩

theorem Tame.side {B p : Nat} {w w1 w2 : World} (h : Tame B w w1) (ho : Only p w1 w2) (hp : w.heap.size ≤ p) (hB : B ≤ w.heap.size) : Tame B w w2 :=
  ⟨h.below.trans (ho.below (Nat.le_trans hB hp) (Nat.le_trans hB h.size)), fun k cs t fr hk h1 h2 => by
    have e := h.keeps k cs t fr hk h1 h2
    have hlt := (Array.getElem?_eq_some_iff.1 hk).1
    rw [ho.block k (Nat.lt_of_lt_of_le hlt h.size) (fun e => by cases e; omega), e]⟩

set_option maxRecDepth 100000 in
set_option maxHeartbeats 2000000 in
theorem snapshot_any {a0 : Option Addr} {len0 cap0 : Nat} {z : List Int} {w : World} (hc : Came w a0 len0 cap0 z) (hlaid : Laid w) :
    Calls Tryd.prog 25 #[.slice a0 len0 cap0] w fun e w' => ∃ v, e = .returned (.tuple #[v, .int .i64 (snE z : Int)]) ∧ w'.ownsRow w.heap.size 5 1 v (snR z).length (bts (snR z)) ∧ Below w.heap.size w w' := by
  have hl := hc.reads.1
  have HC := Lib.hid hc
  have HLA := Lib.hid hlaid
  clear hc hlaid
  by_cases h0 : len0 = 0
  · have HE : Hid (snE z = 0) := by unfold Hid snE; rw [if_pos (by omega)]
    have HR : Hid (snR z = []) := by unfold Hid snR; rw [if_pos (by omega)]
    subst h0
    clear hl
    go_enter Tryd.func25, Tryd.ntmps25
    go_wp2_with fail
    go_ret2
    exact ⟨.slice none 0 0, by rw [HE.out]; rfl, by rw [HR.out]; exact World.ownsRow_nil _ _ _ _, Below.refl _ _⟩
  · have HE : Hid (snE z = if oneE z = 0 then 0 else 10) := by unfold Hid snE; rw [if_neg (by omega)]
    have HR : Hid (snR z = oneR z) := by unfold Hid snR; rw [if_neg (by omega)]
    clear hl
    go_enter Tryd.func25, Tryd.ntmps25
    go_wp2_with fail
    refine (onep_any HC.out HLA.out).mono ?_
    rintro _ w1 ⟨v, rfl, ho, hb⟩
    obtain ⟨q, hq⟩ : ∃ q, q = oneE z := ⟨_, rfl⟩
    have hlt := oneE_lt z
    rw [← hq] at hlt ⊢
    have HQ : Hid (oneE z = q) := hq.symm
    have HO := Lib.hid ho
    have HB := Lib.hid hb
    clear ho hb hq
    by_cases h1 : q = 0
    · have HF : Hid (snE z = 0) := by show _ = _; rw [HE.out, HQ.out, if_pos h1]
      subst h1
      go_wp2_with fail
      go_ret2
      exact ⟨v, by rw [HF.out]; rfl, by rw [HR.out]; exact HO.out, HB.out⟩
    · have HF : Hid (snE z = 10 ∧ oneR z = []) := ⟨by rw [HE.out, HQ.out, if_neg h1], by unfold oneR; rw [HQ.out, if_neg h1]⟩
      go_wp2_with fail
      go_ret2
      exact ⟨.slice none 0 0, by rw [HF.out.1]; rfl, by rw [HR.out, HF.out.2]; exact World.ownsRow_nil _ _ _ _, HB.out⟩

/-- what is done behind an opening -/
theorem shut_any (p q r s : Nat) (E : Int) (u : FrameMode) (w : World) (he : w.cell? ⟨p, 0, none⟩ = some (.int .i64 E)) (h0 : E = 0) :
    CallsD Tryd.prog 24 #[.pointer (some ⟨p, 0, none⟩), .pointer (some ⟨q, 0, none⟩), .pointer (some ⟨r, 0, none⟩), .pointer (some ⟨s, 0, none⟩)] u w fun e u' w' => u' = u ∧ e = .returned (.tuple #[]) ∧ w = w' := by
  subst h0
  go_enter_d Tryd.func24, Tryd.ntmps24
  go_wp2
  go_end0
  exact ⟨rfl, rfl⟩

theorem shuts_any (p q r s : Nat) (E : Int) (vq vr vs : Value) (u : FrameMode) (w : World) (he : w.cell? ⟨p, 0, none⟩ = some (.int .i64 E)) (h0 : E ≠ 0) (hq : Box q 29 vq w) (hr : Box r 30 vr w) (hs : Box s 22 vs w) (hqr : q ≠ r) (hqs : q ≠ s) (hrs : r ≠ s) :
    CallsD Tryd.prog 24 #[.pointer (some ⟨p, 0, none⟩), .pointer (some ⟨q, 0, none⟩), .pointer (some ⟨r, 0, none⟩), .pointer (some ⟨s, 0, none⟩)] u w fun e u' w' => u' = u ∧ e = .returned (.tuple #[]) ∧ w' = ((w.setCell ⟨q, 0, none⟩ (.pointer none)).setCell ⟨r, 0, none⟩ (.slice none 0 0)).setCell ⟨s, 0, none⟩ (.slice none 0 0) := by
  have c1 := hq.cell
  have c2 := hr.cell
  have c3 := hs.cell
  have f1 := hq.free
  have f2 := hr.free
  have f3 := hs.free
  have hb := h0
  clear hq hr hs
  go_enter_d Tryd.func24, Tryd.ntmps24
  go_wp2
  go_end0
  exact ⟨rfl, rfl⟩

/-- the four variables that an opening hands on -/
structure Quad (p : Nat) (vj vs vl ve : Value) (w : World) : Prop where
  j : Box p 29 vj w
  s : Box (p + 1) 30 vs w
  l : Box (p + 1 + 1) 22 vl w
  e : Box (p + 1 + 1 + 1) 26 ve w

theorem Quad.later {p : Nat} {vj vs vl ve : Value} {w w' : World} (h : Quad p vj vs vl ve w) (hb : Below w.heap.size w w') : Quad p vj vs vl ve w' := ⟨h.j.later hb, h.s.later hb, h.l.later hb, h.e.later hb⟩
theorem Quad.only {p r : Nat} {vj vs vl ve : Value} {w w' : World} (h : Quad p vj vs vl ve w) (ho : Only r w w') (hr : r < p) : Quad p vj vs vl ve w' := ⟨h.j.only ho (by omega), h.s.only ho (by omega), h.l.only ho (by omega), h.e.only ho (by omega)⟩
theorem Quad.setJ {p : Nat} {vj vs vl ve : Value} {w : World} (h : Quad p vj vs vl ve w) (v : Value) : Quad p v vs vl ve (w.setCell ⟨p, 0, none⟩ v) ∧ Only p w (w.setCell ⟨p, 0, none⟩ v) := by
  obtain ⟨h1, ho⟩ := h.j.put v
  exact ⟨⟨h1, h.s.only ho (by omega), h.l.only ho (by omega), h.e.only ho (by omega)⟩, ho⟩
theorem Quad.setS {p : Nat} {vj vs vl ve : Value} {w : World} (h : Quad p vj vs vl ve w) (v : Value) : Quad p vj v vl ve (w.setCell ⟨p + 1, 0, none⟩ v) ∧ Only (p + 1) w (w.setCell ⟨p + 1, 0, none⟩ v) := by
  obtain ⟨h1, ho⟩ := h.s.put v
  exact ⟨⟨h.j.only ho (by omega), h1, h.l.only ho (by omega), h.e.only ho (by omega)⟩, ho⟩
theorem Quad.setL {p : Nat} {vj vs vl ve : Value} {w : World} (h : Quad p vj vs vl ve w) (v : Value) : Quad p vj vs v ve (w.setCell ⟨p + 1 + 1, 0, none⟩ v) ∧ Only (p + 1 + 1) w (w.setCell ⟨p + 1 + 1, 0, none⟩ v) := by
  obtain ⟨h1, ho⟩ := h.l.put v
  exact ⟨⟨h.j.only ho (by omega), h.s.only ho (by omega), h1, h.e.only ho (by omega)⟩, ho⟩
theorem Quad.setE {p : Nat} {vj vs vl ve : Value} {w : World} (h : Quad p vj vs vl ve w) (v : Value) : Quad p vj vs vl v (w.setCell ⟨p + 1 + 1 + 1, 0, none⟩ v) ∧ Only (p + 1 + 1 + 1) w (w.setCell ⟨p + 1 + 1 + 1, 0, none⟩ v) := by
  obtain ⟨h1, ho⟩ := h.e.put v
  exact ⟨⟨h.j.only ho (by omega), h.s.only ho (by omega), h.l.only ho (by omega), h1⟩, ho⟩
end Go.Proofs.YtgggecpnmliolaaDoor
