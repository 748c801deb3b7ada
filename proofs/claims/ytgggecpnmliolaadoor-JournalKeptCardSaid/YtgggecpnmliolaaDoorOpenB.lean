/- A disk whose snapshot is none is refused. -/
import Derived.Test.YtgggecpnmliolaaDoorOpen
namespace Go.Proofs.YtgggecpnmliolaaDoor
open Go Go.RowKit Frm
set_option linter.unusedVariables false
set_option linter.unusedSimpArgs false

def BadPost (B g : Nat) (d : Dk) (w : World) (e : Ending) (w' : World) : Prop := e = .returned (.tuple #[.pointer none, .slice none 0 0, .slice none 0 0, .int .i64 10]) ∧ Has B g d w' ∧ Tame B w w'

section
variable {B g : Nat} {d : Dk} {w : World}

set_option maxRecDepth 100000 in
set_option maxHeartbeats 4000000 in
theorem open_bad (H : Has B g d w) (hB : B ≤ w.heap.size) (hlaid : Laid w) (hdead : d.dead = false) (hsn : snE d.snap = 10) :
    Calls Tryd.prog 9 #[.pointer (some ⟨g, 0, none⟩)] w fun e w' => BadPost B g d w e w' := by
  have hmf : ∀ (fn : Fn) (first cap : Array Value) (w : World), (Instr.makeFunc fn first cap).run Tryd.prog w = .ok (.func fn first cap) w := fun _ _ _ _ => rfl
  have HH := Lib.hid H
  have HLA := Lib.hid hlaid
  have HD := Lib.hid hdead
  have HSN := Lib.hid hsn
  have hsmall : d.log.length + d.snap.length ≤ 2000000 := by obtain ⟨-, lv, sv, h⟩ := H; have h1 := h.fit; have h2 := h.small; omega
  have hg : g < w.heap.size := by obtain ⟨-, lv, sv, h⟩ := H; exact h.lt
  obtain ⟨n1, hn1⟩ : ∃ n, d.snap.length = n := ⟨_, rfl⟩
  obtain ⟨n2, hn2⟩ : ∃ n, d.log.length = n := ⟨_, rfl⟩
  rw [hn1, hn2] at hsmall
  have HN1 := Lib.hid hn1
  have HN2 := Lib.hid hn2
  clear H hlaid hdead hsn hn1 hn2
  go_enter_defers Tryd.func9, Tryd.ntmps9
  go_wp2_with fail
  obtain ⟨hw, bj, bs, bl, be⟩ := boxes4 w 29 30 22 26 (.pointer none) (.slice none 0 0) (.slice none 0 0) (.int .i64 0)
  have HW := Lib.hid hw
  have HQ : Hid (Quad w.heap.size (.pointer none) (.slice none 0 0) (.slice none 0 0) (.int .i64 0) _) := ⟨bj, bs, bl, be⟩
  clear hw bj bs bl be
  generalize (((w.alloc (Obj.cells #[.pointer none] 29)).alloc (Obj.cells #[.slice none 0 0] 30)).alloc (Obj.cells #[.slice none 0 0] 22)).alloc (Obj.cells #[.int .i64 0] 26) = W at *
  obtain ⟨p, hp⟩ : ∃ p, p = w.heap.size := ⟨_, rfl⟩
  rw [← hp] at HQ hg ⊢
  have HPP := Lib.hid hp
  have H0 := Lib.hid (HH.out.later HW.out)
  have hlt := HQ.out.e.lt
  clear hp
  refine (has_dead H0.out false HD.out).mono ?_
  rintro _ _ ⟨rfl, rfl⟩
  go_wp2_with fail
  refine (snaps_len H0.out d.snap n1 rfl HN1.out).mono ?_
  rintro _ w1 ⟨a1, c1, rfl, hc1, hb1⟩
  have HB1 := Lib.hid (HW.out.trans (hb1.mono HW.out.size))
  have HC1 := Lib.hid hc1
  have HQ1 := Lib.hid (HQ.out.later hb1)
  have hlt1 := HQ1.out.e.lt
  clear hc1 hb1 HQ H0
  go_wp2_with fail
  refine (snapshot_any HC1.out (HLA.out.keep HB1.out)).mono ?_
  rintro _ w2 ⟨v2, rfl, ho2, hb2⟩
  rw [HSN.out]
  have HB2 := Lib.hid (HB1.out.trans (hb2.mono HB1.out.size))
  have HQ2 := Lib.hid (HQ1.out.later hb2)
  have HO2 := Lib.hid ho2
  have cs := HQ2.out.s.cell
  have fs := HQ2.out.s.free
  have ce := HQ2.out.e.cell
  have fe := HQ2.out.e.free
  obtain ⟨x2, y2, rfl⟩ := own_slice ho2
  clear ho2 hb2 HQ1 HC1
  have HT2 := Lib.hid (Tame.new HB2.out hB)
  have cl := HQ2.out.l.cell
  have fl := HQ2.out.l.free
  go_wp2_with fail
  obtain ⟨q3, o3⟩ := HQ2.out.setS (.slice x2 (snR d.snap).length y2)
  obtain ⟨q4, o4⟩ := q3.setE (.int .i64 10)
  have HT4 := Lib.hid ((HT2.out.side o3 (by rw [← HPP.out]; omega) hB).side o4 (by rw [← HPP.out]; omega) hB)
  have HB4 := Lib.hid (HB2.out.trans ((o3.below (B := w.heap.size) (by rw [← HPP.out]; omega) HB2.out.size).trans (o4.below (B := w.heap.size) (by rw [← HPP.out]; omega) (Nat.le_trans HB2.out.size o3.size))))
  have HQ4 := Lib.hid q4
  clear q3 o3 q4 o4 cs fs ce fe cl fl HO2 HQ2
  have H4 := Lib.hid (HH.out.later HB4.out)
  refine anyS_start (by kernel_rfl) ?_
  have HQ8 := Lib.hid (HQ4.out.later (Below.refl _ _).drew)
  have HT8 := Lib.hid (HT4.out.drew)
  have H8 := Lib.hid (H4.out.later (Below.refl _ _).drew)
  clear HQ4 HT4 H4 HB4
  generalize World.drew _ = X8 at *
  have HCS : Hid (X8.cell? ⟨p + 1 + 1 + 1, 0, none⟩ = some (.int .i64 10)) := HQ8.out.e.cell
  (refine anyS_takeNew (i := 0) (v := .int .i64 10) (fun w' => w'.cell? ⟨p + 1 + 1 + 1, 0, none⟩ = some (.int .i64 10)) [1, 2, 3] HCS.out rfl (by kernel_rfl) (by kernel_rfl) (by kernel_rfl) (by kernel_rfl) (fun _ _ _ h => h) (fun _ hcs => by repeat' (first | exact trivial | exact fun _ => hcs | refine ⟨?_, ?_⟩)) (Or.inl ⟨by rfl, fun w' hw' => ?_⟩) ?_; (· go_simp))
  try simp only [Act.put, List.setIfInBounds_toArray, List.set_cons_zero, List.set_cons_succ]
  have cc := HQ8.out.j.cell
  have ff := HQ8.out.j.free
  refine anyS_one 1 (by kernel_rfl) rfl (fun K' hK' => ?_)
  go_simp
  obtain ⟨hq9, ho9⟩ := HQ8.out.setJ (.pointer none)
  have HQ9 := Lib.hid hq9
  have HT9 := Lib.hid (HT8.out.side ho9 (by rw [← HPP.out]; omega) hB)
  have H9 := Lib.hid (H8.out.aside HQ8.out.j (by decide) (by decide) ho9)
  clear cc ff
  generalize World.setCell X8 ⟨p, 0, none⟩ (.pointer none) = X9 at *
  have hcs := HQ9.out.e.cell
  have cc := HQ9.out.s.cell
  have ff := HQ9.out.s.free
  clear HQ8 HT8 H8 hq9 ho9
  refine hK'.out _ _ (by repeat' (first | exact trivial | exact fun _ => hcs | refine ⟨?_, ?_⟩)) ?_
  clear hK' K' hcs
  try simp only [Act.put, List.setIfInBounds_toArray, List.set_cons_zero, List.set_cons_succ]
  refine anyS_one 2 (by kernel_rfl) rfl (fun K' hK' => ?_)
  go_simp
  obtain ⟨hq10, ho10⟩ := HQ9.out.setS (.slice none 0 0)
  have HQ10 := Lib.hid hq10
  have HT10 := Lib.hid (HT9.out.side ho10 (by rw [← HPP.out]; omega) hB)
  have H10 := Lib.hid (H9.out.aside HQ9.out.s (by decide) (by decide) ho10)
  clear cc ff
  generalize World.setCell X9 ⟨p + 1, 0, none⟩ (.slice none 0 0) = X10 at *
  have hcs := HQ10.out.e.cell
  have cc := HQ10.out.l.cell
  have ff := HQ10.out.l.free
  clear HQ9 HT9 H9 hq10 ho10
  refine hK'.out _ _ (by repeat' (first | exact trivial | exact fun _ => hcs | refine ⟨?_, ?_⟩)) ?_
  clear hK' K' hcs
  try simp only [Act.put, List.setIfInBounds_toArray, List.set_cons_zero, List.set_cons_succ]
  refine anyS_one 3 (by kernel_rfl) rfl (fun K' hK' => ?_)
  go_simp
  obtain ⟨hq11, ho11⟩ := HQ10.out.setL (.slice none 0 0)
  have HQ11 := Lib.hid hq11
  have HT11 := Lib.hid (HT10.out.side ho11 (by rw [← HPP.out]; omega) hB)
  have H11 := Lib.hid (H10.out.aside HQ10.out.l (by decide) (by decide) ho11)
  clear cc ff
  generalize World.setCell X10 ⟨p + 1 + 1, 0, none⟩ (.slice none 0 0) = X11 at *
  have hcs := HQ11.out.e.cell
  have cc := HQ11.out.e.cell
  have ff := HQ11.out.e.free
  clear HQ10 HT10 H10 hq11 ho11
  refine hK'.out _ _ (by repeat' (first | exact trivial | exact fun _ => hcs | refine ⟨?_, ?_⟩)) ?_
  clear hK' K' hcs
  try simp only [Act.put, List.setIfInBounds_toArray, List.set_cons_zero, List.set_cons_succ]
  refine anyS_one 4 (by kernel_rfl) rfl (fun K' hK' => ?_)
  go_simp
  obtain ⟨hq12, ho12⟩ := HQ11.out.setE (.int .i64 10)
  have HQ12 := Lib.hid hq12
  have HT12 := Lib.hid (HT11.out.side ho12 (by rw [← HPP.out]; omega) hB)
  have H12 := Lib.hid (H11.out.aside HQ11.out.e (by decide) (by decide) ho12)
  clear cc ff
  generalize World.setCell X11 ⟨p + 1 + 1 + 1, 0, none⟩ (.int .i64 10) = X12 at *
  have hcs := HQ12.out.e.cell
  have cc : True := trivial
  have ff : True := trivial
  clear HQ11 HT11 H11 hq12 ho12
  refine hK'.out _ _ (by repeat' (first | exact trivial | exact fun _ => hcs | refine ⟨?_, ?_⟩)) ?_
  clear hK' K' hcs
  try simp only [Act.put, List.setIfInBounds_toArray, List.set_cons_zero, List.set_cons_succ]
  refine anyS_done (by kernel_rfl) ?_ _
  refine NoPanic.normal ?_
  clear cc ff
  go_wp2_with fail
  refine leaves_cons (f := 24) (args := #[.pointer (some ⟨p + 1 + 1 + 1, 0, none⟩), .pointer (some ⟨p, 0, none⟩), .pointer (some ⟨p + 1, 0, none⟩), .pointer (some ⟨p + 1 + 1, 0, none⟩)]) (by simp) (by simp [go_sem]) ?_
  refine (shuts_any (p + 1 + 1 + 1) p (p + 1) (p + 1 + 1) 10 _ _ _ .returning X12 HQ12.out.e.cell (by omega) HQ12.out.j HQ12.out.s HQ12.out.l (by omega) (by omega) (by omega)).mono ?_
  rintro e u' w9 ⟨rfl, rfl, hw9⟩
  obtain ⟨q5, o5⟩ := HQ12.out.setJ (.pointer none)
  obtain ⟨q6, o6⟩ := q5.setS (.slice none 0 0)
  obtain ⟨q7, o7⟩ := q6.setL (.slice none 0 0)
  have HT13 := Lib.hid (((HT12.out.side o5 (by rw [← HPP.out]; omega) hB).side o6 (by rw [← HPP.out]; omega) hB).side o7 (by rw [← HPP.out]; omega) hB)
  have H13 := Lib.hid (((H12.out.aside HQ12.out.j (by decide) (by decide) o5).aside q5.s (by decide) (by decide) o6).aside q6.l (by decide) (by decide) o7)
  rw [← hw9] at q7 HT13 H13
  have cj := q7.j.cell
  have cs := q7.s.cell
  have cl := q7.l.cell
  have ce := q7.e.cell
  clear hw9 q5 q6 o5 o6 o7 HQ12 HT12 H12
  simp [Leaves, settle, results, Tryd.results9, go_sem, cj, cs, cl, ce]
  exact ⟨rfl, H13.out, HT13.out⟩
end
end Go.Proofs.YtgggecpnmliolaaDoor
