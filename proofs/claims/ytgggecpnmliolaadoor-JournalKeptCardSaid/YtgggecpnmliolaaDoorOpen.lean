/- A disk is opened. -/
import Derived.Test.YtgggecpnmliolaaDoorSnp
namespace Go.Proofs.YtgggecpnmliolaaDoor
open Go Go.RowKit Frm
set_option linter.unusedVariables false
set_option linter.unusedSimpArgs false

/-- what a disk is behind its opening: what stands behind the last whole record is cut off -/
def Dk.opened (d : Dk) : Dk := if bulk (scan d.log) < d.log.length then d.cuts (bulk (scan d.log) : Int) else d

theorem boxes4 (w : World) (t s r q : TypeId) (v u x y : Value) : Below w.heap.size w ((((w.alloc (Obj.cells #[v] t)).alloc (Obj.cells #[u] s)).alloc (Obj.cells #[x] r)).alloc (Obj.cells #[y] q)) ∧
    Box w.heap.size t v ((((w.alloc (Obj.cells #[v] t)).alloc (Obj.cells #[u] s)).alloc (Obj.cells #[x] r)).alloc (Obj.cells #[y] q)) ∧
    Box (w.heap.size + 1) s u ((((w.alloc (Obj.cells #[v] t)).alloc (Obj.cells #[u] s)).alloc (Obj.cells #[x] r)).alloc (Obj.cells #[y] q)) ∧
    Box (w.heap.size + 1 + 1) r x ((((w.alloc (Obj.cells #[v] t)).alloc (Obj.cells #[u] s)).alloc (Obj.cells #[x] r)).alloc (Obj.cells #[y] q)) ∧
    Box (w.heap.size + 1 + 1 + 1) q y ((((w.alloc (Obj.cells #[v] t)).alloc (Obj.cells #[u] s)).alloc (Obj.cells #[x] r)).alloc (Obj.cells #[y] q)) := by
  have hs3 : (((w.alloc (Obj.cells #[v] t)).alloc (Obj.cells #[u] s)).alloc (Obj.cells #[x] r)).heap.size = w.heap.size + 1 + 1 + 1 := by simp
  obtain ⟨h1, h2, h3, h4⟩ := boxes3 w t s r v u x
  refine ⟨h1.alloc (by omega) _, h2.past _, h3.past _, h4.past _, ?_⟩
  have h := Box.new (((w.alloc (Obj.cells #[v] t)).alloc (Obj.cells #[u] s)).alloc (Obj.cells #[x] r)) q y
  rw [hs3] at h
  exact h

def OpenPost (B g : Nat) (d : Dk) (w : World) (e : Ending) (w' : World) : Prop := ∃ j v vv vs, e = .returned (.tuple #[.pointer (some ⟨j, 0, none⟩), v, vv, .int .i64 0]) ∧
  w'.ownsRow w.heap.size 5 1 v (snR d.snap).length (bts (snR d.snap)) ∧ Rws w' w.heap.size vv (scan d.log) vs ∧ Jrn g j ((scan d.log).length : Int) w' ∧ w.heap.size ≤ j ∧ Has B g d.opened w' ∧ Tame B w w'

structure CellsAt (p : Nat) (vs vl ve : Value) (w : World) : Prop where
  s : w.cell? ⟨p + 1, 0, none⟩ = some vs
  l : w.cell? ⟨p + 1 + 1, 0, none⟩ = some vl
  e : w.cell? ⟨p + 1 + 1 + 1, 0, none⟩ = some ve
theorem Quad.at {p : Nat} {vj vs vl ve : Value} {w : World} (h : Quad p vj vs vl ve w) : CellsAt p vs vl ve w := ⟨h.s.cell, h.l.cell, h.e.cell⟩

section
variable {B g : Nat} {d : Dk} {w : World}

set_option maxRecDepth 100000 in
set_option maxHeartbeats 4000000 in
theorem open_any (H : Has B g d w) (hB : B ≤ w.heap.size) (hlaid : Laid w) (hdead : d.dead = false) (hstop : (d.count : Int) + 1 ≠ d.stop) (hf : d.count < 1000) (hsn : snE d.snap = 0) :
    Calls Tryd.prog 9 #[.pointer (some ⟨g, 0, none⟩)] w fun e w' => OpenPost B g d w e w' := by
  have hmf : ∀ (fn : Fn) (first cap : Array Value) (w : World), (Instr.makeFunc fn first cap).run Tryd.prog w = .ok (.func fn first cap) w := fun _ _ _ _ => rfl
  have HH := Lib.hid H
  have HLA := Lib.hid hlaid
  have HD := Lib.hid hdead
  have HST := Lib.hid hstop
  have HSN := Lib.hid hsn
  have hsmall : d.log.length + d.snap.length ≤ 2000000 := by obtain ⟨-, lv, sv, h⟩ := H; have h1 := h.fit; have h2 := h.small; omega
  have hg : g < w.heap.size := by obtain ⟨-, lv, sv, h⟩ := H; exact h.lt
  obtain ⟨n1, hn1⟩ : ∃ n, d.snap.length = n := ⟨_, rfl⟩
  obtain ⟨n2, hn2⟩ : ∃ n, d.log.length = n := ⟨_, rfl⟩
  rw [hn1, hn2] at hsmall
  have HN1 := Lib.hid hn1
  have HN2 := Lib.hid hn2
  clear H hlaid hdead hstop hsn hn1 hn2
  go_enter_defers Tryd.func9, Tryd.ntmps9
  go_wp2_with fail
  obtain ⟨hw, bj, bs, bl, be⟩ := boxes4 w 29 30 22 26 (.pointer none) (.slice none 0 0) (.slice none 0 0) (.int .i64 0)
  have HW := Lib.hid hw
  have HQ : Hid (Quad w.heap.size (.pointer none) (.slice none 0 0) (.slice none 0 0) (.int .i64 0) _) := ⟨bj, bs, bl, be⟩
  clear hw bj bs bl be
  generalize (((w.alloc (Obj.cells #[.pointer none] 29)).alloc (Obj.cells #[.slice none 0 0] 30)).alloc (Obj.cells #[.slice none 0 0] 22)).alloc (Obj.cells #[.int .i64 0] 26) = W at *
  obtain ⟨p, hp⟩ : ∃ p, p = w.heap.size := ⟨_, rfl⟩
  rw [← hp] at HQ hg ⊢
  have HPP := Lib.hid hp
  have H0 := Lib.hid (HH.out.later HW.out)
  have hlt := HQ.out.e.lt
  clear hp
  refine (has_dead H0.out false HD.out).mono ?_
  rintro _ _ ⟨rfl, rfl⟩
  go_wp2_with fail
  refine (snaps_len H0.out d.snap n1 rfl HN1.out).mono ?_
  rintro _ w1 ⟨a1, c1, rfl, hc1, hb1⟩
  have HB1 := Lib.hid (HW.out.trans (hb1.mono HW.out.size))
  have HC1 := Lib.hid hc1
  have HQ1 := Lib.hid (HQ.out.later hb1)
  have hlt1 := HQ1.out.e.lt
  clear hc1 hb1 HQ H0
  go_wp2_with fail
  refine (snapshot_any HC1.out (HLA.out.keep HB1.out)).mono ?_
  rintro _ w2 ⟨v2, rfl, ho2, hb2⟩
  rw [HSN.out]
  have HB2 := Lib.hid (HB1.out.trans (hb2.mono HB1.out.size))
  have HQ2 := Lib.hid (HQ1.out.later hb2)
  have HO2 := Lib.hid ho2
  have cs := HQ2.out.s.cell
  have fs := HQ2.out.s.free
  have ce := HQ2.out.e.cell
  have fe := HQ2.out.e.free
  obtain ⟨x2, y2, rfl⟩ := own_slice ho2
  clear ho2 hb2 HQ1 HC1
  go_wp2_with fail
  obtain ⟨q3, o3⟩ := HQ2.out.setS (.slice x2 (snR d.snap).length y2)
  obtain ⟨q4, o4⟩ := q3.setE (.int .i64 0)
  have HO4 := Lib.hid (own_low (own_low HO2.out o3 (by omega)) o4 (by omega))
  have HB4 := Lib.hid (HB2.out.trans ((o3.below (B := w.heap.size) (by rw [← HPP.out]; omega) HB2.out.size).trans (o4.below (B := w.heap.size) (by rw [← HPP.out]; omega) (Nat.le_trans HB2.out.size o3.size))))
  have HQ4 := Lib.hid q4
  clear q3 o3 q4 o4 cs fs ce fe HO2 HQ2
  generalize (w2.setCell ⟨p + 1, 0, none⟩ (.slice x2 (snR d.snap).length y2)).setCell ⟨p + 1 + 1 + 1, 0, none⟩ (.int .i64 0) = w4 at *
  have H4 := Lib.hid (HH.out.later HB4.out)
  refine (logs_len H4.out d.log n2 rfl HN2.out).mono ?_
  rintro _ w5 ⟨a5, c5, rfl, hc5, hb5⟩
  have HB5 := Lib.hid (HB4.out.trans (hb5.mono HB4.out.size))
  have HC5 := Lib.hid hc5
  have HQ5 := Lib.hid (HQ4.out.later hb5)
  have HO5 := Lib.hid (own_later HO4.out hb5)
  have hlt5 := HQ5.out.e.lt
  clear hc5 hb5 HQ4 HO4 H4
  go_wp2_with fail
  refine (scanp_any HC5.out (HLA.out.keep HB5.out) (by omega)).mono ?_
  rintro _ w6 ⟨v6, vs6, rfl, hr6, hb6⟩
  obtain ⟨a6, c6, rfl, -⟩ := hr6.mat
  have HB6 := Lib.hid (HB5.out.trans (hb6.mono HB5.out.size))
  have HQ6 := Lib.hid (HQ5.out.later hb6)
  have HO6 := Lib.hid (own_later HO5.out hb6)
  have HC6 := Lib.hid (HC5.out.below hb6)
  have hbulk := bulk_ge (scan d.log)
  have hscan := scan_bulk d.log
  rw [HN2.out] at hscan
  obtain ⟨K, hK⟩ : ∃ K, K = bulk (scan d.log) := ⟨_, rfl⟩
  obtain ⟨R, hR⟩ : ∃ R, R = (scan d.log).length := ⟨_, rfl⟩
  have HO : Hid (d.opened = if K < n2 then d.cuts (K : Int) else d) := by rw [hK, ← HN2.out]; rfl
  rw [← hK, ← hR] at hbulk
  rw [← hK] at hscan
  rw [← hR] at hr6
  have HR6 := Lib.hid hr6
  rw [← hK, ← hR]
  have HKK := Lib.hid hK
  have HRR := Lib.hid hR
  have cl := HQ6.out.l.cell
  have fl := HQ6.out.l.free
  clear hb6 hr6 HQ5 HO5 HC5 hK hR
  have HW1 : Hid (w.heap.size ≤ w1.heap.size ∧ w.heap.size ≤ w5.heap.size) := ⟨HB1.out.size, HB5.out.size⟩
  obtain ⟨q7, o7⟩ := HQ6.out.setL (.slice a6 R c6)
  have HQ7 := Lib.hid q7
  have HB7 := Lib.hid (HB6.out.trans (o7.below (B := w.heap.size) (by rw [← HPP.out]; omega) HB6.out.size))
  have HO7 := Lib.hid (own_low HO6.out o7 (by omega))
  have HR7 := Lib.hid (HR6.out.low o7 (by omega))
  clear q7 o7
  by_cases hcut : K < n2
  · have e7 := Dk.cuts_free HD.out HST.out K (by rw [HN2.out]; exact hscan)
    have HE7 := Lib.hid e7.2
    have HOP : Hid (d.opened = d.cuts (K : Int)) := by show _ = _; rw [HO.out, if_pos hcut]
    clear e7
    go_wp2_with fail
    clear cl fl HQ6 HO6 HR6
    generalize w6.setCell ⟨p + 1 + 1, 0, none⟩ (.slice a6 R c6) = w7 at *
    refine (cuts_any (HH.out.later HB7.out) (Nat.le_trans hB HB7.out.size) hf (K : Int) (by unfold I64; omega)).mono ?_
    rintro _ w8 ⟨rfl, h8, o8⟩
    rw [HE7.out]
    have HT8a := Lib.hid ((Tame.new HB7.out hB).trans (by obtain ⟨-, lv, sv, hd⟩ := HH.out.later HB7.out; exact Tame.only hd o8 (Nat.le_trans hB HB7.out.size)))
    have HQ8a := Lib.hid (HQ7.out.only o8 hg)
    have HO8a := Lib.hid (own_low HO7.out o8 (by omega))
    have HR8a := Lib.hid (HR7.out.low o8 (by omega))
    have H8a := Lib.hid h8
    have ce := HQ8a.out.e.cell
    have fe := HQ8a.out.e.free
    clear h8 o8 HQ7 HB7 HO7 HR7
    go_wp2_with fail
    obtain ⟨q9, o9⟩ := HQ8a.out.setE (.int .i64 0)
    have HQ7 := Lib.hid q9
    have HT7 := Lib.hid (HT8a.out.side o9 (by rw [← HPP.out]; omega) hB)
    have H7 : Hid (Has B g d.opened (w8.setCell ⟨p + 1 + 1 + 1, 0, none⟩ (.int .i64 0))) := by show Has B g d.opened _; rw [HOP.out]; exact H8a.out.aside HQ8a.out.e (by decide) (by decide) o9
    have HO7 := Lib.hid (own_low HO8a.out o9 (by omega))
    have HR7 := Lib.hid (HR8a.out.low o9 (by omega))
    clear q9 o9 HQ8a HT8a H8a HO8a HR8a ce fe
    refine anyS_start (by kernel_rfl) ?_
    have HQ8 := Lib.hid (HQ7.out.later (Below.refl _ _).drew)
    have HT8 := Lib.hid (HT7.out.drew)
    have H8 := Lib.hid (H7.out.later (Below.refl _ _).drew)
    have HO8 := Lib.hid (own_later HO7.out (Below.refl _ _).drew)
    have HR8 := Lib.hid (HR7.out.keep (Below.refl _ _).drew)
    have hlt8 := HQ8.out.e.lt
    clear HQ7 HT7 H7 HO7 HR7
    generalize World.drew _ = X at *
    have HCS : Hid (CellsAt p (.slice x2 (snR d.snap).length y2) (.slice a6 R c6) (.int .i64 0) X) := HQ8.out.at
    (refine anyS_free (i := 0) (v := ?_) rfl (by kernel_rfl) (by kernel_rfl) (by kernel_rfl) (fun _ _ _ h => h) (fun _ => by simp) (Or.inl ⟨by rfl, fun w' _ => ?_⟩) ?_; rotate_left; (· go_simp; try with_reducible rfl))
    try simp only [Act.put, List.setIfInBounds_toArray, List.set_cons_zero, List.set_cons_succ]
    (refine anyS_takeNew (i := 1) (v := .slice a6 R c6) (fun w' => CellsAt p (.slice x2 (snR d.snap).length y2) (.slice a6 R c6) (.int .i64 0) w') [5, 6, 7] HCS.out rfl (by kernel_rfl) (by kernel_rfl) (by kernel_rfl) (by kernel_rfl) (fun _ _ _ h => h) (fun _ hcs => by repeat' (first | exact trivial | exact fun _ => hcs | refine ⟨?_, ?_⟩)) (Or.inl ⟨by rfl, fun w' hw' => ?_⟩) ?_; (· have c0 := hw'.l; go_simp))
    try simp only [Act.put, List.setIfInBounds_toArray, List.set_cons_zero, List.set_cons_succ]
    (refine anyS_free (i := 2) (v := ?_) rfl (by kernel_rfl) (by kernel_rfl) (by kernel_rfl) (fun _ _ _ h => h) (fun _ => by simp) (Or.inl ⟨by rfl, fun w' _ => ?_⟩) ?_; rotate_left; (· go_simp; try with_reducible rfl))
    try simp only [Act.put, List.setIfInBounds_toArray, List.set_cons_zero, List.set_cons_succ]
    (refine anyS_free (i := 3) (v := ?_) rfl (by kernel_rfl) (by kernel_rfl) (by kernel_rfl) (fun _ _ _ h => h) (fun _ => by simp) (Or.inl ⟨by rfl, fun w' _ => ?_⟩) ?_; rotate_left; (· go_simp; try with_reducible rfl))
    try simp only [Act.put, List.setIfInBounds_toArray, List.set_cons_zero, List.set_cons_succ]
    (refine anyS_takeNew (i := 5) (v := .slice x2 (snR d.snap).length y2) (fun w' => CellsAt p (.slice x2 (snR d.snap).length y2) (.slice a6 R c6) (.int .i64 0) w') [4, 6, 7, 8] HCS.out rfl (by kernel_rfl) (by kernel_rfl) (by kernel_rfl) (by kernel_rfl) (fun _ _ _ h => h) (fun _ hcs => by repeat' (first | exact trivial | exact fun _ => hcs | refine ⟨?_, ?_⟩)) (Or.inl ⟨by rfl, fun w' hw' => ?_⟩) ?_; (· have c0 := hw'.s; go_simp))
    try simp only [Act.put, List.setIfInBounds_toArray, List.set_cons_zero, List.set_cons_succ]
    (refine anyS_takeNew (i := 6) (v := .slice a6 R c6) (fun w' => CellsAt p (.slice x2 (snR d.snap).length y2) (.slice a6 R c6) (.int .i64 0) w') [4, 7, 8, 9] HCS.out rfl (by kernel_rfl) (by kernel_rfl) (by kernel_rfl) (by kernel_rfl) (fun _ _ _ h => h) (fun _ hcs => by repeat' (first | exact trivial | exact fun _ => hcs | refine ⟨?_, ?_⟩)) (Or.inl ⟨by rfl, fun w' hw' => ?_⟩) ?_; (· have c0 := hw'.l; go_simp))
    try simp only [Act.put, List.setIfInBounds_toArray, List.set_cons_zero, List.set_cons_succ]
    (refine anyS_takeNew (i := 7) (v := .int .i64 0) (fun w' => CellsAt p (.slice x2 (snR d.snap).length y2) (.slice a6 R c6) (.int .i64 0) w') [4, 8, 9, 10] HCS.out rfl (by kernel_rfl) (by kernel_rfl) (by kernel_rfl) (by kernel_rfl) (fun _ _ _ h => h) (fun _ hcs => by repeat' (first | exact trivial | exact fun _ => hcs | refine ⟨?_, ?_⟩)) (Or.inl ⟨by rfl, fun w' hw' => ?_⟩) ?_; (· have c0 := hw'.e; go_simp))
    try simp only [Act.put, List.setIfInBounds_toArray, List.set_cons_zero, List.set_cons_succ]
    refine anyS_one 4 (by kernel_rfl) rfl (fun K' hK' => ?_)
    go_simp
    have HJ9 : Hid (Jrn g X.heap.size (R : Int) (X.alloc (Obj.cells #[.pointer (some ⟨g, 0, none⟩), .int .i64 (R : Int)] 59))) := heap_alloc_new _ _
    have hb9 : Below X.heap.size X (X.alloc (Obj.cells #[.pointer (some ⟨g, 0, none⟩), .int .i64 (R : Int)] 59)) := (Below.refl _ _).alloc (Nat.le_refl _) _
    have HQ9 := Lib.hid (HQ8.out.later hb9)
    have HT9 := Lib.hid (HT8.out.trans (Tame.new hb9 (Nat.le_trans hB HT8.out.size)))
    have H9 := Lib.hid (H8.out.later hb9)
    have HO9 := Lib.hid (own_later HO8.out hb9)
    have HR9 := Lib.hid (HR8.out.keep hb9)
    have hcs := HQ9.out.at
    obtain ⟨J, hJ⟩ : ∃ J, J = X.heap.size := ⟨_, rfl⟩
    have hJl : p + 1 + 1 + 1 < J := by omega
    generalize X.alloc (Obj.cells #[.pointer (some ⟨g, 0, none⟩), .int .i64 (R : Int)] 59) = X9 at *
    rw [← hJ] at HJ9 ⊢
    have cc := HQ9.out.j.cell
    have ff := HQ9.out.j.free
    clear HQ8 HT8 H8 HO8 HR8 hb9 HCS hJ
    refine hK'.out _ _ (by repeat' (first | exact trivial | exact fun _ => hcs | refine ⟨?_, ?_⟩)) ?_
    clear hK' K'
    try simp only [Act.put, List.setIfInBounds_toArray, List.set_cons_zero, List.set_cons_succ]
    refine anyS_one 8 (by kernel_rfl) rfl (fun K' hK' => ?_)
    go_simp
    obtain ⟨hq10, ho10⟩ := HQ9.out.setJ (.pointer (some ⟨J, 0, none⟩))
    have HQ10 := Lib.hid hq10
    have HJ10 := Lib.hid (HJ9.out.only ho10 (by omega))
    have HT10 := Lib.hid (HT9.out.side ho10 (by rw [← HPP.out]; omega) hB)
    have H10 := Lib.hid (H9.out.aside HQ9.out.j (by decide) (by decide) ho10)
    have HO10 := Lib.hid (own_low HO9.out ho10 (by omega))
    have HR10 := Lib.hid (HR9.out.low ho10 (by omega))
    clear cc ff
    generalize World.setCell X9 ⟨p, 0, none⟩ (.pointer (some ⟨J, 0, none⟩)) = X10 at *
    have hcs := HQ10.out.at
    have cc := HQ10.out.s.cell
    have ff := HQ10.out.s.free
    clear HQ9 HJ9 HT9 H9 HO9 HR9 hq10 ho10
    refine hK'.out _ _ (by repeat' (first | exact trivial | exact fun _ => hcs | refine ⟨?_, ?_⟩)) ?_
    clear hK' K'
    try simp only [Act.put, List.setIfInBounds_toArray, List.set_cons_zero, List.set_cons_succ]
    refine anyS_one 9 (by kernel_rfl) rfl (fun K' hK' => ?_)
    go_simp
    obtain ⟨hq11, ho11⟩ := HQ10.out.setS (.slice x2 (snR d.snap).length y2)
    have HQ11 := Lib.hid hq11
    have HJ11 := Lib.hid (HJ10.out.only ho11 (by omega))
    have HT11 := Lib.hid (HT10.out.side ho11 (by rw [← HPP.out]; omega) hB)
    have H11 := Lib.hid (H10.out.aside HQ10.out.s (by decide) (by decide) ho11)
    have HO11 := Lib.hid (own_low HO10.out ho11 (by omega))
    have HR11 := Lib.hid (HR10.out.low ho11 (by omega))
    clear cc ff
    generalize World.setCell X10 ⟨p + 1, 0, none⟩ (.slice x2 (snR d.snap).length y2) = X11 at *
    have hcs := HQ11.out.at
    have cc := HQ11.out.l.cell
    have ff := HQ11.out.l.free
    clear HQ10 HJ10 HT10 H10 HO10 HR10 hq11 ho11
    refine hK'.out _ _ (by repeat' (first | exact trivial | exact fun _ => hcs | refine ⟨?_, ?_⟩)) ?_
    clear hK' K'
    try simp only [Act.put, List.setIfInBounds_toArray, List.set_cons_zero, List.set_cons_succ]
    refine anyS_one 10 (by kernel_rfl) rfl (fun K' hK' => ?_)
    go_simp
    obtain ⟨hq12, ho12⟩ := HQ11.out.setL (.slice a6 R c6)
    have HQ12 := Lib.hid hq12
    have HJ12 := Lib.hid (HJ11.out.only ho12 (by omega))
    have HT12 := Lib.hid (HT11.out.side ho12 (by rw [← HPP.out]; omega) hB)
    have H12 := Lib.hid (H11.out.aside HQ11.out.l (by decide) (by decide) ho12)
    have HO12 := Lib.hid (own_low HO11.out ho12 (by omega))
    have HR12 := Lib.hid (HR11.out.low ho12 (by omega))
    clear cc ff
    generalize World.setCell X11 ⟨p + 1 + 1, 0, none⟩ (.slice a6 R c6) = X12 at *
    have hcs := HQ12.out.at
    have cc := HQ12.out.e.cell
    have ff := HQ12.out.e.free
    clear HQ11 HJ11 HT11 H11 HO11 HR11 hq12 ho12
    refine hK'.out _ _ (by repeat' (first | exact trivial | exact fun _ => hcs | refine ⟨?_, ?_⟩)) ?_
    clear hK' K'
    try simp only [Act.put, List.setIfInBounds_toArray, List.set_cons_zero, List.set_cons_succ]
    refine anyS_one 11 (by kernel_rfl) rfl (fun K' hK' => ?_)
    go_simp
    obtain ⟨hq13, ho13⟩ := HQ12.out.setE (.int .i64 0)
    have HQ13 := Lib.hid hq13
    have HJ13 := Lib.hid (HJ12.out.only ho13 (by omega))
    have HT13 := Lib.hid (HT12.out.side ho13 (by rw [← HPP.out]; omega) hB)
    have H13 := Lib.hid (H12.out.aside HQ12.out.e (by decide) (by decide) ho13)
    have HO13 := Lib.hid (own_low HO12.out ho13 (by omega))
    have HR13 := Lib.hid (HR12.out.low ho13 (by omega))
    clear cc ff
    generalize World.setCell X12 ⟨p + 1 + 1 + 1, 0, none⟩ (.int .i64 0) = X13 at *
    have hcs : CellsAt p (.slice x2 (snR d.snap).length y2) (.slice a6 R c6) (.int .i64 0) X13 := HQ13.out.at
    have cc : True := trivial
    have ff : True := trivial
    clear HQ12 HJ12 HT12 H12 HO12 HR12 hq13 ho13
    refine hK'.out _ _ (by repeat' (first | exact trivial | exact fun _ => hcs | refine ⟨?_, ?_⟩)) ?_
    clear hK' K'
    try simp only [Act.put, List.setIfInBounds_toArray, List.set_cons_zero, List.set_cons_succ]
    refine anyS_done (by kernel_rfl) ?_ _
    refine NoPanic.normal ?_
    clear cc ff
    go_wp2_with fail
    have cj := HQ13.out.j.cell
    have cs := HQ13.out.s.cell
    have cl := HQ13.out.l.cell
    have ce := HQ13.out.e.cell
    refine leaves_cons (f := 24) (args := #[.pointer (some ⟨p + 1 + 1 + 1, 0, none⟩), .pointer (some ⟨p, 0, none⟩), .pointer (some ⟨p + 1, 0, none⟩), .pointer (some ⟨p + 1 + 1, 0, none⟩)]) (by simp) (by simp [go_sem]) ?_
    refine (shut_any (p + 1 + 1 + 1) p (p + 1) (p + 1 + 1) 0 .returning X13 ce rfl).mono ?_
    rintro e u' _ ⟨rfl, rfl, rfl⟩
    simp [Leaves, settle, results, Tryd.results9, go_sem, cj, cs, cl, ce]
    have hp0 := HPP.out
    have hw1 := HW1.out
    exact ⟨J, _, _, vs6, rfl, own_mono HO13.out hw1.1, HR13.out.mono hw1.2, by have h := HJ13.out; rw [HRR.out] at h; exact h, by omega, H13.out, HT13.out⟩
  · have HOP : Hid (d.opened = d) := by show _ = _; rw [HO.out, if_neg hcut]
    go_wp2_with fail
    have HT7 := Lib.hid (Tame.new HB7.out hB)
    have H7 : Hid (Has B g d.opened (w6.setCell ⟨p + 1 + 1, 0, none⟩ (.slice a6 R c6))) := by show Has B g d.opened _; rw [HOP.out]; exact HH.out.later HB7.out
    clear cl fl HQ6 HO6 HR6 HB7
    refine anyS_start (by kernel_rfl) ?_
    have HQ8 := Lib.hid (HQ7.out.later (Below.refl _ _).drew)
    have HT8 := Lib.hid (HT7.out.drew)
    have H8 := Lib.hid (H7.out.later (Below.refl _ _).drew)
    have HO8 := Lib.hid (own_later HO7.out (Below.refl _ _).drew)
    have HR8 := Lib.hid (HR7.out.keep (Below.refl _ _).drew)
    have hlt8 := HQ8.out.e.lt
    clear HQ7 HT7 H7 HO7 HR7
    generalize World.drew _ = X at *
    have HCS : Hid (CellsAt p (.slice x2 (snR d.snap).length y2) (.slice a6 R c6) (.int .i64 0) X) := HQ8.out.at
    (refine anyS_free (i := 0) (v := ?_) rfl (by kernel_rfl) (by kernel_rfl) (by kernel_rfl) (fun _ _ _ h => h) (fun _ => by simp) (Or.inl ⟨by rfl, fun w' _ => ?_⟩) ?_; rotate_left; (· go_simp; try with_reducible rfl))
    try simp only [Act.put, List.setIfInBounds_toArray, List.set_cons_zero, List.set_cons_succ]
    (refine anyS_takeNew (i := 1) (v := .slice a6 R c6) (fun w' => CellsAt p (.slice x2 (snR d.snap).length y2) (.slice a6 R c6) (.int .i64 0) w') [5, 6, 7] HCS.out rfl (by kernel_rfl) (by kernel_rfl) (by kernel_rfl) (by kernel_rfl) (fun _ _ _ h => h) (fun _ hcs => by repeat' (first | exact trivial | exact fun _ => hcs | refine ⟨?_, ?_⟩)) (Or.inl ⟨by rfl, fun w' hw' => ?_⟩) ?_; (· have c0 := hw'.l; go_simp))
    try simp only [Act.put, List.setIfInBounds_toArray, List.set_cons_zero, List.set_cons_succ]
    (refine anyS_free (i := 2) (v := ?_) rfl (by kernel_rfl) (by kernel_rfl) (by kernel_rfl) (fun _ _ _ h => h) (fun _ => by simp) (Or.inl ⟨by rfl, fun w' _ => ?_⟩) ?_; rotate_left; (· go_simp; try with_reducible rfl))
    try simp only [Act.put, List.setIfInBounds_toArray, List.set_cons_zero, List.set_cons_succ]
    (refine anyS_free (i := 3) (v := ?_) rfl (by kernel_rfl) (by kernel_rfl) (by kernel_rfl) (fun _ _ _ h => h) (fun _ => by simp) (Or.inl ⟨by rfl, fun w' _ => ?_⟩) ?_; rotate_left; (· go_simp; try with_reducible rfl))
    try simp only [Act.put, List.setIfInBounds_toArray, List.set_cons_zero, List.set_cons_succ]
    (refine anyS_takeNew (i := 5) (v := .slice x2 (snR d.snap).length y2) (fun w' => CellsAt p (.slice x2 (snR d.snap).length y2) (.slice a6 R c6) (.int .i64 0) w') [4, 6, 7, 8] HCS.out rfl (by kernel_rfl) (by kernel_rfl) (by kernel_rfl) (by kernel_rfl) (fun _ _ _ h => h) (fun _ hcs => by repeat' (first | exact trivial | exact fun _ => hcs | refine ⟨?_, ?_⟩)) (Or.inl ⟨by rfl, fun w' hw' => ?_⟩) ?_; (· have c0 := hw'.s; go_simp))
    try simp only [Act.put, List.setIfInBounds_toArray, List.set_cons_zero, List.set_cons_succ]
    (refine anyS_takeNew (i := 6) (v := .slice a6 R c6) (fun w' => CellsAt p (.slice x2 (snR d.snap).length y2) (.slice a6 R c6) (.int .i64 0) w') [4, 7, 8, 9] HCS.out rfl (by kernel_rfl) (by kernel_rfl) (by kernel_rfl) (by kernel_rfl) (fun _ _ _ h => h) (fun _ hcs => by repeat' (first | exact trivial | exact fun _ => hcs | refine ⟨?_, ?_⟩)) (Or.inl ⟨by rfl, fun w' hw' => ?_⟩) ?_; (· have c0 := hw'.l; go_simp))
    try simp only [Act.put, List.setIfInBounds_toArray, List.set_cons_zero, List.set_cons_succ]
    (refine anyS_takeNew (i := 7) (v := .int .i64 0) (fun w' => CellsAt p (.slice x2 (snR d.snap).length y2) (.slice a6 R c6) (.int .i64 0) w') [4, 8, 9, 10] HCS.out rfl (by kernel_rfl) (by kernel_rfl) (by kernel_rfl) (by kernel_rfl) (fun _ _ _ h => h) (fun _ hcs => by repeat' (first | exact trivial | exact fun _ => hcs | refine ⟨?_, ?_⟩)) (Or.inl ⟨by rfl, fun w' hw' => ?_⟩) ?_; (· have c0 := hw'.e; go_simp))
    try simp only [Act.put, List.setIfInBounds_toArray, List.set_cons_zero, List.set_cons_succ]
    refine anyS_one 4 (by kernel_rfl) rfl (fun K' hK' => ?_)
    go_simp
    have HJ9 : Hid (Jrn g X.heap.size (R : Int) (X.alloc (Obj.cells #[.pointer (some ⟨g, 0, none⟩), .int .i64 (R : Int)] 59))) := heap_alloc_new _ _
    have hb9 : Below X.heap.size X (X.alloc (Obj.cells #[.pointer (some ⟨g, 0, none⟩), .int .i64 (R : Int)] 59)) := (Below.refl _ _).alloc (Nat.le_refl _) _
    have HQ9 := Lib.hid (HQ8.out.later hb9)
    have HT9 := Lib.hid (HT8.out.trans (Tame.new hb9 (Nat.le_trans hB HT8.out.size)))
    have H9 := Lib.hid (H8.out.later hb9)
    have HO9 := Lib.hid (own_later HO8.out hb9)
    have HR9 := Lib.hid (HR8.out.keep hb9)
    have hcs := HQ9.out.at
    obtain ⟨J, hJ⟩ : ∃ J, J = X.heap.size := ⟨_, rfl⟩
    have hJl : p + 1 + 1 + 1 < J := by omega
    generalize X.alloc (Obj.cells #[.pointer (some ⟨g, 0, none⟩), .int .i64 (R : Int)] 59) = X9 at *
    rw [← hJ] at HJ9 ⊢
    have cc := HQ9.out.j.cell
    have ff := HQ9.out.j.free
    clear HQ8 HT8 H8 HO8 HR8 hb9 HCS hJ
    refine hK'.out _ _ (by repeat' (first | exact trivial | exact fun _ => hcs | refine ⟨?_, ?_⟩)) ?_
    clear hK' K'
    try simp only [Act.put, List.setIfInBounds_toArray, List.set_cons_zero, List.set_cons_succ]
    refine anyS_one 8 (by kernel_rfl) rfl (fun K' hK' => ?_)
    go_simp
    obtain ⟨hq10, ho10⟩ := HQ9.out.setJ (.pointer (some ⟨J, 0, none⟩))
    have HQ10 := Lib.hid hq10
    have HJ10 := Lib.hid (HJ9.out.only ho10 (by omega))
    have HT10 := Lib.hid (HT9.out.side ho10 (by rw [← HPP.out]; omega) hB)
    have H10 := Lib.hid (H9.out.aside HQ9.out.j (by decide) (by decide) ho10)
    have HO10 := Lib.hid (own_low HO9.out ho10 (by omega))
    have HR10 := Lib.hid (HR9.out.low ho10 (by omega))
    clear cc ff
    generalize World.setCell X9 ⟨p, 0, none⟩ (.pointer (some ⟨J, 0, none⟩)) = X10 at *
    have hcs := HQ10.out.at
    have cc := HQ10.out.s.cell
    have ff := HQ10.out.s.free
    clear HQ9 HJ9 HT9 H9 HO9 HR9 hq10 ho10
    refine hK'.out _ _ (by repeat' (first | exact trivial | exact fun _ => hcs | refine ⟨?_, ?_⟩)) ?_
    clear hK' K'
    try simp only [Act.put, List.setIfInBounds_toArray, List.set_cons_zero, List.set_cons_succ]
    refine anyS_one 9 (by kernel_rfl) rfl (fun K' hK' => ?_)
    go_simp
    obtain ⟨hq11, ho11⟩ := HQ10.out.setS (.slice x2 (snR d.snap).length y2)
    have HQ11 := Lib.hid hq11
    have HJ11 := Lib.hid (HJ10.out.only ho11 (by omega))
    have HT11 := Lib.hid (HT10.out.side ho11 (by rw [← HPP.out]; omega) hB)
    have H11 := Lib.hid (H10.out.aside HQ10.out.s (by decide) (by decide) ho11)
    have HO11 := Lib.hid (own_low HO10.out ho11 (by omega))
    have HR11 := Lib.hid (HR10.out.low ho11 (by omega))
    clear cc ff
    generalize World.setCell X10 ⟨p + 1, 0, none⟩ (.slice x2 (snR d.snap).length y2) = X11 at *
    have hcs := HQ11.out.at
    have cc := HQ11.out.l.cell
    have ff := HQ11.out.l.free
    clear HQ10 HJ10 HT10 H10 HO10 HR10 hq11 ho11
    refine hK'.out _ _ (by repeat' (first | exact trivial | exact fun _ => hcs | refine ⟨?_, ?_⟩)) ?_
    clear hK' K'
    try simp only [Act.put, List.setIfInBounds_toArray, List.set_cons_zero, List.set_cons_succ]
    refine anyS_one 10 (by kernel_rfl) rfl (fun K' hK' => ?_)
    go_simp
    obtain ⟨hq12, ho12⟩ := HQ11.out.setL (.slice a6 R c6)
    have HQ12 := Lib.hid hq12
    have HJ12 := Lib.hid (HJ11.out.only ho12 (by omega))
    have HT12 := Lib.hid (HT11.out.side ho12 (by rw [← HPP.out]; omega) hB)
    have H12 := Lib.hid (H11.out.aside HQ11.out.l (by decide) (by decide) ho12)
    have HO12 := Lib.hid (own_low HO11.out ho12 (by omega))
    have HR12 := Lib.hid (HR11.out.low ho12 (by omega))
    clear cc ff
    generalize World.setCell X11 ⟨p + 1 + 1, 0, none⟩ (.slice a6 R c6) = X12 at *
    have hcs := HQ12.out.at
    have cc := HQ12.out.e.cell
    have ff := HQ12.out.e.free
    clear HQ11 HJ11 HT11 H11 HO11 HR11 hq12 ho12
    refine hK'.out _ _ (by repeat' (first | exact trivial | exact fun _ => hcs | refine ⟨?_, ?_⟩)) ?_
    clear hK' K'
    try simp only [Act.put, List.setIfInBounds_toArray, List.set_cons_zero, List.set_cons_succ]
    refine anyS_one 11 (by kernel_rfl) rfl (fun K' hK' => ?_)
    go_simp
    obtain ⟨hq13, ho13⟩ := HQ12.out.setE (.int .i64 0)
    have HQ13 := Lib.hid hq13
    have HJ13 := Lib.hid (HJ12.out.only ho13 (by omega))
    have HT13 := Lib.hid (HT12.out.side ho13 (by rw [← HPP.out]; omega) hB)
    have H13 := Lib.hid (H12.out.aside HQ12.out.e (by decide) (by decide) ho13)
    have HO13 := Lib.hid (own_low HO12.out ho13 (by omega))
    have HR13 := Lib.hid (HR12.out.low ho13 (by omega))
    clear cc ff
    generalize World.setCell X12 ⟨p + 1 + 1 + 1, 0, none⟩ (.int .i64 0) = X13 at *
    have hcs : CellsAt p (.slice x2 (snR d.snap).length y2) (.slice a6 R c6) (.int .i64 0) X13 := HQ13.out.at
    have cc : True := trivial
    have ff : True := trivial
    clear HQ12 HJ12 HT12 H12 HO12 HR12 hq13 ho13
    refine hK'.out _ _ (by repeat' (first | exact trivial | exact fun _ => hcs | refine ⟨?_, ?_⟩)) ?_
    clear hK' K'
    try simp only [Act.put, List.setIfInBounds_toArray, List.set_cons_zero, List.set_cons_succ]
    refine anyS_done (by kernel_rfl) ?_ _
    refine NoPanic.normal ?_
    clear cc ff
    go_wp2_with fail
    have cj := HQ13.out.j.cell
    have cs := HQ13.out.s.cell
    have cl := HQ13.out.l.cell
    have ce := HQ13.out.e.cell
    refine leaves_cons (f := 24) (args := #[.pointer (some ⟨p + 1 + 1 + 1, 0, none⟩), .pointer (some ⟨p, 0, none⟩), .pointer (some ⟨p + 1, 0, none⟩), .pointer (some ⟨p + 1 + 1, 0, none⟩)]) (by simp) (by simp [go_sem]) ?_
    refine (shut_any (p + 1 + 1 + 1) p (p + 1) (p + 1 + 1) 0 .returning X13 ce rfl).mono ?_
    rintro e u' _ ⟨rfl, rfl, rfl⟩
    simp [Leaves, settle, results, Tryd.results9, go_sem, cj, cs, cl, ce]
    have hp0 := HPP.out
    have hw1 := HW1.out
    exact ⟨J, _, _, vs6, rfl, own_mono HO13.out hw1.1, HR13.out.mono hw1.2, by have h := HJ13.out; rw [HRR.out] at h; exact h, by omega, H13.out, HT13.out⟩
end
end Go.Proofs.YtgggecpnmliolaaDoor
