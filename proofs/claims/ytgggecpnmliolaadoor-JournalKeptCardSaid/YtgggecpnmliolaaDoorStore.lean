/- What stands on a disk: its size, more of it, less of it, other things, what stays of it. -/
import Derived.Test.YtgggecpnmliolaaDoorPower
import Derived.Test.YtgggecpnmliolaaDoorTame
import Derived.Deep.QuietTactic
namespace Go.Proofs.YtgggecpnmliolaaDoor
open Go Go.RowKit
set_option linter.unusedVariables false
set_option linter.unusedSimpArgs false

section
variable {B g : Nat} {d : Dk} {lv sv : Value} {w : World}

set_option maxRecDepth 100000 in
set_option maxHeartbeats 1000000 in
theorem dsize_any (h : Dsk B g d lv sv w) : Calls Tryd.prog 32 #[.pointer (some ⟨g, 0, none⟩)] w fun e w' => e = .returned (.int .i64 ((d.log.length : Int) + (d.snap.length : Int))) ∧ ∃ k, w' = w.drewN k := by
  have h1 := h.fit
  have h2 := h.small
  obtain ⟨a1, n1, rfl⟩ := own_slice h.log
  obtain ⟨a2, n2, rfl⟩ := own_slice h.snap
  obtain ⟨c0, -, c2, -, -, -, -⟩ := h.cells
  clear h
  go_enter Tryd.func32, Tryd.ntmps32
  go_wp2_with fail
  go_quiet (fail)
  go_wp2_with fail
  go_ret
  exact ⟨rfl, _, rfl⟩

set_option maxHeartbeats 400000 in
theorem copied_any (a : Option Addr) (n c : Nat) (xs : List Int) (w : World) (hr : Reads w a n xs) (hn : n ≤ 9000000) :
    Calls Tryd.prog 36 #[.slice a n c] w fun e w' => ∃ v, e = .returned v ∧ w'.ownsRow w.heap.size 5 1 v n (bts xs) ∧ Below w.heap.size w w' := by
  obtain ⟨i0, hi, hz0, hz1, hz2⟩ := info_parts Tryd.infoByte
  go_enter Tryd.func36, Tryd.ntmps36
  have hml : (madeCells (Value.int IntKind.u8 0).cells n).toList.length = n := by simp [size_madeCells]
  obtain ⟨cur, hcur⟩ : ∃ cur, cur = (madeCells (Value.int IntKind.u8 0).cells n).toList := ⟨_, rfl⟩
  rw [← hcur] at hml
  have HC := Lib.hid hcur
  clear hcur
  go_wp2_with (first | (at_make; refine wpList_make_any _ rfl _ _ 30 rfl 5 i0 _ Tryd.underlying30 hi hz0 hz1 hz2 _ _ _ _ n n rfl rfl (by omega) (by omega) (by omega) (by omega) ?_; intro w1 hg hs hb; rw [← HC.out] at hg) | (refine wpList_copy_splice rfl (.tmp 7) (.tmp 8) 30 30 rfl 5 Tryd.underlying30 Tryd.sizeByte _ _ n n n c rfl rfl w.heap.size 0 cur 5 hg (bts xs) (by rw [bts_length, hr.1]; exact (Nat.min_self n).symm) (fun hp => ⟨rfl, hr.lift hb (by rw [bts_length, hr.1] at hp; exact hp)⟩) (by rw [bts_length, hr.1]; omega) (bts_one xs) w.heap.size w hb (Nat.le_refl _) ?_; intro w2 HG hB2))
  go_ret
  have hx : (bts xs).length = n := by rw [bts_length, hr.1]
  refine ⟨_, rfl, ⟨by rw [hx]; omega, .inr ⟨w.heap.size, n, _, rfl, Nat.le_refl _, HG.out, Nat.le_refl _, by unfold maxLen; omega, ?_, ?_⟩⟩, hB2⟩
  · rw [List.size_toArray, length_splice _ _ _ (by omega)]; simp [hml]
  · simp [splice, ← hx]

set_option maxHeartbeats 400000 in
theorem sync_any (h : Dsk B g d lv sv w) : Calls Tryd.prog 60 #[.pointer (some ⟨g, 0, none⟩)] w fun e w' => e = .returned (.tuple #[]) ∧ Dsk B g d.sync lv sv w' ∧ Only g w w' := by
  have h1 := h.fit
  have h2 := h.small
  have H := Lib.hid h
  obtain ⟨a1, n1, rfl⟩ := own_slice h.log
  obtain ⟨c0, c1, -, -, -, -, -⟩ := h.cells
  have f1 := h.free 1
  clear h
  go_enter Tryd.func60, Tryd.ntmps60
  go_wp2_with fail
  go_end0
  obtain ⟨h2, ho2⟩ := H.out.put 1 (.int .i64 (d.log.length : Int)) d.sync (by simp [dcells, Dk.sync]) rfl rfl rfl H.out.few H.out.stop
  exact ⟨rfl, h2, ho2⟩

theorem own_take {n c : Nat} {a : Option Addr} {xs : List Int} (h : w.ownsRow B 5 1 (.slice a n c) n (bts xs)) (k : Nat) (hk : k ≤ n) : w.ownsRow B 5 1 (.slice a k c) k (bts (xs.take k)) := by
  have hl := h.1
  rw [bts_length, Nat.mul_one] at hl
  refine ⟨by rw [bts_length, List.length_take]; omega, ?_⟩
  rcases h.2 with ⟨h1, h0⟩ | ⟨g', c', cur, h1, h2, h3, h4, h5, h6, h7⟩
  · cases h1
    obtain rfl : k = 0 := by omega
    exact .inl ⟨rfl, by simp [bts]⟩
  · cases h1
    refine .inr ⟨g', c, cur, rfl, h2, h3, by omega, h5, h6, ?_⟩
    have e : bts (xs.take k) = (bts xs).take k := by simp [bts, List.map_take]
    rw [e, ← h7, List.take_take]
    congr 1
    omega

theorem ownBlock_len (a : Option Addr) (n m c : Nat) : (Value.slice a n c).ownBlock = (Value.slice a m c).ownBlock := by
  cases a <;> rfl

set_option maxHeartbeats 400000 in
theorem dcut_any (h : Dsk B g d lv sv w) (n : Nat) (hn : n ≤ d.log.length) : Calls Tryd.prog 50 #[.pointer (some ⟨g, 0, none⟩), .int .i64 (n : Int)] w fun e w' => e = .returned (.tuple #[]) ∧ (∃ lv', Dsk B g (d.cut n) lv' sv w') ∧ Only g w w' := by
  have h1 := h.fit
  have h2 := h.small
  have H := Lib.hid h
  obtain ⟨a1, n1, rfl⟩ := own_slice h.log
  obtain ⟨c0, -, -, -, -, -, -⟩ := h.cells
  have f0 := h.free 0
  obtain ⟨N, hN⟩ : ∃ N, N = d.log.length := ⟨_, rfl⟩
  rw [← hN] at c0 hn
  have hcap : N ≤ n1 := by
    obtain ⟨a, c, hv, hc⟩ := own_came h.log h.lby
    cases hv
    rw [hN]; exact hc.le
  clear h
  have hsl : ∀ w, (Instr.sliceAt 30 (.slice a1 N n1) none (some (.int .i64 (n : Int))) none).run Tryd.prog w = .ok (.slice a1 n n1) w := fun w => slice_to22 a1 N n1 n (by omega) n rfl w
  have HN := Lib.hid hN
  clear hN
  go_enter Tryd.func50, Tryd.ntmps50
  go_wp2_with fail
  have hown : w.ownsRow B 5 1 (.slice a1 n n1) (d.log.take n).length (bts (d.log.take n)) := by
    have e : (d.log.take n).length = n := by rw [List.length_take, ← HN.out]; omega
    rw [e]
    exact own_take H.out.log n (by rw [← HN.out]; exact hn)
  obtain ⟨h5, ho5⟩ := Dsk.relog H.out.row H.out.old hown H.out.snap (by have h := H.out.two; rw [ownBlock_len a1 d.log.length n n1] at h; exact h) (by rw [List.length_take]; omega) H.out.small H.out.few H.out.stop (fun c hc => H.out.lby c (List.mem_of_mem_take hc)) H.out.sby
  refine (sync_any h5).mono ?_
  rintro _ w2 ⟨rfl, h6, ho6⟩
  have HD := Lib.hid h6
  have HO := Lib.hid (ho5.trans ho6)
  clear h5 ho5 h6 ho6
  go_wp2_with fail
  go_end0
  refine ⟨rfl, ⟨.slice a1 n n1, ?_⟩, HO.out⟩
  have h := HD.out
  have e : Dk.cut n d = Dk.sync { d with log := d.log.take n } := by
    simp only [Dk.cut, Dk.sync, List.length_take]
    rw [show min n d.log.length = n by rw [← HN.out]; omega]
  rw [e]
  exact h

theorem own_new {W : World} {b n : Nat} {v : Value} {xs : List Value} (h : W.ownsRow b 5 1 v n xs) (hB : B ≤ b) : W.ownsRow B 5 1 v n xs := owns_mono h hB

/-- what a call has just made lies apart from what was owned ahead of it -/
theorem new_apart {W : World} {n m : Nat} {v u : Value} {xs ys : List Value} (h : W.ownsRow w.heap.size 5 1 v n xs) (k : w.ownsRow B 5 1 u m ys) : v.ownBlock = none ∨ v.ownBlock ≠ u.ownBlock := by
  cases hv : v.ownBlock with
  | none => exact .inl rfl
  | some b =>
    right
    intro hu
    have h1 := (h.lt b hv).1
    have h2 := (k.lt b hu.symm).2
    omega

set_option maxRecDepth 100000 in
set_option maxHeartbeats 1000000 in
theorem add_any (h : Dsk B g d lv sv w) {a0 : Option Addr} {len0 cap0 : Nat} {b : List Int} (hc : Came w a0 len0 cap0 b) (hfit : d.log.length + len0 + d.snap.length ≤ d.room) :
    Calls Tryd.prog 35 #[.pointer (some ⟨g, 0, none⟩), .slice a0 len0 cap0] w fun e w' => e = .returned (.tuple #[]) ∧ (∃ lv', Dsk B g (d.add b) lv' sv w') ∧ Tame B w w' := by
  obtain ⟨i0, hi, hz0, hz1, hz2⟩ := info_parts Tryd.infoByte
  have hsm := h.small
  have hlt := h.lt
  have hold := h.old
  have H := Lib.hid h
  have HC := Lib.hid hc
  obtain ⟨c0, -, -, -, -, -, -⟩ := h.cells
  clear h hc
  go_enter Tryd.func35, Tryd.ntmps35
  go_wp2_with (at_builtin; go_must (refine wpList_append_keep rfl _ _ 30 rfl B 5 i0 Tryd.underlying30 hi hz0 hz1 hz2 _ d.log.length d.log rfl H.out.log a0 len0 cap0 b rfl HC.out.reads HC.out.nil (by omega) (by omega) ?_))
  intro v1 w1 ho1 hg1 hk1 hkin1
  obtain ⟨x1, y1, rfl⟩ := own_slice ho1
  have hrow : w1.heap[g]? = some (.cells (dcells lv sv d) 54 (0, 0)) := by
    rw [hg1.block g hlt (fun e => row_apart H.out.row H.out.log e.symm)]
    exact H.out.row
  have hsn : w1.ownsRow B 5 1 sv d.snap.length (bts d.snap) := H.out.snap.kept hg1 (by
    cases hv : sv.ownBlock with
    | none => exact .inl rfl
    | some k =>
      right
      rw [← hv]
      rcases H.out.two with h | h
      · rw [h, hv]; intro e; cases e
      · exact fun e => h e.symm)
  have hl : (d.log ++ b).length = d.log.length + len0 := by rw [List.length_append, HC.out.reads.1]
  have htwo : (Value.slice x1 (d.log.length + len0) y1).ownBlock = none ∨ (Value.slice x1 (d.log.length + len0) y1).ownBlock ≠ sv.ownBlock := by
    rcases hkin1 with h | ⟨k, hk, hk2⟩
    · rw [h]; exact H.out.two
    · right
      rw [hk]
      intro e
      have := (H.out.snap.lt k e.symm).2
      omega
  have c01 : w1.cell? ⟨g, 0, none⟩ = some lv := by unfold dcells at hrow; simp [World.cell?, hrow]
  have f01 : w1.frozen? ⟨g, 0, none⟩ = false := by simp [World.frozen?, hrow]
  obtain ⟨h5, ho5⟩ := Dsk.relog (l := d.log ++ b) hrow H.out.old (by rw [hl]; exact ho1) hsn htwo (by rw [hl]; omega) H.out.small H.out.few H.out.stop (fun c hc => (List.mem_append.1 hc).elim (H.out.lby c) (HC.out.bytes c)) H.out.sby
  have HB1 := Lib.hid (Tame.grown H.out.log hg1 (by omega))
  have HB5 := Lib.hid (HB1.out.trans (Tame.row hrow ho5 hold (by have := HB1.out.size; omega)))
  have HD := Lib.hid h5
  clear hg1 hk1 hkin1 hsn htwo h5 ho5 ho1 hl
  go_wp2_with fail
  go_end0
  exact ⟨rfl, ⟨_, HD.out⟩, HB5.out⟩
end
end Go.Proofs.YtgggecpnmliolaaDoor
