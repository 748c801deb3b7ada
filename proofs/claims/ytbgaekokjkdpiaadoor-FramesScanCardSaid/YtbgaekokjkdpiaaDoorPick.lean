/- Two or three operations may come up; a slice of slices that has just been made. -/
import Derived.Test.YtbgaekokjkdpiaaDoorSet
import Derived.Test.YtbgaekokjkdpiaaDoorOrd
namespace Go.Proofs.YtbgaekokjkdpiaaDoor
open Go Go.RowKit Frm
set_option linter.unusedVariables false
set_option linter.unusedSimpArgs false
section
variable {P : Program} {ops : Array Oper} {Q : Exit → Act → World → Prop} {md : Region.Mode}

theorem anyS_two {S : Nat → World → Prop} (i j : Nat) {oi oj : Oper} {fuel : Nat} {listed : Array Bool} {a : Act} {w : World} (hr : Region.ready md ops listed = [i, j]) (hi : ops.toList[i]? = some oi) (hj : ops.toList[j]? = some oj)
    (h1 : ∀ K' : Act → World → Prop, Shut (∀ a w, S i w → AnyS P md ops Q S fuel (listed.setIfInBounds i true) a w → K' a w) → if Region.wanted oi (yielded ops a.tmps) = true then Oper.wp P oi a w K' Q else K' (a.put oi.dst undef) w)
    (h2 : ∀ K' : Act → World → Prop, Shut (∀ a w, S j w → AnyS P md ops Q S fuel (listed.setIfInBounds j true) a w → K' a w) → if Region.wanted oj (yielded ops a.tmps) = true then Oper.wp P oj a w K' Q else K' (a.put oj.dst undef) w) :
    AnyS P md ops Q S (fuel + 1) listed a w :=
  ⟨fun h0 => (by rw [hr] at h0; cases h0), fun k hk => by
    rw [hr] at hk
    simp only [List.mem_cons, List.not_mem_nil, or_false] at hk
    rcases hk with rfl | rfl
    · exact wpOp_step (by_list hi) (fun K' hK => h1 K' (fun a w hS hW => hK a w ⟨hS, hW⟩))
    · exact wpOp_step (by_list hj) (fun K' hK => h2 K' (fun a w hS hW => hK a w ⟨hS, hW⟩))⟩

theorem anyS_three {S : Nat → World → Prop} (i j k : Nat) {oi oj ok : Oper} {fuel : Nat} {listed : Array Bool} {a : Act} {w : World} (hr : Region.ready md ops listed = [i, j, k]) (hi : ops.toList[i]? = some oi) (hj : ops.toList[j]? = some oj) (hk : ops.toList[k]? = some ok)
    (h1 : ∀ K' : Act → World → Prop, Shut (∀ a w, S i w → AnyS P md ops Q S fuel (listed.setIfInBounds i true) a w → K' a w) → if Region.wanted oi (yielded ops a.tmps) = true then Oper.wp P oi a w K' Q else K' (a.put oi.dst undef) w)
    (h2 : ∀ K' : Act → World → Prop, Shut (∀ a w, S j w → AnyS P md ops Q S fuel (listed.setIfInBounds j true) a w → K' a w) → if Region.wanted oj (yielded ops a.tmps) = true then Oper.wp P oj a w K' Q else K' (a.put oj.dst undef) w)
    (h3 : ∀ K' : Act → World → Prop, Shut (∀ a w, S k w → AnyS P md ops Q S fuel (listed.setIfInBounds k true) a w → K' a w) → if Region.wanted ok (yielded ops a.tmps) = true then Oper.wp P ok a w K' Q else K' (a.put ok.dst undef) w) :
    AnyS P md ops Q S (fuel + 1) listed a w :=
  ⟨fun h0 => (by rw [hr] at h0; cases h0), fun l hl => by
    rw [hr] at hl
    simp only [List.mem_cons, List.not_mem_nil, or_false] at hl
    rcases hl with rfl | rfl | rfl
    · exact wpOp_step (by_list hi) (fun K' hK => h1 K' (fun a w hS hW => hK a w ⟨hS, hW⟩))
    · exact wpOp_step (by_list hj) (fun K' hK => h2 K' (fun a w hS hW => hK a w ⟨hS, hW⟩))
    · exact wpOp_step (by_list hk) (fun K' hK => h3 K' (fun a w hS hW => hK a w ⟨hS, hW⟩))⟩
end

theorem reads_lt {w : World} {ad : Addr} {n : Nat} {xs : List Int} (h : Reads w (some ad) n xs) (hn : 0 < n) : ad.block < w.heap.size := by
  obtain ⟨ad', h1, h2⟩ := h.2 hn
  cases h1
  have hl : 0 < (bts xs).length := by rw [bts_length, h.1]; exact hn
  have h3 := h2 0 _ (List.getElem?_eq_getElem hl)
  have h4 := World.block_lt_of_cell? w _ h3
  rwa [add_block] at h4
theorem reads_grown {w w' : World} {ad : Addr} {n : Nat} {xs : List Int} {row : Option Nat} (h : Reads w (some ad) n xs) (hg : w.grownBy w' row) (hne : some ad.block ≠ row) : Reads w' (some ad) n xs := by
  refine ⟨h.1, fun hn => ?_⟩
  obtain ⟨ad', h1, h2⟩ := h.2 hn
  cases h1
  exact ⟨ad, rfl, fun j v hv => hg.cell (h2 j v hv) (by rw [add_block]; exact hne)⟩

theorem oneR_bytes {e : List Int} (h : ∀ c ∈ e, Byte c) : ∀ c ∈ oneR e, Byte c := by
  intro c hc
  unfold oneR at hc
  split at hc
  · exact h c (List.mem_of_mem_drop hc)
  · cases hc

/-- slices of bytes, the i-th of them reads as the i-th list -/
theorem mat_new (W : World) (vs : List Value) (rs : List (List Int)) (hl : rs.length = vs.length) (hs : vs.length ≤ 1000)
    (h : ∀ i, i < vs.length → ∃ b l c, vs[i]? = some (.slice b l c) ∧ Came W b l c (rs.getD i [])) :
    Mat (W.alloc (.cells vs.toArray 22)) (some ⟨W.heap.size, 0, none⟩) vs.length vs.length rs := by
  refine ⟨hl, Nat.le_refl _, by unfold maxLen; omega, fun i hi => ⟨_, rfl, ?_⟩⟩
  obtain ⟨b, l, c, hv, hc⟩ := h i hi
  refine ⟨b, l, c, ?_, hc.below ((Below.refl _ _).alloc (Nat.le_refl _) _)⟩
  rw [Addr.add_lit, Nat.zero_add]
  simp only [World.cell?, heap_alloc_new]
  simpa using hv

theorem mat_new5 {W : World} {a0 a1 a2 a3 a4 : Option Addr} {l0 l1 l2 l3 l4 c0 c1 c2 c3 c4 : Nat} {e0 e1 e2 e3 e4 : List Int}
    (h0 : Came W a0 l0 c0 e0) (h1 : Came W a1 l1 c1 e1) (h2 : Came W a2 l2 c2 e2) (h3 : Came W a3 l3 c3 e3) (h4 : Came W a4 l4 c4 e4) :
    Mat (W.alloc (.cells #[.slice a0 l0 c0, .slice a1 l1 c1, .slice a2 l2 c2, .slice a3 l3 c3, .slice a4 l4 c4] 22)) (some ⟨W.heap.size, 0, none⟩) 5 5 [e0, e1, e2, e3, e4] := by
  refine mat_new W [.slice a0 l0 c0, .slice a1 l1 c1, .slice a2 l2 c2, .slice a3 l3 c3, .slice a4 l4 c4] [e0, e1, e2, e3, e4] rfl (by simp) (fun i hi => ?_)
  match i, hi with
  | 0, _ => exact ⟨_, _, _, rfl, h0⟩
  | 1, _ => exact ⟨_, _, _, rfl, h1⟩
  | 2, _ => exact ⟨_, _, _, rfl, h2⟩
  | 3, _ => exact ⟨_, _, _, rfl, h3⟩
  | 4, _ => exact ⟨_, _, _, rfl, h4⟩

theorem mat_new3 {W : World} {a0 a1 a2 : Option Addr} {l0 l1 l2 c0 c1 c2 : Nat} {e0 e1 e2 : List Int}
    (h0 : Came W a0 l0 c0 e0) (h1 : Came W a1 l1 c1 e1) (h2 : Came W a2 l2 c2 e2) :
    Mat (W.alloc (.cells #[.slice a0 l0 c0, .slice a1 l1 c1, .slice a2 l2 c2] 22)) (some ⟨W.heap.size, 0, none⟩) 3 3 [e0, e1, e2] := by
  refine mat_new W [.slice a0 l0 c0, .slice a1 l1 c1, .slice a2 l2 c2] [e0, e1, e2] rfl (by simp) (fun i hi => ?_)
  match i, hi with
  | 0, _ => exact ⟨_, _, _, rfl, h0⟩
  | 1, _ => exact ⟨_, _, _, rfl, h1⟩
  | 2, _ => exact ⟨_, _, _, rfl, h2⟩
end Go.Proofs.YtbgaekokjkdpiaaDoor
