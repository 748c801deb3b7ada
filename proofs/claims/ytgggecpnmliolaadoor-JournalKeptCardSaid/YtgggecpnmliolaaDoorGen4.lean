/- What speaks of no function of the program, besides Gen3: what a call owns, slices cut, a remainder, strings held against each other. -/
import Derived.Test.YtgggecpnmliolaaDoorRws
import Derived.Test.YtgggecpnmliolaaDoorOrd
namespace Go.Proofs.YtgggecpnmliolaaDoor
open Go Go.RowKit
set_option linter.unusedVariables false
set_option linter.unusedSimpArgs false

theorem tmod_bd (k n : Int) (hn : 1 ≤ n) : -n < k.tmod n ∧ k.tmod n < n := by
  have h1 := Int.tmod_lt_of_pos k (show 0 < n by omega)
  have h2 := Int.lt_tmod_of_pos k (show 0 < n by omega)
  omega

theorem mod_of_tmod (k n : Int) (hn : 1 ≤ n) : k % n = if k.tmod n < 0 then k.tmod n + n else k.tmod n := by
  have hb := tmod_bd k n hn
  have hd := Int.mul_tdiv_add_tmod k n
  have e : k % n = k.tmod n % n := by
    conv => lhs; rw [← hd]
    rw [Int.add_comm, Int.add_mul_emod_self_left]
  rw [e]
  split
  · rw [← Int.add_emod_right, Int.emod_eq_of_lt (by omega) (by omega)]
  · rw [Int.emod_eq_of_lt (by omega) (by omega)]

theorem nums_neq (z : List Int) (w : World) : (binOp .neq 9 (.string (strOfNums z)) (.string (strOfNums z))).run Tryd.prog w = .ok (.bool false) w := by
  have h : (binOp .neq 9 (.string (strOfNums z)) (.string (strOfNums z))).run Tryd.prog w = .ok (.bool (!(decide (strOfNums z = strOfNums z)))) w := by first | rfl | (simp [go_sem]; done) | (go_simp; done)
  rw [h]
  simp

theorem own_form {w : World} {B n s : Nat} {e : TypeId} {v : Value} {xs : List Value} (h : w.ownsRow B e s v n xs) (hn : 0 < n) : ∃ g c, v = .slice (some ⟨g, 0, none⟩) n c := by
  rcases h.2 with ⟨_, h0⟩ | ⟨g, c, cur, h1, _⟩
  · omega
  · exact ⟨g, c, h1⟩

theorem came_only {w w' : World} {a : Option Addr} {len cap r : Nat} {z : List Int} (h : Came w a len cap z) (ho : Only r w w') (hne : 0 < len → ∀ ad, a = some ad → ad.block ≠ r) : Came w' a len cap z :=
  ⟨reads_only h.reads ho hne, h.le, h.small, h.nil, h.bytes⟩

theorem reads_lt {w : World} {ad : Addr} {n : Nat} {xs : List Int} (h : Reads w (some ad) n xs) (hn : 0 < n) : ad.block < w.heap.size := by
  obtain ⟨ad', h1, h2⟩ := h.2 hn
  cases h1
  have hl : 0 < (bts xs).length := by rw [bts_length, h.1]; exact hn
  have h3 := h2 0 _ (List.getElem?_eq_getElem hl)
  have h4 := World.block_lt_of_cell? w _ h3
  rwa [add_block] at h4

theorem reads_grown {w w' : World} {ad : Addr} {n : Nat} {xs : List Int} {row : Option Nat} (h : Reads w (some ad) n xs) (hg : w.grownBy w' row) (hne : some ad.block ≠ row) : Reads w' (some ad) n xs := by
  refine ⟨h.1, fun hn => ?_⟩
  obtain ⟨ad', h1, h2⟩ := h.2 hn
  cases h1
  exact ⟨ad, rfl, fun j v hv => hg.cell (h2 j v hv) (by rw [add_block]; exact hne)⟩

theorem mat_new (W : World) (vs : List Value) (rs : List (List Int)) (hl : rs.length = vs.length) (hs : vs.length ≤ 1000)
    (h : ∀ i, i < vs.length → ∃ b l c, vs[i]? = some (.slice b l c) ∧ Came W b l c (rs.getD i [])) :
    Mat (W.alloc (.cells vs.toArray 30)) (some ⟨W.heap.size, 0, none⟩) vs.length vs.length rs := by
  refine ⟨hl, Nat.le_refl _, by unfold maxLen; omega, fun i hi => ⟨_, rfl, ?_⟩⟩
  obtain ⟨b, l, c, hv, hc⟩ := h i hi
  refine ⟨b, l, c, ?_, hc.below ((Below.refl _ _).alloc (Nat.le_refl _) _)⟩
  rw [Addr.add_lit, Nat.zero_add]
  simp only [World.cell?, heap_alloc_new]
  simpa using hv

section
variable {P : Program} {ops : Array Oper} {Q : Exit → Act → World → Prop} {md : Region.Mode}

theorem anyS_two {S : Nat → World → Prop} (i j : Nat) {oi oj : Oper} {fuel : Nat} {listed : Array Bool} {a : Act} {w : World} (hr : Region.ready md ops listed = [i, j]) (hi : ops.toList[i]? = some oi) (hj : ops.toList[j]? = some oj)
    (h1 : ∀ K' : Act → World → Prop, Shut (∀ a w, S i w → AnyS P md ops Q S fuel (listed.setIfInBounds i true) a w → K' a w) → if Region.wanted oi (yielded ops a.tmps) = true then Oper.wp P oi a w K' Q else K' (a.put oi.dst undef) w)
    (h2 : ∀ K' : Act → World → Prop, Shut (∀ a w, S j w → AnyS P md ops Q S fuel (listed.setIfInBounds j true) a w → K' a w) → if Region.wanted oj (yielded ops a.tmps) = true then Oper.wp P oj a w K' Q else K' (a.put oj.dst undef) w) :
    AnyS P md ops Q S (fuel + 1) listed a w :=
  ⟨fun h0 => (by rw [hr] at h0; cases h0), fun k hk => by
    rw [hr] at hk
    simp only [List.mem_cons, List.not_mem_nil, or_false] at hk
    rcases hk with rfl | rfl
    · exact wpOp_step (by_list hi) (fun K' hK => h1 K' (fun a w hS hW => hK a w ⟨hS, hW⟩))
    · exact wpOp_step (by_list hj) (fun K' hK => h2 K' (fun a w hS hW => hK a w ⟨hS, hW⟩))⟩

theorem anyS_three {S : Nat → World → Prop} (i j k : Nat) {oi oj ok : Oper} {fuel : Nat} {listed : Array Bool} {a : Act} {w : World} (hr : Region.ready md ops listed = [i, j, k]) (hi : ops.toList[i]? = some oi) (hj : ops.toList[j]? = some oj) (hk : ops.toList[k]? = some ok)
    (h1 : ∀ K' : Act → World → Prop, Shut (∀ a w, S i w → AnyS P md ops Q S fuel (listed.setIfInBounds i true) a w → K' a w) → if Region.wanted oi (yielded ops a.tmps) = true then Oper.wp P oi a w K' Q else K' (a.put oi.dst undef) w)
    (h2 : ∀ K' : Act → World → Prop, Shut (∀ a w, S j w → AnyS P md ops Q S fuel (listed.setIfInBounds j true) a w → K' a w) → if Region.wanted oj (yielded ops a.tmps) = true then Oper.wp P oj a w K' Q else K' (a.put oj.dst undef) w)
    (h3 : ∀ K' : Act → World → Prop, Shut (∀ a w, S k w → AnyS P md ops Q S fuel (listed.setIfInBounds k true) a w → K' a w) → if Region.wanted ok (yielded ops a.tmps) = true then Oper.wp P ok a w K' Q else K' (a.put ok.dst undef) w) :
    AnyS P md ops Q S (fuel + 1) listed a w :=
  ⟨fun h0 => (by rw [hr] at h0; cases h0), fun l hl => by
    rw [hr] at hl
    simp only [List.mem_cons, List.not_mem_nil, or_false] at hl
    rcases hl with rfl | rfl | rfl
    · exact wpOp_step (by_list hi) (fun K' hK => h1 K' (fun a w hS hW => hK a w ⟨hS, hW⟩))
    · exact wpOp_step (by_list hj) (fun K' hK => h2 K' (fun a w hS hW => hK a w ⟨hS, hW⟩))
    · exact wpOp_step (by_list hk) (fun K' hK => h3 K' (fun a w hS hW => hK a w ⟨hS, hW⟩))⟩
end

end Go.Proofs.YtgggecpnmliolaaDoor
