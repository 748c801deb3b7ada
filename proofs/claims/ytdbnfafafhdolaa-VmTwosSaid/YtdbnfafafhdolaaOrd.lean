/- Orders of a region that draws: an operation is taken first under a condition that need only stand behind those operations that may come up ahead of it. -/
import Derived.Deep.RegionHeld3
namespace Go.Proofs.Ytdbnfafafhdolaa
open Go
section
variable {P : Program} {ops : Array Oper} {Q : Exit → Act → World → Prop} {md : Region.Mode}

/-- Whatever order is picked from here on, and behind operation number j 'S j' holds. -/
def AnyS (P : Program) (md : Region.Mode) (ops : Array Oper) (Q : Exit → Act → World → Prop) (S : Nat → World → Prop) : Nat → Array Bool → Act → World → Prop
  | 0, listed, a, w => Region.ready md ops listed = [] ∧ Q .normal a w
  | fuel + 1, listed, a, w =>
    (Region.ready md ops listed = [] → Q .normal a w) ∧
    ∀ i ∈ Region.ready md ops listed, wpOp P ops Q i (fun a' w' => S i w' ∧ AnyS P md ops Q S fuel (listed.setIfInBounds i true) a' w') a w

theorem any_of_anyS {S : Nat → World → Prop} : ∀ (fuel : Nat) (listed : Array Bool) (a : Act) (w : World), AnyS P md ops Q S fuel listed a w → wpAny P md ops Q fuel listed a w
  | 0, _, _, _, h => h
  | fuel + 1, _, _, _, h => ⟨h.1, fun i hi => wpOp_mono (fun a' w' h' => any_of_anyS fuel _ a' w' h'.2) (h.2 i hi)⟩

theorem anyS_mono {S S' : Nat → World → Prop} (hS : ∀ j w, S' j w → S j w) : ∀ (fuel : Nat) (listed : Array Bool) (a : Act) (w : World), AnyS P md ops Q S' fuel listed a w → AnyS P md ops Q S fuel listed a w
  | 0, _, _, _, h => h
  | fuel + 1, _, _, _, h => ⟨h.1, fun i hi => wpOp_mono (fun a' w' h' => ⟨hS _ _ h'.1, anyS_mono hS fuel _ a' w' h'.2⟩) (h.2 i hi)⟩

/-- Each operation that has not come up, and is none of 'es', waits for number i, or for another such one. -/
def late (md : Region.Mode) (ops : Array Oper) (i : Nat) (es : List Nat) (listed : Array Bool) : Bool :=
  (List.range ops.size).all fun j => j == i || listed.getD j true || es.contains j ||
    match ops[j]? with
    | some o => o.after.any fun e => Region.binds md e && (e.on == i || (!es.contains e.on && !listed.getD e.on true))
    | none => true

theorem late_spec {i : Nat} {es : List Nat} {listed : Array Bool} (h : late md ops i es listed = true) (j : Nat) (o : Oper) (ho : ops[j]? = some o)
    (hne : j ≠ i) (hun : listed.getD j true = false) (hes : j ∉ es) : ∃ e ∈ o.after, Region.binds md e = true ∧ (e.on = i ∨ (e.on ∉ es ∧ listed.getD e.on true = false)) := by
  simp only [late, List.all_eq_true, List.mem_range] at h
  have h1 := h j (Array.getElem?_eq_some_iff.1 ho).1
  simp only [ho, Bool.or_eq_true, beq_iff_eq, hne, false_or, hun, Bool.false_eq_true, List.contains_iff_mem, hes] at h1
  obtain ⟨e, he, hb⟩ := Array.any_eq_true'.1 h1
  simp only [Bool.and_eq_true, Bool.or_eq_true, beq_iff_eq, Bool.not_eq_true'] at hb
  refine ⟨e, he, hb.1, hb.2.imp id (fun h => ⟨fun hm => ?_, h.2⟩)⟩
  have := h.1
  simp only [List.contains_iff_mem.2 hm] at this
  cases this

theorem late_step {i : Nat} {es : List Nat} {listed : Array Bool}
    (h : ∀ (j : Nat) (o : Oper), ops[j]? = some o → j ≠ i → listed.getD j true = false → j ∉ es → ∃ e ∈ o.after, Region.binds md e = true ∧ (e.on = i ∨ (e.on ∉ es ∧ listed.getD e.on true = false)))
    {k : Nat} (hk : k ∈ es) (j : Nat) (o : Oper) (ho : ops[j]? = some o) (hne : j ≠ i) (hun : (listed.setIfInBounds k true).getD j true = false) (hes : j ∉ es) :
    ∃ e ∈ o.after, Region.binds md e = true ∧ (e.on = i ∨ (e.on ∉ es ∧ (listed.setIfInBounds k true).getD e.on true = false)) := by
  have hkj : k ≠ j := fun e => hes (e ▸ hk)
  rw [getD_set_ne true hkj] at hun
  obtain ⟨e, he, hb, h1⟩ := h j o ho hne hun hes
  refine ⟨e, he, hb, h1.imp id (fun h2 => ⟨h2.1, ?_⟩)⟩
  have hke : k ≠ e.on := fun e' => h2.1 (e' ▸ hk)
  rw [getD_set_ne true hke]
  exact h2.2

theorem unlisted_false {listed : Array Bool} {i : Nat} (h0 : listed.getD i true = false) : listed.getD i false = false := by
  rcases Nat.lt_or_ge i listed.size with h' | h'
  · simp [h'] at h0 ⊢; exact h0
  · simp [Array.getElem?_eq_none h'] at h0

theorem ready_early {i : Nat} {es : List Nat} {listed : Array Bool}
    (h : ∀ (j : Nat) (o : Oper), ops[j]? = some o → j ≠ i → listed.getD j true = false → j ∉ es → ∃ e ∈ o.after, Region.binds md e = true ∧ (e.on = i ∨ (e.on ∉ es ∧ listed.getD e.on true = false)))
    (hi : i ∈ Region.ready md ops listed) {j : Nat} (hj : j ∈ Region.ready md ops listed) (hne : j ≠ i) : j ∈ es := by
  obtain ⟨hjun, o, ho, hall⟩ := mem_ready.1 hj
  refine Classical.byContradiction fun hes => ?_
  obtain ⟨e, he, hb, h1⟩ := h j o ho hne hjun hes
  have h2 := hall e he hb
  rcases h1 with h1 | ⟨_, h1⟩
  · rw [h1, unlisted_false (mem_ready.1 hi).1] at h2; cases h2
  · rw [unlisted_false h1] at h2; cases h2

theorem anyS_first {S : Nat → World → Prop} {S0 : World → Prop} {es : List Nat} (hkeep : ∀ j ∈ es, ∀ w, S j w → S0 w) {i : Nat} {oi : Oper} {v : Value} (hi : ops[i]? = some oi)
    (hsel : ∀ (j : Nat) (o : Oper) cs b, ops[j]? = some o → o.op ≠ .select cs b)
    (hQ : ∀ c a w, Q (.panic c) (a.put oi.dst v) w → Q (.panic c) a w) :
    ∀ (fuel : Nat) (listed : Array Bool) (a : Act) (w : World),
      (∀ j oj, ops[j]? = some oj → j ≠ i → listed.getD j true = false → (∀ e ∈ oj.after, Region.binds md e = true → e.on ≠ i) → oi.apart ops oj = true) →
      (∀ (j : Nat) (o : Oper), ops[j]? = some o → j ≠ i → listed.getD j true = false → j ∉ es → ∃ e ∈ o.after, Region.binds md e = true ∧ (e.on = i ∨ (e.on ∉ es ∧ listed.getD e.on true = false))) →
      i ∈ Region.ready md ops listed → YieldsIf P ops S0 oi v a → S0 w → (∀ w, S0 w → S i w) →
      AnyS P md ops Q S fuel (listed.setIfInBounds i true) (a.put oi.dst v) w → AnyS P md ops Q S (fuel + 1) listed a w := by
  intro fuel
  induction fuel with
  | zero =>
    intro listed a w hfree hl hr hy hS hSi H
    refine ⟨fun h => (by rw [h] at hr; cases hr), fun j hj => ?_⟩
    by_cases hji : j = i
    · subst hji; exact hy.wpOp hi hS ⟨hSi _ hS, H⟩
    · have := ready_mono hj hji
      rw [H.1] at this
      cases this
  | succ fuel ih =>
    intro listed a w hfree hl hr hy hS hSi H
    refine ⟨fun h => (by rw [h] at hr; cases hr), fun j hj => ?_⟩
    by_cases hji : j = i
    · subst hji; exact hy.wpOp hi hS ⟨hSi _ hS, H⟩
    · have h1 := H.2 j (ready_mono hj hji)
      have hje : j ∈ es := ready_early hl hr hj hji
      obtain ⟨hjun, oj, hoj, hall⟩ := mem_ready.1 hj
      have hnot : ∀ e ∈ oj.after, Region.binds md e = true → e.on ≠ i := fun e he hb heq => by
        have h1 := hall e he hb
        rw [heq, unlisted_false (mem_ready.1 hr).1] at h1
        cases h1
      have h2 := wpOp_putIf hoj (hfree j oj hoj hji hjun hnot) (fun cs b => hsel i oi cs b hi) (fun cs b => hsel j oj cs b hoj) hQ hy h1
      have hfree' : ∀ k ok, ops[k]? = some ok → k ≠ i → (listed.setIfInBounds j true).getD k true = false →
          (∀ e ∈ ok.after, Region.binds md e = true → e.on ≠ i) → oi.apart ops ok = true := fun k ok hk hki hun hno => by
        refine hfree k ok hk hki ?_ hno
        by_cases hjk : j = k
        · subst hjk; exact hjun
        · rw [getD_set_ne true hjk] at hun; exact hun
      refine wpOp_mono (fun a' w' h3 => ⟨h3.2.1, ih (listed.setIfInBounds j true) a' w' hfree' (late_step hl hje) (ready_mono hr (Ne.symm hji)) h3.1 (hkeep j hje _ h3.2.1) hSi ?_⟩) h2
      rw [Array.setIfInBounds_comm _ _ hji]
      exact h3.2.2

theorem by_list {i : Nat} {o : Oper} (h : ops.toList[i]? = some o) : ops[i]? = some o := by
  rw [← Array.getElem?_toList]; exact h

/-- Take number i first under S0, which stands behind each of 'es': those that may come up ahead of it. -/
theorem anyS_take {S : Nat → World → Prop} (S0 : World → Prop) (es : List Nat) {i : Nat} {oi : Oper} {v : Value} {fuel : Nat} {listed : Array Bool} {a : Act} {w : World} (hi : ops.toList[i]? = some oi)
    (hs : Region.noSelect ops = true) (hf : Region.free md ops listed i = true) (hr : (Region.ready md ops listed).contains i = true) (hl : late md ops i es listed = true)
    (hQ : ∀ c a w, Q (.panic c) (a.put oi.dst v) w → Q (.panic c) a w) (hkeep : ∀ j ∈ es, ∀ w, S j w → S0 w) (hSi : ∀ w, S0 w → S i w) (hS : S0 w) (hy : YieldsIf P ops S0 oi v a)
    (h : AnyS P md ops Q S fuel (listed.setIfInBounds i true) (a.put oi.dst v) w) : AnyS P md ops Q S (fuel + 1) listed a w :=
  anyS_first hkeep (by_list hi) (Region.noSelect_spec hs) hQ fuel listed a w (Region.free_spec (by_list hi) hf) (late_spec hl) (by simpa using hr) hy hS hSi h

/-- The same, with the condition laid anew from here on. -/
theorem anyS_takeNew {S : Nat → World → Prop} (S0 : World → Prop) (es : List Nat) {i : Nat} {oi : Oper} {v : Value} {fuel : Nat} {listed : Array Bool} {a : Act} {w : World} (hS : S0 w) (hi : ops.toList[i]? = some oi)
    (hs : Region.noSelect ops = true) (hf : Region.free md ops listed i = true) (hr : (Region.ready md ops listed).contains i = true) (hl : late md ops i es listed = true)
    (hQ : ∀ c a w, Q (.panic c) (a.put oi.dst v) w → Q (.panic c) a w) (hSi : ∀ w, S0 w → S i w) (hy : YieldsIf P ops S0 oi v a)
    (h : AnyS P md ops Q (fun j w' => S j w' ∧ (j ∈ es → S0 w')) fuel (listed.setIfInBounds i true) (a.put oi.dst v) w) : AnyS P md ops Q S (fuel + 1) listed a w :=
  anyS_mono (fun _ _ h => h.1) _ _ _ _ (anyS_take S0 es hi hs hf hr hl hQ (fun _ hj _ h => h.2 hj) (fun w h => ⟨hSi w h, fun _ => h⟩) hS hy h)

/-- Number i yields in whatever world. -/
theorem anyS_free {S : Nat → World → Prop} {i : Nat} {oi : Oper} {v : Value} {fuel : Nat} {listed : Array Bool} {a : Act} {w : World} (hi : ops.toList[i]? = some oi)
    (hs : Region.noSelect ops = true) (hf : Region.free md ops listed i = true) (hr : (Region.ready md ops listed).contains i = true)
    (hQ : ∀ c a w, Q (.panic c) (a.put oi.dst v) w → Q (.panic c) a w) (hSi : ∀ w, S i w) (hy : YieldsIf P ops (fun _ => True) oi v a)
    (h : AnyS P md ops Q S fuel (listed.setIfInBounds i true) (a.put oi.dst v) w) : AnyS P md ops Q S (fuel + 1) listed a w :=
  anyS_first (S0 := fun _ => True) (es := List.range ops.size) (fun _ _ _ _ => trivial) (by_list hi) (Region.noSelect_spec hs) hQ fuel listed a w (Region.free_spec (by_list hi) hf)
    (fun j o ho _ _ hes => (hes (List.mem_range.2 (Array.getElem?_eq_some_iff.1 ho).1)).elim) (by simpa using hr) hy trivial (fun w _ => hSi w) h

/-- One alone may come up. -/
theorem anyS_one {S : Nat → World → Prop} (i : Nat) {o : Oper} {fuel : Nat} {listed : Array Bool} {a : Act} {w : World} (hr : Region.ready md ops listed = [i]) (ho : ops.toList[i]? = some o)
    (h : ∀ K' : Act → World → Prop, Shut (∀ a w, S i w → AnyS P md ops Q S fuel (listed.setIfInBounds i true) a w → K' a w) → if Region.wanted o (yielded ops a.tmps) = true then Oper.wp P o a w K' Q else K' (a.put o.dst undef) w) :
    AnyS P md ops Q S (fuel + 1) listed a w :=
  ⟨fun h0 => (by rw [hr] at h0; cases h0), fun j hj => by
    rw [hr, List.mem_singleton] at hj
    subst hj
    exact wpOp_step (by_list ho) (fun K' hK => h K' (fun a w hS hW => hK a w ⟨hS, hW⟩))⟩

theorem anyS_done {S : Nat → World → Prop} {listed : Array Bool} {a : Act} {w : World} (hr : Region.ready md ops listed = []) (h : Q .normal a w) :
    ∀ fuel, AnyS P md ops Q S fuel listed a w
  | 0 => ⟨hr, h⟩
  | _ + 1 => ⟨fun _ => h, by rw [hr]; simp⟩

theorem anyS_start {id : Nat} {a : Act} {w : World} (hm : P.follows .mixedOrders = true)
    (h : AnyS P .any ops (NoPanic Q) (fun _ _ => True) ops.size (Array.replicate ops.size false) a w.drew) : (Code.region id ops true).wp P Q a w :=
  wp_region_noPanic (wp_region_any hm (any_of_anyS _ _ _ _ h))

end
end Go.Proofs.Ytdbnfafafhdolaa
