/- A region that draws its order: its first operations only read, the others wait for all of them: the first are walked once, in the order of the text; then the others. -/
import Derived.Test.YtbgaekokjkdpiaaDoorOrd
import Derived.BigQuiet
namespace Go.Proofs.YtbgaekokjkdpiaaDoor
open Go
set_option linter.unusedVariables false
set_option linter.unusedSimpArgs false
section
variable {P : Program} {ops : Array Oper} {md : Region.Mode} {C : World → Prop}

/-- the first n have come up, no other -/
def firstN (n m : Nat) : Array Bool := (List.replicate n true ++ List.replicate (m - n) false).toArray

def AllIn (n : Nat) (listed : Array Bool) : Prop := ∀ k, k < n → listed.getD k true = true

/-- Whatever order is picked of the first n. -/
def wpAnyN (P : Program) (md : Region.Mode) (ops : Array Oper) (C : World → Prop) (n : Nat) (Q : Act → Prop) : Nat → Array Bool → Act → Prop
  | 0, listed, a => AllIn n listed ∧ Q a
  | fuel + 1, listed, a =>
    (AllIn n listed → Q a) ∧ (¬ AllIn n listed → Region.ready md ops listed ≠ []) ∧
    ∀ i ∈ Region.ready md ops listed, i < n → qOp P ops C i (wpAnyN P md ops C n Q fuel (listed.setIfInBounds i true)) a

theorem wpAny_more {Q : Exit → Act → World → Prop} : ∀ (m : Nat) (listed : Array Bool) (a : Act) (w : World), wpAny P md ops Q m listed a w → wpAny P md ops Q (m + 1) listed a w
  | 0, _, _, _, h => ⟨fun _ => h.2, fun i hi => by rw [h.1] at hi; cases hi⟩
  | m + 1, _, _, _, h => ⟨h.1, fun i hi => wpOp_mono (fun a' w' h' => wpAny_more m _ a' w' h') (h.2 i hi)⟩

theorem wpAny_most {Q : Exit → Act → World → Prop} (k m : Nat) (listed : Array Bool) (a : Act) (w : World) (h : wpAny P md ops Q m listed a w) : wpAny P md ops Q (k + m) listed a w := by
  induction k with
  | zero => simpa using h
  | succ k ih => rw [show k + 1 + m = (k + m) + 1 by omega]; exact wpAny_more _ _ _ _ ih

theorem firstN_of {n : Nat} {listed : Array Bool} (hs : listed.size = ops.size) (hn : n ≤ ops.size) (hl : ∀ j, n ≤ j → j < ops.size → listed.getD j true = false) (ha : AllIn n listed) : listed = firstN n ops.size := by
  apply Array.ext
  · simp [firstN, hs]; omega
  · intro i h1 h2
    by_cases hi : i < n
    · have := ha i hi
      simp [h1] at this
      simp [firstN, List.getElem_append, hi, this]
    · have := hl i (by omega) (by omega)
      simp [h1] at this
      simp [firstN, List.getElem_append, hi, this]

/-- whatever has come up, what it waits for has -/
def Closed (md : Region.Mode) (ops : Array Oper) (listed : Array Bool) : Prop := ∀ j o, ops[j]? = some o → listed.getD j false = true → ∀ e ∈ o.after, Region.binds md e = true → listed.getD e.on false = true

theorem Closed.next {listed : Array Bool} (h : Closed md ops listed) {i : Nat} (hi : i ∈ Region.ready md ops listed) : Closed md ops (listed.setIfInBounds i true) := by
  intro j o ho hj e he hb
  have grow : ∀ k, listed.getD k false = true → (listed.setIfInBounds i true).getD k false = true := fun k hk => by
    by_cases hik : i = k
    · subst hik
      rcases Nat.lt_or_ge i listed.size with h' | h'
      · simp [h']
      · simp [Array.getElem?_eq_none h'] at hk
    · rw [getD_set_ne false hik]; exact hk
  by_cases hij : i = j
  · subst hij
    obtain ⟨_, o', ho', hall⟩ := mem_ready.1 hi
    rw [ho] at ho'
    obtain rfl := Option.some.inj ho'
    exact grow _ (hall e he hb)
  · rw [getD_set_ne false hij] at hj
    exact grow _ (h j o ho hj e he hb)

theorem wpAny_of_N {n m : Nat} {Q : Act → Prop} {Q' : Exit → Act → World → Prop} (hn : n ≤ ops.size)
    (hb : ∀ j o, n ≤ j → ops[j]? = some o → ∀ k, k < n → ∃ e ∈ o.after, Region.binds md e = true ∧ (e.on = k ∨ ∃ o', ops[e.on]? = some o' ∧ ∃ e' ∈ o'.after, Region.binds md e' = true ∧ e'.on = k))
    (hQ : ∀ a w, C w → Q a → wpAny P md ops Q' m (firstN n ops.size) a w) : ∀ (fuel : Nat) (listed : Array Bool) (a : Act) (w : World), listed.size = ops.size → (∀ j, n ≤ j → j < ops.size → listed.getD j true = false) → Closed md ops listed → C w →
    wpAnyN P md ops C n Q fuel listed a → wpAny P md ops Q' (fuel + m) listed a w
  | 0, listed, a, w, hs, hl, _, hw, h => by
    rw [Nat.zero_add, firstN_of hs hn hl h.1]
    exact hQ a w hw h.2
  | fuel + 1, listed, a, w, hs, hl, hc, hw, h => by
    by_cases ha : AllIn n listed
    · refine wpAny_most _ _ _ _ _ ?_
      rw [firstN_of hs hn hl ha]
      exact hQ a w hw (h.1 ha)
    · rw [show fuel + 1 + m = (fuel + m) + 1 by omega]
      refine ⟨fun h0 => absurd h0 (h.2.1 ha), fun i hi => ?_⟩
      have hin : i < n := by
        refine Nat.lt_of_not_le fun hni => ha fun k hk => ?_
        obtain ⟨_, o, ho, hall⟩ := mem_ready.1 hi
        obtain ⟨e, he, hbi, hon⟩ := hb i o hni ho k hk
        have this : listed.getD k false = true := by
          have h1 := hall e he hbi
          rcases hon with hon | ⟨o', ho', e', he', hbi', hon⟩
          · rw [hon] at h1; exact h1
          · have h2 := hc e.on o' ho' h1 e' he' hbi'
            rw [hon] at h2; exact h2
        rcases Nat.lt_or_ge k listed.size with h' | h'
        · simp [h'] at this ⊢; exact this
        · simp [Array.getElem?_eq_none h'] at this
      refine wpOp_of_qOp hw (fun a' w' hw' => wpAny_of_N hn hb hQ fuel _ a' w' (by simpa using hs) (fun j hj hjl => ?_) (hc.next hi) hw') (h.2.2 i hi hin)
      rw [getD_set_ne true (show i ≠ j by omega)]
      exact hl j hj hjl

theorem wpAnyN_first {n : Nat} {Q : Act → Prop} {i : Nat} {oi : Oper} {v : Value} (hi : ops[i]? = some oi) (hin : i < n) (hsel : ∀ (j : Nat) (o : Oper) cs b, ops[j]? = some o → o.op ≠ .select cs b) :
    ∀ (fuel : Nat) (listed : Array Bool) (a : Act),
      (∀ j oj, ops[j]? = some oj → j ≠ i → listed.getD j true = false → (∀ e ∈ oj.after, Region.binds md e = true → e.on ≠ i) → oi.apart ops oj = true) →
      i ∈ Region.ready md ops listed → YieldsIn P ops C oi v a →
      wpAnyN P md ops C n Q fuel (listed.setIfInBounds i true) (a.put oi.dst v) → wpAnyN P md ops C n Q (fuel + 1) listed a := by
  intro fuel
  induction fuel with
  | zero =>
    intro listed a _ hr hy H
    refine ⟨fun h => ?_, fun _ h => (by rw [h] at hr; cases hr), fun j hj hjn => ?_⟩
    · have h1 := h i hin
      rw [(mem_ready.1 hr).1] at h1
      cases h1
    · by_cases hji : j = i
      · subst hji; exact hy.qOp hi H
      · have h1 := H.1 j hjn
        rw [getD_set_ne true (Ne.symm hji), (mem_ready.1 hj).1] at h1
        cases h1
  | succ fuel ih =>
    intro listed a hfree hr hy H
    refine ⟨fun h => ?_, fun _ h => (by rw [h] at hr; cases hr), fun j hj hjn => ?_⟩
    · have h1 := h i hin
      rw [(mem_ready.1 hr).1] at h1
      cases h1
    by_cases hji : j = i
    · subst hji; exact hy.qOp hi H
    · have h1 := H.2.2 j (ready_mono hj hji) hjn
      obtain ⟨hjun, oj, hoj, hall⟩ := mem_ready.1 hj
      have hnot : ∀ e ∈ oj.after, Region.binds md e = true → e.on ≠ i := fun e he hb heq => by
        have h1 := hall e he hb
        have h0 := (mem_ready.1 hr).1
        rw [heq] at h1
        rcases Nat.lt_or_ge i listed.size with h' | h'
        · simp [h'] at h0 h1; rw [h0] at h1; cases h1
        · simp [Array.getElem?_eq_none h'] at h1
      have h2 := qOp_put hoj (hfree j oj hoj hji hjun hnot) (fun cs b => hsel i oi cs b hi) (fun cs b => hsel j oj cs b hoj) hy h1
      have hfree' : ∀ k ok, ops[k]? = some ok → k ≠ i → (listed.setIfInBounds j true).getD k true = false →
          (∀ e ∈ ok.after, Region.binds md e = true → e.on ≠ i) → oi.apart ops ok = true := fun k ok hk hki hun hno => by
        refine hfree k ok hk hki ?_ hno
        by_cases hjk : j = k
        · subst hjk; exact hjun
        · rw [getD_set_ne true hjk] at hun; exact hun
      refine qOp_mono (fun a' h3 => ih (listed.setIfInBounds j true) a' hfree' (ready_mono hr (Ne.symm hji)) h3.1 ?_) h2
      rw [Array.setIfInBounds_comm _ _ hji]
      exact h3.2

/-- the first n may be taken one behind the other -/
def lexN (md : Region.Mode) (ops : Array Oper) : Nat → Nat → Array Bool → Bool
  | 0, _, _ => true
  | fuel + 1, k, listed => (Region.ready md ops listed).contains k && Region.free md ops listed k && lexN md ops fuel (k + 1) (listed.setIfInBounds k true)

theorem wpAnyN_lex {n : Nat} {Q : Act → Prop} (hs : Region.noSelect ops = true) : ∀ (l : List Oper) (k : Nat) (listed : Array Bool) (a : Act), k + l.length = n → (∀ j, j < l.length → l[j]? = ops[k + j]?) → AllIn k listed →
    lexN md ops l.length k listed = true → wpQuiet P ops C Q l a → wpAnyN P md ops C n Q l.length listed a
  | [], _, _, _, hk, _, ha, _, h => ⟨by simp at hk; subst hk; exact ha, h⟩
  | o :: l, k, listed, a, hk, hl, ha, hB, h => by
    have h0 : ops[k]? = some o := by simpa using (hl 0 (by simp)).symm
    simp only [List.length_cons, lexN, Bool.and_eq_true] at hB
    obtain ⟨⟨hr, hf⟩, hB'⟩ := hB
    have hst : qOp P ops C k (wpQuiet P ops C Q l) a := by unfold qOp; simp only [h0]; exact h
    obtain ⟨v, hy, hK⟩ := yieldsIn_of_qOp h0 hst
    have hr' : k ∈ Region.ready md ops listed := by simpa using hr
    refine wpAnyN_first h0 (by simp at hk; omega) (Region.noSelect_spec hs) l.length listed a (Region.free_spec h0 hf) hr' hy
      (wpAnyN_lex hs l (k + 1) _ _ (by simp at hk; omega) (fun j hj => by have := hl (j + 1) (by simpa using hj); simpa [Nat.add_assoc, Nat.add_comm 1 j] using this) (fun i hi => ?_) hB' hK)
    by_cases hik : i = k
    · subst hik
      have hlt : i < ops.size := (Array.getElem?_eq_some_iff.1 h0).1
      rcases Nat.lt_or_ge i listed.size with h' | h'
      · simp [h']
      · simp [Array.getElem?_eq_none h']
    · rw [getD_set_ne true (Ne.symm hik)]
      exact ha i (by omega)

/-- the others wait for the first n -/
def waitN (md : Region.Mode) (ops : Array Oper) (n : Nat) : Bool :=
  (List.range ops.size).all fun j => decide (j < n) || match ops[j]? with
    | some o => (List.range n).all fun k => o.after.any fun e => Region.binds md e && (e.on == k || match ops[e.on]? with
        | some o' => o'.after.any fun e' => Region.binds md e' && e'.on == k
        | none => false)
    | none => true

theorem waitN_spec {n : Nat} (h : waitN md ops n = true) : ∀ j o, n ≤ j → ops[j]? = some o → ∀ k, k < n → ∃ e ∈ o.after, Region.binds md e = true ∧ (e.on = k ∨ ∃ o', ops[e.on]? = some o' ∧ ∃ e' ∈ o'.after, Region.binds md e' = true ∧ e'.on = k) := by
  intro j o hj ho k hk
  simp only [waitN, List.all_eq_true, List.mem_range] at h
  have h1 := h j (Array.getElem?_eq_some_iff.1 ho).1
  have hnj : ¬ j < n := by omega
  simp only [ho, hnj, decide_false, Bool.false_or, List.all_eq_true, List.mem_range] at h1
  obtain ⟨e, he, hb⟩ := Array.any_eq_true'.1 (h1 k hk)
  simp only [Bool.and_eq_true, Bool.or_eq_true, beq_iff_eq] at hb
  refine ⟨e, he, hb.1, hb.2.imp id fun h2 => ?_⟩
  cases ho' : ops[e.on]? with
  | none => rw [ho'] at h2; cases h2
  | some o' =>
    rw [ho'] at h2
    obtain ⟨e', he', hb'⟩ := Array.any_eq_true'.1 h2
    simp only [Bool.and_eq_true, beq_iff_eq] at hb'
    exact ⟨o', rfl, e', he', hb'.1, hb'.2⟩

def thenB (md : Region.Mode) (ops : Array Oper) (n m : Nat) : Bool := Region.noSelect ops && lexN md ops n 0 (Array.replicate ops.size false) && waitN md ops n && decide (n + m = ops.size)

/-- The first n in the order of the text, then the m others. -/
theorem quiet_then (n m : Nat) {id : Nat} {Q : Exit → Act → World → Prop} {a : Act} {w : World} {l : List Oper} (hm : P.follows .mixedOrders = true) (hB : thenB .any l.toArray n m = true)
    (h : wpQuiet P l.toArray (fun w' => ∃ k, w' = w.drewN k) (fun a' => ∀ k, AnyS P .any l.toArray (NoPanic Q) (fun _ _ => True) m (firstN n (n + m)) a' (w.drewN k)) (l.take n) a) : (Code.region id l.toArray true).wp P Q a w := by
  simp only [thenB, Bool.and_eq_true, decide_eq_true_eq] at hB
  obtain ⟨⟨⟨hs, hl⟩, hw⟩, hnm⟩ := hB
  have hn' : n ≤ l.length := by simp at hnm; omega
  refine wp_region_noPanic (wp_region_any hm ?_)
  have ht : (l.take n).length = n := by rw [List.length_take]; omega
  have h1 := wpAnyN_lex (P := P) (md := .any) (C := fun w' => ∃ k, w' = w.drewN k) hs (l.take n) 0 (Array.replicate l.toArray.size false) a (by rw [ht, Nat.zero_add]) (fun j hj => by rw [ht] at hj; simp [List.getElem?_take, hj]) (fun k hk => by omega) (by rw [ht]; exact hl) h
  rw [ht] at h1
  have h2 := wpAny_of_N (P := P) (md := .any) (m := m) (Q' := NoPanic Q) (show n ≤ l.toArray.size by simpa using hn') (waitN_spec hw) (fun a' w' hC hQ => by obtain ⟨k, rfl⟩ := hC; exact any_of_anyS _ _ _ _ (by rw [← hnm]; exact hQ k)) n (Array.replicate l.toArray.size false) a w.drew (by simp) (fun j hj hjl => by simp at hjl; simp [hjl]) (fun j o _ hj => by
    exfalso
    rcases Nat.lt_or_ge j l.length with h' | h'
    · simp [h'] at hj
    · simp [h'] at hj) ⟨1, rfl⟩ h1
  rw [hnm] at h2
  exact h2

end
end Go.Proofs.YtbgaekokjkdpiaaDoor
