/- Rows of bytes that a call has made: a slice of slices, its own. -/
import Derived.Test.YtgggecpnmliolaaDoorOne
namespace Go.Proofs.YtgggecpnmliolaaDoor
open Go.RowKit Frm
set_option linter.unusedVariables false
set_option linter.unusedSimpArgs false

theorem Tryd.infoRow : (Tryd.prog.info? 30).map (fun i => (i.zero, i.size, i.bytes)) = some (some (.slice none 0 0), 1, 24) := by kernel_rfl

theorem own_later {w w' : World} {B n s : Nat} {e : TypeId} {v : Value} {xs : List Value} (h : w.ownsRow B e s v n xs) (hb : Below w.heap.size w w') : w'.ownsRow B e s v n xs :=
  h.kept (row := none) ⟨hb.os, hb.tape, hb.output, hb.size, fun k hk _ => hb.block k hk⟩ (by cases hv : v.ownBlock <;> simp)

theorem own_apart {w : World} {B B' n m s s' : Nat} {e e' : TypeId} {u v : Value} {xs ys : List Value} (h : w.ownsRow B e s u n xs) (k : w.ownsRow B' e' s' v m ys) (hne : e ≠ e') : u.ownBlock = none ∨ u.ownBlock ≠ v.ownBlock := by
  rcases h.2 with ⟨rfl, _⟩ | ⟨g, cap, cur, rfl, _, hg, _⟩
  · exact .inl rfl
  · right
    rcases k.2 with ⟨rfl, _⟩ | ⟨g', cap', cur', rfl, _, hg', _⟩
    · simp [Value.ownBlock]
    · intro hh
      simp only [Value.ownBlock, Option.some.injEq] at hh
      rw [← hh, hg] at hg'
      simp only [Option.some.injEq, Obj.cells.injEq] at hg'
      exact hne hg'.2.1

/-- rows of bytes, all of it memory that is not older than B -/
structure Rws (w : World) (B : Nat) (v : Value) (rs : List (List Int)) (vs : List Value) : Prop where
  own : w.ownsRow B 30 1 v rs.length vs
  row : ∀ j u, vs[j]? = some u → w.ownsRow B 5 1 u (rs.getD j []).length (bts (rs.getD j []))
  one : ∀ u ∈ vs, u.oneCell' = true
  bytes : ∀ r ∈ rs, ∀ c ∈ r, Byte c

theorem Rws.nil (w : World) (B : Nat) : Rws w B (.slice none 0 0) [] [] := ⟨World.ownsRow_nil _ _ _ _, by simp, by simp, by simp⟩
theorem Rws.keep {w w' : World} {B : Nat} {v : Value} {rs : List (List Int)} {vs : List Value} (h : Rws w B v rs vs) (hb : Below w.heap.size w w') : Rws w' B v rs vs :=
  ⟨own_later h.own hb, fun j u hu => own_later (h.row j u hu) hb, h.one, h.bytes⟩

theorem Rws.next {w w' : World} {B : Nat} {v v' : Value} {rs : List (List Int)} {vs : List Value} {u : Value} {r : List Int} (h : Rws w B v rs vs) (hu : w.ownsRow B 5 1 u r.length (bts r)) (h1 : u.oneCell' = true) (hr : ∀ c ∈ r, Byte c)
    (hown : w'.ownsRow B 30 1 v' (rs.length + 1) (vs ++ [u])) (hg : w.grownBy w' v.ownBlock) : Rws w' B v' (rs ++ [r]) (vs ++ [u]) := by
  have hl := h.own.1
  rw [Nat.mul_one] at hl
  refine ⟨by rw [List.length_append]; exact hown, fun j x hx => ?_, fun x hx => ?_, fun q hq => ?_⟩
  · by_cases hj : j < vs.length
    · rw [List.getElem?_append_left hj] at hx
      have e : (rs ++ [r]).getD j [] = rs.getD j [] := by simp [List.getD, List.getElem?_append_left (show j < rs.length by omega)]
      rw [e]
      exact (h.row j x hx).kept hg (own_apart (h.row j x hx) h.own (by decide))
    · have hj2 := (List.getElem?_eq_some_iff.1 hx).1
      rw [List.length_append, List.length_singleton] at hj2
      have hj3 : j = vs.length := by omega
      subst hj3
      rw [List.getElem?_append_right (Nat.le_refl _), Nat.sub_self] at hx
      simp only [List.getElem?_cons_zero, Option.some.injEq] at hx
      subst hx
      have e : (rs ++ [r]).getD vs.length [] = r := by rw [hl]; simp [List.getD]
      rw [e]
      exact hu.kept hg (own_apart hu h.own (by decide))
  · rcases List.mem_append.1 hx with hx | hx
    · exact h.one x hx
    · rw [List.mem_singleton.1 hx]; exact h1
  · rcases List.mem_append.1 hq with hq | hq
    · exact h.bytes q hq
    · rw [List.mem_singleton.1 hq]; exact hr

theorem Rws.mat {w : World} {B : Nat} {v : Value} {rs : List (List Int)} {vs : List Value} (h : Rws w B v rs vs) : ∃ a c, v = .slice a rs.length c ∧ Mat w a rs.length c rs := by
  have hl := h.own.1
  rw [Nat.mul_one] at hl
  rcases h.own.2 with ⟨rfl, h0⟩ | ⟨g, cap, cur, rfl, hB, hg, h1, h2, h3, h4⟩
  · rw [h0]
    exact ⟨_, _, rfl, h0, Nat.le_refl _, by unfold maxLen; omega, fun i hi => absurd hi (by omega)⟩
  · refine ⟨_, _, rfl, rfl, h1, h2, fun i hi => ⟨_, rfl, ?_⟩⟩
    obtain ⟨u, hu⟩ : ∃ u, vs[i]? = some u := ⟨vs[i]'(by omega), List.getElem?_eq_getElem (by omega)⟩
    have hby : ∀ c ∈ rs.getD i [], Byte c := by
      have e : rs.getD i [] = rs[i] := by simp [List.getD, hi]
      rw [e]
      exact h.bytes _ (List.getElem_mem hi)
    obtain ⟨b, c, hv, hc⟩ := own_came (h.row i u hu) hby
    refine ⟨b, _, c, ?_, hc⟩
    rw [← hv, ← hu, ← h4, Nat.mul_one, List.getElem?_take, if_pos hi, Addr.add_lit, Nat.zero_add]
    simp only [World.cell?, hg]
    simp

/-- how many records a log may hold -/
theorem bulk_ge (rs : List (List Int)) : 8 * rs.length ≤ bulk rs := by
  induction rs with
  | nil => exact Nat.le_refl _
  | cons r rs ih => simp only [List.length_cons, bulk]; omega

theorem scanE_whole (z : List Int) : (scanE z = 0) ↔ whole z = true := by
  unfold scanE whole
  simp only [Bool.and_eq_true, decide_eq_true_eq]
  constructor
  · intro h
    split at h
    · omega
    · split at h
      · omega
      · split at h
        · omega
        · split at h
          · omega
          · rename_i h4
            exact ⟨⟨⟨by omega, by omega⟩, by omega⟩, by simpa using h4⟩
  · rintro ⟨⟨⟨h1, h2⟩, h3⟩, h4⟩
    rw [if_neg (by omega), if_neg (by omega), if_neg (by omega), if_neg (by simpa using h4)]

theorem scanE_lt (z : List Int) : scanE z ≤ 10 := by
  unfold scanE
  repeat' split
  all_goals omega

theorem scan_next {z : List Int} (h : whole z = true) : scan z = (z.drop 8).take (num z) :: scan (z.drop (8 + num z)) := by rw [scan, dif_pos h]

theorem whole_parts {z : List Int} (h : whole z = true) : 8 ≤ z.length ∧ num z ≤ 4194304 ∧ 8 + num z ≤ z.length ∧ ((z.drop 8).take (num z)).length = num z := by
  simp [whole] at h
  refine ⟨h.1.1.1, h.1.1.2, h.1.2, ?_⟩
  rw [List.length_take, List.length_drop]
  omega

end Go.Proofs.YtgggecpnmliolaaDoor
