/- Strings that the call itself has put into a row. -/
import Derived.Test.YtgggecpnmliolaaDoorStat
namespace Go.Proofs.YtgggecpnmliolaaDoor
open Go Go.RowKit Frm
set_option linter.unusedVariables false
set_option linter.unusedSimpArgs false

theorem Tryd.infoStr : (Tryd.prog.info? 9).map (fun i => (i.zero, i.size, i.bytes)) = some (some (.string ⟨#[]⟩), 1, 16) := by kernel_rfl

def txts (rs : List (List Int)) : List Value := rs.map (fun r => .string (strOfNums r))

theorem txts_append (rs : List (List Int)) (z : List Int) : txts (rs ++ [z]) = txts rs ++ [.string (strOfNums z)] := by simp [txts]

theorem own_slice2 {w : World} {B n s : Nat} {e : TypeId} {v : Value} {xs : List Value} (h : w.ownsRow B e s v n xs) : ∃ a c, v = .slice a n c := by
  rcases h.2 with ⟨rfl, h0⟩ | ⟨k, cap, cur, rfl, _⟩
  · exact ⟨none, 0, by rw [h0]⟩
  · exact ⟨_, cap, rfl⟩

theorem own_txt {w : World} {b n : Nat} {v : Value} {rs : List (List Int)} (h : w.ownsRow b 9 1 v n (txts rs)) {i : Nat} (hi : i < n) :
    ∃ ad c, v = .slice (some ad) n c ∧ n ≤ c ∧ c ≤ maxLen ∧ w.cell? (ad.add i) = some (.string (strOfNums (rs.getD i []))) := by
  have hl := h.1
  rw [Nat.mul_one] at hl
  rcases h.2 with ⟨_, h0⟩ | ⟨g, cap, cur, rfl, _, hg, h1, h2, h3, h4⟩
  · omega
  · refine ⟨_, cap, rfl, h1, h2, ?_⟩
    have hlr : rs.length = n := by rw [← hl]; simp [txts]
    have e : (txts rs)[i]? = some (.string (strOfNums (rs.getD i []))) := by
      simp [txts, List.getD, show i < rs.length by omega]
    rw [← h4, Nat.mul_one, List.getElem?_take, if_pos hi] at e
    rw [Addr.add_lit, Nat.zero_add, ← e]
    simp only [World.cell?, hg]
    simp

theorem str_ne {s t : ByteArray} (h : ¬ s = t) : (s.toList == t.toList) = false := by
  cases hc : (s.toList == t.toList) with
  | false => rfl
  | true =>
    have h2 : s.toList = t.toList := by simpa using hc
    rw [ByteArray.toList_eq, ByteArray.toList_eq] at h2
    exact absurd (ByteArray.ext (Array.toList_inj.1 h2)) h
theorem str_same {s t : ByteArray} (h : s = t) : (s.toList == t.toList) = true := by rw [h]; simp

theorem below_of_grown {w w' : World} (hg : w.grownBy w' none) : Below w.heap.size w w' := ⟨hg.os, hg.tape, hg.output, hg.size, fun k hk => hg.block k hk (by simp)⟩

/-- a row of another kind has grown -/
theorem Has.grown {B g b n s : Nat} {d : Dk} {e : TypeId} {v : Value} {xs : List Value} {w w' : World} (h : Has B g d w) (hr : w.ownsRow b e s v n xs) (h1 : e ≠ 5) (h2 : e ≠ 54) (hg : w.grownBy w' v.ownBlock) : Has B g d w' := by
  rcases hr.2 with ⟨rfl, _⟩ | ⟨p, cap, cur, rfl, _, hp, _⟩
  · exact h.later (below_of_grown hg)
  · exact h.aside hp h1 h2 hg
theorem Jrn.grown {g j b n s : Nat} {m : Int} {e : TypeId} {v : Value} {xs : List Value} {w w' : World} (h : Jrn g j m w) (hr : w.ownsRow b e s v n xs) (h3 : e ≠ 59) (hg : w.grownBy w' v.ownBlock) : Jrn g j m w' := by
  rcases hr.2 with ⟨rfl, _⟩ | ⟨p, cap, cur, rfl, _, hp, _⟩
  · exact h.later (below_of_grown hg)
  · refine h.only hg (fun e => ?_)
    subst e
    unfold Jrn at h
    rw [h] at hp
    simp only [Option.some.injEq, Obj.cells.injEq] at hp
    exact h3 hp.2.1.symm

theorem Fin.ab {s sn : List Int} {rs rl : List (List Int)} {dd sw : Bool} {mo : ByteArray} (h : Fin s rs dd mo sw sn rl) (hn : ¬ (dd = true ∧ sw = true ∧ strOfNums sn = mo ∧ rl.length = 0)) :
    sn = s ∧ (rl = rs ∨ (dd = true ∧ sw = false ∧ ∃ z, rl = rs ++ [z] ∧ mo = strOfNums z)) := by
  cases h with
  | same => exact ⟨rfl, .inl rfl⟩
  | more z h1 h2 h3 => exact ⟨rfl, .inr ⟨h1, h2, z, rfl, h3⟩⟩
  | swapped z h1 h2 h3 => exact absurd ⟨h1, h2, h3.symm, rfl⟩ hn
end Go.Proofs.YtgggecpnmliolaaDoor
