/- Frames one of whose bytes is turned, behind the length: plain lists. -/
import Derived.Test.YtbgaekokjkdpiaaDoorLTorn
namespace Go.Proofs.YtbgaekokjkdpiaaDoor
open Go.RowKit Frm
set_option linter.unusedVariables false
set_option linter.unusedSimpArgs false

theorem getD_set_self {l : List Int} {i : Nat} {v : Int} (h : i < l.length) : (l.set i v).getD i 0 = v := by simp [List.getD, h]
theorem getD_set_other {l : List Int} {i j : Nat} {v : Int} (h : i ≠ j) : (l.set i v).getD j 0 = l.getD j 0 := by simp [List.getD, List.getElem?_set, h]

theorem getD_left {A B : List Int} {i : Nat} (h : i < A.length) : (A ++ B).getD i 0 = A.getD i 0 := by simp [List.getD, List.getElem?_append, h]
theorem getD_right (A B : List Int) (i : Nat) : (A ++ B).getD (A.length + i) 0 = B.getD i 0 := by
  unfold List.getD
  rw [List.getElem?_append_right (by omega), Nat.add_sub_cancel_left]

theorem num_turned {l : List Int} (hl : ∀ c ∈ l, Byte c) {i : Nat} (hi : i < 4) (hi2 : i < l.length) {v : Int} (hv : Byte v) (hne : v ≠ l.getD i 0) : num (l.set i v) ≠ num l := by
  have h0 := getD_byte hl 0
  have h1 := getD_byte hl 1
  have h2 := getD_byte hl 2
  have h3 := getD_byte hl 3
  unfold Byte at *
  have hh : i = 0 ∨ i = 1 ∨ i = 2 ∨ i = 3 := by omega
  unfold num
  rcases hh with rfl | rfl | rfl | rfl
  · rw [getD_set_self hi2, getD_set_other (by omega), getD_set_other (by omega), getD_set_other (by omega)]; omega
  · rw [getD_set_self hi2, getD_set_other (by omega), getD_set_other (by omega), getD_set_other (by omega)]; omega
  · rw [getD_set_self hi2, getD_set_other (by omega), getD_set_other (by omega), getD_set_other (by omega)]; omega
  · rw [getD_set_self hi2, getD_set_other (by omega), getD_set_other (by omega), getD_set_other (by omega)]; omega

theorem num_set {l : List Int} {i : Nat} (hi : 4 ≤ i) (v : Int) : num (l.set i v) = num l := by
  unfold num
  rw [getD_set_other (by omega), getD_set_other (by omega), getD_set_other (by omega), getD_set_other (by omega)]

theorem set_split {l : List Int} {i : Nat} (hi : i < l.length) (v : Int) : l.set i v = l.take i ++ v :: l.drop (i + 1) := by
  rw [List.set_eq_take_append_cons_drop, if_pos hi]

theorem crc_set {l : List Int} (hl : ∀ c ∈ l, Byte c) {i : Nat} (hi : i < l.length) {v : Int} (hv : Byte v) (hne : v ≠ l.getD i 0) : crc (l.set i v) ≠ crc l := by
  have hx := getD_byte hl i
  have e : l = l.take i ++ l.getD i 0 :: l.drop (i + 1) := by
    have e1 := set_split hi (l.getD i 0)
    have e2 : l.set i (l.getD i 0) = l := by
      have e3 : l.getD i 0 = l[i] := by simp [List.getD, hi]
      rw [e3, List.set_getElem_self]
    rw [e2] at e1
    exact e1
  rw [set_split hi]
  conv => rhs; rw [e]
  exact crc_turned _ _ hv hx hne

/-- a frame one of whose bytes is turned, behind its length, with whatever behind it -/
theorem turned_parts {r : List Int} (hr : ∀ c ∈ r, Byte c) (hl : r.length ≤ 4194304) {q : Nat} (hq : q < 4 + r.length) {v : Int} (hv : Byte v) (hne : v ≠ (frame r).getD (4 + q) 0) (s : List Int) :
    num ((frame r).set (4 + q) v ++ s) = r.length ∧ ((frame r).set (4 + q) v).length = 8 + r.length ∧ (crc ((((frame r).set (4 + q) v ++ s).drop 8).take r.length)).toNat ≠ num (((frame r).set (4 + q) v ++ s).drop 4) := by
  have hlen : ((frame r).set (4 + q) v).length = 8 + r.length := by rw [List.length_set, frame_length]
  have e0 : (frame r).set (4 + q) v ++ s = (frame r ++ s).set (4 + q) v := by rw [List.set_append_left _ _ (by rw [frame_length]; omega)]
  refine ⟨by rw [e0, num_set (by omega), frame_num (by omega)], hlen, ?_⟩
  have d4 : ((frame r ++ s).set (4 + q) v).drop 4 = (four (crc r).toNat ++ (r ++ s)).set q v := by rw [List.drop_set, if_neg (by omega), frame_drop4, Nat.add_sub_cancel_left]
  rw [e0, d4]
  have hgd : (frame r).getD (4 + q) 0 = (four (crc r).toNat ++ (r ++ s)).getD q 0 := by
    have h1 := frame_drop4 r s
    rw [← h1]
    have h2 := getD_left (A := frame r) (B := s) (i := 4 + q) (by rw [frame_length]; omega)
    rw [← h2]
    simp [List.getD, List.getElem?_drop]
  rw [hgd] at hne
  by_cases h4 : q < 4
  · rw [List.drop_set, if_pos (by omega), frame_drop8, List.take_left]
    have hb : ∀ c ∈ four (crc r).toNat, Byte c := four_byte _
    have e1 : (four (crc r).toNat ++ (r ++ s)).set q v = (four (crc r).toNat).set q v ++ (r ++ s) := List.set_append_left _ _ (by rw [four_length]; exact h4)
    have e2 : (four (crc r).toNat ++ (r ++ s)).getD q 0 = (four (crc r).toNat).getD q 0 := by
      simp [List.getD, List.getElem?_append, four_length, h4]
    have e3 : num ((four (crc r).toNat).set q v ++ (r ++ s)) = num ((four (crc r).toNat).set q v) := by
      have h5 := num_take (y := (four (crc r).toNat).set q v ++ (r ++ s)) (k := 4) (Nat.le_refl _)
      have h6 : ((four (crc r).toNat).set q v).length = 4 := by rw [List.length_set]; rfl
      rw [← h5, ← h6, List.take_left]
    have e4 : num (four (crc r).toNat) = (crc r).toNat := by
      have h7 := num_four (crc r).isLt []
      rwa [List.append_nil] at h7
    rw [e1, e3]
    rw [e2] at hne
    have h8 := num_turned hb h4 (by rw [four_length]; exact h4) hv hne
    rw [e4] at h8
    exact fun h => h8 h.symm
  · rw [List.drop_set, if_neg (by omega), frame_drop8]
    have e5 : 4 + q - 8 = q - 4 := by omega
    have h9 : q - 4 < r.length := by omega
    rw [e5, List.set_append_left _ _ h9]
    have h10 : (r.set (q - 4) v).length = r.length := List.length_set
    rw [← h10, List.take_left, num_set (by omega)]
    rw [num_four (crc r).isLt]
    have e6 : (four (crc r).toNat ++ (r ++ s)).getD q 0 = r.getD (q - 4) 0 := by
      simp [List.getD, List.getElem?_append, four_length, h4, h9]
    rw [e6] at hne
    have h11 := crc_set hr h9 hv hne
    exact fun h => h11 (BitVec.eq_of_toNat_eq h)

theorem turned_whole {r : List Int} (hr : ∀ c ∈ r, Byte c) (hl : r.length ≤ 4194304) {q : Nat} (hq : q < 4 + r.length) {v : Int} (hv : Byte v) (hne : v ≠ (frame r).getD (4 + q) 0) (s : List Int) : whole ((frame r).set (4 + q) v ++ s) = false := by
  have h := turned_parts hr hl hq hv hne s
  unfold whole
  rw [h.1]
  simp only [Bool.and_eq_false_iff, decide_eq_false_iff_not]
  exact .inr h.2.2

theorem turned_one {r : List Int} (hr : ∀ c ∈ r, Byte c) (hl : r.length ≤ 4194304) {q : Nat} (hq : q < 4 + r.length) {v : Int} (hv : Byte v) (hne : v ≠ (frame r).getD (4 + q) 0) : oneE ((frame r).set (4 + q) v) = 10 := by
  have h := turned_parts hr hl hq hv hne []
  rw [List.append_nil] at h
  have e : (((frame r).set (4 + q) v).drop 8).take r.length = ((frame r).set (4 + q) v).drop 8 := List.take_of_length_le (by rw [List.length_drop, h.2.1]; omega)
  rw [e] at h
  unfold oneE
  rw [h.1, h.2.1, if_neg (by omega), if_neg (by omega), if_neg (by omega), if_neg (by omega), if_pos h.2.2]

theorem frames_split {zss : List (List Int)} {h : Nat} (hh : h < zss.length) : frames zss = frames (zss.take h) ++ (frame (zss.getD h []) ++ frames (zss.drop (h + 1))) := by
  have e : zss = zss.take h ++ (zss.getD h [] :: zss.drop (h + 1)) := by
    have e1 := List.take_append_drop h zss
    rw [List.drop_eq_getElem_cons hh] at e1
    have e2 : zss.getD h [] = zss[h] := by simp [List.getD, hh]
    rw [e2]
    exact e1.symm
  conv => lhs; rw [e]
  rw [frames_append]
  rfl

/-- a log one of whose bytes is turned -/
theorem turned_log {zss : List (List Int)} {h : Nat} (hh : h < zss.length) (q : Nat) (hq : q < 4 + (zss.getD h []).length) (v : Int) :
    (frames zss).set (bulk (zss.take h) + 4 + q) v = frames (zss.take h) ++ ((frame (zss.getD h [])).set (4 + q) v ++ frames (zss.drop (h + 1))) ∧ (frames zss).getD (bulk (zss.take h) + 4 + q) 0 = (frame (zss.getD h [])).getD (4 + q) 0 ∧ bulk (zss.take h) + 4 + q < (frames zss).length ∧ bulk (zss.take h) + (8 + (zss.getD h []).length) ≤ (frames zss).length := by
  have e := frames_split hh
  have e2 : bulk (zss.take h) + 4 + q = (frames (zss.take h)).length + (4 + q) := by rw [frames_length]; omega
  refine ⟨?_, ?_, ?_, ?_⟩
  · rw [e, e2, List.set_append_right _ _ (by omega), Nat.add_sub_cancel_left, List.set_append_left _ _ (by rw [frame_length]; omega)]
  · rw [e, e2, getD_right, getD_left (by rw [frame_length]; omega)]
  · rw [e, List.length_append, List.length_append, frames_length, frame_length]; omega
  · rw [e, List.length_append, List.length_append, frames_length, frame_length]; omega

theorem xor_turned {x : Int} (hx : Byte x) {p : Nat} (hp : 0 < p) (hp2 : p < 256) : Byte (bits .xor .u8 x (p : Int)) ∧ bits .xor .u8 x (p : Int) ≠ x := by
  have h0 := hx.1
  have h1 := hx.2
  have h := u8_xor_nat x.toNat p (by omega) hp2
  rw [show ((x.toNat : Nat) : Int) = x by omega] at h
  rw [h]
  have hlt : x.toNat ^^^ p < 256 := Nat.xor_lt_two_pow (n := 8) (by omega) (by omega)
  refine ⟨⟨by omega, by omega⟩, fun he => ?_⟩
  have h2 : x.toNat ^^^ p = x.toNat := by omega
  have h3 : x.toNat ^^^ (x.toNat ^^^ p) = 0 := by rw [h2, Nat.xor_self]
  rw [← Nat.xor_assoc, Nat.xor_self, Nat.zero_xor] at h3
  omega

end Go.Proofs.YtbgaekokjkdpiaaDoor
