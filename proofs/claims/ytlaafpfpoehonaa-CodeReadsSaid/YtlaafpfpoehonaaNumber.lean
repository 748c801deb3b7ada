/- P102: the reader's number: read by sevens from the front, or refused. -/
import Derived.Test.YtlaafpfpoehonaaTake
namespace Go.Proofs.Ytlaafpfpoehonaa
open Go.RowKit Num
set_option linter.unusedVariables false
set_option linter.unusedSimpArgs false

theorem wrap64_eq (n : Int) : wrap64 n = IntKind.i64.wrap n := by rw [IntKind.wrap_i64]; unfold wrap64; omega
theorem unfold_odd' (u : Int) (h : U64 u) : bits BinOp.xor IntKind.i64 (-1) (wrap64 (u / 2)) = -(u / 2) - 1 := by rw [wrap64_eq, unfold_odd u h.1 h.2]
theorem unfold_even' (u : Int) (h : U64 u) : wrap64 (u / 2) = u / 2 := by rw [wrap64_eq, unfold_even u h.1 h.2]

set_option maxHeartbeats 400000 in
theorem unfold_any (u : Int) (w : World) (hu : U64 u) :
    Calls Try.prog 43 #[.int .u64 u] w fun e w' => e = .returned (.int .i64 (zag u)) ∧ w = w' := by
  have H := Lib.hid hu
  have h0 := hu.1
  clear hu
  have ha := odd_val u H.out.1 H.out.2
  by_cases h : u % 2 = 1
  · have hb : (u % 2 == 1) = true := by simpa using h
    have hv := unfold_odd' u H.out
    have HV := Lib.hid hv
    have HH := Lib.hid h
    clear h hv
    go_enter Try.func43, Try.ntmps43
    go_wp2
    all_goals
      go_ret
      exact ⟨ret_i64 (by rw [zag, if_pos HH.out, ← HV.out]), rfl⟩
  · have hb : (u % 2 == 1) = false := by simpa using h
    have hv := unfold_even' u H.out
    have HV := Lib.hid hv
    have HH := Lib.hid h
    clear h hv
    go_enter Try.func43, Try.ntmps43
    go_wp2
    go_ret
    exact ⟨ret_i64 (by rw [zag, if_neg HH.out]; simp only [HV.out]), rfl⟩

/-- what reading a number comes to -/
def NumPost (r : Nat) (e : Int) (bs : List Int) (w : World) (x : Ending) (w' : World) : Prop :=
  ((num 10 0 0 bs).1 = 0 → x = .returned (.int .i64 (num 10 0 0 bs).2.1)) ∧ ((num 10 0 0 bs).1 ≠ 0 → Thrown x (num 10 0 0 bs).1) ∧
  Rd w' r e (bs.drop (num 10 0 0 bs).2.2) ∧ Only r w w'

/-- behind k bytes it goes on so -/
def Rest (bs : List Int) (k : Nat) (u : Int) : Prop :=
  (num 10 0 0 bs).1 = (num (10 - k) k u (bs.drop k)).1 ∧ (num 10 0 0 bs).2.1 = (num (10 - k) k u (bs.drop k)).2.1 ∧ (num 10 0 0 bs).2.2 = k + (num (10 - k) k u (bs.drop k)).2.2 ∧
  k ≤ bs.length ∧ U64 u ∧ u < 128 ^ k

theorem Rest.zero (bs : List Int) : Rest bs 0 0 := ⟨rfl, rfl, by simp, Nat.zero_le _, ⟨by omega, by omega⟩, by simp⟩

theorem Rest.cut {bs : List Int} {k : Nat} {u : Int} (h : Rest bs k u) (hk : k ≤ 9) (hd : bs.length ≤ k) : (num 10 0 0 bs).1 = 8 ∧ (num 10 0 0 bs).2.2 = k := by
  obtain ⟨h1, h2, h3, -⟩ := h
  rw [show 10 - k = (9 - k) + 1 by omega, List.drop_eq_nil_of_le hd] at h1 h2 h3
  simp [num] at h1 h3
  exact ⟨h1, h3⟩

theorem drop_cons {bs : List Int} {k : Nat} (hk : k < bs.length) : bs.drop k = bs.getD k 0 :: bs.drop (k + 1) := by
  rw [List.drop_eq_getElem_cons hk]; simp [List.getD, hk]

theorem Rest.bad {bs : List Int} {k : Nat} {u : Int} (h : Rest bs k u) (hk : k ≤ 9) (hd : k < bs.length)
    (hc : (k = 9 ∧ 1 < bs.getD k 0) ∨ (bs.getD k 0 = 0 ∧ 0 < k)) : (num 10 0 0 bs).1 = 10 ∧ (num 10 0 0 bs).2.2 = k + 1 := by
  obtain ⟨h1, h2, h3, -⟩ := h
  rw [show 10 - k = (9 - k) + 1 by omega, drop_cons hd] at h1 h3
  generalize bs.getD k 0 = c at *
  simp only [num] at h1 h3
  rw [h1, h3]
  rcases hc with ⟨a, b⟩ | ⟨a, b⟩
  · rw [if_pos ⟨by omega, b⟩]; exact ⟨rfl, rfl⟩
  · rw [if_neg (by omega), if_neg (by omega), if_pos ⟨a, by omega⟩]; exact ⟨rfl, rfl⟩

theorem bit_bd {k : Nat} {u c : Int} (hk : k ≤ 9) (h0 : 0 ≤ u) (hu : u < 128 ^ k) (hc : Byte c) (hc9 : ¬ (k = 9 ∧ 1 < c)) :
    0 ≤ c % 128 * 128 ^ k ∧ c % 128 * 128 ^ k < 18446744073709551616 ∧ u + c % 128 * 128 ^ k < 18446744073709551616 ∧ u + c % 128 * 128 ^ k < 128 ^ (k + 1) ∧ 0 ≤ u + c % 128 * 128 ^ k := by
  obtain ⟨c0, c1⟩ := hc
  have hp : (0 : Int) < 128 ^ k := Int.pow_pos (by omega)
  have e1 : (128 : Int) ^ (k + 1) = 128 ^ k * 128 := Int.pow_succ ..
  have hm : 0 ≤ c % 128 * 128 ^ k := Int.mul_nonneg (by omega) (by omega)
  have hm2 : c % 128 * 128 ^ k ≤ 127 * 128 ^ k := Int.mul_le_mul_of_nonneg_right (by omega) (by omega)
  by_cases h9 : k = 9
  · subst h9
    have e : (128 : Int) ^ 9 = 9223372036854775808 := by decide
    rw [e] at *
    have : c ≤ 1 := by omega
    omega
  · have hle : (128 : Int) ^ k ≤ 128 ^ 8 := by
      have := Nat.pow_le_pow_right (show 0 < 128 by omega) (show k ≤ 8 by omega)
      exact_mod_cast this
    have e : (128 : Int) ^ 8 = 72057594037927936 := by decide
    rw [e] at hle
    omega

theorem Rest.go {bs : List Int} {k : Nat} {u : Int} (h : Rest bs k u) (hk : k ≤ 9) (hd : k < bs.length) (hby : Byte (bs.getD k 0))
    (hc9 : ¬ (k = 9 ∧ 1 < bs.getD k 0)) (hc : 128 ≤ bs.getD k 0) : k + 1 ≤ 9 ∧ Rest bs (k + 1) (u + bs.getD k 0 % 128 * 128 ^ k) := by
  obtain ⟨h1, h2, h3, h4, h5, h6⟩ := h
  rw [show 10 - k = (9 - k) + 1 by omega, drop_cons hd] at h1 h2 h3
  have hb := bit_bd hk h5.1 h6 hby hc9
  generalize bs.getD k 0 = c at *
  simp only [num] at h1 h2 h3
  rw [if_neg hc9, if_pos hc] at h1 h2 h3
  have e : 10 - (k + 1) = 9 - k := by omega
  refine ⟨by omega, ?_, ?_, ?_, hd, ⟨hb.2.2.2.2, hb.2.2.1⟩, hb.2.2.2.1⟩
  · rw [h1, e]
  · rw [h2, e]
  · rw [h3, e]; simp only []; omega

theorem Rest.fin {bs : List Int} {k : Nat} {u : Int} (h : Rest bs k u) (hk : k ≤ 9) (hd : k < bs.length) (hby : Byte (bs.getD k 0))
    (hc9 : ¬ (k = 9 ∧ 1 < bs.getD k 0)) (hc : ¬ 128 ≤ bs.getD k 0) (hz : ¬ (bs.getD k 0 = 0 ∧ 0 < k)) :
    (num 10 0 0 bs).1 = 0 ∧ (num 10 0 0 bs).2.1 = zag (u + bs.getD k 0 % 128 * 128 ^ k) ∧ (num 10 0 0 bs).2.2 = k + 1 ∧ U64 (u + bs.getD k 0 % 128 * 128 ^ k) := by
  obtain ⟨h1, h2, h3, h4, h5, h6⟩ := h
  rw [show 10 - k = (9 - k) + 1 by omega, drop_cons hd] at h1 h2 h3
  have hb := bit_bd hk h5.1 h6 hby hc9
  generalize bs.getD k 0 = c at *
  simp only [num] at h1 h2 h3
  rw [if_neg hc9, if_neg hc, if_neg hz] at h1 h2 h3
  exact ⟨h1, h2, h3, hb.2.2.2.2, hb.2.2.1⟩

/-- the bits of one byte more, behind k bytes -/
theorem bit_val {k : Nat} {u c : Int} (hk : k ≤ 9) (h0 : 0 ≤ u) (hu : u < 128 ^ k) (hc : Byte c) (hc9 : ¬ (k = 9 ∧ 1 < c)) :
    bits .or .u64 u (IntKind.u64.wrap (c % 128 * 2 ^ (7 * k))) = u + c % 128 * 128 ^ k := by
  have hb := bit_bd hk h0 hu hc hc9
  have e : (2 : Int) ^ (7 * k) = 128 ^ k := by rw [Int.pow_mul]; rfl
  have e2 : (2 : Int) ^ 64 = 18446744073709551616 := by decide
  rw [e, IntKind.wrap_u64, Int.emod_eq_of_lt hb.1 hb.2.1]
  exact bits_join_low .u64 64 (by decide) wraps_u64 (7 * k) u (c % 128 * 128 ^ k) h0 (by rw [e]; exact hu) (by rw [e2]; omega) hb.1 (by rw [e]; exact Int.mul_emod_left _ _) (by rw [e2]; exact hb.2.1)

theorem NumPost.bad {r : Nat} {e : Int} {bs : List Int} {w w' : World} {k : Nat} {d : Int} (h : (num 10 0 0 bs).1 = d ∧ (num 10 0 0 bs).2.2 = k) (hd : d ≠ 0) (hr : Rd w' r e (bs.drop k)) (ho : Only r w w') :
    NumPost r e bs w (.panicked [{ v := .iface 40 (.int .i64 d), recovered := false }]) w' := by
  refine ⟨fun h0 => absurd (h.1.symm.trans h0) hd, fun _ => by rw [h.1]; rfl, by rw [h.2]; exact hr, ho⟩

theorem NumPost.fin {r : Nat} {e : Int} {bs : List Int} {w w' : World} {k : Nat} {z : Int} (h : (num 10 0 0 bs).1 = 0 ∧ (num 10 0 0 bs).2.1 = z ∧ (num 10 0 0 bs).2.2 = k) (hr : Rd w' r e (bs.drop k)) (ho : Only r w w') :
    NumPost r e bs w (.returned (.int .i64 z)) w' := by
  refine ⟨fun _ => by rw [h.2.1], fun h0 => absurd h.1 h0, by rw [h.2.2]; exact hr, ho⟩

theorem drop_more {bs : List Int} {k : Nat} : (bs.drop k).drop 1 = bs.drop (k + 1) := by rw [List.drop_drop]

set_option maxRecDepth 100000 in
set_option maxHeartbeats 4000000 in
theorem number_any (r : Nat) (e : Int) (bs : List Int) (w : World) (h : Rd w r e bs) (hby : ∀ c ∈ bs, Byte c) :
    Calls Try.prog 36 #[.pointer (some ⟨r, 0, none⟩)] w (NumPost r e bs w) := by
  have H := Lib.hid h
  have HB := Lib.hid hby
  clear h hby
  go_enter Try.func36, Try.ntmps36
  go_wp2_with fail
  go_loopw [3, 4] (fun u i wr => ∃ (k : Nat) (U : Nat), i = .int .i64 (k : Int) ∧ u = .int .u64 (U : Int) ∧ k ≤ 9 ∧ Hid (Rest bs k (U : Int)) ∧ Hid (Rd wr r e (bs.drop k)) ∧ Hid (Only r w wr)) (fun _ i _ => (10 - intOf i).toNat)
  case atStart => exact ⟨0, 0, rfl, rfl, by omega, Rest.zero bs, H.out, Only.refl _ _⟩
  case round =>
    obtain ⟨k, U, rfl, rfl, hk, hrest, hrd, honly⟩ := hrel
    by_cases hd : bs.length ≤ k
    · go_wp2_with fail
      refine (take_cut r 1 e (bs.drop k) _ hrd.out (by rw [List.length_drop]; omega) (by omega)).mono ?_
      rintro x w1 ⟨hx, rfl⟩
      obtain rfl := hx
      have hb := NumPost.bad (hrest.out.cut hk hd) (by decide) hrd.out honly.out
      have HP := Lib.hid hb
      clear hb
      go_wp2
      exact ⟨rfl, HP.out⟩
    · have hd : k < bs.length := by omega
      have hbc : Byte (bs.getD k 0) := HB.out _ (by simp [List.getD, hd])
      obtain ⟨c, hc⟩ : ∃ c, c = bs.getD k 0 := ⟨_, rfl⟩
      have g0 : (bs.drop k).getD 0 0 = c := by rw [hc]; simp [List.getD]
      rw [← hc] at hbc
      have HC := Lib.hid hc
      have G0 := Lib.hid g0
      have HY := Lib.hid hbc
      clear hc g0
      obtain ⟨c0, c1⟩ := hbc
      have em := u8_and127 c c0 c1
      have hU : (U : Int) < 128 ^ k := hrest.out.2.2.2.2.2
      have HU := Lib.hid hU
      clear hU
      go_wp2_with fail
      refine (take_ok r 1 e (bs.drop k) _ hrd.out (by rw [List.length_drop]; omega)).mono ?_
      rintro x w1 ⟨g, off, cp, rfl, hcp, hcell, hrd1, honly1⟩
      have hc0 : w1.cell? ⟨g, off, none⟩ = some (.int .u8 c) := by have := hcell 0 (by omega); rwa [G0.out] at this
      have HO := Lib.hid (honly.out.trans honly1)
      rw [drop_more] at hrd1
      have HR := Lib.hid hrd1
      clear hcell hrd1 honly1 honly hrd
      by_cases h9 : k = 9 ∧ 1 < c
      · obtain ⟨hk9, hc1⟩ := h9
        have n9b : ((k : Int) == 9) = true := by simp; omega
        have hb := NumPost.bad (hrest.out.bad hk hd (.inl ⟨hk9, by rw [← HC.out]; exact hc1⟩)) (by decide) HR.out HO.out
        have HP := Lib.hid hb
        clear hb hk9
        go_wp2
        exact ⟨rfl, HP.out⟩
      · have HN9 := Lib.hid h9
        have hn9 : ¬ (k = 9 ∧ 1 < bs.getD k 0) := by rw [← HC.out]; exact h9
        have HN := Lib.hid hn9
        have hcase : (((k : Int) == 9) = true ∧ c ≤ 1) ∨ ((k : Int) == 9) = false := by
          by_cases hk9 : k = 9
          · exact .inl ⟨by simp; omega, by omega⟩
          · exact .inr (by simp; omega)
        clear hn9 h9
        have bv : bits .or .u64 (U : Int) (IntKind.u64.wrap (c % 128 * 2 ^ (7 * k))) = U + c % 128 * 128 ^ k := bit_val hk (by omega) HU.out HY.out HN9.out
        have BV := Lib.hid bv
        clear bv
        rcases hcase with ⟨n9b, hc1⟩ | n9b
        all_goals
          by_cases h128 : 128 ≤ c
          · obtain ⟨h10, hr⟩ := hrest.out.go hk hd (by rw [← HC.out]; exact HY.out) HN.out (by rw [← HC.out]; exact h128)
            rw [← HC.out] at hr
            have HZ := Lib.hid hr
            clear hr
            first
            | (exfalso; omega)
            | (go_wp2_with fail
               have hr := HZ.out
               refine ⟨⟨k + 1, (U + c % 128 * 128 ^ k).toNat, by go_num, ?_, h10, ?_, HR.out, HO.out⟩, by simp [intOf]; omega⟩
               · rw [BV.out, Int.toNat_of_nonneg hr.2.2.2.2.1.1]
               · rw [Int.toNat_of_nonneg hr.2.2.2.2.1.1]; exact hr)
          · by_cases hz : c = 0 ∧ 0 < k
            · obtain ⟨hz1, hz⟩ := hz
              have zb : (c == 0) = true := by simpa using hz1
              have hb := NumPost.bad (hrest.out.bad hk hd (.inr ⟨by rw [← HC.out]; exact hz1, hz⟩)) (by decide) HR.out HO.out
              have HP := Lib.hid hb
              clear hb hz1
              go_wp2
              exact ⟨rfl, HP.out⟩
            · obtain ⟨f1, f2, f3, f4⟩ := hrest.out.fin hk hd (by rw [← HC.out]; exact HY.out) HN.out (by rw [← HC.out]; exact h128) (by rw [← HC.out]; exact hz)
              rw [← HC.out] at f2 f4
              have hb := NumPost.fin ⟨f1, f2, f3⟩ HR.out HO.out
              have HP := Lib.hid hb
              have H4 := Lib.hid f4
              clear hb f1 f2 f3 f4
              have hcase : (c == 0) = false ∨ ((c == 0) = true ∧ k ≤ 0) := by
                by_cases h0 : c = 0
                · exact .inr ⟨by simpa using h0, by omega⟩
                · exact .inl (by simpa using h0)
              clear hz
              rcases hcase with zb | ⟨zb, hk0⟩
              all_goals
                go_wp2_with fail
                first
                | (exfalso; omega)
                | (rw [BV.out]
                   refine (unfold_any _ _ H4.out).mono ?_
                   rintro x w2 ⟨rfl, rfl⟩
                   go_wp2
                   go_ret
                   exact HP.out)

end Go.Proofs.Ytlaafpfpoehonaa
