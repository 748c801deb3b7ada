/- P102: the chapter said a second time: its reader's Int. -/
import Derived.Test.YtlaafpfpoehonaaRx
import Derived.Test.YtlaafpfpoehonaaBackP
import Derived.Test.YtlaafpfpoehonaaOrd
namespace Go.Proofs.Ytlaafpfpoehonaa
open Go.RowKit Num
set_option linter.unusedVariables false
set_option linter.unusedSimpArgs false

/-- what the second reader's Int leaves -/
def XIntPost (x : Nat) (a : Option Addr) (n c : Nat) (B : List Int) (P : Nat) (E : Int) (w : World) (y : Ending) (w' : World) : Prop :=
  ∃ P', y = .returned (.int .i64 (rdInt E (B.drop P)).2.2) ∧ Rx w' x a n c B P' (rdInt E (B.drop P)).1 ∧ ((rdInt E (B.drop P)).1 = 0 → B.drop P' = (rdInt E (B.drop P)).2.1) ∧ Only x w w'

theorem XIntPost.bad {x : Nat} {a : Option Addr} {n c : Nat} {B : List Int} {P P' : Nat} {d : Int} {w w' : World} (h : (num 10 0 0 (B.drop P)).1 = d) (hd : d ≠ 0) (hr : Rx w' x a n c B P' d) (ho : Only x w w') :
    XIntPost x a n c B P 0 w (.returned (.int .i64 0)) w' := by
  have e : rdInt 0 (B.drop P) = (d, (B.drop P).drop (num 10 0 0 (B.drop P)).2.2, 0) := by
    unfold rdInt
    rw [if_neg (by simp), if_neg (by rw [h]; exact hd), h]
  unfold XIntPost
  rw [e]
  exact ⟨P', rfl, hr, fun h => absurd h hd, ho⟩

theorem XIntPost.fin {x : Nat} {a : Option Addr} {n c : Nat} {B : List Int} {P k : Nat} {z : Int} {w w' : World} (h1 : (num 10 0 0 (B.drop P)).1 = 0) (h2 : (num 10 0 0 (B.drop P)).2.1 = z) (h3 : (num 10 0 0 (B.drop P)).2.2 = k)
    (hr : Rx w' x a n c B (P + k) 0) (ho : Only x w w') : XIntPost x a n c B P 0 w (.returned (.int .i64 z)) w' := by
  have e : rdInt 0 (B.drop P) = (0, (B.drop P).drop k, z) := by
    unfold rdInt
    rw [if_neg (by simp), if_pos h1, h2, h3]
  unfold XIntPost
  rw [e]
  exact ⟨P + k, rfl, hr, fun _ => by rw [List.drop_drop], ho⟩

theorem Reads.at {w : World} {a : Option Addr} {n : Nat} {B : List Int} (h : Reads w a n B) {p : Nat} (hp : p < n) : ∃ ad, a = some ad ∧ w.cell? (ad.add p) = some (.int .u8 (B.getD p 0)) := by
  obtain ⟨ad, h1, h2⟩ := h.2 (by omega)
  refine ⟨ad, h1, h2 p _ ?_⟩
  have : p < B.length := by rw [h.1]; exact hp
  simp [bts, List.getD, this]

set_option maxRecDepth 100000 in
set_option maxHeartbeats 4000000 in
theorem xint_any (x : Nat) (a : Option Addr) (n c : Nat) (B : List Int) (P : Nat) (E : Int) (w : World) (h : Rx w x a n c B P E) (hby : ∀ c ∈ B, Byte c) :
    Calls Try.prog 23 #[.pointer (some ⟨x, 0, none⟩)] w (XIntPost x a n c B P E w) := by
  have HB := Lib.hid hby
  by_cases he : E = 0
  · subst he
    have H := Lib.hid h
    have hn := h.small
    have hc := h.room
    have hm := h.most
    unfold maxLen at hm
    clear h hby
    go_enter Try.func23, Try.ntmps23
    go_wp2_with fail
    go_loopw [3, 4] (fun u i wr => ∃ (k : Nat) (U : Nat) (p : Nat), i = .int .i64 (k : Int) ∧ u = .int .u64 (U : Int) ∧ k ≤ 9 ∧ p = P + k ∧ Hid (Rest (B.drop P) k (U : Int)) ∧ Hid (Rx wr x a n c B p 0) ∧ Hid (Only x w wr)) (fun _ i _ => (10 - intOf i).toNat)
    case atStart => exact ⟨0, 0, P, rfl, rfl, by omega, rfl, Rest.zero _, H.out, Only.refl _ _⟩
    case round =>
      obtain ⟨k, U, p, rfl, rfl, hk, hpk, hrest, hrx, honly⟩ := hrel
      obtain ⟨c0, c1, c2, f0, f1, f2⟩ := hrx.out.cells
      have hle := hrx.out.le
      have HPK := Lib.hid hpk
      have hpn : p ≤ P + 9 := by omega
      have hdl0 : n ≤ p → (B.drop P).length ≤ k := fun h => by rw [List.length_drop, hrx.out.reads.1]; omega
      have hdl1 : p < n → k < (B.drop P).length := fun h => by rw [List.length_drop, hrx.out.reads.1]; omega
      have hg : (B.drop P).getD k 0 = B.getD p 0 := by rw [hpk]; simp [List.getD]
      clear hpk
      by_cases hd : n ≤ p
      · have hge : decide ((n : Int) ≤ (p : Int)) = true := by simp; omega
        have hb := (hrest.out.cut hk (hdl0 hd)).1
        have HN := Lib.hid hb
        clear hb hg hdl0 hdl1
        go_wp2_with fail
        go_quiet (fail)
        go_wp2
        go_ret
        have h8 := (hrx.out.keep (below_drewN (Below.refl _ _) nq)).setErr 8
        exact XIntPost.bad HN.out (by decide) h8.1 ((only_drew honly.out nq).trans h8.2)
      · have hlt : p < n := by omega
        have hge : decide ((n : Int) ≤ (p : Int)) = false := by simp; omega
        obtain ⟨ad, had, hcell⟩ := hrx.out.reads.at hlt
        subst had
        have hdl := hdl1 hlt
        have hbc : Byte (B.getD p 0) := HB.out _ (by have : p < B.length := (by rw [hrx.out.reads.1]; exact hlt); simp [List.getD, this])
        obtain ⟨b, hb⟩ : ∃ b, b = B.getD p 0 := ⟨_, rfl⟩
        rw [← hb] at hcell hbc hg
        have HC := Lib.hid hg
        have HY := Lib.hid hbc
        have HDL := Lib.hid hdl
        have hw1 : ∀ nq : Nat, Rx ((wr.drewN nq).setCell ⟨x, 1, none⟩ (.int .i64 ((p + 1 : Nat) : Int))) x (some ad) n c B (p + 1) 0 ∧ Only x w ((wr.drewN nq).setCell ⟨x, 1, none⟩ (.int .i64 ((p + 1 : Nat) : Int))) := fun nq => by
          have h := ((hrx.out.keep (below_drewN (Below.refl _ _) nq)).setPos (p + 1) (by omega))
          exact ⟨h.1, (only_drew honly.out nq).trans h.2⟩
        have HW1 := Lib.hid hw1
        clear hw1 hb hg hdl hdl0 hdl1
        obtain ⟨c0', c1'⟩ := hbc
        have hU : (U : Int) < 128 ^ k := hrest.out.2.2.2.2.2
        have HU := Lib.hid hU
        clear hU
        go_wp2_with fail
        go_quiet (fail)
        go_wp2_with fail
        have HALL : ∀ nq : Nat, (wr.drewN nq).drew.cell? ⟨x, 0, none⟩ = some (.slice (some ad) n c) ∧ (wr.drewN nq).drew.cell? ⟨x, 1, none⟩ = some (.int .i64 (p : Int)) ∧ (wr.drewN nq).drew.cell? (ad.add p) = some (.int .u8 b) := fun nq => ⟨c0, c1, hcell⟩
        refine anyS_start (by kernel_rfl) ?_
        (refine anyS_free (i := 0) (v := ?_) rfl (by kernel_rfl) (by kernel_rfl) (by kernel_rfl) (fun _ _ _ h => h) (fun _ => by simp) (Or.inl ⟨by rfl, fun w' _ => ?_⟩) ?_; rotate_left; (· go_simp; try with_reducible rfl))
        try simp only [Act.put, List.setIfInBounds_toArray, List.set_cons_zero, List.set_cons_succ]
        (refine anyS_free (i := 1) (v := ?_) rfl (by kernel_rfl) (by kernel_rfl) (by kernel_rfl) (fun _ _ _ h => h) (fun _ => by simp) (Or.inl ⟨by rfl, fun w' _ => ?_⟩) ?_; rotate_left; (· go_simp; try with_reducible rfl))
        try simp only [Act.put, List.setIfInBounds_toArray, List.set_cons_zero, List.set_cons_succ]
        (refine anyS_free (i := 2) (v := ?_) rfl (by kernel_rfl) (by kernel_rfl) (by kernel_rfl) (fun _ _ _ h => h) (fun _ => by simp) (Or.inl ⟨by rfl, fun w' _ => ?_⟩) ?_; rotate_left; (· go_simp; try with_reducible rfl))
        try simp only [Act.put, List.setIfInBounds_toArray, List.set_cons_zero, List.set_cons_succ]
        (refine anyS_free (i := 4) (v := ?_) rfl (by kernel_rfl) (by kernel_rfl) (by kernel_rfl) (fun _ _ _ h => h) (fun _ => by simp) (Or.inl ⟨by rfl, fun w' _ => ?_⟩) ?_; rotate_left; (· go_simp; try with_reducible rfl))
        try simp only [Act.put, List.setIfInBounds_toArray, List.set_cons_zero, List.set_cons_succ]
        (refine anyS_free (i := 5) (v := ?_) rfl (by kernel_rfl) (by kernel_rfl) (by kernel_rfl) (fun _ _ _ h => h) (fun _ => by simp) (Or.inl ⟨by rfl, fun w' _ => ?_⟩) ?_; rotate_left; (· go_simp; try with_reducible rfl))
        try simp only [Act.put, List.setIfInBounds_toArray, List.set_cons_zero, List.set_cons_succ]
        (refine anyS_free (i := 6) (v := ?_) rfl (by kernel_rfl) (by kernel_rfl) (by kernel_rfl) (fun _ _ _ h => h) (fun _ => by simp) (Or.inl ⟨by rfl, fun w' _ => ?_⟩) ?_; rotate_left; (· go_simp; try with_reducible rfl))
        try simp only [Act.put, List.setIfInBounds_toArray, List.set_cons_zero, List.set_cons_succ]
        (refine anyS_takeNew (fun w' => w'.cell? ⟨x, 0, none⟩ = some (.slice (some ad) n c) ∧ w'.cell? ⟨x, 1, none⟩ = some (.int .i64 (p : Int)) ∧ w'.cell? (ad.add p) = some (.int .u8 b)) [7] (i := 3) (v := ?_) (HALL _) rfl (by kernel_rfl) (by kernel_rfl) (by kernel_rfl) (by kernel_rfl) (fun _ _ _ h => h) (fun _ _ => by simp_all) (Or.inl ⟨by rfl, fun w' hw' => ?_⟩) ?_; rotate_left; (· (obtain ⟨q0, q1, q2⟩ := hw'; go_simp; try with_reducible rfl)))
        try simp only [Act.put, List.setIfInBounds_toArray, List.set_cons_zero, List.set_cons_succ]
        (refine anyS_takeNew (fun w' => w'.cell? ⟨x, 0, none⟩ = some (.slice (some ad) n c) ∧ w'.cell? ⟨x, 1, none⟩ = some (.int .i64 (p : Int)) ∧ w'.cell? (ad.add p) = some (.int .u8 b)) [] (i := 7) (v := ?_) (HALL _) rfl (by kernel_rfl) (by kernel_rfl) (by kernel_rfl) (by kernel_rfl) (fun _ _ _ h => h) (fun _ _ => by simp_all) (Or.inl ⟨by rfl, fun w' hw' => ?_⟩) ?_; rotate_left; (· (obtain ⟨q0, q1, q2⟩ := hw'; go_simp; try with_reducible rfl)))
        try simp only [Act.put, List.setIfInBounds_toArray, List.set_cons_zero, List.set_cons_succ]
        (refine anyS_free (i := 8) (v := ?_) rfl (by kernel_rfl) (by kernel_rfl) (by kernel_rfl) (fun _ _ _ h => h) (fun _ => by simp) (Or.inl ⟨by rfl, fun w' _ => ?_⟩) ?_; rotate_left; (· go_simp; try with_reducible rfl))
        try simp only [Act.put, List.setIfInBounds_toArray, List.set_cons_zero, List.set_cons_succ]
        (refine anyS_takeNew (fun w' => w'.cell? ⟨x, 0, none⟩ = some (.slice (some ad) n c) ∧ w'.cell? ⟨x, 1, none⟩ = some (.int .i64 (p : Int)) ∧ w'.cell? (ad.add p) = some (.int .u8 b)) [] (i := 9) (v := ?_) (HALL _) rfl (by kernel_rfl) (by kernel_rfl) (by kernel_rfl) (by kernel_rfl) (fun _ _ _ h => h) (fun _ _ => by simp_all) (Or.inl ⟨by rfl, fun w' hw' => ?_⟩) ?_; rotate_left; (· (obtain ⟨q0, q1, q2⟩ := hw'; go_simp; try with_reducible rfl)))
        try simp only [Act.put, List.setIfInBounds_toArray, List.set_cons_zero, List.set_cons_succ]
        (refine anyS_free (i := 10) (v := ?_) rfl (by kernel_rfl) (by kernel_rfl) (by kernel_rfl) (fun _ _ _ h => h) (fun _ => by simp) (Or.inl ⟨by rfl, fun w' _ => ?_⟩) ?_; rotate_left; (· go_simp; try with_reducible rfl))
        try simp only [Act.put, List.setIfInBounds_toArray, List.set_cons_zero, List.set_cons_succ]
        refine anyS_done (by kernel_rfl) ?_ _
        refine NoPanic.normal ?_
        clear HALL
        go_upto_region 10 with (fail)
        have h7 : Rx ((wr.drewN (nq + 1)).setCell ⟨x, 1, none⟩ (.int .i64 ((p : Int) + 1))) x (some ad) n c B (p + 1) 0 ∧ Only x w ((wr.drewN (nq + 1)).setCell ⟨x, 1, none⟩ (.int .i64 ((p : Int) + 1))) := HW1.out (nq + 1)
        generalize World.setCell _ _ _ = w7 at *
        have HX7 := Lib.hid h7.1
        have HO7 := Lib.hid h7.2
        obtain ⟨d0, d1, d2, g0, g1, g2⟩ := h7.1.cells
        clear HW1 h7 c0 c1 c2 f0 f1 f2 hcell hge
        have em := u8_and127 b c0' c1'
        by_cases h9 : k = 9 ∧ 1 < b
        · obtain ⟨hk9, hc1⟩ := h9
          have n9b : ((k : Int) == 9) = true := by simp; omega
          have HN := Lib.hid (hrest.out.bad hk HDL.out (.inl ⟨hk9, by rw [HC.out]; exact hc1⟩)).1
          clear hk9
          go_wp2
          go_ret
          have h8 := HX7.out.setErr 10
          exact XIntPost.bad HN.out (by decide) h8.1 (HO7.out.trans h8.2)
        · have hn9 : ¬ (k = 9 ∧ 1 < (B.drop P).getD k 0) := by rw [HC.out]; exact h9
          have HN := Lib.hid hn9
          have hcase : (((k : Int) == 9) = true ∧ b ≤ 1) ∨ ((k : Int) == 9) = false := by
            by_cases hk9 : k = 9
            · exact .inl ⟨by simp; omega, by omega⟩
            · exact .inr (by simp; omega)
          have bv : bits .or .u64 (U : Int) (IntKind.u64.wrap (b % 128 * 2 ^ (7 * k))) = U + b % 128 * 128 ^ k := bit_val hk (by omega) HU.out HY.out h9
          have BV := Lib.hid bv
          clear bv hn9 h9
          rcases hcase with ⟨n9b, hc1⟩ | n9b
          · by_cases hz : b = 0 ∧ 0 < k
            · obtain ⟨hz1, hz⟩ := hz
              have zb : (b == 0) = true := by simpa using hz1
              have HNb := Lib.hid (hrest.out.bad hk HDL.out (.inr ⟨by rw [HC.out]; exact hz1, hz⟩)).1
              clear hz1
              go_wp2
              go_ret
              have h8 := HX7.out.setErr 10
              exact XIntPost.bad HNb.out (by decide) h8.1 (HO7.out.trans h8.2)
            · have hzc : (b == 0) = false ∨ ((b == 0) = true ∧ k = 0) := by
                by_cases h0 : b = 0
                · exact .inr ⟨by simpa using h0, by omega⟩
                · exact .inl (by simpa using h0)
              have HZ := Lib.hid hz
              clear hz
              by_cases h128 : 128 ≤ b
              · obtain ⟨h10, hr⟩ := hrest.out.go hk HDL.out (by rw [HC.out]; exact HY.out) HN.out (by rw [HC.out]; exact h128)
                rw [HC.out] at hr
                have HR := Lib.hid hr
                clear hr
                exact absurd h128 (by omega)
              · obtain ⟨q1, q2, q3, q4⟩ := hrest.out.fin hk HDL.out (by rw [HC.out]; exact HY.out) HN.out (by rw [HC.out]; exact h128) (by rw [HC.out]; exact HZ.out)
                rw [HC.out] at q2 q4
                have Q1 := Lib.hid q1
                have Q2 := Lib.hid q2
                have Q3 := Lib.hid q3
                have Q4 := Lib.hid q4
                clear q1 q2 q3 q4
                have hkd1 : k = 0 → decide ((0 : Int) < (k : Int)) = false := fun h => by simp; omega
                have hkd2 : k = 0 → decide (0 < k) = false := fun h => by simp; omega
                rcases hzc with zb | ⟨zb, hk0⟩
                · clear hkd1 hkd2
                  have hkk : (decide ((0 : Int) < (k : Int)) = true ∧ decide (0 < k) = true ∧ 0 < k) ∨ (decide ((0 : Int) < (k : Int)) = false ∧ decide (0 < k) = false ∧ k ≤ 0) := by
                    rcases Nat.eq_zero_or_pos k with h | h
                    · exact .inr ⟨by simp; omega, by simp; omega, by omega⟩
                    · exact .inl ⟨by simp; omega, by simp; omega, h⟩
                  rcases hkk with ⟨hk1, hk2, hk3⟩ | ⟨hk1, hk2, hk3⟩
                  · go_upto_region 15 with (fail)
                    rw [BV.out]
                    obtain ⟨V, hV⟩ : ∃ V, V = (U : Int) + b % 128 * 128 ^ k := ⟨_, rfl⟩
                    rw [← hV] at Q2 Q4 ⊢
                    have hV0 : 0 ≤ V := Q4.out.1
                    have hpos : P + (k + 1) = p + 1 := by have := HPK.out; omega
                    have ha := odd_val V Q4.out.1 Q4.out.2
                    have hv1 : wrap64 (V / 2) = V / 2 := unfold_even' V Q4.out
                    have hv2 : wrap64 (-1 - V / 2) = -(V / 2) - 1 := by have := Q4.out.2; unfold wrap64; omega
                    have HX8 : Hid (Rx w7 x (some ad) n c B (P + (k + 1)) 0) := by rw [hpos]; exact HX7.out
                    clear hV hpos
                    by_cases hodd : V % 2 = 1
                    · have hb1 : (V % 2 == 1) = true := by simpa using hodd
                      have hz : zag V = -(V / 2) - 1 := by rw [zag, if_pos hodd]
                      have HZ2 := Lib.hid (Q2.out.trans hz)
                      clear hodd hz
                      go_wp2
                      go_ret
                      exact XIntPost.fin Q1.out HZ2.out Q3.out HX8.out HO7.out
                    · have hb1 : (V % 2 == 1) = false := by simpa using hodd
                      have hz : zag V = V / 2 := by rw [zag, if_neg hodd]
                      have HZ2 := Lib.hid (Q2.out.trans hz)
                      clear hodd hz
                      go_wp2
                      go_ret
                      exact XIntPost.fin Q1.out HZ2.out Q3.out HX8.out HO7.out
                  · go_upto_region 15 with (fail)
                    rw [BV.out]
                    obtain ⟨V, hV⟩ : ∃ V, V = (U : Int) + b % 128 * 128 ^ k := ⟨_, rfl⟩
                    rw [← hV] at Q2 Q4 ⊢
                    have hV0 : 0 ≤ V := Q4.out.1
                    have hpos : P + (k + 1) = p + 1 := by have := HPK.out; omega
                    have ha := odd_val V Q4.out.1 Q4.out.2
                    have hv1 : wrap64 (V / 2) = V / 2 := unfold_even' V Q4.out
                    have hv2 : wrap64 (-1 - V / 2) = -(V / 2) - 1 := by have := Q4.out.2; unfold wrap64; omega
                    have HX8 : Hid (Rx w7 x (some ad) n c B (P + (k + 1)) 0) := by rw [hpos]; exact HX7.out
                    clear hV hpos
                    by_cases hodd : V % 2 = 1
                    · have hb1 : (V % 2 == 1) = true := by simpa using hodd
                      have hz : zag V = -(V / 2) - 1 := by rw [zag, if_pos hodd]
                      have HZ2 := Lib.hid (Q2.out.trans hz)
                      clear hodd hz
                      go_wp2
                      go_ret
                      exact XIntPost.fin Q1.out HZ2.out Q3.out HX8.out HO7.out
                    · have hb1 : (V % 2 == 1) = false := by simpa using hodd
                      have hz : zag V = V / 2 := by rw [zag, if_neg hodd]
                      have HZ2 := Lib.hid (Q2.out.trans hz)
                      clear hodd hz
                      go_wp2
                      go_ret
                      exact XIntPost.fin Q1.out HZ2.out Q3.out HX8.out HO7.out
                · have hk1 := hkd1 hk0
                  have hk2 := hkd2 hk0
                  have hk3 : k ≤ 0 := by omega
                  clear hkd1 hkd2 hk0
                  go_upto_region 15 with (fail)
                  rw [BV.out]
                  obtain ⟨V, hV⟩ : ∃ V, V = (U : Int) + b % 128 * 128 ^ k := ⟨_, rfl⟩
                  rw [← hV] at Q2 Q4 ⊢
                  have hV0 : 0 ≤ V := Q4.out.1
                  have hpos : P + (k + 1) = p + 1 := by have := HPK.out; omega
                  have ha := odd_val V Q4.out.1 Q4.out.2
                  have hv1 : wrap64 (V / 2) = V / 2 := unfold_even' V Q4.out
                  have hv2 : wrap64 (-1 - V / 2) = -(V / 2) - 1 := by have := Q4.out.2; unfold wrap64; omega
                  have HX8 : Hid (Rx w7 x (some ad) n c B (P + (k + 1)) 0) := by rw [hpos]; exact HX7.out
                  clear hV hpos
                  by_cases hodd : V % 2 = 1
                  · have hb1 : (V % 2 == 1) = true := by simpa using hodd
                    have hz : zag V = -(V / 2) - 1 := by rw [zag, if_pos hodd]
                    have HZ2 := Lib.hid (Q2.out.trans hz)
                    clear hodd hz
                    go_wp2
                    go_ret
                    exact XIntPost.fin Q1.out HZ2.out Q3.out HX8.out HO7.out
                  · have hb1 : (V % 2 == 1) = false := by simpa using hodd
                    have hz : zag V = V / 2 := by rw [zag, if_neg hodd]
                    have HZ2 := Lib.hid (Q2.out.trans hz)
                    clear hodd hz
                    go_wp2
                    go_ret
                    exact XIntPost.fin Q1.out HZ2.out Q3.out HX8.out HO7.out
          · by_cases hz : b = 0 ∧ 0 < k
            · obtain ⟨hz1, hz⟩ := hz
              have zb : (b == 0) = true := by simpa using hz1
              have HNb := Lib.hid (hrest.out.bad hk HDL.out (.inr ⟨by rw [HC.out]; exact hz1, hz⟩)).1
              clear hz1
              go_wp2
              go_ret
              have h8 := HX7.out.setErr 10
              exact XIntPost.bad HNb.out (by decide) h8.1 (HO7.out.trans h8.2)
            · have hzc : (b == 0) = false ∨ ((b == 0) = true ∧ k = 0) := by
                by_cases h0 : b = 0
                · exact .inr ⟨by simpa using h0, by omega⟩
                · exact .inl (by simpa using h0)
              have HZ := Lib.hid hz
              clear hz
              by_cases h128 : 128 ≤ b
              · obtain ⟨h10, hr⟩ := hrest.out.go hk HDL.out (by rw [HC.out]; exact HY.out) HN.out (by rw [HC.out]; exact h128)
                rw [HC.out] at hr
                have HR := Lib.hid hr
                clear hr
                have hkd1 : k = 0 → decide ((0 : Int) < (k : Int)) = false := fun h => by simp; omega
                have hkd2 : k = 0 → decide (0 < k) = false := fun h => by simp; omega
                rcases hzc with zb | ⟨zb, hk0⟩
                · clear hkd1 hkd2
                  have hkk : (decide ((0 : Int) < (k : Int)) = true ∧ decide (0 < k) = true ∧ 0 < k) ∨ (decide ((0 : Int) < (k : Int)) = false ∧ decide (0 < k) = false ∧ k ≤ 0) := by
                    rcases Nat.eq_zero_or_pos k with h | h
                    · exact .inr ⟨by simp; omega, by simp; omega, by omega⟩
                    · exact .inl ⟨by simp; omega, by simp; omega, h⟩
                  rcases hkk with ⟨hk1, hk2, hk3⟩ | ⟨hk1, hk2, hk3⟩
                  · go_wp2_with fail
                    have hr := HR.out
                    refine ⟨⟨k + 1, (U + b % 128 * 128 ^ k).toNat, p + 1, by go_num, ?_, h10, by have := HPK.out; omega, ?_, HX7.out, HO7.out⟩, by simp [intOf]; omega⟩
                    · rw [BV.out, Int.toNat_of_nonneg hr.2.2.2.2.1.1]
                    · rw [Int.toNat_of_nonneg hr.2.2.2.2.1.1]; exact hr
                  · go_wp2_with fail
                    have hr := HR.out
                    refine ⟨⟨k + 1, (U + b % 128 * 128 ^ k).toNat, p + 1, by go_num, ?_, h10, by have := HPK.out; omega, ?_, HX7.out, HO7.out⟩, by simp [intOf]; omega⟩
                    · rw [BV.out, Int.toNat_of_nonneg hr.2.2.2.2.1.1]
                    · rw [Int.toNat_of_nonneg hr.2.2.2.2.1.1]; exact hr
                · have hk1 := hkd1 hk0
                  have hk2 := hkd2 hk0
                  have hk3 : k ≤ 0 := by omega
                  clear hkd1 hkd2 hk0
                  go_wp2_with fail
                  have hr := HR.out
                  refine ⟨⟨k + 1, (U + b % 128 * 128 ^ k).toNat, p + 1, by go_num, ?_, h10, by have := HPK.out; omega, ?_, HX7.out, HO7.out⟩, by simp [intOf]; omega⟩
                  · rw [BV.out, Int.toNat_of_nonneg hr.2.2.2.2.1.1]
                  · rw [Int.toNat_of_nonneg hr.2.2.2.2.1.1]; exact hr
              · obtain ⟨q1, q2, q3, q4⟩ := hrest.out.fin hk HDL.out (by rw [HC.out]; exact HY.out) HN.out (by rw [HC.out]; exact h128) (by rw [HC.out]; exact HZ.out)
                rw [HC.out] at q2 q4
                have Q1 := Lib.hid q1
                have Q2 := Lib.hid q2
                have Q3 := Lib.hid q3
                have Q4 := Lib.hid q4
                clear q1 q2 q3 q4
                have hkd1 : k = 0 → decide ((0 : Int) < (k : Int)) = false := fun h => by simp; omega
                have hkd2 : k = 0 → decide (0 < k) = false := fun h => by simp; omega
                rcases hzc with zb | ⟨zb, hk0⟩
                · clear hkd1 hkd2
                  have hkk : (decide ((0 : Int) < (k : Int)) = true ∧ decide (0 < k) = true ∧ 0 < k) ∨ (decide ((0 : Int) < (k : Int)) = false ∧ decide (0 < k) = false ∧ k ≤ 0) := by
                    rcases Nat.eq_zero_or_pos k with h | h
                    · exact .inr ⟨by simp; omega, by simp; omega, by omega⟩
                    · exact .inl ⟨by simp; omega, by simp; omega, h⟩
                  rcases hkk with ⟨hk1, hk2, hk3⟩ | ⟨hk1, hk2, hk3⟩
                  · go_upto_region 15 with (fail)
                    rw [BV.out]
                    obtain ⟨V, hV⟩ : ∃ V, V = (U : Int) + b % 128 * 128 ^ k := ⟨_, rfl⟩
                    rw [← hV] at Q2 Q4 ⊢
                    have hV0 : 0 ≤ V := Q4.out.1
                    have hpos : P + (k + 1) = p + 1 := by have := HPK.out; omega
                    have ha := odd_val V Q4.out.1 Q4.out.2
                    have hv1 : wrap64 (V / 2) = V / 2 := unfold_even' V Q4.out
                    have hv2 : wrap64 (-1 - V / 2) = -(V / 2) - 1 := by have := Q4.out.2; unfold wrap64; omega
                    have HX8 : Hid (Rx w7 x (some ad) n c B (P + (k + 1)) 0) := by rw [hpos]; exact HX7.out
                    clear hV hpos
                    by_cases hodd : V % 2 = 1
                    · have hb1 : (V % 2 == 1) = true := by simpa using hodd
                      have hz : zag V = -(V / 2) - 1 := by rw [zag, if_pos hodd]
                      have HZ2 := Lib.hid (Q2.out.trans hz)
                      clear hodd hz
                      go_wp2
                      go_ret
                      exact XIntPost.fin Q1.out HZ2.out Q3.out HX8.out HO7.out
                    · have hb1 : (V % 2 == 1) = false := by simpa using hodd
                      have hz : zag V = V / 2 := by rw [zag, if_neg hodd]
                      have HZ2 := Lib.hid (Q2.out.trans hz)
                      clear hodd hz
                      go_wp2
                      go_ret
                      exact XIntPost.fin Q1.out HZ2.out Q3.out HX8.out HO7.out
                  · go_upto_region 15 with (fail)
                    rw [BV.out]
                    obtain ⟨V, hV⟩ : ∃ V, V = (U : Int) + b % 128 * 128 ^ k := ⟨_, rfl⟩
                    rw [← hV] at Q2 Q4 ⊢
                    have hV0 : 0 ≤ V := Q4.out.1
                    have hpos : P + (k + 1) = p + 1 := by have := HPK.out; omega
                    have ha := odd_val V Q4.out.1 Q4.out.2
                    have hv1 : wrap64 (V / 2) = V / 2 := unfold_even' V Q4.out
                    have hv2 : wrap64 (-1 - V / 2) = -(V / 2) - 1 := by have := Q4.out.2; unfold wrap64; omega
                    have HX8 : Hid (Rx w7 x (some ad) n c B (P + (k + 1)) 0) := by rw [hpos]; exact HX7.out
                    clear hV hpos
                    by_cases hodd : V % 2 = 1
                    · have hb1 : (V % 2 == 1) = true := by simpa using hodd
                      have hz : zag V = -(V / 2) - 1 := by rw [zag, if_pos hodd]
                      have HZ2 := Lib.hid (Q2.out.trans hz)
                      clear hodd hz
                      go_wp2
                      go_ret
                      exact XIntPost.fin Q1.out HZ2.out Q3.out HX8.out HO7.out
                    · have hb1 : (V % 2 == 1) = false := by simpa using hodd
                      have hz : zag V = V / 2 := by rw [zag, if_neg hodd]
                      have HZ2 := Lib.hid (Q2.out.trans hz)
                      clear hodd hz
                      go_wp2
                      go_ret
                      exact XIntPost.fin Q1.out HZ2.out Q3.out HX8.out HO7.out
                · have hk1 := hkd1 hk0
                  have hk2 := hkd2 hk0
                  have hk3 : k ≤ 0 := by omega
                  clear hkd1 hkd2 hk0
                  go_upto_region 15 with (fail)
                  rw [BV.out]
                  obtain ⟨V, hV⟩ : ∃ V, V = (U : Int) + b % 128 * 128 ^ k := ⟨_, rfl⟩
                  rw [← hV] at Q2 Q4 ⊢
                  have hV0 : 0 ≤ V := Q4.out.1
                  have hpos : P + (k + 1) = p + 1 := by have := HPK.out; omega
                  have ha := odd_val V Q4.out.1 Q4.out.2
                  have hv1 : wrap64 (V / 2) = V / 2 := unfold_even' V Q4.out
                  have hv2 : wrap64 (-1 - V / 2) = -(V / 2) - 1 := by have := Q4.out.2; unfold wrap64; omega
                  have HX8 : Hid (Rx w7 x (some ad) n c B (P + (k + 1)) 0) := by rw [hpos]; exact HX7.out
                  clear hV hpos
                  by_cases hodd : V % 2 = 1
                  · have hb1 : (V % 2 == 1) = true := by simpa using hodd
                    have hz : zag V = -(V / 2) - 1 := by rw [zag, if_pos hodd]
                    have HZ2 := Lib.hid (Q2.out.trans hz)
                    clear hodd hz
                    go_wp2
                    go_ret
                    exact XIntPost.fin Q1.out HZ2.out Q3.out HX8.out HO7.out
                  · have hb1 : (V % 2 == 1) = false := by simpa using hodd
                    have hz : zag V = V / 2 := by rw [zag, if_neg hodd]
                    have HZ2 := Lib.hid (Q2.out.trans hz)
                    clear hodd hz
                    go_wp2
                    go_ret
                    exact XIntPost.fin Q1.out HZ2.out Q3.out HX8.out HO7.out
  · have he2 : (E == 0) = false := by simpa using he
    have hed : decide (E = 0) = false := by simpa using he
    have HE := Lib.hid (rdInt_err he (B.drop P))
    have HNE := Lib.hid he
    have H := Lib.hid h
    clear he h hby
    go_enter Try.func23, Try.ntmps23
    go_wp2_with fail
    go_loopw [3, 4] (fun u i wr => i = .int .i64 0 ∧ u = .int .u64 0 ∧ Hid (Rx wr x a n c B P E) ∧ Hid (Only x w wr)) (fun _ _ _ => 0)
    case atStart => exact ⟨rfl, rfl, H.out, Only.refl _ _⟩
    case round =>
      obtain ⟨rfl, rfl, hrx, honly⟩ := hrel
      obtain ⟨c0, c1, c2, f0, f1, f2⟩ := hrx.out.cells
      go_wp2_with fail
      go_quiet (fail)
      go_wp2
      go_ret
      exact ⟨P, by rw [HE.out]; rfl, by rw [HE.out]; exact hrx.out.keep (below_drewN (Below.refl _ _) _), by rw [HE.out]; exact fun h => absurd h HNE.out, only_drew honly.out _⟩

end Go.Proofs.Ytlaafpfpoehonaa
