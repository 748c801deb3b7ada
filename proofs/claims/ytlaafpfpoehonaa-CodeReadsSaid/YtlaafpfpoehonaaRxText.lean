/- P102: the chapter said a second time: its reader's Text. -/
import Derived.Test.YtlaafpfpoehonaaRxInt
import Derived.Test.YtlaafpfpoehonaaHash
namespace Go.Proofs.Ytlaafpfpoehonaa
open Go.RowKit Num
set_option linter.unusedVariables false
set_option linter.unusedSimpArgs false

/-- append of any slice of bytes, of none too, as a step of a region that draws its order -/
theorem step_append_opt {P : Program} {ops : Array Oper} {o : Oper} {a : Act} {w : World} {K : Act → World → Prop} {Q : Exit → Act → World → Prop} {E : Prop}
    (hg : o.guard = none) (s x : Operand) (t : TypeId) (ho : o.op = Op.call { callee := Callee.builtin Builtin.append, args := #[s, x], argTypes := #[t, t] })
    (base : Nat) (e : TypeId) (i : TypeInfo) (ht : P.underlying t = some (.slice e)) (hi : P.info? e = some i) (hz : i.zero = some (.int .u8 0)) (hsize : i.size = 1) (hby : i.bytes = 1)
    (v : Value) (n : Nat) (xs : List Int) (hs : a.eval s = v) (hown : w.ownsRow base e 1 v n (bts xs)) (ao : Option Addr) (m c : Nat) (ys : List Int) (hx : a.eval x = .slice ao m c)
    (hr : Reads w ao m ys) (hnil : ao = none → m = 0 ∧ c = 0) (hn : n + m ≤ 10000000) (hbase : base ≤ w.heap.size)
    (h : ∀ v' w', w'.ownsRow base e 1 v' (n + m) (bts (xs ++ ys)) → w.grownBy w' v.ownBlock → K (a.put o.dst v') w') :
    if Region.wanted o (yielded ops a.tmps) = true then Oper.wp P o a w K Q else E := by
  cases ao with
  | some ad => exact step_append_reads hg s x t ho base e i ht hi hz hsize hby v n xs hs hown ad m c ys hx hr hn hbase h
  | none =>
    have hw : Region.wanted o (yielded ops a.tmps) = true := by simp [Region.wanted, hg]
    rw [if_pos hw]
    obtain ⟨rfl, rfl⟩ := hnil rfl
    have hy : ys = [] := List.eq_nil_of_length_eq_zero hr.1
    subst hy
    have hrun := run_append_owned_none (P := P) w base t o.type e i 1 ht hi v n (bts xs) hown
    unfold Oper.wp
    simp [execOp, ho, resolve, invoke, builtin, hs, hx, hrun, Result.andThen, Oper.upon]
    exact (by simpa using h v w (by simpa using hown) ⟨rfl, rfl, rfl, Nat.le_refl _, fun _ _ _ => rfl⟩)

/-- what the second reader's Text leaves -/
def XTextPost (x : Nat) (a : Option Addr) (n c : Nat) (B : List Int) (P : Nat) (E : Int) (w : World) (y : Ending) (w' : World) : Prop :=
  ∃ P' a' c', y = .returned (.slice a' (rdText E (B.drop P)).2.2.length c') ∧ Reads w' a' (rdText E (B.drop P)).2.2.length (rdText E (B.drop P)).2.2 ∧
    Rx w' x a n c B P' (rdText E (B.drop P)).1 ∧ ((rdText E (B.drop P)).1 = 0 → B.drop P' = (rdText E (B.drop P)).2.1) ∧ Only x w w'

theorem XTextPost.bad {x : Nat} {a : Option Addr} {n c : Nat} {B l : List Int} {P P' : Nat} {E d : Int} {w w' : World} (h : rdText E (B.drop P) = (d, l, [])) (hd : d ≠ 0) (hr : Rx w' x a n c B P' d) (ho : Only x w w') :
    XTextPost x a n c B P E w (.returned (.slice none 0 0)) w' := by
  unfold XTextPost
  rw [h]
  exact ⟨P', none, 0, rfl, reads_nil _, hr, fun h => absurd h hd, ho⟩

theorem XTextPost.fin {x : Nat} {a a' : Option Addr} {n c c' m : Nat} {B l t : List Int} {P P' : Nat} {E : Int} {w w' : World} (h : rdText E (B.drop P) = (0, l, t)) (hm : t.length = m) (ht : Reads w' a' m t) (hr : Rx w' x a n c B P' 0) (hl : B.drop P' = l) (ho : Only x w w') :
    XTextPost x a n c B P E w (.returned (.slice a' m c')) w' := by
  unfold XTextPost
  rw [h]
  subst hm
  exact ⟨P', a', c', rfl, ht, hr, fun _ => hl, ho⟩

/-- Text, by Int -/
theorem rdText_bad {E : Int} {bs : List Int} (h : (rdInt E bs).1 ≠ 0) : ∃ l, rdText E bs = ((rdInt E bs).1, l, []) := by
  by_cases he : E = 0
  · subst he
    unfold rdInt at h ⊢
    rw [if_neg (by simp)] at h ⊢
    by_cases hn : (num 10 0 0 bs).1 = 0
    · rw [if_pos hn] at h; exact absurd rfl h
    · rw [if_neg hn]
      have ht : txt bs = ((num 10 0 0 bs).1, [], (num 10 0 0 bs).2.2) := by unfold txt; rw [if_pos hn]
      unfold rdText
      rw [if_neg (by simp), ht, if_neg hn]
      exact ⟨_, rfl⟩
  · rw [rdText_err he, rdInt_err he]; exact ⟨_, rfl⟩

theorem rdInt_zero {E : Int} {bs : List Int} (h : (rdInt E bs).1 = 0) : E = 0 ∧ (num 10 0 0 bs).1 = 0 ∧ (rdInt E bs).2.2 = (num 10 0 0 bs).2.1 ∧ (rdInt E bs).2.1 = bs.drop (num 10 0 0 bs).2.2 := by
  by_cases he : E = 0
  · subst he
    unfold rdInt at h ⊢
    rw [if_neg (by simp)] at h ⊢
    by_cases hn : (num 10 0 0 bs).1 = 0
    · rw [if_pos hn]; exact ⟨rfl, hn, rfl, rfl⟩
    · rw [if_neg hn] at h; exact absurd h hn
  · rw [rdInt_err he] at h; exact absurd h he

theorem rdText_many {E : Int} {bs : List Int} (h : (rdInt E bs).1 = 0) (hv : (rdInt E bs).2.2 < 0 ∨ 65535 < (rdInt E bs).2.2) : ∃ l, rdText E bs = (4, l, []) := by
  obtain ⟨rfl, h1, h2, h3⟩ := rdInt_zero h
  rw [h2] at hv
  have ht : txt bs = (4, [], (num 10 0 0 bs).2.2) := by unfold txt; rw [if_neg (by simpa using h1), if_pos hv]
  unfold rdText
  rw [if_neg (by simp), ht, if_neg (by omega)]
  exact ⟨_, rfl⟩

theorem rdText_cut {E : Int} {bs : List Int} (h : (rdInt E bs).1 = 0) (v : Nat) (hv : (rdInt E bs).2.2 = (v : Int)) (hm : v ≤ 65535) (hl : (rdInt E bs).2.1.length < v) : ∃ l, rdText E bs = (8, l, []) := by
  obtain ⟨rfl, h1, h2, h3⟩ := rdInt_zero h
  rw [h2] at hv
  rw [h3] at hl
  have ht : txt bs = (8, [], (num 10 0 0 bs).2.2) := by unfold txt; rw [if_neg (by simpa using h1), if_neg (by omega), if_pos (by rw [hv]; simpa using hl)]
  unfold rdText
  rw [if_neg (by simp), ht, if_neg (by omega)]
  exact ⟨_, rfl⟩

theorem rdText_fin {E : Int} {bs : List Int} (h : (rdInt E bs).1 = 0) (v : Nat) (hv : (rdInt E bs).2.2 = (v : Int)) (hm : v ≤ 65535) (hl : v ≤ (rdInt E bs).2.1.length) : rdText E bs = (0, (rdInt E bs).2.1.drop v, (rdInt E bs).2.1.take v) := by
  obtain ⟨rfl, h1, h2, h3⟩ := rdInt_zero h
  rw [h2] at hv
  rw [h3] at hl ⊢
  have ht : txt bs = (0, (bs.drop (num 10 0 0 bs).2.2).take v, (num 10 0 0 bs).2.2 + v) := by
    unfold txt
    rw [if_neg (by simpa using h1), if_neg (by omega), if_neg (by rw [hv]; simpa using hl), hv]
    simp
  unfold rdText
  rw [if_neg (by simp), ht, if_pos rfl, List.drop_drop]

theorem slice_reads {W : World} {a : Option Addr} {n c P1 v : Nat} {B : List Int} (h : Reads W a n B) (hnil : a = none → n = 0 ∧ c = 0) (hv : P1 + v ≤ n) (hc : n ≤ c) :
    Reads W (if c = P1 then a else Option.map (fun x => x.add P1) a) v ((B.drop P1).take v) ∧ ((if c = P1 then a else Option.map (fun x => x.add P1) a) = none → v = 0 ∧ c - P1 = 0) := by
  refine ⟨⟨by rw [List.length_take, List.length_drop, h.1]; omega, fun hp => ?_⟩, fun hn => ?_⟩
  · rw [if_neg (by omega)]
    obtain ⟨ad, h1, h2⟩ := h.2 (by omega)
    refine ⟨ad.add P1, by rw [h1]; rfl, fun j u hj => ?_⟩
    rw [Addr.add_add]
    refine h2 (P1 + j) u ?_
    have hjl := (List.getElem?_eq_some_iff.1 hj).1
    rw [bts_length, List.length_take, List.length_drop, h.1] at hjl
    have e : bts ((B.drop P1).take v) = ((bts B).drop P1).take v := by simp [bts, List.map_take, List.map_drop]
    rw [e, List.getElem?_take, if_pos (by omega), List.getElem?_drop] at hj
    exact hj
  · by_cases hcp : c = P1
    · exact ⟨by omega, by omega⟩
    · rw [if_neg hcp] at hn
      cases a with
      | none => have := hnil rfl; omega
      | some ad => simp at hn

set_option maxRecDepth 100000 in
set_option maxHeartbeats 4000000 in
theorem xtext_any (x : Nat) (a : Option Addr) (n c : Nat) (B : List Int) (P : Nat) (E : Int) (w : World) (h : Rx w x a n c B P E) (hby : ∀ c ∈ B, Byte c) (hnil : a = none → n = 0 ∧ c = 0) :
    Calls Try.prog 25 #[.pointer (some ⟨x, 0, none⟩)] w (XTextPost x a n c B P E w) := by
  obtain ⟨i0, hi, hz0, hz1, hz2⟩ := info_parts Try.infoByte
  have H := Lib.hid h
  have HB := Lib.hid hby
  have HNIL := Lib.hid hnil
  have hn := h.small
  have hc := h.room
  have hm := h.most
  unfold maxLen at hm
  clear h hby hnil
  go_enter Try.func25, Try.ntmps25
  go_wp2_with fail
  refine (xint_any x a n c B P E _ H.out HB.out).mono ?_
  rintro y w1 ⟨P1, rfl, hrx, hdrop, honly⟩
  have HRX := Lib.hid hrx
  have HO := Lib.hid honly
  have HDR := Lib.hid hdrop
  obtain ⟨c0, c1, c2, f0, f1, f2⟩ := hrx.cells
  have hle := hrx.le
  clear hdrop honly
  by_cases hE1 : (rdInt E (B.drop P)).1 = 0
  · have hV := rdInt_zero hE1
    have HE1 := Lib.hid hE1
    rw [hE1] at c2 hrx
    by_cases hmany : (rdInt E (B.drop P)).2.2 < 0 ∨ 65535 < (rdInt E (B.drop P)).2.2
    · obtain ⟨l, hl⟩ := rdText_many hE1 hmany
      have HL := Lib.hid hl
      obtain ⟨V, hVV⟩ : ∃ V, V = (rdInt E (B.drop P)).2.2 := ⟨_, rfl⟩
      rw [← hVV] at hmany ⊢
      have HX := Lib.hid hrx
      have hcase : (decide (V < 0) = true ∧ V < 0) ∨ (decide (V < 0) = false ∧ decide (65535 < V) = true ∧ 65535 < V) := by
        by_cases h0 : V < 0
        · exact .inl ⟨by simpa using h0, h0⟩
        · exact .inr ⟨by simpa using h0, by simp; omega, by omega⟩
      clear hl hV hE1 hrx hmany hVV HE1
      have hbad : ∀ nq : Nat, ∀ nk : Nat, Rx (((w1.setCell ⟨x, 2, none⟩ (.int .i64 4)).drewN nq).drewN nk) x a n c B P1 4 ∧ Only x w (((w1.setCell ⟨x, 2, none⟩ (.int .i64 4)).drewN nq).drewN nk) := fun nq nk => by
        have h8 := HX.out.setErr 4
        exact ⟨(h8.1.keep (below_drewN (Below.refl _ _) _)).keep (below_drewN (Below.refl _ _) _), only_drew (only_drew (HO.out.trans h8.2) _) _⟩
      have HBAD := Lib.hid hbad
      clear hbad
      rcases hcase with ⟨k1, k2⟩ | ⟨k1, k2, k3⟩
      all_goals
        go_wp2_with fail
        go_quiet (fail)
        go_wp2
        go_ret
        exact XTextPost.bad HL.out (by decide) (HBAD.out nq 0).1 (HBAD.out nq 0).2
    · have hv0 : 0 ≤ (rdInt E (B.drop P)).2.2 := by omega
      obtain ⟨v, hv⟩ := Int.eq_ofNat_of_zero_le hv0
      have hvm : v ≤ 65535 := by omega
      have hl1 : (rdInt E (B.drop P)).2.1.length = n - P1 := by rw [← HDR.out hE1, List.length_drop, hrx.reads.1]
      rw [hv]
      have k1 : decide ((v : Int) < 0) = false := by simp
      have k2 : decide (65535 < (v : Int)) = false := by simp; omega
      by_cases hcut : n - P1 < v
      · obtain ⟨l, hl⟩ := rdText_cut hE1 v hv hvm (by rw [hl1]; exact hcut)
        have HL := Lib.hid hl
        have HX := Lib.hid hrx
        have k3 : decide ((n : Int) - (P1 : Int) < (v : Int)) = true := by simp; omega
        clear hl hV hE1 hrx hmany hv HE1 hv0 hl1
        go_wp2_with fail
        go_quiet (fail)
        go_wp2
        go_ret
        have h8 := (HX.out.keep (below_drewN (Below.refl _ _) nq)).setErr 8
        exact XTextPost.bad HL.out (by decide) h8.1 ((only_drew HO.out nq).trans h8.2)
      · have k3 : decide ((n : Int) - (P1 : Int) < (v : Int)) = false := by simp; omega
        have hpv : P1 + v ≤ n := by omega
        have HF := Lib.hid (rdText_fin hE1 v hv hvm (by rw [hl1]; omega))
        have HDQ := Lib.hid (HDR.out hE1)
        have HX := Lib.hid hrx
        clear hV hE1 hrx hmany hv HE1 hv0 hl1 hcut
        go_wp2_with fail
        go_quiet (fail)
        go_upto_region 9 with (fail)
        have h9 : Rx ((w1.drewN nq).setCell ⟨x, 1, none⟩ (.int .i64 ((P1 : Int) + (v : Int)))) x a n c B (P1 + v) 0 ∧ Only x w ((w1.drewN nq).setCell ⟨x, 1, none⟩ (.int .i64 ((P1 : Int) + (v : Int)))) := by
          have h8 := (HX.out.keep (below_drewN (Below.refl _ _) nq)).setPos (P1 + v) hpv
          exact ⟨h8.1, (only_drew HO.out nq).trans h8.2⟩
        generalize World.setCell _ _ _ = W at *
        obtain ⟨q, hq⟩ : ∃ q, q = P1 + v := ⟨_, rfl⟩
        rw [← hq] at h9 hpv
        have HQ := Lib.hid hq
        have HX9 := Lib.hid h9.1
        have HO9 := Lib.hid h9.2
        obtain ⟨d0, d1, d2, g0, g1, g2⟩ := h9.1.cells
        have hs1 : (q : Int) - (v : Int) = (P1 : Int) := by omega
        have hs2 : (q : Int) - (P1 : Int) = (v : Int) := by omega
        have hs3 : q - P1 = v := by omega
        have hs4 : P1 ≤ q := by omega
        have hs5 : q ≤ c := by omega
        have HC9 := Lib.hid hle
        have hwr : IntKind.i64.wrap (P1 : Int) = (P1 : Int) := by rw [IntKind.wrap_i64]; omega
        clear h9 hq c0 c1 c2 f0 f1 f2 k1 k2 k3
        have HM := Lib.hid (World.ownsRow_made (base := W.heap.size) (e := 5) (size := 1) W.drew #[] 0 (Nat.le_refl _) (by unfold maxLen; omega) rfl)
        have hR : W.drew.cell? ⟨x, 0, none⟩ = some (.slice a n c) ∧ W.drew.cell? ⟨x, 1, none⟩ = some (.int .i64 (q : Int)) := ⟨d0, d1⟩
        have hR2 : (W.drew.alloc (.cells #[] 5)).cell? ⟨x, 0, none⟩ = some (.slice a n c) ∧ (W.drew.alloc (.cells #[] 5)).cell? ⟨x, 1, none⟩ = some (.int .i64 (q : Int)) := by
          have hb : Below W.drew.heap.size W.drew (W.drew.alloc (.cells #[] 5)) := (Below.refl _ _).alloc (Nat.le_refl _) _
          exact ⟨by rw [hb.cell (World.block_lt_of_cell? _ _ hR.1)]; exact hR.1, by rw [hb.cell (World.block_lt_of_cell? _ _ hR.2)]; exact hR.2⟩
        refine anyS_start (by kernel_rfl) ?_
        (refine anyS_free (i := 1) (v := ?_) rfl (by kernel_rfl) (by kernel_rfl) (by kernel_rfl) (fun _ _ _ h => h) (fun _ => by simp) (Or.inl ⟨by rfl, fun w' _ => ?_⟩) ?_; rotate_left; (· go_simp; try with_reducible rfl))
        try simp only [Act.put, List.setIfInBounds_toArray, List.set_cons_zero, List.set_cons_succ]
        (refine anyS_free (i := 2) (v := ?_) rfl (by kernel_rfl) (by kernel_rfl) (by kernel_rfl) (fun _ _ _ h => h) (fun _ => by simp) (Or.inl ⟨by rfl, fun w' _ => ?_⟩) ?_; rotate_left; (· go_simp; try with_reducible rfl))
        try simp only [Act.put, List.setIfInBounds_toArray, List.set_cons_zero, List.set_cons_succ]
        (refine anyS_free (i := 3) (v := ?_) rfl (by kernel_rfl) (by kernel_rfl) (by kernel_rfl) (fun _ _ _ h => h) (fun _ => by simp) (Or.inl ⟨by rfl, fun w' _ => ?_⟩) ?_; rotate_left; (· go_simp; try with_reducible rfl))
        try simp only [Act.put, List.setIfInBounds_toArray, List.set_cons_zero, List.set_cons_succ]
        (refine anyS_free (i := 5) (v := ?_) rfl (by kernel_rfl) (by kernel_rfl) (by kernel_rfl) (fun _ _ _ h => h) (fun _ => by simp) (Or.inl ⟨by rfl, fun w' _ => ?_⟩) ?_; rotate_left; (· go_simp; try with_reducible rfl))
        try simp only [Act.put, List.setIfInBounds_toArray, List.set_cons_zero, List.set_cons_succ]
        (refine anyS_free (i := 6) (v := ?_) rfl (by kernel_rfl) (by kernel_rfl) (by kernel_rfl) (fun _ _ _ h => h) (fun _ => by simp) (Or.inl ⟨by rfl, fun w' _ => ?_⟩) ?_; rotate_left; (· go_simp; try with_reducible rfl))
        try simp only [Act.put, List.setIfInBounds_toArray, List.set_cons_zero, List.set_cons_succ]
        (refine anyS_free (i := 7) (v := ?_) rfl (by kernel_rfl) (by kernel_rfl) (by kernel_rfl) (fun _ _ _ h => h) (fun _ => by simp) (Or.inl ⟨by rfl, fun w' _ => ?_⟩) ?_; rotate_left; (· go_simp; try with_reducible rfl))
        try simp only [Act.put, List.setIfInBounds_toArray, List.set_cons_zero, List.set_cons_succ]
        (refine anyS_free (i := 9) (v := ?_) rfl (by kernel_rfl) (by kernel_rfl) (by kernel_rfl) (fun _ _ _ h => h) (fun _ => by simp) (Or.inl ⟨by rfl, fun w' _ => ?_⟩) ?_; rotate_left; (· go_simp; try with_reducible rfl))
        try simp only [Act.put, List.setIfInBounds_toArray, List.set_cons_zero, List.set_cons_succ]
        (refine anyS_free (i := 11) (v := ?_) rfl (by kernel_rfl) (by kernel_rfl) (by kernel_rfl) (fun _ _ _ h => h) (fun _ => by simp) (Or.inl ⟨by rfl, fun w' _ => ?_⟩) ?_; rotate_left; (· go_simp; try with_reducible rfl))
        try simp only [Act.put, List.setIfInBounds_toArray, List.set_cons_zero, List.set_cons_succ]
        (refine anyS_free (i := 12) (v := ?_) rfl (by kernel_rfl) (by kernel_rfl) (by kernel_rfl) (fun _ _ _ h => h) (fun _ => by simp) (Or.inl ⟨by rfl, fun w' _ => ?_⟩) ?_; rotate_left; (· go_simp; try with_reducible rfl))
        try simp only [Act.put, List.setIfInBounds_toArray, List.set_cons_zero, List.set_cons_succ]
        (refine anyS_free (i := 13) (v := ?_) rfl (by kernel_rfl) (by kernel_rfl) (by kernel_rfl) (fun _ _ _ h => h) (fun _ => by simp) (Or.inl ⟨by rfl, fun w' _ => ?_⟩) ?_; rotate_left; (· go_simp; try with_reducible rfl))
        try simp only [Act.put, List.setIfInBounds_toArray, List.set_cons_zero, List.set_cons_succ]
        (refine anyS_takeNew (fun w' => w'.cell? ⟨x, 0, none⟩ = some (.slice a n c) ∧ w'.cell? ⟨x, 1, none⟩ = some (.int .i64 (q : Int))) [0, 4, 14] (i := 8) (v := ?_) hR rfl (by kernel_rfl) (by kernel_rfl) (by kernel_rfl) (by kernel_rfl) (fun _ _ _ h => h) (fun _ _ => by simp_all) (Or.inl ⟨by rfl, fun w' hw' => ?_⟩) ?_; rotate_left; (· (obtain ⟨q0, q1⟩ := hw'; go_simp; try with_reducible rfl)))
        try simp only [Act.put, List.setIfInBounds_toArray, List.set_cons_zero, List.set_cons_succ]
        (refine anyS_free (i := 10) (v := ?_) rfl (by kernel_rfl) (by kernel_rfl) (by kernel_rfl) (fun _ _ _ h => h) (fun _ => by simp) (Or.inl ⟨by rfl, fun w' _ => ?_⟩) ?_; rotate_left; (· go_simp; try with_reducible rfl))
        try simp only [Act.put, List.setIfInBounds_toArray, List.set_cons_zero, List.set_cons_succ]
        (refine anyS_takeNew (fun w' => w'.cell? ⟨x, 0, none⟩ = some (.slice a n c) ∧ w'.cell? ⟨x, 1, none⟩ = some (.int .i64 (q : Int))) [0, 14] (i := 4) (v := ?_) hR rfl (by kernel_rfl) (by kernel_rfl) (by kernel_rfl) (by kernel_rfl) (fun _ _ _ h => h) (fun _ _ => by simp_all) (Or.inl ⟨by rfl, fun w' hw' => ?_⟩) ?_; rotate_left; (· (obtain ⟨q0, q1⟩ := hw'; go_simp; try with_reducible rfl)))
        try simp only [Act.put, List.setIfInBounds_toArray, List.set_cons_zero, List.set_cons_succ]
        (refine anyS_takeNew (fun w' => w'.cell? ⟨x, 0, none⟩ = some (.slice a n c) ∧ w'.cell? ⟨x, 1, none⟩ = some (.int .i64 (q : Int))) [0] (i := 14) (v := ?_) hR rfl (by kernel_rfl) (by kernel_rfl) (by kernel_rfl) (by kernel_rfl) (fun _ _ _ h => h) (fun _ _ => by simp_all) (Or.inl ⟨by rfl, fun w' hw' => ?_⟩) ?_; rotate_left; (· (obtain ⟨q0, q1⟩ := hw'; go_simp; try with_reducible rfl)))
        try simp only [Act.put, List.setIfInBounds_toArray, List.set_cons_zero, List.set_cons_succ]
        (refine anyS_free (i := 15) (v := ?_) rfl (by kernel_rfl) (by kernel_rfl) (by kernel_rfl) (fun _ _ _ h => h) (fun _ => by simp) (Or.inl ⟨by rfl, fun w' _ => ?_⟩) ?_; rotate_left; (· go_simp; try with_reducible rfl))
        try simp only [Act.put, List.setIfInBounds_toArray, List.set_cons_zero, List.set_cons_succ]
        have hsr := slice_reads (HX9.out.reads) HNIL.out (v := v) (P1 := P1) (by omega) hc
        obtain ⟨ao, hao⟩ : ∃ ao, ao = (if c = P1 then a else Option.map (fun x => x.add P1) a) := ⟨_, rfl⟩
        rw [← hao] at hsr ⊢
        have HRV : Hid (Reads (W.drew.alloc (.cells #[] 5)) ao v ((B.drop P1).take v)) := (hsr.1.below (Below.refl _ _).drew).below ((Below.refl _ _).alloc (Nat.le_refl _) _)
        have HNO := Lib.hid hsr.2
        clear hsr hao
        refine anyS_one 0 (by kernel_rfl) rfl (fun K hK => ?_)
        go_simp
        skip
        refine hK.out _ _ (by simp; exact hR2) ?_
        clear hK K
        try simp only [Act.put, List.setIfInBounds_toArray, List.set_cons_zero, List.set_cons_succ]
        refine anyS_one 16 (by kernel_rfl) rfl (fun K hK => ?_)
        refine step_append_opt rfl _ _ 22 rfl W.heap.size 5 i0 Try.underlying22 hi hz0 hz1 hz2 _ 0 [] rfl HM.out ao v (c - P1) ((B.drop P1).take v) rfl HRV.out HNO.out (by omega) (by simp) ?_
        intro v5 w5 ho5 hg5
        refine hK.out _ _ (by simp) ?_
        clear hK K
        simp only [Nat.zero_add, List.nil_append] at ho5
        have hb5 : Below W.heap.size W w5 := (((Below.refl _ _).drew).alloc (Nat.le_refl _) (.cells #[] 5)).grown hg5 (by simp) (fun k hk => (HM.out.lt k hk).1)
        obtain ⟨a5, c5, rfl, hr5⟩ := owned_val ho5
        try simp only [Act.put, List.setIfInBounds_toArray, List.set_cons_zero, List.set_cons_succ]
        (refine anyS_free (i := 17) (v := ?_) rfl (by kernel_rfl) (by kernel_rfl) (by kernel_rfl) (fun _ _ _ h => h) (fun _ => by simp) (Or.inl ⟨by rfl, fun w' _ => ?_⟩) ?_; rotate_left; (· go_simp; try with_reducible rfl))
        try simp only [Act.put, List.setIfInBounds_toArray, List.set_cons_zero, List.set_cons_succ]
        refine anyS_done (by kernel_rfl) ?_ _
        refine NoPanic.normal ?_
        go_wp2
        go_ret
        refine XTextPost.fin HF.out (by rw [← HDQ.out]; exact hr5.1) (by rw [← HDQ.out]; exact hr5) (HX9.out.keep hb5) ?_ (HO9.out.trans (.of_below hb5))
        rw [← HDQ.out, List.drop_drop, ← HQ.out]
  · obtain ⟨l, hl⟩ := rdText_bad hE1
    have HL := Lib.hid hl
    have HNE := Lib.hid hE1
    obtain ⟨V, hVV⟩ : ∃ V, V = (rdInt E (B.drop P)).2.2 := ⟨_, rfl⟩
    rw [← hVV]
    obtain ⟨E1, hEE⟩ : ∃ E1, E1 = (rdInt E (B.drop P)).1 := ⟨_, rfl⟩
    rw [← hEE] at c2 hE1 HNE HL HRX
    have he2 : (E1 == 0) = false := by simpa using hE1
    have hed : decide (E1 = 0) = false := by simpa using hE1
    clear hl hrx hVV hEE hE1
    go_wp2_with fail
    go_quiet (fail)
    go_wp2
    go_ret
    exact XTextPost.bad HL.out HNE.out (HRX.out.keep (below_drewN (Below.refl _ _) _)) (only_drew HO.out _)

end Go.Proofs.Ytlaafpfpoehonaa
