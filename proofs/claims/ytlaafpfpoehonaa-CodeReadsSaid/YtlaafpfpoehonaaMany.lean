/- P102: bytes that say they are more than may be, or fewer than none, are refused as soon as that is read: the walk of CodeMany. -/
import Derived.Test.YtlaafpfpoehonaaNew
namespace Go.Proofs.Ytlaafpfpoehonaa
open Go.RowKit Num
set_option linter.unusedVariables false
set_option linter.unusedSimpArgs false

/-- append of any slice of bytes to what the call owns -/
theorem wpList_append_reads {P : Program} {w : World} {ops : Array Oper} {rest : List Oper} {o : Oper} {a : Act} {Q : Exit → Act → World → Prop} (hgd : o.guard = none) (s x : Operand) (t : TypeId)
    (ho : o.op = .call { callee := .builtin .append, args := #[s, x], argTypes := #[t, t] })
    (base : Nat) (e : TypeId) (i : TypeInfo) (ht : P.underlying t = some (.slice e)) (hi : P.info? e = some i) (hz : i.zero = some (.int .u8 0)) (hsize : i.size = 1) (hby : i.bytes = 1)
    (v : Value) (n : Nat) (xs : List Int) (hs : a.eval s = v) (hown : w.ownsRow base e 1 v n (bts xs)) (ao : Option Addr) (m c : Nat) (ys : List Int) (hx : a.eval x = .slice ao m c)
    (hr : Reads w ao m ys) (hnil : ao = none → m = 0 ∧ c = 0) (hn : n + m ≤ 10000000) (hbase : base ≤ w.heap.size)
    (h : ∀ v' w', w'.ownsRow base e 1 v' (n + m) (bts (xs ++ ys)) → w.grownBy w' v.ownBlock → wpList P ops Q rest (a.put o.dst v') w') : wpList P ops Q (o :: rest) a w := by
  cases ao with
  | none =>
    obtain ⟨rfl, rfl⟩ := hnil rfl
    have hy : ys = [] := List.eq_nil_of_length_eq_zero hr.1
    subst hy
    refine wpList_plain hgd fun K hK' => ?_
    have hrun := run_append_owned_none (P := P) w base t o.type e i 1 ht hi v n (bts xs) hown
    unfold Oper.wp
    simp [execOp, ho, resolve, invoke, builtin, hs, hx, hrun, Result.andThen]
    exact hK' _ _ (by simpa using h v w (by simpa using hown) ⟨rfl, rfl, rfl, Nat.le_refl _, fun _ _ _ => rfl⟩)
  | some ad =>
    refine wpList_append_own w hgd s x t ho base e i (.int .u8 0) 1 1 ht hi hz hsize hby rfl (by decide) v n (bts xs) hs hown ad m c (bts ys) hx (by rw [bts_length, hr.1]; omega) ?_ (bts_one _) (by unfold maxLen; omega) (by omega) hbase ?_
    · intro j u hj
      have hjl := (List.getElem?_eq_some_iff.1 hj).1
      rw [bts_length, hr.1] at hjl
      obtain ⟨ad', h1, h2⟩ := hr.2 (by omega)
      obtain rfl := Option.some.inj h1
      exact h2 j u hj
    · intro v' w' h1 h2 _
      exact h v' w' (by rw [bts_append]; exact h1) h2

theorem enc_bytes {n : Int} (h : I64 n) : ∀ c ∈ enc n, Byte c := sev_bytes 9 _ (zig_bd h.1 h.2).1 (zig_pow h)

theorem rd_many {n : Int} {l : List Int} (h : I64 n) (hn : n < 0 ∨ 65535 < n) : (rdText 0 (enc n ++ l)).1 = 4 ∧ (rdText 0 (enc n ++ l)).2.2 = [] := by
  have e := num_enc n l h.1 h.2
  have t : txt (enc n ++ l) = (4, [], (enc n).length) := by
    unfold txt
    rw [e]
    simp only [ne_eq, not_true_eq_false, if_false]
    rw [if_pos hn]
  unfold rdText
  rw [t]
  simp

set_option maxRecDepth 100000 in
set_option maxHeartbeats 1000000 in
theorem many_any (a0 : Int) (a1 : Option Addr) (len1 cap1 : Nat) (z1 : List Int) (w : World) (h0 : I64 a0) (h1 : Came w a1 len1 cap1 z1) :
    Calls Try.prog 10 #[.int .i64 a0, .slice a1 len1 cap1] w fun e w' => e = .returned (.bool true) ∧ Below w.heap.size w w' := by
  have H0 := Lib.hid h0
  have H1 := Lib.hid h1
  obtain ⟨b1, b2⟩ := h0
  obtain ⟨i0, hi, hz0, hz1, hz2⟩ := info_parts Try.infoByte
  clear h1
  go_enter Try.func10, Try.ntmps10
  go_wp2_with fail
  refine (known_any _).mono ?_
  rintro e w1 ⟨rfl, hb1⟩
  have HB1 := Lib.hid hb1
  clear hb1
  by_cases hl : 50 < len1
  · go_wp2
    go_ret
    exact ⟨rfl, HB1.out⟩
  · have hcase : (0 ≤ a0 ∧ a0 ≤ 65535) ∨ (0 ≤ a0 ∧ 65535 < a0) ∨ a0 < 0 := by omega
    rcases hcase with ⟨q1, q2⟩ | ⟨q1, q2⟩ | q1
    all_goals
      try have q3 : decide (0 ≤ a0) = false := (by simp; omega)
      go_wp2_with fail
      first
      | (have HZ : Hid (I64 (65536 + a0) ∧ (65536 + a0 < 0 ∨ 65535 < 65536 + a0)) := ⟨⟨by omega, by omega⟩, by omega⟩
         have g1 : a0 ≤ 65535 := by omega
         have g2 : 0 ≤ a0 := by omega
         generalize 65536 + a0 = z at *)
      | (have HZ : Hid (I64 a0 ∧ (a0 < 0 ∨ 65535 < a0)) := ⟨⟨by omega, by omega⟩, by omega⟩
         obtain ⟨z, hz⟩ : ∃ z, z = a0 := ⟨_, rfl⟩
         subst hz)
      refine (int_any none 0 0 [] z _ (reads_nil _) (by omega) HZ.out.1).mono ?_
      rintro e w2 ⟨v2, rfl, ho2, hb2⟩
      simp only [Nat.zero_add, List.nil_append] at ho2
      have HZL := Lib.hid (enc_len z)
      have HB2 := Lib.hid (HB1.out.trans (hb2.mono HB1.out.size))
      have HO2 := Lib.hid ho2
      have HR2 := Lib.hid ((H1.out.reads.below HB1.out).below hb2)
      have HS2 := Lib.hid hb2.size
      clear hb2 ho2
      go_wp2_with (at_builtin; go_must (refine wpList_append_reads rfl _ _ 22 rfl w1.heap.size 5 i0 Try.underlying22 hi hz0 hz1 hz2 v2 _ (enc z) rfl HO2.out a1 len1 cap1 z1 rfl HR2.out (fun h => H1.out.nil h) (by have := HZL.out; omega) HS2.out ?_; intro v3 w3 ho3 hg3))
      obtain ⟨a3, c3, rfl, hr3⟩ := owned_val ho3
      have HB3 := Lib.hid (HB2.out.grown hg3 HB2.out.size (fun k hk => Nat.le_trans HB1.out.size (HO2.out.lt k hk).1))
      have HR3 := Lib.hid hr3
      clear ho3 hg3 hr3
      refine (new_any a3 _ c3 (enc z ++ z1) _ HR3.out (by have := HZL.out; omega)).mono ?_
      rintro e w4 ⟨r, rfl, hrd, hrr, hb4⟩
      have HRD := Lib.hid hrd
      have HB4 := Lib.hid (HB3.out.trans (hb4.mono HB3.out.size))
      have HRR := Lib.hid (Nat.le_trans HB3.out.size hrr)
      clear hrd hrr hb4
      go_wp2_with fail
      refine (rtext_any r 0 _ _ HRD.out ?_).mono ?_
      · intro c hc
        rcases List.mem_append.1 hc with h | h
        · exact enc_bytes HZ.out.1 c h
        · exact H1.out.bytes c h
      rintro e w5 ⟨a5, c5, rfl, -, hrd5, honly5⟩
      have hm := rd_many (l := z1) HZ.out.1 HZ.out.2
      rw [hm.2]
      rw [hm.1] at hrd5
      have HRD5 := Lib.hid hrd5
      have HB5 := Lib.hid (HB4.out.trans (honly5.below HRR.out HB4.out.size))
      clear hm hrd5 honly5
      go_wp2_with fail
      refine (end_any r 4 _ _ HRD5.out).mono ?_
      rintro e w6 ⟨rfl, rfl⟩
      go_wp2
      go_ret
      exact ⟨rfl, HB5.out⟩
end Go.Proofs.Ytlaafpfpoehonaa
