/- P101: any number, bytes, sum, behind any bytes, is written as the document says: the walk of CodeWrites. -/
import Derived.Test.YtlaafpfpoehonaaSums
import Derived.Test.YtlaafpfpoehonaaRefT
import Derived.Test.YtlaafpfpoehonaaFrame
import Derived.Test.YtlaafpfpoehonaaOrd
namespace Go.Proofs.Ytlaafpfpoehonaa
open Go.RowKit Num
set_option linter.unusedVariables false
set_option linter.unusedSimpArgs false

attribute [local go_sem ↓] load_rule
attribute [local go_sem] loadable_ptr sumOf_ptr

theorem owns_later {w w' : World} {B n : Nat} {v : Value} {xs : List Value} (h : w.ownsRow B 5 1 v n xs) (hb : Below w.heap.size w w') : w'.ownsRow B 5 1 v n xs :=
  h.kept (row := none) ⟨hb.os, hb.tape, hb.output, hb.size, fun k hk _ => hb.block k hk⟩ (by cases hv : v.ownBlock <;> simp)

/-- the state of the law between its calls: what was there, and the copy that it owns -/
structure St (w1 : World) (v : Value) (n : Nat) (xs : List Int) (w : World) : Prop where
  bel : Below w1.heap.size w1 w
  own : w.ownsRow w1.heap.size 5 1 v n (bts xs)

theorem St.code {w1 w w' : World} {v : Value} {n : Nat} {xs : List Int} (h : St w1 v n xs w) (hb : Below w.heap.size w w') : St w1 v n xs w' :=
  ⟨h.bel.trans (hb.mono h.bel.size), owns_later h.own hb⟩

theorem St.ref {w1 w w' : World} {v : Value} {n : Nat} {xs : List Int} (h : St w1 v n xs w) (hk : KeptUpto w1.heap.size 5 w w' v n) (hb : Below w1.heap.size w w') : St w1 v n xs w' :=
  ⟨h.bel.trans hb, hk _ _ _ h.own (fun _ => Nat.le_refl _)⟩

theorem owns_mono {w : World} {B B' : Nat} {v : Value} {n : Nat} {xs : List Value} (h : w.ownsRow B 5 1 v n xs) (hB : B' ≤ B) : w.ownsRow B' 5 1 v n xs := by
  refine ⟨h.1, ?_⟩
  rcases h.2 with hn | ⟨g, cap, cur, h1, h2, r⟩
  · exact .inl hn
  · exact .inr ⟨g, cap, cur, h1, Nat.le_trans hB h2, r⟩

theorem fresh_le {w w' : World} {B : Nat} {u v : Value} {m n : Nat} {xs ys : List Value} (hu : w'.ownsRow w.heap.size 5 1 u m ys) (hv : w.ownsRow B 5 1 v n xs) : u.ownBlock = v.ownBlock → m ≤ n := by
  intro h
  cases hub : u.ownBlock with
  | some g =>
    have h1 := (hu.lt g hub).1
    have h2 := (hv.lt g (by rw [← h, hub])).2
    omega
  | none =>
    rcases hu.2 with ⟨_, h0⟩ | ⟨g, cap, cur, h1, _⟩
    · omega
    · rw [h1] at hub; simp [Value.ownBlock] at hub

/-- what a call of the chapter left is still owned behind the second writing -/
theorem St.keep {w1 w w' w'' : World} {v u : Value} {n m : Nat} {xs ys : List Int} (h : St w1 v n xs w) (hu : w'.ownsRow w.heap.size 5 1 u m (bts ys)) (hk : KeptUpto w1.heap.size 5 w' w'' v n) : w''.ownsRow w1.heap.size 5 1 u m (bts ys) :=
  hk _ _ _ (owns_mono hu h.bel.size) (fresh_le hu h.own)

theorem conv_owned {w : World} {B : Nat} {a : Option Addr} {n m c : Nat} {xs : List Int} (h : w.ownsRow B 5 1 (.slice a n c) m (bts xs)) : (convert 22 9 (.slice a n c)).run Try.prog w = .ok (.string (strOfNums xs)) w := by
  obtain ⟨a', c', hv, hr⟩ := owned_val h
  simp only [Value.slice.injEq] at hv
  obtain ⟨rfl, rfl, rfl⟩ := hv
  exact conv_reads hr c

theorem range_below {w W : World} {g : Nat} {cs : Array Value} (hb : Below w.heap.size w W) (hg : g < w.heap.size) (h : sumAt w g = some cs) : W.rangeAt g 0 cs.toList := by
  intro j v hj
  unfold sumAt at h
  split at h
  · rename_i cs' t hh
    split at h
    · cases h
      rw [hb.cell (by exact hg)]
      simp only [World.cell?, hh, Nat.zero_add]
      simpa using hj
    · cases h
  · cases h

/-- what 'string(v)' is -/
def Conv (v : Value) (zs : List Int) (w : World) : Prop := (convert 22 9 v).run Try.prog w = .ok (.string (strOfNums zs)) w

set_option maxRecDepth 100000 in
set_option maxHeartbeats 8000000 in
theorem writes_any (a0 : Option Addr) (len0 cap0 : Nat) (z0 : List Int) (a1 : Int) (a2 : Option Addr) (len2 cap2 : Nat) (z2 : List Int) (cs : Array Value) (hs : List Int) (w : World)
    (h0 : Came w a0 len0 cap0 z0) (h1 : I64 a1) (h2 : Came w a2 len2 cap2 z2) (h3 : Sum cs hs) :
    Calls Try.prog 3 #[.slice a0 len0 cap0, .int .i64 a1, .slice a2 len2 cap2, .agg cs] w fun e w' => e = .returned (.bool true) ∧ Below w.heap.size w w' := by
  obtain ⟨i0, hi, hz0, hz1, hz2⟩ := info_parts Try.infoByte
  have H0 := Lib.hid h0
  have H1 := Lib.hid h1
  have H2 := Lib.hid h2
  have H3 := Lib.hid h3
  have hb0 : Below w.heap.size w (w.alloc (.cells cs 24)) := (Below.refl _ _).alloc (Nat.le_refl _) _
  have HS0 := Lib.hid (sumAt_mk (heap_alloc_new w (.cells cs 24)) (sum_size h3))
  have HB0 := Lib.hid hb0
  have HZ0 : Hid ((w.alloc (.cells cs 24)).heap.size = w.heap.size + 1) := by show _ = _; simp
  clear h0 h1 h2 h3 hb0
  go_enter Try.func3, Try.ntmps3
  go_wp2_with fail
  refine (known_any _).mono ?_
  rintro e w1 ⟨rfl, hb1⟩
  have HB1 := Lib.hid (HB0.out.trans (hb1.mono HB0.out.size))
  have HS1 := Lib.hid ((sumAt_below hb1 (by rw [HZ0.out]; omega)).trans HS0.out)
  have HZ1 : Hid (w.heap.size < w1.heap.size) := by have := hb1.size; have := HZ0.out; show _ < _; omega
  clear hb1
  by_cases hl : 300 < len0
  · go_wp2
    go_ret
    exact ⟨rfl, HB1.out⟩
  · by_cases hl2 : 500 < len2
    · go_wp2
      go_ret
      exact ⟨rfl, HB1.out⟩
    · have HR0 := Lib.hid (H0.out.reads.below HB1.out)
      have HR2 := Lib.hid (H2.out.reads.below HB1.out)
      have HM := Lib.hid (World.ownsRow_made (base := w1.heap.size) (e := 5) (size := 1) w1 #[] 0 (Nat.le_refl _) (by unfold maxLen; omega) rfl)
      have HRA : Hid (Reads (w1.alloc (.cells #[] 5)) a0 len0 z0) := HR0.out.below ((Below.refl _ _).alloc (Nat.le_refl _) _)
      go_wp2_with (at_builtin; go_must (refine wpList_append_keep rfl _ _ 22 rfl w1.heap.size 5 i0 Try.underlying22 hi hz0 hz1 hz2 _ 0 [] rfl HM.out a0 len0 cap0 z0 rfl HRA.out (fun h => H0.out.nil h) (by omega) (by simp) ?_; intro vw w2 ho2 hg2 hk2 hn2))
      simp only [Nat.zero_add, List.nil_append] at ho2
      have hst : St w1 vw len0 z0 w2 := ⟨((Below.refl _ _).alloc (Nat.le_refl _) (.cells #[] 5)).grown hg2 (by simp) (fun k hk => (HM.out.lt k hk).1), ho2⟩
      have HST : Hid (St w1 vw len0 z0 w2.drew) := hst.code (Below.refl _ _).drew
      clear ho2 hg2 hk2 hn2 hst
      have HRG : Hid (∀ W, Below w1.heap.size w1 W → W.rangeAt w.heap.size 0 cs.toList) := fun W hb => range_below hb HZ1.out HS1.out
      have hg0 : w2.drew.rangeAt w.heap.size 0 cs.toList := HRG.out _ HST.out.bel
      have hu24 := underlying_sum
      have hi24 : (Try.prog.info? 24).map (·.size) = some cs.toList.length := by rw [Array.length_toList]; exact sum_info H3.out
      go_wp2_with fail
      refine anyS_start (by kernel_rfl) ?_
      (refine anyS_free (i := 0) (v := ?_) rfl (by kernel_rfl) (by kernel_rfl) (by kernel_rfl) (fun _ _ _ h => h) (fun _ => by simp) (Or.inl ⟨by rfl, fun w' _ => ?_⟩) ?_; rotate_left; (· go_simp; try with_reducible rfl))
      try simp only [Act.put, List.setIfInBounds_toArray, List.set_cons_zero, List.set_cons_succ]
      (refine anyS_free (i := 1) (v := ?_) rfl (by kernel_rfl) (by kernel_rfl) (by kernel_rfl) (fun _ _ _ h => h) (fun _ => by simp) (Or.inl ⟨by rfl, fun w' _ => ?_⟩) ?_; rotate_left; (· go_simp; try with_reducible rfl))
      try simp only [Act.put, List.setIfInBounds_toArray, List.set_cons_zero, List.set_cons_succ]
      (refine anyS_free (i := 4) (v := ?_) rfl (by kernel_rfl) (by kernel_rfl) (by kernel_rfl) (fun _ _ _ h => h) (fun _ => by simp) (Or.inl ⟨by rfl, fun w' _ => ?_⟩) ?_; rotate_left; (· go_simp; try with_reducible rfl))
      try simp only [Act.put, List.setIfInBounds_toArray, List.set_cons_zero, List.set_cons_succ]
      (refine anyS_free (i := 5) (v := ?_) rfl (by kernel_rfl) (by kernel_rfl) (by kernel_rfl) (fun _ _ _ h => h) (fun _ => by simp) (Or.inl ⟨by rfl, fun w' _ => ?_⟩) ?_; rotate_left; (· go_simp; try with_reducible rfl))
      try simp only [Act.put, List.setIfInBounds_toArray, List.set_cons_zero, List.set_cons_succ]
      refine anyS_one 2 (by kernel_rfl) rfl (fun K hK => ?_)
      go_simp
      go_at_call 13
      (refine (int_any a0 len0 cap0 z0 a1 _ (HR0.out.below HST.out.bel) (by omega) H1.out).mono ?_)
      rintro x w3 ⟨vA, rfl, hoA, hbA⟩
      obtain ⟨aA, cA, rfl, -⟩ := owned_val hoA
      have hA3 : Conv _ _ _ := conv_owned hoA
      have HOA := Lib.hid hoA
      have HSTa := Lib.hid (HST.out.code hbA)
      clear hoA hbA
      go_wp2_with fail
      refine hK.out _ _ trivial ?_
      clear hK K
      try simp only [Act.put, List.setIfInBounds_toArray, List.set_cons_zero, List.set_cons_succ]
      (refine anyS_takeNew (fun w' => Conv _ _ w') [6, 7] (i := 3) (v := ?_) hA3 rfl (by kernel_rfl) (by kernel_rfl) (by kernel_rfl) (by kernel_rfl) (fun _ _ _ h => h) (fun _ _ => by simp_all) (Or.inl ⟨by rfl, fun w' hw' => ?_⟩) ?_; rotate_left; (· (have hw' := hw'; unfold Conv at hw'; go_simp; try with_reducible rfl)))
      try simp only [Act.put, List.setIfInBounds_toArray, List.set_cons_zero, List.set_cons_succ]
      refine anyS_one 6 (by kernel_rfl) rfl (fun K hK => ?_)
      go_simp
      go_at_call 14
      (refine (refint_any w1.heap.size vw len0 z0 a1 _ HSTa.out.own HSTa.out.bel.size (by omega) H1.out).mono ?_)
      rintro x w4 ⟨vB, rfl, hoB, hkB, -, hbB⟩
      obtain ⟨aB, cB, rfl, -⟩ := owned_val hoB
      have hA4 : Conv _ _ _ := conv_owned (HST.out.keep HOA.out hkB)
      have hB4 : Conv _ _ _ := conv_owned hoB
      have HSTb := Lib.hid (HSTa.out.ref hkB hbB)
      clear hoB hkB hbB
      go_wp2_with fail
      refine hK.out _ _ (by simpa using hA4) ?_
      clear hK K
      try simp only [Act.put, List.setIfInBounds_toArray, List.set_cons_zero, List.set_cons_succ]
      (refine anyS_takeNew (fun w' => Conv _ _ w' ∧ Conv _ _ w') [] (i := 7) (v := ?_) ⟨hB4, hA4⟩ rfl (by kernel_rfl) (by kernel_rfl) (by kernel_rfl) (by kernel_rfl) (fun _ _ _ h => h) (fun _ _ => by simp_all) (Or.inl ⟨by rfl, fun w' hw' => ?_⟩) ?_; rotate_left; (· (have hw' := hw'.1; unfold Conv at hw'; go_simp; try with_reducible rfl)))
      try simp only [Act.put, List.setIfInBounds_toArray, List.set_cons_zero, List.set_cons_succ]
      (refine anyS_free (i := 8) (v := ?_) rfl (by kernel_rfl) (by kernel_rfl) (by kernel_rfl) (fun _ _ _ h => h) (fun _ => by simp) (Or.inl ⟨by rfl, fun w' _ => ?_⟩) ?_; rotate_left; (· go_simp; try with_reducible rfl))
      try simp only [Act.put, List.setIfInBounds_toArray, List.set_cons_zero, List.set_cons_succ]
      (refine anyS_free (i := 9) (v := ?_) rfl (by kernel_rfl) (by kernel_rfl) (by kernel_rfl) (fun _ _ _ h => h) (fun _ => by simp) (Or.inl ⟨by rfl, fun w' _ => ?_⟩) ?_; rotate_left; (· go_simp; try with_reducible rfl))
      try simp only [Act.put, List.setIfInBounds_toArray, List.set_cons_zero, List.set_cons_succ]
      (refine anyS_free (i := 10) (v := ?_) rfl (by kernel_rfl) (by kernel_rfl) (by kernel_rfl) (fun _ _ _ h => h) (fun _ => by simp) (Or.inl ⟨by rfl, fun w' _ => ?_⟩) ?_; rotate_left; (· go_simp; try with_reducible rfl))
      try simp only [Act.put, List.setIfInBounds_toArray, List.set_cons_zero, List.set_cons_succ]
      (refine anyS_free (i := 11) (v := ?_) rfl (by kernel_rfl) (by kernel_rfl) (by kernel_rfl) (fun _ _ _ h => h) (fun _ => by simp) (Or.inl ⟨by rfl, fun w' _ => ?_⟩) ?_; rotate_left; (· go_simp; try with_reducible rfl))
      try simp only [Act.put, List.setIfInBounds_toArray, List.set_cons_zero, List.set_cons_succ]
      (refine anyS_free (i := 14) (v := ?_) rfl (by kernel_rfl) (by kernel_rfl) (by kernel_rfl) (fun _ _ _ h => h) (fun _ => by simp) (Or.inl ⟨by rfl, fun w' _ => ?_⟩) ?_; rotate_left; (· go_simp; try with_reducible rfl))
      try simp only [Act.put, List.setIfInBounds_toArray, List.set_cons_zero, List.set_cons_succ]
      (refine anyS_free (i := 15) (v := ?_) rfl (by kernel_rfl) (by kernel_rfl) (by kernel_rfl) (fun _ _ _ h => h) (fun _ => by simp) (Or.inl ⟨by rfl, fun w' _ => ?_⟩) ?_; rotate_left; (· go_simp; try with_reducible rfl))
      try simp only [Act.put, List.setIfInBounds_toArray, List.set_cons_zero, List.set_cons_succ]
      refine anyS_one 12 (by kernel_rfl) rfl (fun K hK => ?_)
      go_simp
      go_at_call 15
      (refine (text_put w1 a0 len0 cap0 z0 a2 len2 cap2 z2 _ (HR0.out.below HSTb.out.bel) ⟨HR2.out, H2.out.nil, HSTb.out.bel⟩ (by omega) (by omega)).mono ?_)
      rintro x w5 ⟨vC, rfl, hoC, hbC⟩
      obtain ⟨nC, hnC⟩ : ∃ n, n = len0 + (enc (len2 : Int) ++ z2).length := ⟨_, rfl⟩
      rw [← hnC] at hoC
      clear hnC
      obtain ⟨aC, cC, rfl, -⟩ := owned_val hoC
      have hC5 : Conv _ _ _ := conv_owned hoC
      have HOC := Lib.hid hoC
      have HSTc := Lib.hid (HSTb.out.code hbC)
      clear hoC hbC hA3 hA4 hB4
      go_wp2_with fail
      refine hK.out _ _ (by simp) ?_
      clear hK K
      try simp only [Act.put, List.setIfInBounds_toArray, List.set_cons_zero, List.set_cons_succ]
      (refine anyS_takeNew (fun w' => Conv _ _ w') [16, 17] (i := 13) (v := ?_) hC5 rfl (by kernel_rfl) (by kernel_rfl) (by kernel_rfl) (by kernel_rfl) (fun _ _ _ h => h) (fun _ _ => by simp_all) (Or.inl ⟨by rfl, fun w' hw' => ?_⟩) ?_; rotate_left; (· (have hw' := hw'; unfold Conv at hw'; go_simp; try with_reducible rfl)))
      try simp only [Act.put, List.setIfInBounds_toArray, List.set_cons_zero, List.set_cons_succ]
      refine anyS_one 16 (by kernel_rfl) rfl (fun K hK => ?_)
      go_simp
      go_at_call 16
      (refine (reftext_any w1 vw len0 z0 a2 len2 cap2 z2 _ HSTc.out.own ⟨HR2.out, H2.out.nil, HSTc.out.bel⟩ (by omega) (by omega)).mono ?_)
      rintro x w6 ⟨vD, rfl, hoD, hkD, hbD⟩
      obtain ⟨nD, hnD⟩ : ∃ n, n = len0 + (enc (len2 : Int) ++ z2).length := ⟨_, rfl⟩
      rw [← hnD] at hoD
      clear hnD
      obtain ⟨aD, cD, rfl, -⟩ := owned_val hoD
      have hC6 : Conv _ _ _ := conv_owned (HSTb.out.keep HOC.out hkD)
      have hD6 : Conv _ _ _ := conv_owned hoD
      have hg6 := HRG.out _ (HSTc.out.ref hkD hbD).bel
      have HSTd := Lib.hid (HSTc.out.ref hkD hbD)
      clear hoD hkD hbD
      go_wp2_with fail
      refine hK.out _ _ (by simpa using hC6) ?_
      clear hK K
      try simp only [Act.put, List.setIfInBounds_toArray, List.set_cons_zero, List.set_cons_succ]
      (refine anyS_takeNew (fun w' => Conv _ _ w' ∧ Conv _ _ w') [] (i := 17) (v := ?_) ⟨hD6, hC6⟩ rfl (by kernel_rfl) (by kernel_rfl) (by kernel_rfl) (by kernel_rfl) (fun _ _ _ h => h) (fun _ _ => by simp_all) (Or.inl ⟨by rfl, fun w' hw' => ?_⟩) ?_; rotate_left; (· (have hw' := hw'.1; unfold Conv at hw'; go_simp; try with_reducible rfl)))
      try simp only [Act.put, List.setIfInBounds_toArray, List.set_cons_zero, List.set_cons_succ]
      (refine anyS_free (i := 18) (v := ?_) rfl (by kernel_rfl) (by kernel_rfl) (by kernel_rfl) (fun _ _ _ h => h) (fun _ => by simp) (Or.inl ⟨by rfl, fun w' _ => ?_⟩) ?_; rotate_left; (· go_simp; try with_reducible rfl))
      try simp only [Act.put, List.setIfInBounds_toArray, List.set_cons_zero, List.set_cons_succ]
      (refine anyS_free (i := 19) (v := ?_) rfl (by kernel_rfl) (by kernel_rfl) (by kernel_rfl) (fun _ _ _ h => h) (fun _ => by simp) (Or.inl ⟨by rfl, fun w' _ => ?_⟩) ?_; rotate_left; (· go_simp; try with_reducible rfl))
      try simp only [Act.put, List.setIfInBounds_toArray, List.set_cons_zero, List.set_cons_succ]
      (refine anyS_free (i := 20) (v := ?_) rfl (by kernel_rfl) (by kernel_rfl) (by kernel_rfl) (fun _ _ _ h => h) (fun _ => by simp) (Or.inl ⟨by rfl, fun w' _ => ?_⟩) ?_; rotate_left; (· go_simp; try with_reducible rfl))
      try simp only [Act.put, List.setIfInBounds_toArray, List.set_cons_zero, List.set_cons_succ]
      (refine anyS_free (i := 21) (v := ?_) rfl (by kernel_rfl) (by kernel_rfl) (by kernel_rfl) (fun _ _ _ h => h) (fun _ => by simp) (Or.inl ⟨by rfl, fun w' _ => ?_⟩) ?_; rotate_left; (· go_simp; try with_reducible rfl))
      try simp only [Act.put, List.setIfInBounds_toArray, List.set_cons_zero, List.set_cons_succ]
      (refine anyS_free (i := 25) (v := ?_) rfl (by kernel_rfl) (by kernel_rfl) (by kernel_rfl) (fun _ _ _ h => h) (fun _ => by simp) (Or.inl ⟨by rfl, fun w' _ => ?_⟩) ?_; rotate_left; (· go_simp; try with_reducible rfl))
      try simp only [Act.put, List.setIfInBounds_toArray, List.set_cons_zero, List.set_cons_succ]
      refine anyS_takeNew (fun w' => w'.rangeAt w.heap.size 0 cs.toList) [26] (i := 22) hg6 rfl (by kernel_rfl) (by kernel_rfl) (by kernel_rfl) (by kernel_rfl) (fun _ _ _ h => h) (fun _ _ => by simp_all) (yieldsIf_load_mid (by rfl) _ _ rfl _ _ rfl _ _ (fun _ h => h) hu24 rfl hi24) ?_
      try simp only [Act.put, List.setIfInBounds_toArray, List.set_cons_zero, List.set_cons_succ]
      refine anyS_takeNew (fun w' => w'.rangeAt w.heap.size 0 cs.toList) [23, 24] (i := 26) hg6 rfl (by kernel_rfl) (by kernel_rfl) (by kernel_rfl) (by kernel_rfl) (fun _ _ _ h => h) (fun _ _ => by simp_all) (yieldsIf_load_mid (by rfl) _ _ rfl _ _ rfl _ _ (fun _ h => h) hu24 rfl hi24) ?_
      try simp only [Act.put, List.setIfInBounds_toArray, List.set_cons_zero, List.set_cons_succ]
      refine anyS_one 23 (by kernel_rfl) rfl (fun K hK => ?_)
      go_simp
      go_at_call 17
      (refine (hash_any a0 len0 cap0 z0 hs cs _ (HR0.out.below HSTd.out.bel) (by omega) H3.out).mono ?_)
      rintro x w7 ⟨vE, rfl, hoE, hbE⟩
      obtain ⟨aE, cE, rfl, -⟩ := owned_val hoE
      have hE7 : Conv _ _ _ := conv_owned hoE
      have HOE := Lib.hid hoE
      have hg7 := HRG.out _ (HSTd.out.code hbE).bel
      have HSTe := Lib.hid (HSTd.out.code hbE)
      clear hoE hbE hC5 hC6 hD6
      go_wp2_with fail
      refine hK.out _ _ (by simpa using hg7) ?_
      clear hK K
      try simp only [Act.put, List.setIfInBounds_toArray, List.set_cons_zero, List.set_cons_succ]
      (refine anyS_takeNew (fun w' => Conv _ _ w' ∧ w'.rangeAt w.heap.size 0 cs.toList) [27, 28] (i := 24) (v := ?_) ⟨hE7, hg7⟩ rfl (by kernel_rfl) (by kernel_rfl) (by kernel_rfl) (by kernel_rfl) (fun _ _ _ h => h) (fun _ _ => by simp_all) (Or.inl ⟨by rfl, fun w' hw' => ?_⟩) ?_; rotate_left; (· (have hw' := hw'.1; unfold Conv at hw'; go_simp; try with_reducible rfl)))
      try simp only [Act.put, List.setIfInBounds_toArray, List.set_cons_zero, List.set_cons_succ]
      refine anyS_one 27 (by kernel_rfl) rfl (fun K hK => ?_)
      go_simp
      go_at_call 18
      (refine (refhash_any w1.heap.size vw len0 z0 hs cs _ HSTe.out.own HSTe.out.bel.size (by omega) H3.out).mono ?_)
      rintro x w8 ⟨vF, rfl, hoF, hkF, hbF⟩
      obtain ⟨nF, hnF⟩ : ∃ n, n = len0 + hs.length := ⟨_, rfl⟩
      rw [← hnF] at hoF
      clear hnF
      obtain ⟨aF, cF, rfl, -⟩ := owned_val hoF
      have hg8 := HRG.out _ (HSTe.out.ref hkF hbF).bel
      have hE8 : Conv _ _ _ := conv_owned (HSTd.out.keep HOE.out hkF)
      have hF8 : Conv _ _ _ := conv_owned hoF
      have HSTf := Lib.hid (HSTe.out.ref hkF hbF)
      clear hoF hkF hbF
      go_wp2_with fail
      refine hK.out _ _ (by simpa using And.intro hE8 hg8) ?_
      clear hK K
      try simp only [Act.put, List.setIfInBounds_toArray, List.set_cons_zero, List.set_cons_succ]
      (refine anyS_takeNew (fun w' => Conv _ _ w' ∧ Conv _ _ w' ∧ w'.rangeAt w.heap.size 0 cs.toList) [] (i := 28) (v := ?_) ⟨hF8, hE8, hg8⟩ rfl (by kernel_rfl) (by kernel_rfl) (by kernel_rfl) (by kernel_rfl) (fun _ _ _ h => h) (fun _ _ => by simp_all) (Or.inl ⟨by rfl, fun w' hw' => ?_⟩) ?_; rotate_left; (· (have hw' := hw'.1; unfold Conv at hw'; go_simp; try with_reducible rfl)))
      try simp only [Act.put, List.setIfInBounds_toArray, List.set_cons_zero, List.set_cons_succ]
      (refine anyS_free (i := 29) (v := ?_) rfl (by kernel_rfl) (by kernel_rfl) (by kernel_rfl) (fun _ _ _ h => h) (fun _ => by simp) (Or.inl ⟨by rfl, fun w' _ => ?_⟩) ?_; rotate_left; (· go_simp; try with_reducible rfl))
      try simp only [Act.put, List.setIfInBounds_toArray, List.set_cons_zero, List.set_cons_succ]
      (refine anyS_free (i := 30) (v := ?_) rfl (by kernel_rfl) (by kernel_rfl) (by kernel_rfl) (fun _ _ _ h => h) (fun _ => by simp) (Or.inl ⟨by rfl, fun w' _ => ?_⟩) ?_; rotate_left; (· go_simp; try with_reducible rfl))
      try simp only [Act.put, List.setIfInBounds_toArray, List.set_cons_zero, List.set_cons_succ]
      (refine anyS_free (i := 31) (v := ?_) rfl (by kernel_rfl) (by kernel_rfl) (by kernel_rfl) (fun _ _ _ h => h) (fun _ => by simp) (Or.inl ⟨by rfl, fun w' _ => ?_⟩) ?_; rotate_left; (· go_simp; try with_reducible rfl))
      try simp only [Act.put, List.setIfInBounds_toArray, List.set_cons_zero, List.set_cons_succ]
      refine anyS_done (by kernel_rfl) ?_ _
      refine NoPanic.normal ?_
      go_wp2
      go_ret
      exact ⟨rfl, HB1.out.trans (HSTf.out.bel.mono HB1.out.size)⟩
end Go.Proofs.Ytlaafpfpoehonaa
