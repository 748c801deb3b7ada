/- VmJumps: a jump goes where it says, if nought is on top, and on if not; beyond the end is none. -/
import Derived.Test.YtdbnfafafhdolaaLPushes
namespace Go.Proofs.Ytdbnfafafhdolaa
open Go Go.RowKit
set_option linter.unusedVariables false
set_option linter.unusedSimpArgs false

def jumpC (n : Int) : List Int := 1 :: (eight n ++ [13, 13, 11, 0, 12])

theorem jump_end (n arg : Int) (m : Ms) (k : Nat) (h : goP (jumpC n) arg (arg + 1) k (startP 20) = m) (hk : k ≤ 21) (hf : m.fin = true) : lastP (jumpC n) arg (arg + 1) (startP 20) = m := by
  have add : ∀ a b (s : Ms), goP (jumpC n) arg (arg + 1) (a + b) s = goP (jumpC n) arg (arg + 1) b (goP (jumpC n) arg (arg + 1) a s) := by
    intro a
    induction a with
    | zero => intro b s; rw [Nat.zero_add]; rfl
    | succ a ih =>
      intro b s
      rw [show a + 1 + b = (a + b) + 1 by omega]
      show goP _ _ _ (a + b) (stepP _ _ _ s) = goP _ _ _ b (goP _ _ _ a (stepP _ _ _ s))
      exact ih b _
  show goP (jumpC n) arg (arg + 1) 21 (startP 20) = m
  rw [show 21 = k + (21 - k) by omega, add, h, go_fin hf]

theorem jump_push (n arg : Int) : goP (jumpC n) arg (arg + 1) 1 (startP 20) = ⟨9, [numP (eight n)], 19, false, 0⟩ := by kernel_rfl
theorem jump_said (n : Int) : saidP (jumpC n) ⟨9, [n], 18, false, 0⟩ = 13 := by kernel_rfl

theorem jump_step (n x arg : Int) : stepP (jumpC n) arg (arg + 1) ⟨9, [x], 19, false, 0⟩ = if x = 0 then ⟨13, [], 18, false, 0⟩ else ⟨11, [], 18, false, 0⟩ := by
  by_cases h : x = 0
  · subst h
    rw [if_pos rfl]
    kernel_rfl
  · rw [if_neg h]
    have e1 : sgn (jumpC n) ⟨9, [x], 18, false, 0⟩ = 13 := by kernel_rfl
    have e2 : tookP (jumpC n) ⟨9, [x], 18, false, 0⟩ = [x] := by kernel_rfl
    have e3 : saidP (jumpC n) ⟨9, [x], 18, false, 0⟩ = 13 := by kernel_rfl
    have eo : outP 13 13 [x] arg (arg + 1) (jumpC n).length = ([], 0) := by
      show ([], if x = 0 ∧ ((jumpC n).length : Int) < 13 then (10 : Int) else 0) = ([], 0)
      rw [if_neg (fun h2 => h h2.1)]
    have ea : actE (jumpC n) arg (arg + 1) ⟨9, [x], 18, false, 0⟩ = 0 := by
      unfold actE
      rw [e1, e2, e3, eo]
      rfl
    have em : actM (jumpC n) arg (arg + 1) ⟨9, [x], 18, false, 0⟩ = ⟨11, [], 18, false, 0⟩ := by
      unfold actM
      rw [e1, e2, e3, eo]
      have e4 : (if (13 : Int) = 13 ∧ [x].getD 0 0 = 0 then (13 : Int).toNat else 9 + 1 + tailP 13) = 11 := by rw [if_neg (fun h2 => h h2.2)]; rfl
      show (⟨(if (13 : Int) = 13 ∧ [x].getD 0 0 = 0 then (13 : Int).toNat else 9 + 1 + tailP 13), _, 18, false, 0⟩ : Ms) = _
      rw [e4]
      rfl
    have es : stepP (jumpC n) arg (arg + 1) ⟨9, [x], 19, false, 0⟩ = paidP (jumpC n) arg (arg + 1) ⟨9, [x], 18, false, 0⟩ := by kernel_rfl
    rw [es]
    unfold paidP
    rw [if_neg (by rw [e1]; show ¬ ((9 : Nat) = 14 ∨ (13 : Int) = 0); omega), if_pos ea, em]

theorem jump_one {n : Int} (hn : I64 n) (arg : Int) : runP (jumpC n) arg (arg + 1) 20 = (if n = 0 then arg + 1 else arg, 4, 0) := by
  have e1 := jump_push n arg
  have e2 := jump_step n (numP (eight n)) arg
  rw [num_eight hn] at e1 e2
  have hr : runP (jumpC n) arg (arg + 1) 20 = toldP 20 (lastP (jumpC n) arg (arg + 1) (startP 20)) := rfl
  rw [hr]
  by_cases h : n = 0
  · rw [if_pos h] at e2 ⊢
    have e3 : goP (jumpC n) arg (arg + 1) 4 (startP 20) = ⟨14, [arg + 1], 16, true, 0⟩ := by
      show goP (jumpC n) arg (arg + 1) 3 (goP (jumpC n) arg (arg + 1) 1 (startP 20)) = _
      rw [e1]
      show goP (jumpC n) arg (arg + 1) 2 (stepP (jumpC n) arg (arg + 1) ⟨9, [n], 19, false, 0⟩) = _
      rw [e2]
      kernel_rfl
    rw [jump_end n arg _ 4 e3 (by omega) rfl]
    rfl
  · rw [if_neg h] at e2 ⊢
    have e3 : goP (jumpC n) arg (arg + 1) 4 (startP 20) = ⟨12, [arg], 16, true, 0⟩ := by
      show goP (jumpC n) arg (arg + 1) 3 (goP (jumpC n) arg (arg + 1) 1 (startP 20)) = _
      rw [e1]
      show goP (jumpC n) arg (arg + 1) 2 (stepP (jumpC n) arg (arg + 1) ⟨9, [n], 19, false, 0⟩) = _
      rw [e2]
      kernel_rfl
    rw [jump_end n arg _ 4 e3 (by omega) rfl]
    rfl
theorem jumpC_byte (n : Int) : ∀ c ∈ jumpC n, Byte c := by
  intro c hc
  rcases List.mem_cons.1 hc with rfl | hc
  · exact ⟨by omega, by omega⟩
  rcases List.mem_append.1 hc with hc | hc
  · exact eight_byte n c hc
  · simp only [List.mem_cons, List.not_mem_nil, or_false] at hc
    rcases hc with rfl | rfl | rfl | rfl | rfl <;> exact ⟨by omega, by omega⟩

theorem two_byte (t : Int) (ht : Byte t) : ∀ c ∈ 1 :: (eight 0 ++ [13, t]), Byte c := by
  intro c hc
  rcases List.mem_cons.1 hc with rfl | hc
  · exact ⟨by omega, by omega⟩
  rcases List.mem_append.1 hc with hc | hc
  · exact eight_byte 0 c hc
  · simp only [List.mem_cons, List.not_mem_nil, or_false] at hc
    rcases hc with rfl | rfl
    · exact ⟨by omega, by omega⟩
    · exact ht

set_option maxRecDepth 100000 in
set_option maxHeartbeats 4000000 in
theorem ljumps_any (n dest arg : Int) (w : World) (hn : I64 n) (ht : I64 dest) (ha : I64 arg) :
    Calls Try.prog 9 #[.int .i64 n, .int .i64 dest, .int .i64 arg] w fun e w' => e = .returned (.bool true) ∧ Below w.heap.size w w' := by
  have hj := fun a => jump_one hn a
  have HJ := Lib.hid hj
  have H0 : Hid (I64 0) := ⟨by decide, by decide⟩
  have hc5 : ∀ w : World, Hid (Came (w.alloc (Obj.cells #[.int .u8 13, .int .u8 13, .int .u8 11, .int .u8 0, .int .u8 12] 5)) (some ⟨w.heap.size, 0, none⟩) 5 5 [13, 13, 11, 0, 12]) := fun w => came_new w [13, 13, 11, 0, 12] (by simp [Byte]) (by decide)
  have hc2 : ∀ (w : World) (x y : Int), Byte x → Byte y → Hid (Came (w.alloc (Obj.cells #[.int .u8 x, .int .u8 y] 5)) (some ⟨w.heap.size, 0, none⟩) 2 2 [x, y]) := fun w x y hx hy => came_new w [x, y] (by intro c hc; simp only [List.mem_cons, List.not_mem_nil, or_false] at hc; rcases hc with rfl | rfl; exact hx; exact hy) (by simp)
  clear hj hn ht ha
  obtain ⟨i0, hi, hz0, hz1, hz2⟩ := info_parts Try.infoByte
  go_enter Try.func9, Try.ntmps9
  go_wp2_with fail
  refine (known_any w).mono ?_
  rintro _ w1 ⟨rfl, hb1⟩
  have HB := Lib.hid hb1
  clear hb1
  go_wp2_with fail
  refine (within_any arg 1099511627776 w1 (by omega) (by omega)).mono ?_
  rintro _ _ ⟨rfl, rfl⟩
  have hx0 : 0 ≤ arg % 1099511627776 := by omega
  have hx1 : arg % 1099511627776 < 1099511627776 := by omega
  generalize arg % 1099511627776 = x at *
  go_wp2_with fail
  refine (push_any w.heap.size (.slice none 0 0) 0 [] n w1 (World.ownsRow_nil _ _ _ _) HB.out.size (by omega)).mono ?_
  rintro _ w2 ⟨v2, rfl, ho2, hb2⟩
  obtain ⟨b2, k2, rfl⟩ := own_slice ho2
  have HO2 := Lib.hid ho2
  have HB2 := Lib.hid (HB.out.trans hb2)
  clear ho2 hb2 HB
  have h5 := hc5 w2
  clear hc5
  go_wp2_with (at_builtin; go_must (refine wpList_append_reads rfl _ _ 22 rfl w.heap.size 5 i0 Try.underlying22 hi hz0 hz1 hz2 _ 9 _ rfl (HO2.out.alloc _) _ 5 5 [13, 13, 11, 0, 12] rfl h5.out.reads (fun h => by cases h) (by omega) (by simp; have := HB2.out.size; omega) ?_))
  intro v3 w3 ho3 hg3
  have hb3 : Below w.heap.size w w3 := (HB2.out.alloc HB2.out.size _).grown hg3 (by simp; have := HB2.out.size; omega) (fun k hk => (HO2.out.lt k hk).1)
  obtain ⟨b3, c3, rfl, hc3⟩ := own_came (xs := jumpC n) ho3 (jumpC_byte n)
  have HC3 := Lib.hid hc3
  have HB3 := Lib.hid hb3
  clear hc3 ho3 hg3 hb3 h5 HO2 HB2
  go_wp2_with fail
  refine (ran_any HC3.out HB3.out x (x + 1) 20 ⟨by omega, by omega⟩ ⟨by omega, by omega⟩ ⟨by decide, by decide⟩).mono ?_
  rintro _ w4 ⟨r, u, f, hr, rfl, -, hb4⟩
  rw [HJ.out x] at hr
  simp only [Prod.mk.injEq] at hr
  obtain ⟨hr1, rfl, rfl⟩ := hr
  have HB4 := Lib.hid hb4
  clear hb4 HC3 HB3 HJ
  have rest : ∀ z : Int, (n = 0 → z = x + 1) → (n ≠ 0 → z = x) → r = z := fun z h1 h2 => by
    by_cases h : n = 0
    · rw [if_pos h] at hr1; rw [h1 h]; exact hr1.symm
    · rw [if_neg h] at hr1; rw [h2 h]; exact hr1.symm
  by_cases hn0 : n = 0
  · have hr2 := rest (x + 1) (fun _ => rfl) (fun h => absurd hn0 h)
    subst hn0
    subst hr2
    clear rest hr1
    go_wp2_with fail
    refine (within_any dest 30 w4 (by omega) (by omega)).mono ?_
    rintro _ _ ⟨rfl, rfl⟩
    obtain ⟨t, ht⟩ : ∃ t : Nat, dest % 30 = (t : Int) := ⟨(dest % 30).toNat, by omega⟩
    have ht30 : t < 30 := by omega
    rw [ht]
    clear ht
    go_wp2_with fail
    refine (push_any w.heap.size (.slice none 0 0) 0 [] 0 w4 (World.ownsRow_nil _ _ _ _) HB4.out.size (by omega)).mono ?_
    rintro _ w5 ⟨v5, rfl, ho5, hb5⟩
    obtain ⟨b5, k5, rfl⟩ := own_slice ho5
    have HO5 := Lib.hid ho5
    have HB5 := Lib.hid (HB4.out.trans hb5)
    clear ho5 hb5 HB4
    have h2 := hc2 w5 13 (t : Int) ⟨by decide, by decide⟩ ⟨by omega, by omega⟩
    clear hc2
    go_wp2_with (at_builtin; go_must (refine wpList_append_reads rfl _ _ 22 rfl w.heap.size 5 i0 Try.underlying22 hi hz0 hz1 hz2 _ 9 _ rfl (HO5.out.alloc _) _ 2 2 [13, (t : Int)] rfl h2.out.reads (fun h => by cases h) (by omega) (by simp; have := HB5.out.size; omega) ?_))
    intro v6 w6 ho6 hg6
    have hb6 : Below w.heap.size w w6 := (HB5.out.alloc HB5.out.size _).grown hg6 (by simp; have := HB5.out.size; omega) (fun k hk => (HO5.out.lt k hk).1)
    obtain ⟨b6, c6, rfl, hc6⟩ := own_came (xs := 1 :: (eight 0 ++ [13, (t : Int)])) ho6 (two_byte t ⟨by omega, by omega⟩)
    have HC6 := Lib.hid hc6
    have HB6 := Lib.hid hb6
    clear hc6 ho6 hg6 hb6 h2 HO5 HB5
    go_wp2_with fail
    refine (ran_any HC6.out HB6.out 0 0 100 H0.out H0.out ⟨by decide, by decide⟩).mono ?_
    rintro _ w7 ⟨r7, u7, f7, hr7, rfl, -, hb7⟩
    have hj2 := jump_two ⟨t, ht30⟩
    have HB7 := Lib.hid hb7
    simp only [hr7] at hj2
    clear hb7 HC6 HB6 hr7
    by_cases ht11 : 11 < t
    · have hf : f7 = 10 := by rw [if_pos ht11] at hj2; exact hj2
      subst hf
      have ht11' : 11 < (t : Int) := by omega
      clear hj2
      go_wp2_with fail
      go_ret
      exact ⟨rfl, HB7.out⟩
    · by_cases ht1 : t = 11
      · have hf : f7 = 0 := by rw [if_neg ht11, if_pos ht1] at hj2; exact hj2
        subst hf
        subst ht1
        clear hj2
        go_wp2_with fail
        go_ret
        exact ⟨rfl, HB7.out⟩
      · have hf : f7 ≠ 0 ∨ 0 < t := by rw [if_neg ht11, if_neg ht1] at hj2; exact hj2
        have ht2 : ¬ (11 < (t : Int)) := by omega
        have ht3 : ((t : Int) == 11) = false := by simp; omega
        clear hj2
        by_cases hf7 : f7 = 0
        · have ht4 : 0 < t := hf.resolve_left (fun h => h hf7)
          subst hf7
          go_wp2_with fail
          go_ret
          exact ⟨rfl, HB7.out⟩
        · have hf8 : (f7 != 0) = true := by simp; exact hf7
          go_wp2_with fail
          go_ret
          exact ⟨rfl, HB7.out⟩
  · have hr2 := rest x (fun h => absurd h hn0) (fun _ => rfl)
    subst hr2
    have hn1 : (n == 0) = false := by simp; exact hn0
    clear rest hr1
    go_wp2_with fail
    refine (within_any dest 30 w4 (by omega) (by omega)).mono ?_
    rintro _ _ ⟨rfl, rfl⟩
    obtain ⟨t, ht⟩ : ∃ t : Nat, dest % 30 = (t : Int) := ⟨(dest % 30).toNat, by omega⟩
    have ht30 : t < 30 := by omega
    rw [ht]
    clear ht
    go_wp2_with fail
    refine (push_any w.heap.size (.slice none 0 0) 0 [] 0 w4 (World.ownsRow_nil _ _ _ _) HB4.out.size (by omega)).mono ?_
    rintro _ w5 ⟨v5, rfl, ho5, hb5⟩
    obtain ⟨b5, k5, rfl⟩ := own_slice ho5
    have HO5 := Lib.hid ho5
    have HB5 := Lib.hid (HB4.out.trans hb5)
    clear ho5 hb5 HB4
    have h2 := hc2 w5 13 (t : Int) ⟨by decide, by decide⟩ ⟨by omega, by omega⟩
    clear hc2
    go_wp2_with (at_builtin; go_must (refine wpList_append_reads rfl _ _ 22 rfl w.heap.size 5 i0 Try.underlying22 hi hz0 hz1 hz2 _ 9 _ rfl (HO5.out.alloc _) _ 2 2 [13, (t : Int)] rfl h2.out.reads (fun h => by cases h) (by omega) (by simp; have := HB5.out.size; omega) ?_))
    intro v6 w6 ho6 hg6
    have hb6 : Below w.heap.size w w6 := (HB5.out.alloc HB5.out.size _).grown hg6 (by simp; have := HB5.out.size; omega) (fun k hk => (HO5.out.lt k hk).1)
    obtain ⟨b6, c6, rfl, hc6⟩ := own_came (xs := 1 :: (eight 0 ++ [13, (t : Int)])) ho6 (two_byte t ⟨by omega, by omega⟩)
    have HC6 := Lib.hid hc6
    have HB6 := Lib.hid hb6
    clear hc6 ho6 hg6 hb6 h2 HO5 HB5
    go_wp2_with fail
    refine (ran_any HC6.out HB6.out 0 0 100 H0.out H0.out ⟨by decide, by decide⟩).mono ?_
    rintro _ w7 ⟨r7, u7, f7, hr7, rfl, -, hb7⟩
    have hj2 := jump_two ⟨t, ht30⟩
    have HB7 := Lib.hid hb7
    simp only [hr7] at hj2
    clear hb7 HC6 HB6 hr7
    by_cases ht11 : 11 < t
    · have hf : f7 = 10 := by rw [if_pos ht11] at hj2; exact hj2
      subst hf
      have ht11' : 11 < (t : Int) := by omega
      clear hj2
      go_wp2_with fail
      go_ret
      exact ⟨rfl, HB7.out⟩
    · by_cases ht1 : t = 11
      · have hf : f7 = 0 := by rw [if_neg ht11, if_pos ht1] at hj2; exact hj2
        subst hf
        subst ht1
        clear hj2
        go_wp2_with fail
        go_ret
        exact ⟨rfl, HB7.out⟩
      · have hf : f7 ≠ 0 ∨ 0 < t := by rw [if_neg ht11, if_neg ht1] at hj2; exact hj2
        have ht2 : ¬ (11 < (t : Int)) := by omega
        have ht3 : ((t : Int) == 11) = false := by simp; omega
        clear hj2
        by_cases hf7 : f7 = 0
        · have ht4 : 0 < t := hf.resolve_left (fun h => h hf7)
          subst hf7
          go_wp2_with fail
          go_ret
          exact ⟨rfl, HB7.out⟩
        · have hf8 : (f7 != 0) = true := by simp; exact hf7
          go_wp2_with fail
          go_ret
          exact ⟨rfl, HB7.out⟩
end Go.Proofs.Ytdbnfafafhdolaa
