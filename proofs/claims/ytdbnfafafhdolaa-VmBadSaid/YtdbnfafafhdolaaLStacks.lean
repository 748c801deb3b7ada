/- VmStacks: as much may be on the stack as it has places; one more is refused, and one less than none. -/
import Derived.Test.YtdbnfafafhdolaaLLoops
import Derived.Test.YtdbnfafafhdolaaVPl
namespace Go.Proofs.Ytdbnfafafhdolaa
open Go Go.RowKit
set_option linter.unusedVariables false
set_option linter.unusedSimpArgs false

theorem rep_byte (n : Nat) (x : Int) (hx : Byte x) : ∀ c ∈ List.replicate n x, Byte c := fun c hc => by rw [List.eq_of_mem_replicate hc]; exact hx
theorem rep_next (n : Nat) (x : Int) : List.replicate n x ++ [x] = List.replicate (n + 1) x := by rw [List.replicate_succ']

/-- seven signs in a block made just now -/
theorem seven_new (w : World) : ∀ m : Nat, m < 7 → (w.alloc (Obj.cells #[.int .i64 2, .int .i64 3, .int .i64 4, .int .i64 5, .int .i64 6, .int .i64 7, .int .i64 9] 3)).cell? ⟨w.heap.size, m, none⟩ = some (.int .i64 (stackOps.getD m 0)) := by
  intro m hm
  have h : m = 0 ∨ m = 1 ∨ m = 2 ∨ m = 3 ∨ m = 4 ∨ m = 5 ∨ m = 6 := by omega
  simp only [World.cell?, heap_alloc_new]
  rcases h with rfl | rfl | rfl | rfl | rfl | rfl | rfl <;> rfl

set_option maxRecDepth 100000 in
set_option maxHeartbeats 4000000 in
theorem lstacks_any (n op : Int) (w : World) (hn : I64 n) (ho : I64 op) :
    Calls Try.prog 10 #[.int .i64 n, .int .i64 op] w fun e w' => e = .returned (.bool true) ∧ Below w.heap.size w w' := by
  have H0 : Hid (I64 0) := ⟨by decide, by decide⟩
  clear hn ho
  go_enter Try.func10, Try.ntmps10
  go_wp2_with fail
  refine (known_any w).mono ?_
  rintro _ w1 ⟨rfl, hb1⟩
  have HB := Lib.hid hb1
  clear hb1
  go_wp2_with fail
  refine (within_any n 20 w1 (by omega) (by omega)).mono ?_
  rintro _ _ ⟨rfl, rfl⟩
  obtain ⟨k, hk⟩ : ∃ k : Nat, n % 20 = (k : Int) := ⟨(n % 20).toNat, by omega⟩
  have hk20 : k < 20 := by omega
  rw [hk]
  clear hk
  go_wp2_with fail
  go_loopw [5, 6] (fun b y X => ∃ i : Nat, i ≤ k ∧ y = .int .i64 (i : Int) ∧ Hid (X.ownsRow w.heap.size 5 1 b i (bts (List.replicate i 11))) ∧ Hid (Below w.heap.size w X)) (fun _ y _ => ((k : Int) - intOf y).toNat)
  case atStart => exact ⟨0, by omega, rfl, World.ownsRow_nil _ _ _ _, HB⟩
  case round =>
    clear HB
    obtain ⟨i, hi, rfl, HO, HB⟩ := hrel
    by_cases hlt : i < k
    · have hlt' : (i : Int) < (k : Int) := by omega
      go_wp2_with (at_builtin; go_must (refine wpList_app1 rfl _ _ rfl w.heap.size _ i (List.replicate i 11) 11 wr rfl HO.out rfl rfl (by omega) HB.out.size ?_))
      intro v2 w2 ho2 hb2
      rw [rep_next] at ho2
      have HO2 := Lib.hid ho2
      have HB2 := Lib.hid (HB.out.trans hb2)
      clear ho2 hb2
      go_wp2_with fail
      try go_roundw
      case rel => exact ⟨i + 1, by omega, by go_num, HO2, HB2⟩
      case measure => simp [intOf]; omega
    · have hik : i = k := by omega
      subst hik
      obtain ⟨b3, c3, rfl, hc3⟩ := own_came HO.out (rep_byte i 11 ⟨by decide, by decide⟩)
      have HC3 := Lib.hid hc3
      clear hc3 hi hlt
      go_wp2_with fail
      refine (run_any HC3.out 7 0 100 ⟨by decide, by decide⟩ H0.out ⟨by decide, by decide⟩).mono ?_
      rintro _ w4 ⟨rfl, hb4⟩
      have h1 := stack_one ⟨i, hk20⟩
      have h1' : runP (List.replicate i 11) 7 0 100 = if 16 < i then (0, 17, 15) else (if i = 0 then 0 else 7, (i : Int) + 1, 0) := h1
      have HO4 := Lib.hid (own_later HO.out hb4)
      have HB4 := Lib.hid (HB.out.trans (hb4.mono HB.out.size))
      rw [h1']
      clear h1 h1' hb4 HC3 HO HB
      by_cases h16 : 16 < i
      · have h16' : 16 < (i : Int) := by omega
        rw [if_pos h16]
        go_wp2_with fail
        go_ret
        exact ⟨rfl, HB4.out⟩
      · have h16' : ¬ (16 < (i : Int)) := by omega
        rw [if_neg h16]
        by_cases hi0 : i = 0
        · subst hi0
          rw [if_pos rfl]
          go_wp2_with fail
          refine (within_any op 7 _ (by omega) (by omega)).mono ?_
          rintro _ _ ⟨rfl, rfl⟩
          have hm7 : op % 7 = 0 ∨ op % 7 = 1 ∨ op % 7 = 2 ∨ op % 7 = 3 ∨ op % 7 = 4 ∨ op % 7 = 5 ∨ op % 7 = 6 := by omega
          generalize op % 7 = m at *
          have hs7 := seven_new w4
          have hb5 : Below w.heap.size w (w4.alloc (Obj.cells #[.int .i64 2, .int .i64 3, .int .i64 4, .int .i64 5, .int .i64 6, .int .i64 7, .int .i64 9] 3)) := HB4.out.alloc HB4.out.size _
          have ho5 := own_later HO4.out ((Below.refl w4.heap.size w4).alloc (Nat.le_refl _) (Obj.cells #[.int .i64 2, .int .i64 3, .int .i64 4, .int .i64 5, .int .i64 6, .int .i64 7, .int .i64 9] 3))
          have HB5 := Lib.hid hb5
          have HO5 := Lib.hid ho5
          clear hb5 ho5
          generalize w4.alloc (Obj.cells #[.int .i64 2, .int .i64 3, .int .i64 4, .int .i64 5, .int .i64 6, .int .i64 7, .int .i64 9] 3) = X5 at *
          rcases hm7 with rfl | rfl | rfl | rfl | rfl | rfl | rfl
          · have hcell := hs7 0 (by omega)
            rw [show stackOps.getD 0 0 = 2 from rfl] at hcell
            clear hs7
            go_wp2_with (at_builtin; go_must (refine wpList_app1 rfl _ _ rfl w.heap.size _ 0 (List.replicate 0 11) 2 _ rfl HO5.out rfl rfl (by omega) HB5.out.size ?_))
            intro v6 w6 ho6 hb6
            obtain ⟨b6, c6, rfl, hc6⟩ := own_came ho6 (fun c hc => (List.mem_append.1 hc).elim (rep_byte 0 11 ⟨by decide, by decide⟩ c) (fun h => by simp only [List.mem_cons, List.not_mem_nil, or_false] at h; subst h; exact ⟨by decide, by decide⟩))
            have HC6 := Lib.hid hc6
            have HB6 := Lib.hid (HB5.out.trans hb6)
            clear hc6 ho6 hb6 hcell
            go_wp2_with fail
            refine (ran_any HC6.out HB6.out 1 0 100 ⟨by decide, by decide⟩ H0.out ⟨by decide, by decide⟩).mono ?_
            rintro _ w7 ⟨r, u, f, hr, rfl, -, hb7⟩
            have h2 := stack_two ⟨0, by omega⟩ ⟨0, by omega⟩
            have h2' : decide ((runP (List.replicate 0 11 ++ [2]) 1 0 100).2.2 = 15) = decide (0 < 2) := h2
            have hr' : runP (List.replicate 0 11 ++ [2]) 1 0 100 = (r, u, f) := hr
            rw [hr'] at h2'
            clear hr'
            have h2'' : decide (f = 15) = true := h2'
            have HB7 := Lib.hid hb7
            clear hr h2 h2' hb7 HC6 HB6
            have hf := of_decide_eq_true h2''
            subst hf
            clear h2''
            go_wp2_with fail
            go_ret
            exact ⟨rfl, HB7.out⟩
          · have hcell := hs7 1 (by omega)
            rw [show stackOps.getD 1 0 = 3 from rfl] at hcell
            clear hs7
            go_wp2_with (at_builtin; go_must (refine wpList_app1 rfl _ _ rfl w.heap.size _ 0 (List.replicate 0 11) 3 _ rfl HO5.out rfl rfl (by omega) HB5.out.size ?_))
            intro v6 w6 ho6 hb6
            obtain ⟨b6, c6, rfl, hc6⟩ := own_came ho6 (fun c hc => (List.mem_append.1 hc).elim (rep_byte 0 11 ⟨by decide, by decide⟩ c) (fun h => by simp only [List.mem_cons, List.not_mem_nil, or_false] at h; subst h; exact ⟨by decide, by decide⟩))
            have HC6 := Lib.hid hc6
            have HB6 := Lib.hid (HB5.out.trans hb6)
            clear hc6 ho6 hb6 hcell
            go_wp2_with fail
            refine (ran_any HC6.out HB6.out 1 0 100 ⟨by decide, by decide⟩ H0.out ⟨by decide, by decide⟩).mono ?_
            rintro _ w7 ⟨r, u, f, hr, rfl, -, hb7⟩
            have h2 := stack_two ⟨0, by omega⟩ ⟨1, by omega⟩
            have h2' : decide ((runP (List.replicate 0 11 ++ [3]) 1 0 100).2.2 = 15) = decide (0 < 2) := h2
            have hr' : runP (List.replicate 0 11 ++ [3]) 1 0 100 = (r, u, f) := hr
            rw [hr'] at h2'
            clear hr'
            have h2'' : decide (f = 15) = true := h2'
            have HB7 := Lib.hid hb7
            clear hr h2 h2' hb7 HC6 HB6
            have hf := of_decide_eq_true h2''
            subst hf
            clear h2''
            go_wp2_with fail
            go_ret
            exact ⟨rfl, HB7.out⟩
          · have hcell := hs7 2 (by omega)
            rw [show stackOps.getD 2 0 = 4 from rfl] at hcell
            clear hs7
            go_wp2_with (at_builtin; go_must (refine wpList_app1 rfl _ _ rfl w.heap.size _ 0 (List.replicate 0 11) 4 _ rfl HO5.out rfl rfl (by omega) HB5.out.size ?_))
            intro v6 w6 ho6 hb6
            obtain ⟨b6, c6, rfl, hc6⟩ := own_came ho6 (fun c hc => (List.mem_append.1 hc).elim (rep_byte 0 11 ⟨by decide, by decide⟩ c) (fun h => by simp only [List.mem_cons, List.not_mem_nil, or_false] at h; subst h; exact ⟨by decide, by decide⟩))
            have HC6 := Lib.hid hc6
            have HB6 := Lib.hid (HB5.out.trans hb6)
            clear hc6 ho6 hb6 hcell
            go_wp2_with fail
            refine (ran_any HC6.out HB6.out 1 0 100 ⟨by decide, by decide⟩ H0.out ⟨by decide, by decide⟩).mono ?_
            rintro _ w7 ⟨r, u, f, hr, rfl, -, hb7⟩
            have h2 := stack_two ⟨0, by omega⟩ ⟨2, by omega⟩
            have h2' : decide ((runP (List.replicate 0 11 ++ [4]) 1 0 100).2.2 = 15) = decide (0 < 2) := h2
            have hr' : runP (List.replicate 0 11 ++ [4]) 1 0 100 = (r, u, f) := hr
            rw [hr'] at h2'
            clear hr'
            have h2'' : decide (f = 15) = true := h2'
            have HB7 := Lib.hid hb7
            clear hr h2 h2' hb7 HC6 HB6
            have hf := of_decide_eq_true h2''
            subst hf
            clear h2''
            go_wp2_with fail
            go_ret
            exact ⟨rfl, HB7.out⟩
          · have hcell := hs7 3 (by omega)
            rw [show stackOps.getD 3 0 = 5 from rfl] at hcell
            clear hs7
            go_wp2_with (at_builtin; go_must (refine wpList_app1 rfl _ _ rfl w.heap.size _ 0 (List.replicate 0 11) 5 _ rfl HO5.out rfl rfl (by omega) HB5.out.size ?_))
            intro v6 w6 ho6 hb6
            obtain ⟨b6, c6, rfl, hc6⟩ := own_came ho6 (fun c hc => (List.mem_append.1 hc).elim (rep_byte 0 11 ⟨by decide, by decide⟩ c) (fun h => by simp only [List.mem_cons, List.not_mem_nil, or_false] at h; subst h; exact ⟨by decide, by decide⟩))
            have HC6 := Lib.hid hc6
            have HB6 := Lib.hid (HB5.out.trans hb6)
            clear hc6 ho6 hb6 hcell
            go_wp2_with fail
            refine (ran_any HC6.out HB6.out 1 0 100 ⟨by decide, by decide⟩ H0.out ⟨by decide, by decide⟩).mono ?_
            rintro _ w7 ⟨r, u, f, hr, rfl, -, hb7⟩
            have h2 := stack_two ⟨0, by omega⟩ ⟨3, by omega⟩
            have h2' : decide ((runP (List.replicate 0 11 ++ [5]) 1 0 100).2.2 = 15) = decide (0 < 2) := h2
            have hr' : runP (List.replicate 0 11 ++ [5]) 1 0 100 = (r, u, f) := hr
            rw [hr'] at h2'
            clear hr'
            have h2'' : decide (f = 15) = true := h2'
            have HB7 := Lib.hid hb7
            clear hr h2 h2' hb7 HC6 HB6
            have hf := of_decide_eq_true h2''
            subst hf
            clear h2''
            go_wp2_with fail
            go_ret
            exact ⟨rfl, HB7.out⟩
          · have hcell := hs7 4 (by omega)
            rw [show stackOps.getD 4 0 = 6 from rfl] at hcell
            clear hs7
            go_wp2_with (at_builtin; go_must (refine wpList_app1 rfl _ _ rfl w.heap.size _ 0 (List.replicate 0 11) 6 _ rfl HO5.out rfl rfl (by omega) HB5.out.size ?_))
            intro v6 w6 ho6 hb6
            obtain ⟨b6, c6, rfl, hc6⟩ := own_came ho6 (fun c hc => (List.mem_append.1 hc).elim (rep_byte 0 11 ⟨by decide, by decide⟩ c) (fun h => by simp only [List.mem_cons, List.not_mem_nil, or_false] at h; subst h; exact ⟨by decide, by decide⟩))
            have HC6 := Lib.hid hc6
            have HB6 := Lib.hid (HB5.out.trans hb6)
            clear hc6 ho6 hb6 hcell
            go_wp2_with fail
            refine (ran_any HC6.out HB6.out 1 0 100 ⟨by decide, by decide⟩ H0.out ⟨by decide, by decide⟩).mono ?_
            rintro _ w7 ⟨r, u, f, hr, rfl, -, hb7⟩
            have h2 := stack_two ⟨0, by omega⟩ ⟨4, by omega⟩
            have h2' : decide ((runP (List.replicate 0 11 ++ [6]) 1 0 100).2.2 = 15) = decide (0 < 2) := h2
            have hr' : runP (List.replicate 0 11 ++ [6]) 1 0 100 = (r, u, f) := hr
            rw [hr'] at h2'
            clear hr'
            have h2'' : decide (f = 15) = true := h2'
            have HB7 := Lib.hid hb7
            clear hr h2 h2' hb7 HC6 HB6
            have hf := of_decide_eq_true h2''
            subst hf
            clear h2''
            go_wp2_with fail
            go_ret
            exact ⟨rfl, HB7.out⟩
          · have hcell := hs7 5 (by omega)
            rw [show stackOps.getD 5 0 = 7 from rfl] at hcell
            clear hs7
            go_wp2_with (at_builtin; go_must (refine wpList_app1 rfl _ _ rfl w.heap.size _ 0 (List.replicate 0 11) 7 _ rfl HO5.out rfl rfl (by omega) HB5.out.size ?_))
            intro v6 w6 ho6 hb6
            obtain ⟨b6, c6, rfl, hc6⟩ := own_came ho6 (fun c hc => (List.mem_append.1 hc).elim (rep_byte 0 11 ⟨by decide, by decide⟩ c) (fun h => by simp only [List.mem_cons, List.not_mem_nil, or_false] at h; subst h; exact ⟨by decide, by decide⟩))
            have HC6 := Lib.hid hc6
            have HB6 := Lib.hid (HB5.out.trans hb6)
            clear hc6 ho6 hb6 hcell
            go_wp2_with fail
            refine (ran_any HC6.out HB6.out 1 0 100 ⟨by decide, by decide⟩ H0.out ⟨by decide, by decide⟩).mono ?_
            rintro _ w7 ⟨r, u, f, hr, rfl, -, hb7⟩
            have h2 := stack_two ⟨0, by omega⟩ ⟨5, by omega⟩
            have h2' : decide ((runP (List.replicate 0 11 ++ [7]) 1 0 100).2.2 = 15) = decide (0 < 2) := h2
            have hr' : runP (List.replicate 0 11 ++ [7]) 1 0 100 = (r, u, f) := hr
            rw [hr'] at h2'
            clear hr'
            have h2'' : decide (f = 15) = true := h2'
            have HB7 := Lib.hid hb7
            clear hr h2 h2' hb7 HC6 HB6
            have hf := of_decide_eq_true h2''
            subst hf
            clear h2''
            go_wp2_with fail
            go_ret
            exact ⟨rfl, HB7.out⟩
          · have hcell := hs7 6 (by omega)
            rw [show stackOps.getD 6 0 = 9 from rfl] at hcell
            clear hs7
            go_wp2_with (at_builtin; go_must (refine wpList_app1 rfl _ _ rfl w.heap.size _ 0 (List.replicate 0 11) 9 _ rfl HO5.out rfl rfl (by omega) HB5.out.size ?_))
            intro v6 w6 ho6 hb6
            obtain ⟨b6, c6, rfl, hc6⟩ := own_came ho6 (fun c hc => (List.mem_append.1 hc).elim (rep_byte 0 11 ⟨by decide, by decide⟩ c) (fun h => by simp only [List.mem_cons, List.not_mem_nil, or_false] at h; subst h; exact ⟨by decide, by decide⟩))
            have HC6 := Lib.hid hc6
            have HB6 := Lib.hid (HB5.out.trans hb6)
            clear hc6 ho6 hb6 hcell
            go_wp2_with fail
            refine (ran_any HC6.out HB6.out 1 0 100 ⟨by decide, by decide⟩ H0.out ⟨by decide, by decide⟩).mono ?_
            rintro _ w7 ⟨r, u, f, hr, rfl, -, hb7⟩
            have h2 := stack_two ⟨0, by omega⟩ ⟨6, by omega⟩
            have h2' : decide ((runP (List.replicate 0 11 ++ [9]) 1 0 100).2.2 = 15) = decide (0 < 2) := h2
            have hr' : runP (List.replicate 0 11 ++ [9]) 1 0 100 = (r, u, f) := hr
            rw [hr'] at h2'
            clear hr'
            have h2'' : decide (f = 15) = true := h2'
            have HB7 := Lib.hid hb7
            clear hr h2 h2' hb7 HC6 HB6
            have hf := of_decide_eq_true h2''
            subst hf
            clear h2''
            go_wp2_with fail
            go_ret
            exact ⟨rfl, HB7.out⟩
        · rw [if_neg hi0]
          by_cases hi1 : i = 1
          · subst hi1
            go_wp2_with fail
            refine (within_any op 7 _ (by omega) (by omega)).mono ?_
            rintro _ _ ⟨rfl, rfl⟩
            have hm7 : op % 7 = 0 ∨ op % 7 = 1 ∨ op % 7 = 2 ∨ op % 7 = 3 ∨ op % 7 = 4 ∨ op % 7 = 5 ∨ op % 7 = 6 := by omega
            generalize op % 7 = m at *
            have hs7 := seven_new w4
            have hb5 : Below w.heap.size w (w4.alloc (Obj.cells #[.int .i64 2, .int .i64 3, .int .i64 4, .int .i64 5, .int .i64 6, .int .i64 7, .int .i64 9] 3)) := HB4.out.alloc HB4.out.size _
            have ho5 := own_later HO4.out ((Below.refl w4.heap.size w4).alloc (Nat.le_refl _) (Obj.cells #[.int .i64 2, .int .i64 3, .int .i64 4, .int .i64 5, .int .i64 6, .int .i64 7, .int .i64 9] 3))
            have HB5 := Lib.hid hb5
            have HO5 := Lib.hid ho5
            clear hb5 ho5
            generalize w4.alloc (Obj.cells #[.int .i64 2, .int .i64 3, .int .i64 4, .int .i64 5, .int .i64 6, .int .i64 7, .int .i64 9] 3) = X5 at *
            rcases hm7 with rfl | rfl | rfl | rfl | rfl | rfl | rfl
            · have hcell := hs7 0 (by omega)
              rw [show stackOps.getD 0 0 = 2 from rfl] at hcell
              clear hs7
              go_wp2_with (at_builtin; go_must (refine wpList_app1 rfl _ _ rfl w.heap.size _ 1 (List.replicate 1 11) 2 _ rfl HO5.out rfl rfl (by omega) HB5.out.size ?_))
              intro v6 w6 ho6 hb6
              obtain ⟨b6, c6, rfl, hc6⟩ := own_came ho6 (fun c hc => (List.mem_append.1 hc).elim (rep_byte 1 11 ⟨by decide, by decide⟩ c) (fun h => by simp only [List.mem_cons, List.not_mem_nil, or_false] at h; subst h; exact ⟨by decide, by decide⟩))
              have HC6 := Lib.hid hc6
              have HB6 := Lib.hid (HB5.out.trans hb6)
              clear hc6 ho6 hb6 hcell
              go_wp2_with fail
              refine (ran_any HC6.out HB6.out 1 0 100 ⟨by decide, by decide⟩ H0.out ⟨by decide, by decide⟩).mono ?_
              rintro _ w7 ⟨r, u, f, hr, rfl, -, hb7⟩
              have h2 := stack_two ⟨1, by omega⟩ ⟨0, by omega⟩
              have h2' : decide ((runP (List.replicate 1 11 ++ [2]) 1 0 100).2.2 = 15) = decide (1 < 2) := h2
              have hr' : runP (List.replicate 1 11 ++ [2]) 1 0 100 = (r, u, f) := hr
              rw [hr'] at h2'
              clear hr'
              have h2'' : decide (f = 15) = true := h2'
              have HB7 := Lib.hid hb7
              clear hr h2 h2' hb7 HC6 HB6
              have hf := of_decide_eq_true h2''
              subst hf
              clear h2''
              go_wp2_with fail
              go_ret
              exact ⟨rfl, HB7.out⟩
            · have hcell := hs7 1 (by omega)
              rw [show stackOps.getD 1 0 = 3 from rfl] at hcell
              clear hs7
              go_wp2_with (at_builtin; go_must (refine wpList_app1 rfl _ _ rfl w.heap.size _ 1 (List.replicate 1 11) 3 _ rfl HO5.out rfl rfl (by omega) HB5.out.size ?_))
              intro v6 w6 ho6 hb6
              obtain ⟨b6, c6, rfl, hc6⟩ := own_came ho6 (fun c hc => (List.mem_append.1 hc).elim (rep_byte 1 11 ⟨by decide, by decide⟩ c) (fun h => by simp only [List.mem_cons, List.not_mem_nil, or_false] at h; subst h; exact ⟨by decide, by decide⟩))
              have HC6 := Lib.hid hc6
              have HB6 := Lib.hid (HB5.out.trans hb6)
              clear hc6 ho6 hb6 hcell
              go_wp2_with fail
              refine (ran_any HC6.out HB6.out 1 0 100 ⟨by decide, by decide⟩ H0.out ⟨by decide, by decide⟩).mono ?_
              rintro _ w7 ⟨r, u, f, hr, rfl, -, hb7⟩
              have h2 := stack_two ⟨1, by omega⟩ ⟨1, by omega⟩
              have h2' : decide ((runP (List.replicate 1 11 ++ [3]) 1 0 100).2.2 = 15) = decide (1 < 2) := h2
              have hr' : runP (List.replicate 1 11 ++ [3]) 1 0 100 = (r, u, f) := hr
              rw [hr'] at h2'
              clear hr'
              have h2'' : decide (f = 15) = true := h2'
              have HB7 := Lib.hid hb7
              clear hr h2 h2' hb7 HC6 HB6
              have hf := of_decide_eq_true h2''
              subst hf
              clear h2''
              go_wp2_with fail
              go_ret
              exact ⟨rfl, HB7.out⟩
            · have hcell := hs7 2 (by omega)
              rw [show stackOps.getD 2 0 = 4 from rfl] at hcell
              clear hs7
              go_wp2_with (at_builtin; go_must (refine wpList_app1 rfl _ _ rfl w.heap.size _ 1 (List.replicate 1 11) 4 _ rfl HO5.out rfl rfl (by omega) HB5.out.size ?_))
              intro v6 w6 ho6 hb6
              obtain ⟨b6, c6, rfl, hc6⟩ := own_came ho6 (fun c hc => (List.mem_append.1 hc).elim (rep_byte 1 11 ⟨by decide, by decide⟩ c) (fun h => by simp only [List.mem_cons, List.not_mem_nil, or_false] at h; subst h; exact ⟨by decide, by decide⟩))
              have HC6 := Lib.hid hc6
              have HB6 := Lib.hid (HB5.out.trans hb6)
              clear hc6 ho6 hb6 hcell
              go_wp2_with fail
              refine (ran_any HC6.out HB6.out 1 0 100 ⟨by decide, by decide⟩ H0.out ⟨by decide, by decide⟩).mono ?_
              rintro _ w7 ⟨r, u, f, hr, rfl, -, hb7⟩
              have h2 := stack_two ⟨1, by omega⟩ ⟨2, by omega⟩
              have h2' : decide ((runP (List.replicate 1 11 ++ [4]) 1 0 100).2.2 = 15) = decide (1 < 2) := h2
              have hr' : runP (List.replicate 1 11 ++ [4]) 1 0 100 = (r, u, f) := hr
              rw [hr'] at h2'
              clear hr'
              have h2'' : decide (f = 15) = true := h2'
              have HB7 := Lib.hid hb7
              clear hr h2 h2' hb7 HC6 HB6
              have hf := of_decide_eq_true h2''
              subst hf
              clear h2''
              go_wp2_with fail
              go_ret
              exact ⟨rfl, HB7.out⟩
            · have hcell := hs7 3 (by omega)
              rw [show stackOps.getD 3 0 = 5 from rfl] at hcell
              clear hs7
              go_wp2_with (at_builtin; go_must (refine wpList_app1 rfl _ _ rfl w.heap.size _ 1 (List.replicate 1 11) 5 _ rfl HO5.out rfl rfl (by omega) HB5.out.size ?_))
              intro v6 w6 ho6 hb6
              obtain ⟨b6, c6, rfl, hc6⟩ := own_came ho6 (fun c hc => (List.mem_append.1 hc).elim (rep_byte 1 11 ⟨by decide, by decide⟩ c) (fun h => by simp only [List.mem_cons, List.not_mem_nil, or_false] at h; subst h; exact ⟨by decide, by decide⟩))
              have HC6 := Lib.hid hc6
              have HB6 := Lib.hid (HB5.out.trans hb6)
              clear hc6 ho6 hb6 hcell
              go_wp2_with fail
              refine (ran_any HC6.out HB6.out 1 0 100 ⟨by decide, by decide⟩ H0.out ⟨by decide, by decide⟩).mono ?_
              rintro _ w7 ⟨r, u, f, hr, rfl, -, hb7⟩
              have h2 := stack_two ⟨1, by omega⟩ ⟨3, by omega⟩
              have h2' : decide ((runP (List.replicate 1 11 ++ [5]) 1 0 100).2.2 = 15) = decide (1 < 2) := h2
              have hr' : runP (List.replicate 1 11 ++ [5]) 1 0 100 = (r, u, f) := hr
              rw [hr'] at h2'
              clear hr'
              have h2'' : decide (f = 15) = true := h2'
              have HB7 := Lib.hid hb7
              clear hr h2 h2' hb7 HC6 HB6
              have hf := of_decide_eq_true h2''
              subst hf
              clear h2''
              go_wp2_with fail
              go_ret
              exact ⟨rfl, HB7.out⟩
            · have hcell := hs7 4 (by omega)
              rw [show stackOps.getD 4 0 = 6 from rfl] at hcell
              clear hs7
              go_wp2_with (at_builtin; go_must (refine wpList_app1 rfl _ _ rfl w.heap.size _ 1 (List.replicate 1 11) 6 _ rfl HO5.out rfl rfl (by omega) HB5.out.size ?_))
              intro v6 w6 ho6 hb6
              obtain ⟨b6, c6, rfl, hc6⟩ := own_came ho6 (fun c hc => (List.mem_append.1 hc).elim (rep_byte 1 11 ⟨by decide, by decide⟩ c) (fun h => by simp only [List.mem_cons, List.not_mem_nil, or_false] at h; subst h; exact ⟨by decide, by decide⟩))
              have HC6 := Lib.hid hc6
              have HB6 := Lib.hid (HB5.out.trans hb6)
              clear hc6 ho6 hb6 hcell
              go_wp2_with fail
              refine (ran_any HC6.out HB6.out 1 0 100 ⟨by decide, by decide⟩ H0.out ⟨by decide, by decide⟩).mono ?_
              rintro _ w7 ⟨r, u, f, hr, rfl, -, hb7⟩
              have h2 := stack_two ⟨1, by omega⟩ ⟨4, by omega⟩
              have h2' : decide ((runP (List.replicate 1 11 ++ [6]) 1 0 100).2.2 = 15) = decide (1 < 2) := h2
              have hr' : runP (List.replicate 1 11 ++ [6]) 1 0 100 = (r, u, f) := hr
              rw [hr'] at h2'
              clear hr'
              have h2'' : decide (f = 15) = true := h2'
              have HB7 := Lib.hid hb7
              clear hr h2 h2' hb7 HC6 HB6
              have hf := of_decide_eq_true h2''
              subst hf
              clear h2''
              go_wp2_with fail
              go_ret
              exact ⟨rfl, HB7.out⟩
            · have hcell := hs7 5 (by omega)
              rw [show stackOps.getD 5 0 = 7 from rfl] at hcell
              clear hs7
              go_wp2_with (at_builtin; go_must (refine wpList_app1 rfl _ _ rfl w.heap.size _ 1 (List.replicate 1 11) 7 _ rfl HO5.out rfl rfl (by omega) HB5.out.size ?_))
              intro v6 w6 ho6 hb6
              obtain ⟨b6, c6, rfl, hc6⟩ := own_came ho6 (fun c hc => (List.mem_append.1 hc).elim (rep_byte 1 11 ⟨by decide, by decide⟩ c) (fun h => by simp only [List.mem_cons, List.not_mem_nil, or_false] at h; subst h; exact ⟨by decide, by decide⟩))
              have HC6 := Lib.hid hc6
              have HB6 := Lib.hid (HB5.out.trans hb6)
              clear hc6 ho6 hb6 hcell
              go_wp2_with fail
              refine (ran_any HC6.out HB6.out 1 0 100 ⟨by decide, by decide⟩ H0.out ⟨by decide, by decide⟩).mono ?_
              rintro _ w7 ⟨r, u, f, hr, rfl, -, hb7⟩
              have h2 := stack_two ⟨1, by omega⟩ ⟨5, by omega⟩
              have h2' : decide ((runP (List.replicate 1 11 ++ [7]) 1 0 100).2.2 = 15) = decide (1 < 2) := h2
              have hr' : runP (List.replicate 1 11 ++ [7]) 1 0 100 = (r, u, f) := hr
              rw [hr'] at h2'
              clear hr'
              have h2'' : decide (f = 15) = true := h2'
              have HB7 := Lib.hid hb7
              clear hr h2 h2' hb7 HC6 HB6
              have hf := of_decide_eq_true h2''
              subst hf
              clear h2''
              go_wp2_with fail
              go_ret
              exact ⟨rfl, HB7.out⟩
            · have hcell := hs7 6 (by omega)
              rw [show stackOps.getD 6 0 = 9 from rfl] at hcell
              clear hs7
              go_wp2_with (at_builtin; go_must (refine wpList_app1 rfl _ _ rfl w.heap.size _ 1 (List.replicate 1 11) 9 _ rfl HO5.out rfl rfl (by omega) HB5.out.size ?_))
              intro v6 w6 ho6 hb6
              obtain ⟨b6, c6, rfl, hc6⟩ := own_came ho6 (fun c hc => (List.mem_append.1 hc).elim (rep_byte 1 11 ⟨by decide, by decide⟩ c) (fun h => by simp only [List.mem_cons, List.not_mem_nil, or_false] at h; subst h; exact ⟨by decide, by decide⟩))
              have HC6 := Lib.hid hc6
              have HB6 := Lib.hid (HB5.out.trans hb6)
              clear hc6 ho6 hb6 hcell
              go_wp2_with fail
              refine (ran_any HC6.out HB6.out 1 0 100 ⟨by decide, by decide⟩ H0.out ⟨by decide, by decide⟩).mono ?_
              rintro _ w7 ⟨r, u, f, hr, rfl, -, hb7⟩
              have h2 := stack_two ⟨1, by omega⟩ ⟨6, by omega⟩
              have h2' : decide ((runP (List.replicate 1 11 ++ [9]) 1 0 100).2.2 = 15) = decide (1 < 2) := h2
              have hr' : runP (List.replicate 1 11 ++ [9]) 1 0 100 = (r, u, f) := hr
              rw [hr'] at h2'
              clear hr'
              have h2'' : decide (f = 15) = true := h2'
              have HB7 := Lib.hid hb7
              clear hr h2 h2' hb7 HC6 HB6
              have hf := of_decide_eq_true h2''
              subst hf
              clear h2''
              go_wp2_with fail
              go_ret
              exact ⟨rfl, HB7.out⟩
          · have hi0' : ¬ ((i : Int) = 0) := by omega
            have hi2 : 2 ≤ i := by omega
            go_wp2_with fail
            refine (within_any op 7 _ (by omega) (by omega)).mono ?_
            rintro _ _ ⟨rfl, rfl⟩
            have hm7 : op % 7 = 0 ∨ op % 7 = 1 ∨ op % 7 = 2 ∨ op % 7 = 3 ∨ op % 7 = 4 ∨ op % 7 = 5 ∨ op % 7 = 6 := by omega
            generalize op % 7 = m at *
            have hs7 := seven_new w4
            have hb5 : Below w.heap.size w (w4.alloc (Obj.cells #[.int .i64 2, .int .i64 3, .int .i64 4, .int .i64 5, .int .i64 6, .int .i64 7, .int .i64 9] 3)) := HB4.out.alloc HB4.out.size _
            have ho5 := own_later HO4.out ((Below.refl w4.heap.size w4).alloc (Nat.le_refl _) (Obj.cells #[.int .i64 2, .int .i64 3, .int .i64 4, .int .i64 5, .int .i64 6, .int .i64 7, .int .i64 9] 3))
            have HB5 := Lib.hid hb5
            have HO5 := Lib.hid ho5
            clear hb5 ho5
            generalize w4.alloc (Obj.cells #[.int .i64 2, .int .i64 3, .int .i64 4, .int .i64 5, .int .i64 6, .int .i64 7, .int .i64 9] 3) = X5 at *
            rcases hm7 with rfl | rfl | rfl | rfl | rfl | rfl | rfl
            · have hcell := hs7 0 (by omega)
              rw [show stackOps.getD 0 0 = 2 from rfl] at hcell
              clear hs7
              go_wp2_with (at_builtin; go_must (refine wpList_app1 rfl _ _ rfl w.heap.size _ i (List.replicate i 11) 2 _ rfl HO5.out rfl rfl (by omega) HB5.out.size ?_))
              intro v6 w6 ho6 hb6
              obtain ⟨b6, c6, rfl, hc6⟩ := own_came ho6 (fun c hc => (List.mem_append.1 hc).elim (rep_byte i 11 ⟨by decide, by decide⟩ c) (fun h => by simp only [List.mem_cons, List.not_mem_nil, or_false] at h; subst h; exact ⟨by decide, by decide⟩))
              have HC6 := Lib.hid hc6
              have HB6 := Lib.hid (HB5.out.trans hb6)
              clear hc6 ho6 hb6 hcell
              go_wp2_with fail
              refine (ran_any HC6.out HB6.out 1 0 100 ⟨by decide, by decide⟩ H0.out ⟨by decide, by decide⟩).mono ?_
              rintro _ w7 ⟨r, u, f, hr, rfl, -, hb7⟩
              have h2 := stack_two ⟨i, by omega⟩ ⟨0, by omega⟩
              have h2' : decide ((runP (List.replicate i 11 ++ [2]) 1 0 100).2.2 = 15) = decide (i < 2) := h2
              have hr' : runP (List.replicate i 11 ++ [2]) 1 0 100 = (r, u, f) := hr
              rw [hr'] at h2'
              clear hr'
              have h2'' : decide (f = 15) = decide (i < 2) := h2'
              have HB7 := Lib.hid hb7
              clear hr h2 h2' hb7 HC6 HB6
              rw [decide_eq_false (show ¬ i < 2 by omega)] at h2''
              have hf : (f == 15) = false := by simp; exact of_decide_eq_false h2''
              have hi2 : decide ((i : Int) < 2) = false := decide_eq_false (by omega)
              clear h2''
              go_wp2_with fail
              go_ret
              exact ⟨rfl, HB7.out⟩
            · have hcell := hs7 1 (by omega)
              rw [show stackOps.getD 1 0 = 3 from rfl] at hcell
              clear hs7
              go_wp2_with (at_builtin; go_must (refine wpList_app1 rfl _ _ rfl w.heap.size _ i (List.replicate i 11) 3 _ rfl HO5.out rfl rfl (by omega) HB5.out.size ?_))
              intro v6 w6 ho6 hb6
              obtain ⟨b6, c6, rfl, hc6⟩ := own_came ho6 (fun c hc => (List.mem_append.1 hc).elim (rep_byte i 11 ⟨by decide, by decide⟩ c) (fun h => by simp only [List.mem_cons, List.not_mem_nil, or_false] at h; subst h; exact ⟨by decide, by decide⟩))
              have HC6 := Lib.hid hc6
              have HB6 := Lib.hid (HB5.out.trans hb6)
              clear hc6 ho6 hb6 hcell
              go_wp2_with fail
              refine (ran_any HC6.out HB6.out 1 0 100 ⟨by decide, by decide⟩ H0.out ⟨by decide, by decide⟩).mono ?_
              rintro _ w7 ⟨r, u, f, hr, rfl, -, hb7⟩
              have h2 := stack_two ⟨i, by omega⟩ ⟨1, by omega⟩
              have h2' : decide ((runP (List.replicate i 11 ++ [3]) 1 0 100).2.2 = 15) = decide (i < 2) := h2
              have hr' : runP (List.replicate i 11 ++ [3]) 1 0 100 = (r, u, f) := hr
              rw [hr'] at h2'
              clear hr'
              have h2'' : decide (f = 15) = decide (i < 2) := h2'
              have HB7 := Lib.hid hb7
              clear hr h2 h2' hb7 HC6 HB6
              rw [decide_eq_false (show ¬ i < 2 by omega)] at h2''
              have hf : (f == 15) = false := by simp; exact of_decide_eq_false h2''
              have hi2 : decide ((i : Int) < 2) = false := decide_eq_false (by omega)
              clear h2''
              go_wp2_with fail
              go_ret
              exact ⟨rfl, HB7.out⟩
            · have hcell := hs7 2 (by omega)
              rw [show stackOps.getD 2 0 = 4 from rfl] at hcell
              clear hs7
              go_wp2_with (at_builtin; go_must (refine wpList_app1 rfl _ _ rfl w.heap.size _ i (List.replicate i 11) 4 _ rfl HO5.out rfl rfl (by omega) HB5.out.size ?_))
              intro v6 w6 ho6 hb6
              obtain ⟨b6, c6, rfl, hc6⟩ := own_came ho6 (fun c hc => (List.mem_append.1 hc).elim (rep_byte i 11 ⟨by decide, by decide⟩ c) (fun h => by simp only [List.mem_cons, List.not_mem_nil, or_false] at h; subst h; exact ⟨by decide, by decide⟩))
              have HC6 := Lib.hid hc6
              have HB6 := Lib.hid (HB5.out.trans hb6)
              clear hc6 ho6 hb6 hcell
              go_wp2_with fail
              refine (ran_any HC6.out HB6.out 1 0 100 ⟨by decide, by decide⟩ H0.out ⟨by decide, by decide⟩).mono ?_
              rintro _ w7 ⟨r, u, f, hr, rfl, -, hb7⟩
              have h2 := stack_two ⟨i, by omega⟩ ⟨2, by omega⟩
              have h2' : decide ((runP (List.replicate i 11 ++ [4]) 1 0 100).2.2 = 15) = decide (i < 2) := h2
              have hr' : runP (List.replicate i 11 ++ [4]) 1 0 100 = (r, u, f) := hr
              rw [hr'] at h2'
              clear hr'
              have h2'' : decide (f = 15) = decide (i < 2) := h2'
              have HB7 := Lib.hid hb7
              clear hr h2 h2' hb7 HC6 HB6
              rw [decide_eq_false (show ¬ i < 2 by omega)] at h2''
              have hf : (f == 15) = false := by simp; exact of_decide_eq_false h2''
              have hi2 : decide ((i : Int) < 2) = false := decide_eq_false (by omega)
              clear h2''
              go_wp2_with fail
              go_ret
              exact ⟨rfl, HB7.out⟩
            · have hcell := hs7 3 (by omega)
              rw [show stackOps.getD 3 0 = 5 from rfl] at hcell
              clear hs7
              go_wp2_with (at_builtin; go_must (refine wpList_app1 rfl _ _ rfl w.heap.size _ i (List.replicate i 11) 5 _ rfl HO5.out rfl rfl (by omega) HB5.out.size ?_))
              intro v6 w6 ho6 hb6
              obtain ⟨b6, c6, rfl, hc6⟩ := own_came ho6 (fun c hc => (List.mem_append.1 hc).elim (rep_byte i 11 ⟨by decide, by decide⟩ c) (fun h => by simp only [List.mem_cons, List.not_mem_nil, or_false] at h; subst h; exact ⟨by decide, by decide⟩))
              have HC6 := Lib.hid hc6
              have HB6 := Lib.hid (HB5.out.trans hb6)
              clear hc6 ho6 hb6 hcell
              go_wp2_with fail
              refine (ran_any HC6.out HB6.out 1 0 100 ⟨by decide, by decide⟩ H0.out ⟨by decide, by decide⟩).mono ?_
              rintro _ w7 ⟨r, u, f, hr, rfl, -, hb7⟩
              have h2 := stack_two ⟨i, by omega⟩ ⟨3, by omega⟩
              have h2' : decide ((runP (List.replicate i 11 ++ [5]) 1 0 100).2.2 = 15) = decide (i < 2) := h2
              have hr' : runP (List.replicate i 11 ++ [5]) 1 0 100 = (r, u, f) := hr
              rw [hr'] at h2'
              clear hr'
              have h2'' : decide (f = 15) = decide (i < 2) := h2'
              have HB7 := Lib.hid hb7
              clear hr h2 h2' hb7 HC6 HB6
              rw [decide_eq_false (show ¬ i < 2 by omega)] at h2''
              have hf : (f == 15) = false := by simp; exact of_decide_eq_false h2''
              have hi2 : decide ((i : Int) < 2) = false := decide_eq_false (by omega)
              clear h2''
              go_wp2_with fail
              go_ret
              exact ⟨rfl, HB7.out⟩
            · have hcell := hs7 4 (by omega)
              rw [show stackOps.getD 4 0 = 6 from rfl] at hcell
              clear hs7
              go_wp2_with (at_builtin; go_must (refine wpList_app1 rfl _ _ rfl w.heap.size _ i (List.replicate i 11) 6 _ rfl HO5.out rfl rfl (by omega) HB5.out.size ?_))
              intro v6 w6 ho6 hb6
              obtain ⟨b6, c6, rfl, hc6⟩ := own_came ho6 (fun c hc => (List.mem_append.1 hc).elim (rep_byte i 11 ⟨by decide, by decide⟩ c) (fun h => by simp only [List.mem_cons, List.not_mem_nil, or_false] at h; subst h; exact ⟨by decide, by decide⟩))
              have HC6 := Lib.hid hc6
              have HB6 := Lib.hid (HB5.out.trans hb6)
              clear hc6 ho6 hb6 hcell
              go_wp2_with fail
              refine (ran_any HC6.out HB6.out 1 0 100 ⟨by decide, by decide⟩ H0.out ⟨by decide, by decide⟩).mono ?_
              rintro _ w7 ⟨r, u, f, hr, rfl, -, hb7⟩
              have h2 := stack_two ⟨i, by omega⟩ ⟨4, by omega⟩
              have h2' : decide ((runP (List.replicate i 11 ++ [6]) 1 0 100).2.2 = 15) = decide (i < 2) := h2
              have hr' : runP (List.replicate i 11 ++ [6]) 1 0 100 = (r, u, f) := hr
              rw [hr'] at h2'
              clear hr'
              have h2'' : decide (f = 15) = decide (i < 2) := h2'
              have HB7 := Lib.hid hb7
              clear hr h2 h2' hb7 HC6 HB6
              rw [decide_eq_false (show ¬ i < 2 by omega)] at h2''
              have hf : (f == 15) = false := by simp; exact of_decide_eq_false h2''
              have hi2 : decide ((i : Int) < 2) = false := decide_eq_false (by omega)
              clear h2''
              go_wp2_with fail
              go_ret
              exact ⟨rfl, HB7.out⟩
            · have hcell := hs7 5 (by omega)
              rw [show stackOps.getD 5 0 = 7 from rfl] at hcell
              clear hs7
              go_wp2_with (at_builtin; go_must (refine wpList_app1 rfl _ _ rfl w.heap.size _ i (List.replicate i 11) 7 _ rfl HO5.out rfl rfl (by omega) HB5.out.size ?_))
              intro v6 w6 ho6 hb6
              obtain ⟨b6, c6, rfl, hc6⟩ := own_came ho6 (fun c hc => (List.mem_append.1 hc).elim (rep_byte i 11 ⟨by decide, by decide⟩ c) (fun h => by simp only [List.mem_cons, List.not_mem_nil, or_false] at h; subst h; exact ⟨by decide, by decide⟩))
              have HC6 := Lib.hid hc6
              have HB6 := Lib.hid (HB5.out.trans hb6)
              clear hc6 ho6 hb6 hcell
              go_wp2_with fail
              refine (ran_any HC6.out HB6.out 1 0 100 ⟨by decide, by decide⟩ H0.out ⟨by decide, by decide⟩).mono ?_
              rintro _ w7 ⟨r, u, f, hr, rfl, -, hb7⟩
              have h2 := stack_two ⟨i, by omega⟩ ⟨5, by omega⟩
              have h2' : decide ((runP (List.replicate i 11 ++ [7]) 1 0 100).2.2 = 15) = decide (i < 2) := h2
              have hr' : runP (List.replicate i 11 ++ [7]) 1 0 100 = (r, u, f) := hr
              rw [hr'] at h2'
              clear hr'
              have h2'' : decide (f = 15) = decide (i < 2) := h2'
              have HB7 := Lib.hid hb7
              clear hr h2 h2' hb7 HC6 HB6
              rw [decide_eq_false (show ¬ i < 2 by omega)] at h2''
              have hf : (f == 15) = false := by simp; exact of_decide_eq_false h2''
              have hi2 : decide ((i : Int) < 2) = false := decide_eq_false (by omega)
              clear h2''
              go_wp2_with fail
              go_ret
              exact ⟨rfl, HB7.out⟩
            · have hcell := hs7 6 (by omega)
              rw [show stackOps.getD 6 0 = 9 from rfl] at hcell
              clear hs7
              go_wp2_with (at_builtin; go_must (refine wpList_app1 rfl _ _ rfl w.heap.size _ i (List.replicate i 11) 9 _ rfl HO5.out rfl rfl (by omega) HB5.out.size ?_))
              intro v6 w6 ho6 hb6
              obtain ⟨b6, c6, rfl, hc6⟩ := own_came ho6 (fun c hc => (List.mem_append.1 hc).elim (rep_byte i 11 ⟨by decide, by decide⟩ c) (fun h => by simp only [List.mem_cons, List.not_mem_nil, or_false] at h; subst h; exact ⟨by decide, by decide⟩))
              have HC6 := Lib.hid hc6
              have HB6 := Lib.hid (HB5.out.trans hb6)
              clear hc6 ho6 hb6 hcell
              go_wp2_with fail
              refine (ran_any HC6.out HB6.out 1 0 100 ⟨by decide, by decide⟩ H0.out ⟨by decide, by decide⟩).mono ?_
              rintro _ w7 ⟨r, u, f, hr, rfl, -, hb7⟩
              have h2 := stack_two ⟨i, by omega⟩ ⟨6, by omega⟩
              have h2' : decide ((runP (List.replicate i 11 ++ [9]) 1 0 100).2.2 = 15) = decide (i < 2) := h2
              have hr' : runP (List.replicate i 11 ++ [9]) 1 0 100 = (r, u, f) := hr
              rw [hr'] at h2'
              clear hr'
              have h2'' : decide (f = 15) = decide (i < 2) := h2'
              have HB7 := Lib.hid hb7
              clear hr h2 h2' hb7 HC6 HB6
              rw [decide_eq_false (show ¬ i < 2 by omega)] at h2''
              have hf : (f == 15) = false := by simp; exact of_decide_eq_false h2''
              have hi2 : decide ((i : Int) < 2) = false := decide_eq_false (by omega)
              clear h2''
              go_wp2_with fail
              go_ret
              exact ⟨rfl, HB7.out⟩
end Go.Proofs.Ytdbnfafafhdolaa
