/- VmPushes: what is pushed is on top; what is dropped is gone; two change places. -/
import Derived.Test.YtdbnfafafhdolaaLLoops
import Derived.Test.YtdbnfafafhdolaaVPl
namespace Go.Proofs.Ytdbnfafafhdolaa
open Go Go.RowKit
set_option linter.unusedVariables false
set_option linter.unusedSimpArgs false

theorem push_bytes (a b : Int) (t : List Int) (ht : ∀ c ∈ t, Byte c) : ∀ c ∈ 1 :: (eight a ++ 1 :: (eight b ++ t)), Byte c := by
  intro c hc
  rcases List.mem_cons.1 hc with rfl | hc
  · exact ⟨by omega, by omega⟩
  rcases List.mem_append.1 hc with hc | hc
  · exact eight_byte a c hc
  rcases List.mem_cons.1 hc with rfl | hc
  · exact ⟨by omega, by omega⟩
  rcases List.mem_append.1 hc with hc | hc
  · exact eight_byte b c hc
  · exact ht c hc

set_option maxRecDepth 100000 in
set_option maxHeartbeats 4000000 in
theorem lpushes_any (a b which : Int) (w : World) (ha : I64 a) (hb : I64 b) (hw : I64 which) :
    Calls Try.prog 8 #[.int .i64 a, .int .i64 b, .int .i64 which] w fun e w' => e = .returned (.bool true) ∧ Below w.heap.size w w' := by
  have HNA := Lib.hid (num_eight ha)
  have HNB := Lib.hid (num_eight hb)
  have H0 : Hid (I64 0) := ⟨by decide, by decide⟩
  have hc2 : ∀ (w : World) (x y : Int), Byte x → Byte y → Hid (Came (w.alloc (Obj.cells #[.int .u8 x, .int .u8 y] 5)) (some ⟨w.heap.size, 0, none⟩) 2 2 [x, y]) := fun w x y hx hy => came_new w [x, y] (by intro c hc; simp only [List.mem_cons, List.not_mem_nil, or_false] at hc; rcases hc with rfl | rfl; exact hx; exact hy) (by simp)
  go_enter Try.func8, Try.ntmps8
  go_wp2_with fail
  refine (known_any w).mono ?_
  rintro _ w1 ⟨rfl, hb1⟩
  have HB := Lib.hid hb1
  clear hb1
  go_wp2_with fail
  refine (push_any w.heap.size (.slice none 0 0) 0 [] a w1 (World.ownsRow_nil _ _ _ _) HB.out.size (by omega)).mono ?_
  rintro _ w2 ⟨v2, rfl, ho2, hb2⟩
  have HO2 := Lib.hid ho2
  have HB2 := Lib.hid (HB.out.trans hb2)
  clear ho2 hb2 HB
  go_wp2_with fail
  refine (push_any w.heap.size v2 9 _ b w2 HO2.out HB2.out.size (by omega)).mono ?_
  rintro _ w3 ⟨v3, rfl, ho3, hb3⟩
  obtain ⟨b3, c3, rfl⟩ := own_slice ho3
  have HO3 := Lib.hid ho3
  have HB3 := Lib.hid (HB2.out.trans hb3)
  clear ho3 hb3 HB2 HO2
  go_wp2_with fail
  refine (within_any which 5 w3 (by omega) (by omega)).mono ?_
  rintro _ _ ⟨rfl, rfl⟩
  have ht : which % 5 = 0 ∨ which % 5 = 1 ∨ which % 5 = 2 ∨ which % 5 = 3 ∨ which % 5 = 4 := by omega
  generalize which % 5 = t at *
  obtain ⟨i0, hi, hz0, hz1, hz2⟩ := info_parts Try.infoByte
  rcases ht with rfl | rfl | rfl | rfl | rfl
  · obtain ⟨b4, c4, he, hc4⟩ := own_came (xs := 1 :: (eight a ++ 1 :: eight b)) HO3.out (by have h := push_bytes a b [] (by simp); simpa using h)
    cases he
    have HC4 := Lib.hid hc4
    have HB4 := HB3
    clear hc4 hc2
    go_wp2_with fail
    refine (ran_any HC4.out HB4.out 0 0 20 H0.out H0.out ⟨by decide, by decide⟩).mono ?_
    rintro _ w5 ⟨r, u, f, hr, rfl, -, hb5⟩
    rw [pushes_0 a b, HNB.out] at hr
    simp only [Prod.mk.injEq] at hr
    obtain ⟨rfl, rfl, rfl⟩ := hr
    have HB5 := Lib.hid hb5
    clear hb5 HC4 HB4
    go_wp2_with fail
    go_ret
    exact ⟨rfl, HB5.out⟩
  · go_wp2_with (at_builtin; go_must (refine wpList_app1 rfl _ _ rfl w.heap.size _ 18 _ 10 w3 rfl HO3.out rfl rfl (by omega) HB3.out.size ?_))
    intro v4 w4 ho4 hb4
    obtain ⟨b4, c4, rfl, hc4⟩ := own_came (xs := 1 :: (eight a ++ 1 :: (eight b ++ [10]))) ho4 (push_bytes a b [10] (by simp [Byte]))
    have HC4 := Lib.hid hc4
    have HB4 := Lib.hid (HB3.out.trans hb4)
    clear hc4 ho4 hb4 hc2
    go_wp2_with fail
    refine (ran_any HC4.out HB4.out 0 0 20 H0.out H0.out ⟨by decide, by decide⟩).mono ?_
    rintro _ w5 ⟨r, u, f, hr, rfl, -, hb5⟩
    rw [pushes_1 a b, HNA.out] at hr
    simp only [Prod.mk.injEq] at hr
    obtain ⟨rfl, rfl, rfl⟩ := hr
    have HB5 := Lib.hid hb5
    clear hb5 HC4 HB4
    go_wp2_with fail
    go_ret
    exact ⟨rfl, HB5.out⟩
  · go_wp2_with (at_builtin; go_must (refine wpList_app1 rfl _ _ rfl w.heap.size _ 18 _ 9 w3 rfl HO3.out rfl rfl (by omega) HB3.out.size ?_))
    intro v4 w4 ho4 hb4
    obtain ⟨b4, c4, rfl, hc4⟩ := own_came (xs := 1 :: (eight a ++ 1 :: (eight b ++ [9]))) ho4 (push_bytes a b [9] (by simp [Byte]))
    have HC4 := Lib.hid hc4
    have HB4 := Lib.hid (HB3.out.trans hb4)
    clear hc4 ho4 hb4 hc2
    go_wp2_with fail
    refine (ran_any HC4.out HB4.out 0 0 20 H0.out H0.out ⟨by decide, by decide⟩).mono ?_
    rintro _ w5 ⟨r, u, f, hr, rfl, -, hb5⟩
    rw [pushes_2 a b, HNA.out] at hr
    simp only [Prod.mk.injEq] at hr
    obtain ⟨rfl, rfl, rfl⟩ := hr
    have HB5 := Lib.hid hb5
    clear hb5 HC4 HB4
    go_wp2_with fail
    go_ret
    exact ⟨rfl, HB5.out⟩
  · have h2 := hc2 w3 8 10 ⟨by decide, by decide⟩ ⟨by decide, by decide⟩
    go_wp2_with (at_builtin; go_must (refine wpList_append_reads rfl _ _ 22 rfl w.heap.size 5 i0 Try.underlying22 hi hz0 hz1 hz2 _ 18 _ rfl (HO3.out.alloc _) _ 2 2 [8, 10] rfl h2.out.reads (fun h => by cases h) (by omega) (by simp; have := HB3.out.size; omega) ?_))
    intro v4 w4 ho4 hg4
    have hb4 : Below w.heap.size w w4 := (HB3.out.alloc HB3.out.size _).grown hg4 (by simp; have := HB3.out.size; omega) (fun k hk => (HO3.out.lt k hk).1)
    obtain ⟨b4, c4, rfl, hc4⟩ := own_came (xs := 1 :: (eight a ++ 1 :: (eight b ++ [8, 10]))) ho4 (push_bytes a b [8, 10] (by simp [Byte]))
    have HC4 := Lib.hid hc4
    have HB4 := Lib.hid hb4
    clear hc4 ho4 hg4 hb4 h2 hc2
    go_wp2_with fail
    refine (ran_any HC4.out HB4.out 0 0 20 H0.out H0.out ⟨by decide, by decide⟩).mono ?_
    rintro _ w5 ⟨r, u, f, hr, rfl, -, hb5⟩
    rw [pushes_3 a b, HNB.out] at hr
    simp only [Prod.mk.injEq] at hr
    obtain ⟨rfl, rfl, rfl⟩ := hr
    have HB5 := Lib.hid hb5
    clear hb5 HC4 HB4
    go_wp2_with fail
    go_ret
    exact ⟨rfl, HB5.out⟩
  · have h2 := hc2 w3 9 10 ⟨by decide, by decide⟩ ⟨by decide, by decide⟩
    go_wp2_with (at_builtin; go_must (refine wpList_append_reads rfl _ _ 22 rfl w.heap.size 5 i0 Try.underlying22 hi hz0 hz1 hz2 _ 18 _ rfl (HO3.out.alloc _) _ 2 2 [9, 10] rfl h2.out.reads (fun h => by cases h) (by omega) (by simp; have := HB3.out.size; omega) ?_))
    intro v4 w4 ho4 hg4
    have hb4 : Below w.heap.size w w4 := (HB3.out.alloc HB3.out.size _).grown hg4 (by simp; have := HB3.out.size; omega) (fun k hk => (HO3.out.lt k hk).1)
    obtain ⟨b4, c4, rfl, hc4⟩ := own_came (xs := 1 :: (eight a ++ 1 :: (eight b ++ [9, 10]))) ho4 (push_bytes a b [9, 10] (by simp [Byte]))
    have HC4 := Lib.hid hc4
    have HB4 := Lib.hid hb4
    clear hc4 ho4 hg4 hb4 h2 hc2
    go_wp2_with fail
    refine (ran_any HC4.out HB4.out 0 0 20 H0.out H0.out ⟨by decide, by decide⟩).mono ?_
    rintro _ w5 ⟨r, u, f, hr, rfl, -, hb5⟩
    rw [pushes_4 a b, HNB.out] at hr
    simp only [Prod.mk.injEq] at hr
    obtain ⟨rfl, rfl, rfl⟩ := hr
    have HB5 := Lib.hid hb5
    clear hb5 HC4 HB4
    go_wp2_with fail
    go_ret
    exact ⟨rfl, HB5.out⟩
end Go.Proofs.Ytdbnfafafhdolaa
