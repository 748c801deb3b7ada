/- The chapter's example; a number cut to a range. -/
import Derived.Test.YtibinilkhldfoaaOps
import Derived.Lib.SlBytesConst
namespace Go.Proofs.Ytibinilkhldfoaa
open Go Go.RowKit
set_option linter.unusedVariables false
set_option linter.unusedSimpArgs false

set_option maxHeartbeats 400000 in
theorem within_any (k n : Int) (w : World) (h1 : 1 ≤ n) (h2 : n ≤ 100000) :
    Calls Try.prog 14 #[.int .i64 k, .int .i64 n] w fun e w' => e = .returned (.int .i64 (k % n)) ∧ w = w' := by
  have hb := tmod_bd k n h1
  have hm := Lib.hid (mod_of_tmod k n h1)
  by_cases h : k.tmod n < 0
  · go_enter Try.func14, Try.ntmps14
    go_wp2
    go_ret
    exact ⟨ret_i64 (by rw [hm.out, if_pos h]), rfl⟩
  · by_cases hk : 0 ≤ k
    · have hge : 0 ≤ k % n := Int.emod_nonneg _ (by omega)
      have hlt : k % n < n := Int.emod_lt_of_pos _ (by omega)
      go_enter Try.func14, Try.ntmps14
      go_wp2
      go_ret
      exact ⟨rfl, rfl⟩
    · go_enter Try.func14, Try.ntmps14
      go_wp2
      go_ret
      exact ⟨ret_i64 (by rw [hm.out, if_neg (by omega)]), rfl⟩

/-- bytes that have just been laid -/
theorem came_new (w : World) (xs : List Int) (n : Nat) (hn : xs.length = n) (hs : n ≤ 1000) (hb : ∀ c ∈ xs, Byte c) (fr : Nat × Nat) : Came (w.alloc (.cells (bts xs).toArray 5 fr)) (some ⟨w.heap.size, 0, none⟩) n n xs := by
  refine ⟨⟨hn, fun hp => ⟨_, rfl, fun j v hv => ?_⟩⟩, Nat.le_refl _, by unfold maxLen; omega, (fun h => by cases h), hb⟩
  have hh : (w.alloc (.cells (bts xs).toArray 5 fr)).heap[w.heap.size]? = some (.cells (bts xs).toArray 5 fr) := by
    show (w.heap.push _)[w.heap.size]? = _
    simp
  rw [Addr.add_lit, Nat.zero_add]
  simp only [World.cell?, hh]
  simpa using hv

set_option maxRecDepth 100000 in
set_option maxHeartbeats 2000000 in
theorem known_any (w : World) : Calls Try.prog 8 #[] w fun e w' => e = .returned (.bool true) ∧ Below w.heap.size w w' := by
  go_enter Try.func8, Try.ntmps8
  go_wp2_with fail
  refine (new_any w w.heap.size (Nat.le_refl _) 10 (by omega) (by omega)).mono ?_
  rintro _ w1 ⟨g, rfl, h1, hg, hb1⟩
  obtain ⟨X, hX⟩ : ∃ X, X = w1.alloc (.cells #[.int .u8 97, .int .u8 98, .int .u8 99] 5 (3, 4)) := ⟨_, rfl⟩
  have HL : Hid (Below w.heap.size w X) := by rw [hX]; exact hb1.alloc hb1.size _
  have HC : Hid (Came X (some ⟨w1.heap.size, 0, none⟩) 3 3 [97, 98, 99]) := by
    rw [hX]
    exact came_new w1 [97, 98, 99] 3 rfl (by omega) (by intro c hc; simp at hc; rcases hc with rfl | rfl | rfl <;> exact ⟨by omega, by omega⟩) (3, 4)
  have H1 : Hid (Has w.heap.size g (Dk.new 10) X) := h1.later (by rw [hX]; exact (Below.refl _ _).alloc (Nat.le_refl _) _)
  have HX := Lib.hid hX
  clear hX h1 hb1
  have hcv : (convert 22 22 (.slice (some ⟨w1.heap.size, 0, none⟩) 3 3)).run Try.prog (w1.alloc (.cells #[.int .u8 97, .int .u8 98, .int .u8 99] 5)) = .ok (.slice (some ⟨w1.heap.size, 0, none⟩) 3 3) (w1.alloc (.cells #[.int .u8 97, .int .u8 98, .int .u8 99] 5 (3, 4))) :=
    Lib.run_convert_bytes_const w1 22 5 #[.int .u8 97, .int .u8 98, .int .u8 99] 3 3 Try.underlying22 Try.underlying5
  go_wp2_with fail
  clear hcv
  rw [← HX.out]
  refine (append_any H1.out HL.out.size (by show 0 < 1000; omega) HC.out).mono ?_
  rintro _ w2 ⟨rfl, h2, hb2⟩
  rw [show (Dk.new 10).appendE 3 = 0 from rfl]
  have H2 := Lib.hid h2
  have HB2 := Lib.hid (HL.out.trans hb2)
  clear h2 hb2 HX HL HC H1
  go_wp2_with fail
  refine (crash_any H2.out 2 (by unfold I64; omega)).mono ?_
  rintro _ w3 ⟨rfl, h3, ho3⟩
  rw [show (((Dk.new 10).append [97, 98, 99]).stays 2 : Int) = 2 from rfl]
  have HB3 := Lib.hid (HB2.out.trans (ho3.below hg HB2.out.size))
  obtain ⟨-, lv, sv, hd⟩ := h3
  have H3 := Lib.hid hd
  clear ho3 hd
  go_wp2_with fail
  refine (logs_any H3.out).mono ?_
  rintro _ w4 ⟨v, rfl, ho4, hb4⟩
  have ho5 : w4.ownsRow w3.heap.size 5 1 v 2 (bts [97, 98]) := ho4
  obtain ⟨a, c, rfl⟩ := own_slice ho5
  have hconv := conv_owned ho5
  rw [show strOfNums [97, 98] = ⟨#[97, 98]⟩ from rfl] at hconv
  have HB4 := Lib.hid (HB3.out.trans (hb4.mono HB3.out.size))
  clear ho4 ho5 hb4
  go_wp2_with fail
  go_ret
  exact ⟨rfl, HB4.out⟩
end Go.Proofs.Ytibinilkhldfoaa
