/- VmLoops: a run ends, and pays for no more than it may. VmGas: what less steps make of it. -/
import Derived.Test.YtdbnfafafhdolaaLTwins
import Derived.Test.YtdbnfafafhdolaaVGasP
namespace Go.Proofs.Ytdbnfafafhdolaa
open Go Go.RowKit
set_option linter.unusedVariables false
set_option linter.unusedSimpArgs false

/-- bytes in a block made just now are one's own -/
theorem own_new (w : World) (B : Nat) (hB : B ≤ w.heap.size) (xs : List Int) (hl : xs.length ≤ 1000) : (w.alloc (Obj.cells (bts xs).toArray 5)).ownsRow B 5 1 (.slice (some ⟨w.heap.size, 0, none⟩) xs.length xs.length) xs.length (bts xs) := by
  refine ⟨by rw [bts_length]; omega, .inr ⟨w.heap.size, xs.length, _, rfl, hB, heap_alloc_new _ _, Nat.le_refl _, by unfold maxLen; omega, ?_, ?_⟩⟩
  · simp [bts]
  · simp [← bts_length xs]

set_option maxRecDepth 100000 in
set_option maxHeartbeats 4000000 in
theorem lloops_any (a0 : Option Addr) (len0 cap0 : Nat) (xs : List Int) (gas arg : Int) (w : World) (hx : Nums w a0 len0 cap0 xs) (hg : I64 gas) (ha : I64 arg) :
    Calls Try.prog 6 #[.slice a0 len0 cap0, .int .i64 gas, .int .i64 arg] w fun e w' => e = .returned (.bool true) ∧ Below w.heap.size w w' := by
  have HX := Lib.hid hx
  have HA := Lib.hid ha
  clear hx ha hg
  have hc9 : ∀ w : World, Hid ((w.alloc (Obj.cells #[.int .u8 1, .int .u8 0, .int .u8 0, .int .u8 0, .int .u8 0, .int .u8 0, .int .u8 0, .int .u8 0, .int .u8 0] 5)).ownsRow w.heap.size 5 1 (.slice (some ⟨w.heap.size, 0, none⟩) 9 9) 9 (bts [1, 0, 0, 0, 0, 0, 0, 0, 0])) := fun w => own_new w w.heap.size (Nat.le_refl _) [1, 0, 0, 0, 0, 0, 0, 0, 0] (by decide)
  have hc2 : ∀ w : World, Hid (Came (w.alloc (Obj.cells #[.int .u8 13, .int .u8 0] 5)) (some ⟨w.heap.size, 0, none⟩) 2 2 [13, 0]) := fun w => came_new w [13, 0] (by simp [Byte]) (by decide)
  have H0 : Hid (I64 0) := ⟨by decide, by decide⟩
  have hl58 := code_len xs [] (by simp)
  go_enter Try.func6, Try.ntmps6
  go_wp2_with fail
  refine (known_any w).mono ?_
  rintro _ w1 ⟨rfl, hb⟩
  have HB := Lib.hid hb
  clear hb
  go_wp2_with fail
  refine (within_any gas 201 w1 (by omega) (by omega)).mono ?_
  rintro _ _ ⟨rfl, rfl⟩
  have hg0 : 0 ≤ gas % 201 := by omega
  have hg1 : gas % 201 ≤ 200 := by omega
  generalize gas % 201 = G at *
  have HG : Hid (I64 G) := ⟨by omega, by omega⟩
  go_wp2_with fail
  refine (coded_any HX.out HB.out).mono ?_
  rintro _ w2 ⟨b2, k2, rfl, hc2', hb2⟩
  have HC2 := Lib.hid hc2'
  have HB2 := Lib.hid hb2
  clear hc2' hb2 HB
  go_wp2_with fail
  refine (ran_any HC2.out HB2.out arg 0 G HA.out H0.out HG.out).mono ?_
  rintro _ w3 ⟨r, u, f, hr, rfl, -, hb3⟩
  have hu := run_within (by omega) G hg0 hg1 r u f hr
  have hu0 := hu.1
  have hu1 := hu.2
  have HB3 := Lib.hid hb3
  clear hr hb3 HC2 HB2 hu
  have h9 := hc9 w3
  have h2 := hc2 (w3.alloc (Obj.cells #[.int .u8 1, .int .u8 0, .int .u8 0, .int .u8 0, .int .u8 0, .int .u8 0, .int .u8 0, .int .u8 0, .int .u8 0] 5))
  rw [show (w3.alloc (Obj.cells #[.int .u8 1, .int .u8 0, .int .u8 0, .int .u8 0, .int .u8 0, .int .u8 0, .int .u8 0, .int .u8 0, .int .u8 0] 5)).heap.size = w3.heap.size + 1 by simp] at h2
  clear hc9 hc2
  obtain ⟨i0, hi, hz0, hz1, hz2⟩ := info_parts Try.infoByte
  go_wp2_with (at_builtin; go_must (refine wpList_append_reads rfl _ _ 22 rfl w3.heap.size 5 i0 Try.underlying22 hi hz0 hz1 hz2 _ 9 [1, 0, 0, 0, 0, 0, 0, 0, 0] rfl (h9.out.alloc _) _ 2 2 [13, 0] rfl h2.out.reads (fun h => by cases h) (by omega) (by simp; omega) ?_))
  intro v' w4 ho4 hg4
  obtain ⟨b5, c5, rfl, hc5⟩ := own_came (xs := roundC) ho4 (by simp [roundC, Byte])
  have hb4 : Below w.heap.size w w4 := ((HB3.out.alloc HB3.out.size _).alloc (by simp; have := HB3.out.size; omega) _).grown hg4 (by simp; have := HB3.out.size; omega) (fun k hk => by simp [Value.ownBlock] at hk; have := HB3.out.size; omega)
  have HC5 := Lib.hid hc5
  have HB4 := Lib.hid hb4
  clear ho4 hg4 hc5 hb4 h9 h2 HB3
  go_wp2_with fail
  refine (ran_any HC5.out HB4.out arg 0 G HA.out H0.out HG.out).mono ?_
  rintro _ w6 ⟨r6, u6, f6, hr6, rfl, -, hb6⟩
  obtain ⟨rfl, rfl⟩ := round_run _ hg0 hg1 r6 u6 f6 hr6
  have HB6 := Lib.hid hb6
  clear hr6 hb6 HC5 HB4
  go_wp2_with fail
  go_ret
  exact ⟨rfl, HB6.out⟩

set_option maxRecDepth 100000 in
set_option maxHeartbeats 4000000 in
theorem lgas_any (a0 : Option Addr) (len0 cap0 : Nat) (xs : List Int) (arg data : Int) (w : World) (hx : Nums w a0 len0 cap0 xs) (ha : I64 arg) (hd : I64 data) :
    Calls Try.prog 11 #[.slice a0 len0 cap0, .int .i64 arg, .int .i64 data] w fun e w' => e = .returned (.bool true) ∧ Below w.heap.size w w' := by
  have HX := Lib.hid hx
  have HA := Lib.hid ha
  have HD := Lib.hid hd
  clear hx ha hd
  have hl58 := code_len xs [] (by simp)
  go_enter Try.func11, Try.ntmps11
  go_wp2_with fail
  refine (known_any w).mono ?_
  rintro _ w1 ⟨rfl, hb⟩
  have HB := Lib.hid hb
  clear hb
  go_wp2_with fail
  refine (coded_any HX.out HB.out).mono ?_
  rintro _ w2 ⟨b2, k2, rfl, hc2, hb2⟩
  have HC2 := Lib.hid hc2
  have HB2 := Lib.hid hb2
  clear hc2 hb2 HB
  go_wp2_with fail
  refine (ran_any HC2.out HB2.out arg data 200 HA.out HD.out ⟨by decide, by decide⟩).mono ?_
  rintro _ w3 ⟨r, u, f, hr, rfl, hc3, hb3⟩
  obtain ⟨h1, h2⟩ := run_less (by omega) r u f hr
  have HC3 := Lib.hid hc3
  have HB3 := Lib.hid hb3
  clear hr hc3 hb3 HC2 HB2
  by_cases hf : f = 14
  · have hu := h1 hf
    subst hf
    subst hu
    clear h1 h2
    go_wp2_with fail
    go_ret
    exact ⟨rfl, HB3.out⟩
  · obtain ⟨hu1, hu2, hr2, r', hr3⟩ := h2 hf
    have hf2 : (f == 14) = false := by simp; exact hf
    have HR2 := Lib.hid hr2
    have HR3 := Lib.hid hr3
    have hu3 : ¬ (u < 1) := by omega
    clear h1 h2 hr2 hr3
    go_wp2_with fail
    refine (ran_any HC3.out HB3.out arg data u HA.out HD.out ⟨by omega, by omega⟩).mono ?_
    rintro _ w4 ⟨r4, u4, f4, hr4, rfl, hc4, hb4⟩
    rw [HR2.out] at hr4
    simp only [Prod.mk.injEq] at hr4
    obtain ⟨rfl, rfl, rfl⟩ := hr4
    have HC4 := Lib.hid hc4
    have HB4 := Lib.hid hb4
    clear hc4 hb4 HC3 HB3 HR2
    go_wp2_with fail
    refine (ran_any HC4.out HB4.out arg data (u - 1) HA.out HD.out ⟨by omega, by omega⟩).mono ?_
    rintro _ w5 ⟨r5, u5, f5, hr5, rfl, hc5, hb5⟩
    rw [HR3.out] at hr5
    simp only [Prod.mk.injEq] at hr5
    obtain ⟨rfl, rfl, rfl⟩ := hr5
    have HB5 := Lib.hid hb5
    clear hc5 hb5 HC4 HB4 HR3
    go_wp2_with fail
    go_ret
    exact ⟨rfl, HB5.out⟩
end Go.Proofs.Ytdbnfafafhdolaa
