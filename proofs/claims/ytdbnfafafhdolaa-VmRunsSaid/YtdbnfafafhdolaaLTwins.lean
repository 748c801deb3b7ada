/- VmTwins: a program answers the same each time, whatever ran between. -/
import Derived.Test.YtdbnfafafhdolaaVCode
namespace Go.Proofs.Ytdbnfafafhdolaa
open Go Go.RowKit
set_option linter.unusedVariables false
set_option linter.unusedSimpArgs false

/-- a program of numbers, as a slice -/
theorem coded_any {a : Option Addr} {n cap : Nat} {ns : List Int} {w0 w : World} (hn : Nums w0 a n cap ns) (hb : Below w0.heap.size w0 w) :
    Calls Try.prog 15 #[.slice a n cap] w fun e w' => ∃ b k, e = .returned (.slice b (codeP [] ns).length k) ∧ Came w' b (codeP [] ns).length k (codeP [] ns) ∧ Below w0.heap.size w0 w' := by
  refine (code_any (hn.below hb)).mono ?_
  rintro _ w' ⟨v, rfl, ho, hb'⟩
  obtain ⟨b, k, rfl, hc⟩ := own_came ho (code_byte ns [] (by simp))
  exact ⟨b, k, rfl, hc, hb.trans (hb'.mono hb.size)⟩

theorem ran_any {a : Option Addr} {n cap : Nat} {c : List Int} {w0 w : World} (hc : Came w a n cap c) (hb : Below w0.heap.size w0 w) (arg data gas : Int) (ha : I64 arg) (hd : I64 data) (hg : I64 gas) :
    Calls Try.prog 16 #[.slice a n cap, .int .i64 arg, .int .i64 data, .int .i64 gas] w fun e w' =>
      ∃ r u f, runP c arg data gas = (r, u, f) ∧ e = .returned (.tuple #[.int .i64 r, .int .i64 u, .int .i64 f]) ∧ Came w' a n cap c ∧ Below w0.heap.size w0 w' := by
  refine (run_any hc arg data gas ha hd hg).mono ?_
  rintro _ w' ⟨rfl, hb'⟩
  exact ⟨_, _, _, rfl, rfl, hc.below hb', hb.trans (hb'.mono hb.size)⟩

theorem i150 : I64 150 := ⟨by decide, by decide⟩

set_option maxRecDepth 100000 in
set_option maxHeartbeats 4000000 in
theorem ltwins_any (a0 : Option Addr) (len0 cap0 : Nat) (xs : List Int) (a1 : Option Addr) (len1 cap1 : Nat) (ys : List Int) (arg data : Int) (w : World) (hx : Nums w a0 len0 cap0 xs) (hy : Nums w a1 len1 cap1 ys) (ha : I64 arg) (hd : I64 data) :
    Calls Try.prog 13 #[.slice a0 len0 cap0, .slice a1 len1 cap1, .int .i64 arg, .int .i64 data] w fun e w' => e = .returned (.bool true) ∧ Below w.heap.size w w' := by
  have HX := Lib.hid hx
  have HY := Lib.hid hy
  have HA := Lib.hid ha
  have HD := Lib.hid hd
  clear hx hy ha hd
  go_enter Try.func13, Try.ntmps13
  go_wp2_with fail
  refine (known_any w).mono ?_
  rintro _ w1 ⟨rfl, hb⟩
  have HB := Lib.hid hb
  clear hb
  go_wp2_with fail
  refine (coded_any HX.out HB.out).mono ?_
  rintro _ w2 ⟨b2, k2, rfl, hc2, hb2⟩
  have HC2 := Lib.hid hc2
  have HB2 := Lib.hid hb2
  clear hc2 hb2 HB
  go_wp2_with fail
  refine (ran_any HC2.out HB2.out arg data 150 HA.out HD.out i150).mono ?_
  rintro _ w3 ⟨r, u, f, hr, rfl, -, hb3⟩
  have HR := Lib.hid hr
  have HB3 := Lib.hid hb3
  clear hr hb3 HC2 HB2
  go_wp2_with fail
  refine (coded_any HY.out HB3.out).mono ?_
  rintro _ w4 ⟨b4, k4, rfl, hc4, hb4⟩
  have HC4 := Lib.hid hc4
  have HB4 := Lib.hid hb4
  clear hc4 hb4 HB3
  go_wp2_with fail
  refine (ran_any HC4.out HB4.out data arg 150 HD.out HA.out i150).mono ?_
  rintro _ w5 ⟨r5, u5, f5, -, rfl, -, hb5⟩
  have HB5 := Lib.hid hb5
  clear hb5 HC4 HB4
  go_wp2_with fail
  refine (coded_any HX.out HB5.out).mono ?_
  rintro _ w6 ⟨b6, k6, rfl, hc6, hb6⟩
  have HC6 := Lib.hid hc6
  have HB6 := Lib.hid hb6
  clear hc6 hb6 HB5
  go_wp2_with fail
  refine (ran_any HC6.out HB6.out arg data 150 HA.out HD.out i150).mono ?_
  rintro _ w7 ⟨r', u', f', hr', rfl, -, hb7⟩
  rw [HR.out] at hr'
  simp only [Prod.mk.injEq] at hr'
  obtain ⟨rfl, rfl, rfl⟩ := hr'
  have HB7 := Lib.hid hb7
  clear hb7 HC6 HB6 HR
  go_wp2_with fail
  go_ret
  exact ⟨rfl, HB7.out⟩
end Go.Proofs.Ytdbnfafafhdolaa
