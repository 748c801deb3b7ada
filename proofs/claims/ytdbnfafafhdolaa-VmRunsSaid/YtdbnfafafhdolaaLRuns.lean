/- VmRuns: any program, run, answers as the document says. -/
import Derived.Test.YtdbnfafafhdolaaLTwins
import Derived.Test.YtdbnfafafhdolaaRRun
namespace Go.Proofs.Ytdbnfafafhdolaa
open Go Go.RowKit
set_option linter.unusedVariables false
set_option linter.unusedSimpArgs false

theorem rran_any {a : Option Addr} {n cap : Nat} {c : List Int} {w0 w : World} (hc : Came w a n cap c) (hb : Below w0.heap.size w0 w) (arg data gas : Int) (ha : I64 arg) (hd : I64 data) (hg : I64 gas) :
    Calls Try.prog 17 #[.slice a n cap, .int .i64 arg, .int .i64 data, .int .i64 gas] w fun e w' =>
      ∃ r u f, runP c arg data gas = (r, u, f) ∧ e = .returned (.tuple #[.int .i64 r, .int .i64 u, .int .i64 f]) ∧ Came w' a n cap c ∧ Below w0.heap.size w0 w' := by
  refine (rrun_any hc arg data gas ha hd hg).mono ?_
  rintro _ w' ⟨rfl, hb'⟩
  exact ⟨_, _, _, rfl, rfl, hc.below hb', hb.trans (hb'.mono hb.size)⟩

set_option maxRecDepth 100000 in
set_option maxHeartbeats 4000000 in
theorem lruns_any (a0 : Option Addr) (len0 cap0 : Nat) (zs : List Int) (a1 : Option Addr) (len1 cap1 : Nat) (ns : List Int) (arg data gas : Int) (w : World) (hz : Came w a0 len0 cap0 zs) (hx : Nums w a1 len1 cap1 ns) (ha : I64 arg) (hd : I64 data) (hg : I64 gas) :
    Calls Try.prog 3 #[.slice a0 len0 cap0, .slice a1 len1 cap1, .int .i64 arg, .int .i64 data, .int .i64 gas] w fun e w' => e = .returned (.bool true) ∧ Below w.heap.size w w' := by
  have HZ := Lib.hid hz
  have HX := Lib.hid hx
  have HA := Lib.hid ha
  have HD := Lib.hid hd
  have HG := Lib.hid hg
  have hl58 := code_len ns [] (by simp)
  clear hz hx ha hd hg
  go_enter Try.func3, Try.ntmps3
  go_wp2_with fail
  refine (known_any w).mono ?_
  rintro _ w1 ⟨rfl, hb⟩
  have HB := Lib.hid hb
  clear hb
  by_cases hbig : 100 < len0
  · go_wp2_with fail
    go_ret
    exact ⟨rfl, HB.out⟩
  go_wp2_with fail
  go_loopw [4, 10, 11, 12, 13, 14, 15, 16, 17, 18, 19] (fun x4 _ x11 _ _ _ _ _ _ _ _ X => ∃ (g : Int), (x11 = .int .i64 0 ∨ x11 = .int .i64 1 ∨ x11 = .int .i64 2) ∧ x4 = .int .i64 g ∧ Hid (I64 g) ∧ Hid (Below w.heap.size w X)) (fun _ _ x11 _ _ _ _ _ _ _ _ _ => (2 - intOf x11).toNat)
  case atStart => exact ⟨_, .inl rfl, rfl, HG, HB⟩
  case round =>
    clear HG HB
    obtain ⟨g, hk3, rfl, HG, HB⟩ := hrel
    rcases hk3 with rfl | rfl | rfl
    · have HZZ := Lib.hid (HZ.out.below HB.out)
      go_wp2_with fail
      go_loopw [4, 10, 13, 14, 15, 16, 17, 18, 19] (fun x4 _ x13 _ _ _ _ _ _ X => ∃ (j : Nat) (g : Int), j ≤ 2 ∧ x13 = .int .i64 (j : Int) ∧ x4 = .int .i64 g ∧ Hid (I64 g) ∧ Hid (Came X a0 len0 cap0 zs) ∧ Hid (Below w.heap.size w X)) (fun _ _ x13 _ _ _ _ _ _ _ => (2 - intOf x13).toNat)
      case atStart => exact ⟨0, _, by omega, rfl, rfl, HG, HZZ, HB⟩
      case round =>
        clear HG
        obtain ⟨j, g2, hj, rfl, rfl, HG, HCJ, hW⟩ := hrel
        by_cases hj2 : j < 2
        · go_wp2_with fail
          refine (ran_any HCJ.out hW.out arg data g2 HA.out HD.out HG.out).mono ?_
          rintro _ wa ⟨r, u, f, hr, rfl, hca, hba⟩
          have HCA := Lib.hid hca
          have HBA := Lib.hid hba
          have HR := Lib.hid hr
          clear hca hba hr hW
          go_wp2_with fail
          refine (rran_any HCA.out HBA.out arg data g2 HA.out HD.out HG.out).mono ?_
          rintro _ wb ⟨r2, u2, f2, hr2, rfl, hcb, hbb⟩
          rw [HR.out] at hr2
          simp only [Prod.mk.injEq] at hr2
          obtain ⟨rfl, rfl, rfl⟩ := hr2
          have HCB := Lib.hid hcb
          have HBB := Lib.hid hbb
          clear hcb hbb HCA HBA HR
          go_wp2_with fail
          refine (within_any g2 201 wb (by omega) (by omega)).mono ?_
          rintro _ _ ⟨rfl, rfl⟩
          go_wp2_with fail
          try go_roundw
          case rel => exact ⟨j + 1, _, by omega, by go_num, rfl, Lib.hid ⟨by omega, by omega⟩, HCB, HBB⟩
          case measure => simp [intOf]; omega
        · have hj3 : j = 2 := by omega
          subst hj3
          go_wp2_with fail
          try go_roundw
          case rel => exact ⟨_, .inr (.inl rfl), rfl, HG, hW⟩
          case measure => simp [intOf]
    · go_wp2_with fail
      refine (coded_any HX.out HB.out).mono ?_
      rintro _ w2 ⟨b2, k2, rfl, hc2, hb2⟩
      have HC2 := Lib.hid hc2
      have HB2 := Lib.hid hb2
      clear hc2 hb2 HB
      generalize codeP [] ns = cs at *
      go_wp2_with fail
      go_loopw [4, 10, 13, 14, 15, 16, 17, 18, 19] (fun x4 _ x13 _ _ _ _ _ _ X => ∃ (j : Nat) (g : Int), j ≤ 2 ∧ x13 = .int .i64 (j : Int) ∧ x4 = .int .i64 g ∧ Hid (I64 g) ∧ Hid (Came X b2 cs.length k2 cs) ∧ Hid (Below w.heap.size w X)) (fun _ _ x13 _ _ _ _ _ _ _ => (2 - intOf x13).toNat)
      case atStart => exact ⟨0, _, by omega, rfl, rfl, HG, HC2, HB2⟩
      case round =>
        clear HG
        obtain ⟨j, g2, hj, rfl, rfl, HG, HCJ, hW⟩ := hrel
        by_cases hj2 : j < 2
        · go_wp2_with fail
          refine (ran_any HCJ.out hW.out arg data g2 HA.out HD.out HG.out).mono ?_
          rintro _ wa ⟨r, u, f, hr, rfl, hca, hba⟩
          have HCA := Lib.hid hca
          have HBA := Lib.hid hba
          have HR := Lib.hid hr
          clear hca hba hr hW
          go_wp2_with fail
          refine (rran_any HCA.out HBA.out arg data g2 HA.out HD.out HG.out).mono ?_
          rintro _ wb ⟨r2, u2, f2, hr2, rfl, hcb, hbb⟩
          rw [HR.out] at hr2
          simp only [Prod.mk.injEq] at hr2
          obtain ⟨rfl, rfl, rfl⟩ := hr2
          have HCB := Lib.hid hcb
          have HBB := Lib.hid hbb
          clear hcb hbb HCA HBA HR
          go_wp2_with fail
          refine (within_any g2 201 wb (by omega) (by omega)).mono ?_
          rintro _ _ ⟨rfl, rfl⟩
          go_wp2_with fail
          try go_roundw
          case rel => exact ⟨j + 1, _, by omega, by go_num, rfl, Lib.hid ⟨by omega, by omega⟩, HCB, HBB⟩
          case measure => simp [intOf]; omega
        · have hj3 : j = 2 := by omega
          subst hj3
          go_wp2_with fail
          try go_roundw
          case rel => exact ⟨_, .inr (.inr rfl), rfl, HG, hW⟩
          case measure => simp [intOf]
    · go_wp2_with fail
      go_ret
      exact ⟨rfl, HB.out⟩
end Go.Proofs.Ytdbnfafafhdolaa
