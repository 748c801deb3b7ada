/- The document's Run. -/
import Derived.Test.YtdbnfafafhdolaaRStep
import Derived.Test.YtdbnfafafhdolaaVRun
import Derived.Test.YtdbnfafafhdolaaVLaw
namespace Go.Proofs.Ytdbnfafafhdolaa
open Go Go.RowKit
set_option linter.unusedVariables false
set_option linter.unusedSimpArgs false

theorem own_nil {W : World} {B n k : Nat} {e : TypeId} {a : Option Addr} {xs : List Value} (h : W.ownsRow B e 1 (.slice a n k) n xs) (ha : a = none) : n = 0 ∧ k = 0 := by
  rcases h.2 with ⟨h1, h0⟩ | ⟨g, cap, cur, h1, _⟩
  · simp only [Value.slice.injEq] at h1
    exact ⟨h0, h1.2.2⟩
  · simp only [Value.slice.injEq] at h1
    rw [ha] at h1
    exact absurd h1.1 (by simp)

theorem step_err0 {c : List Int} {arg data : Int} {m : Ms} (h : m.fin = false) (hf : (stepP c arg data m).fin = false) : (stepP c arg data m).err = 0 ∧ (stepP c arg data m).gas + 1 = m.gas := by
  by_cases hg : m.gas < 1
  · rw [step_out h hg] at hf
    cases hf
  · refine ⟨?_, by have := step_gas (c := c) (arg := arg) (data := data) h hg; omega⟩
    unfold stepP at hf ⊢
    rw [if_neg (by rw [h]; decide), if_neg hg] at hf ⊢
    unfold paidP at hf ⊢
    split at hf
    · cases hf
    · rename_i h1
      rw [if_neg h1]
      split at hf
      · rename_i h2
        rw [if_pos h2]
        rfl
      · cases hf

set_option maxRecDepth 100000 in
set_option maxHeartbeats 4000000 in
theorem rrun_any {a : Option Addr} {n cap : Nat} {c : List Int} {w : World} (hc : Came w a n cap c) (arg data gas : Int) (ha : I64 arg) (hd : I64 data) (hg : I64 gas) :
    Calls Try.prog 17 #[.slice a n cap, .int .i64 arg, .int .i64 data, .int .i64 gas] w fun e w' =>
      e = .returned (.tuple #[.int .i64 (runP c arg data gas).1, .int .i64 (runP c arg data gas).2.1, .int .i64 (runP c arg data gas).2.2]) ∧ Below w.heap.size w w' := by
  have hl := hc.reads.1
  have hle := hc.le
  have hsm := hc.small
  unfold maxLen at hsm
  have HC := Lib.hid hc
  have HA := Lib.hid ha
  have HD := Lib.hid hd
  obtain ⟨hg1, hg2⟩ := hg
  clear hc ha hd
  by_cases hbad : 64 < c.length ∨ gas < 0 ∨ 200 < gas
  · have hp : Hid (runP c arg data gas = (0, 0, 1)) := by unfold runP; rw [if_pos hbad]; exact Lib.hid rfl
    by_cases h1 : 64 < n
    · clear hl
      go_enter Try.func17, Try.ntmps17
      go_wp2_with fail
      go_ret3
      rw [hp.out]
      exact ⟨rfl, Below.refl _ _⟩
    · by_cases h2 : gas < 0
      · go_enter Try.func17, Try.ntmps17
        go_wp2_with fail
        go_ret3
        rw [hp.out]
        exact ⟨rfl, Below.refl _ _⟩
      · have h3 : 200 < gas := by omega
        go_enter Try.func17, Try.ntmps17
        go_wp2_with fail
        go_ret3
        rw [hp.out]
        exact ⟨rfl, Below.refl _ _⟩
  · have hp : Hid (runP c arg data gas = toldP gas (lastP c arg data (startP gas))) := by unfold runP; rw [if_neg hbad]; exact Lib.hid rfl
    have h1 : n ≤ 64 := by omega
    have h2 : 0 ≤ gas := by omega
    have h3 : gas ≤ 200 := by omega
    have HS : Hid (Fit c arg data (startP gas)) := start_fit HC.out.bytes (by omega) HA.out HD.out ⟨h2, h3⟩
    clear hbad
    go_enter Try.func17, Try.ntmps17
    go_wp2_with fail
    refine (newr_any a n cap c arg data gas w HC.out (by omega)).mono ?_
    rintro _ w1 ⟨v, rfl, ho, hb⟩
    obtain ⟨a1, c1, rfl⟩ := own_slice ho
    have HO := Lib.hid ho
    have HB1 := Lib.hid hb
    clear ho hb
    go_wp2_with (refine store_agg rfl 37 (.tmp 11) (.tmp 28) rfl rfl w1.heap.size (mcl (.slice a1 n c1) (.slice none 0 0) arg data (startP gas)) rfl rfl 37 _ (heap_alloc_new _ _) size_ref rfl (mcl_one _ _ _ _ _ _ _ _ _) ?_; intro w2 hrow hon)
    have hb2 : ∀ o, Below w1.heap.size w1 (w1.alloc o) := fun o => (Below.refl _ _).alloc (Nat.le_refl _) o
    have hon' : Only w1.heap.size (w1.alloc (Obj.cells (noMac (.slice none 0 0) (.slice none 0 0)) 37)) w2 := hon
    have hr2 : (w1.alloc (Obj.cells (noMac (.slice none 0 0) (.slice none 0 0)) 37)).heap[w1.heap.size]? = some (Obj.cells (noMac (.slice none 0 0) (.slice none 0 0)) 37 (0, 0)) := heap_alloc_new _ _
    have ho2 := own_later HO.out (hb2 (Obj.cells (noMac (.slice none 0 0) (.slice none 0 0)) 37))
    have hmac : Mac 37 w.heap.size w1.heap.size c arg data (startP gas) (.slice a1 n c1) (.slice none 0 0) w2 :=
      ⟨hrow, .inr rfl, by rw [hl]; exact own_only ho2 hon' (own_not ho2 hr2 (by decide)), World.ownsRow_nil _ _ _ _⟩
    have HM := Lib.hid hmac
    have HB := Lib.hid (HB1.out.trans (((hb2 _).mono HB1.out.size).trans (hon'.below HB1.out.size (by have := HB1.out.size; simp; omega))))
    obtain ⟨g, hgd⟩ : ∃ g, g = w1.heap.size := ⟨_, rfl⟩
    rw [← hgd] at HM ⊢
    have HGB : Hid (w.heap.size ≤ g) := by rw [hgd]; exact HB1.out.size
    have HN := Lib.hid hl
    clear hrow hon hon' hr2 ho2 hb2 hmac HO HB1 hgd hl
    go_loopw [12] (fun y X => ∃ (k : Nat) (m : Ms) (cv sv : Value), y = .int .i64 (k : Int) ∧ k ≤ 201 ∧ Hid (m.fin = false → m.gas + (k : Int) = gas ∧ m.err = 0) ∧ Hid (Mac 37 w.heap.size g c arg data m cv sv X) ∧ Hid (Fit c arg data m) ∧ Hid (lastP c arg data m = lastP c arg data (startP gas)) ∧ Hid (Below w.heap.size w X)) (fun _ X => fuelAt g X)
    case atStart => exact ⟨0, _, _, _, rfl, by omega, (Lib.hid fun _ => ⟨by show gas + ((0 : Nat) : Int) = gas; omega, rfl⟩), HM, HS, rfl, HB⟩
    case round =>
      clear HM HB
      obtain ⟨k, m, cv, sv, rfl, hk201, HK, HM2, HF2, HL2, HB2⟩ := hrel
      obtain ⟨-, -, -, -, c4, c5, c6, c7⟩ := HM2.out.cells
      have hgas := HF2.out.gas
      obtain ⟨sa, sc, rfl, hsn⟩ := own_nums HM2.out.stk HF2.out.nums
      obtain ⟨ca, cc, rfl, hcn⟩ := own_came HM2.out.code HF2.out.bytes
      have hsle := hsn.le
      have hssm := hsn.small
      unfold maxLen at hssm
      have hstk := HF2.out.stk
      obtain ⟨f, hf⟩ : ∃ f, f = m.fin := ⟨_, rfl⟩
      rw [← hf] at c6
      have HF := Lib.hid hf
      have HCN := Lib.hid hcn
      clear hf hcn
      cases f
      · have hk200 : (k : Int) ≤ 200 := by have := (HK.out HF.out.symm).1; omega
        have HSN := Lib.hid hsn
        clear c4 c5 c7 hsn hsle hssm hgas
        go_wp2_with (refine wpList_load_row rfl 37 (.tmp 11) rfl g rfl 37 (mcl (.slice ca c.length cc) (.slice sa m.stk.length sc) arg data m) (0, 0) _ HM2.out.row Try.underlying37 rfl size_ref ?_)
        refine (rstep_any HCN.out HSN.out (own_nil HM2.out.stk) HF2.out (fun h => (HK.out h).2)).mono ?_
        rintro _ w3 ⟨cv3, sv3, rfl, ho1, ho2, hb3⟩
        obtain ⟨a3, k3, rfl⟩ := own_slice ho1
        obtain ⟨a4, k4, rfl⟩ := own_slice ho2
        have hrow3 : w3.heap[g]? = _ := (hb3.block g HM2.out.lt).trans HM2.out.row
        have HR3 := Lib.hid hrow3
        have HO1 := Lib.hid (own_mono ho1 HB2.out.size)
        have HO2 := Lib.hid (own_mono ho2 HB2.out.size)
        have HB3 := Lib.hid (HB2.out.trans (hb3.mono HB2.out.size))
        clear ho1 ho2 hb3 hrow3
        go_wp2_with (refine store_agg rfl 37 (.tmp 11) (.tmp 39) rfl rfl g (mcl (.slice a3 c.length k3) (.slice a4 (stepP c arg data m).stk.length k4) arg data (stepP c arg data m)) rfl rfl 37 _ HR3.out size_ref rfl (mcl_one _ _ _ _ _ _ _ _ _) ?_; intro w4 hrow hon; have HM4 : Hid (Mac 37 w.heap.size g c arg data (stepP c arg data m) (.slice a3 c.length k3) (.slice a4 (stepP c arg data m).stk.length k4) w4) := Lib.hid ⟨hrow, .inr rfl, own_only HO1.out hon (own_not HO1.out HR3.out (by decide)), own_only HO2.out hon (own_not HO2.out HR3.out (by decide))⟩; have HB4 := Lib.hid (HB3.out.trans (hon.below HGB.out HB3.out.size)); clear hrow hon)
        try go_roundw
        case rel =>
          refine ⟨k + 1, _, _, _, by go_num, by omega, (Lib.hid fun hfin => ?_), HM4, step_fit HF2.out, (last_step HF.out.symm HF2.out.gas.1).trans HL2.out, HB4⟩
          have hs0 := step_err0 HF.out.symm hfin
          have hs1 := (HK.out HF.out.symm).1
          exact ⟨by omega, hs0.1⟩
        case measure => rw [HM4.out.fuel, HM2.out.fuel]; exact fuel_step HF.out.symm HF2.out.gas.1
      · have hp2 : Hid (runP c arg data gas = toldP gas m) := by rw [hp.out, ← HL2.out, last_fin HF.out.symm]; exact Lib.hid rfl
        obtain ⟨G, hG⟩ : ∃ G, G = m.gas := ⟨_, rfl⟩
        obtain ⟨E, hE⟩ : ∃ E, E = m.err := ⟨_, rfl⟩
        obtain ⟨d, hdd⟩ : ∃ d, d = m.stk.length := ⟨_, rfl⟩
        rw [← hG] at c5 hgas
        rw [← hE] at c7
        rw [← hdd] at c4 hsle hstk hsn
        have HSN := Lib.hid hsn
        have HG := Lib.hid hG
        have HE := Lib.hid hE
        have HDD := Lib.hid hdd
        clear hsn hG hE hdd
        have hg1 := hgas.1
        have hg2 := hgas.2
        clear hgas
        by_cases hE0 : E = 0
        · by_cases hd0 : d = 0
          · have hr : Hid (toldP gas m = (0, gas - G, 0)) := by
              unfold toldP
              rw [← HG.out, ← HE.out, show m.stk = [] from List.eq_nil_of_length_eq_zero (by rw [← HDD.out]; exact hd0), if_pos hE0, hE0]
              exact Lib.hid rfl
            subst hd0
            subst hE0
            go_wp2_with fail
            go_quiet (fail)
            go_wp2_with fail
            go_ret3
            rw [hp2.out, hr.out]
            exact ⟨rfl, below_drewN HB2.out nq⟩
          · obtain ⟨ad, rfl, hcell⟩ := HSN.out.cell (d - 1) (by omega)
            obtain ⟨x, hx⟩ : ∃ x, x = m.stk.getD (d - 1) 0 := ⟨_, rfl⟩
            have hr : Hid (toldP gas m = (x, gas - G, 0)) := by
              unfold toldP
              rw [← HG.out, ← HE.out, ← HDD.out, ← hx, if_pos hE0, hE0]
              exact Lib.hid rfl
            rw [← hx] at hcell
            clear hx
            obtain ⟨k2, hk2⟩ : ∃ k2, k2 = d - 1 := ⟨_, rfl⟩
            have hdk : d = k2 + 1 := by omega
            rw [← hk2] at hcell
            clear hk2
            subst hdk
            subst hE0
            go_wp2_with fail
            go_quiet (fail)
            go_wp2_with fail
            go_ret3
            rw [hp2.out, hr.out]
            exact ⟨rfl, below_drewN HB2.out nq⟩
        · have hr : Hid (toldP gas m = (0, gas - G, E)) := by
            unfold toldP
            rw [← HG.out, ← HE.out, if_neg hE0]
            exact Lib.hid rfl
          have hE1 : (E == 0) = false := by simp; exact hE0
          go_wp2_with fail
          go_quiet (fail)
          go_wp2_with fail
          go_ret3
          rw [hp2.out, hr.out]
          exact ⟨rfl, below_drewN HB2.out nq⟩
end Go.Proofs.Ytdbnfafafhdolaa
