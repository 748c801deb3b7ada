/- The program's Run is the document's. -/
import Derived.Test.YtdbnfafafhdolaaVNew
import Derived.Test.YtdbnfafafhdolaaVRunP
namespace Go.Proofs.Ytdbnfafafhdolaa
open Go Go.RowKit
set_option linter.unusedVariables false
set_option linter.unusedSimpArgs false

/-- how many steps there may still be, of the machine in block g -/
def fuelAt (g : Nat) (w : World) : Nat :=
  match w.cell? ⟨g, 6, none⟩ with
  | some (.bool true) => 0
  | _ => match w.cell? ⟨g, 5, none⟩ with
    | some (.int _ n) => n.toNat + 1
    | _ => 0

theorem Mac.fuel {t : TypeId} {B g : Nat} {c : List Int} {arg data : Int} {m : Ms} {cv sv : Value} {w : World} (h : Mac t B g c arg data m cv sv w) : fuelAt g w = if m.fin = true then 0 else m.gas.toNat + 1 := by
  obtain ⟨-, -, -, -, -, c5, c6, -⟩ := h.cells
  unfold fuelAt
  rw [c5, c6]
  cases m.fin <;> rfl

theorem fuel_step {c : List Int} {arg data : Int} {m : Ms} (h : m.fin = false) (h0 : 0 ≤ m.gas) : (if (stepP c arg data m).fin = true then 0 else (stepP c arg data m).gas.toNat + 1) < (if m.fin = true then 0 else m.gas.toNat + 1) := by
  rw [if_neg (show ¬ m.fin = true by rw [h]; decide)]
  by_cases hg : m.gas < 1
  · rw [step_out h hg]
    show (if true = true then 0 else _) < _
    rw [if_pos rfl]
    omega
  · split
    · omega
    · rw [step_gas h hg]
      omega

set_option maxRecDepth 100000 in
set_option maxHeartbeats 4000000 in
theorem run_any {a : Option Addr} {n cap : Nat} {c : List Int} {w : World} (hc : Came w a n cap c) (arg data gas : Int) (ha : I64 arg) (hd : I64 data) (hg : I64 gas) :
    Calls Try.prog 16 #[.slice a n cap, .int .i64 arg, .int .i64 data, .int .i64 gas] w fun e w' =>
      e = .returned (.tuple #[.int .i64 (runP c arg data gas).1, .int .i64 (runP c arg data gas).2.1, .int .i64 (runP c arg data gas).2.2]) ∧ Below w.heap.size w w' := by
  have hl := hc.reads.1
  have hle := hc.le
  have hsm := hc.small
  unfold maxLen at hsm
  have HC := Lib.hid hc
  have HA := Lib.hid ha
  have HD := Lib.hid hd
  obtain ⟨hg1, hg2⟩ := hg
  clear hc ha hd
  by_cases hbad : 64 < c.length ∨ gas < 0 ∨ 200 < gas
  · have hp : Hid (runP c arg data gas = (0, 0, 1)) := by unfold runP; rw [if_pos hbad]; exact Lib.hid rfl
    by_cases h1 : 64 < n
    · clear hl
      go_enter Try.func16, Try.ntmps16
      go_wp2_with fail
      go_ret3
      rw [hp.out]
      exact ⟨rfl, Below.refl _ _⟩
    · by_cases h2 : gas < 0
      · go_enter Try.func16, Try.ntmps16
        go_wp2_with fail
        go_ret3
        rw [hp.out]
        exact ⟨rfl, Below.refl _ _⟩
      · have h3 : 200 < gas := by omega
        go_enter Try.func16, Try.ntmps16
        go_wp2_with fail
        go_ret3
        rw [hp.out]
        exact ⟨rfl, Below.refl _ _⟩
  · have hp : Hid (runP c arg data gas = toldP gas (lastP c arg data (startP gas))) := by unfold runP; rw [if_neg hbad]; exact Lib.hid rfl
    have h1 : n ≤ 64 := by omega
    have h2 : 0 ≤ gas := by omega
    have h3 : gas ≤ 200 := by omega
    have HS : Hid (Fit c arg data (startP gas)) := start_fit HC.out.bytes (by omega) HA.out HD.out ⟨h2, h3⟩
    clear hbad
    go_enter Try.func16, Try.ntmps16
    go_wp2_with fail
    refine (new_any a n cap c arg data gas w HC.out.reads h1).mono ?_
    rintro _ w1 ⟨v, rfl, ho, hb⟩
    obtain ⟨a1, c1, rfl⟩ := own_slice ho
    have HO := Lib.hid ho
    have HB1 := Lib.hid hb
    clear ho hb
    go_wp2_with (refine store_agg rfl 34 (.tmp 11) (.tmp 28) rfl rfl w1.heap.size (mcl (.slice a1 n c1) (.slice none 0 0) arg data (startP gas)) rfl rfl 34 _ (heap_alloc_new _ _) size_vm rfl (mcl_one _ _ _ _ _ _ _ _ _) ?_; intro w2 hrow hon)
    have hb2 : ∀ o, Below w1.heap.size w1 (w1.alloc o) := fun o => (Below.refl _ _).alloc (Nat.le_refl _) o
    have hon' : Only w1.heap.size (w1.alloc (Obj.cells (noMac (.slice none 0 0) (.slice none 0 0)) 34)) w2 := hon
    have hr2 : (w1.alloc (Obj.cells (noMac (.slice none 0 0) (.slice none 0 0)) 34)).heap[w1.heap.size]? = some (Obj.cells (noMac (.slice none 0 0) (.slice none 0 0)) 34 (0, 0)) := heap_alloc_new _ _
    have ho2 := own_later HO.out (hb2 (Obj.cells (noMac (.slice none 0 0) (.slice none 0 0)) 34))
    have hmac : Mac 34 w.heap.size w1.heap.size c arg data (startP gas) (.slice a1 n c1) (.slice none 0 0) w2 :=
      ⟨hrow, .inl rfl, by rw [hl]; exact own_only ho2 hon' (own_not ho2 hr2 (by decide)), World.ownsRow_nil _ _ _ _⟩
    have HM := Lib.hid hmac
    have HB := Lib.hid (HB1.out.trans (((hb2 _).mono HB1.out.size).trans (hon'.below HB1.out.size (by have := HB1.out.size; simp; omega))))
    obtain ⟨g, hgd⟩ : ∃ g, g = w1.heap.size := ⟨_, rfl⟩
    rw [← hgd] at HM ⊢
    have HGB : Hid (w.heap.size ≤ g) := by rw [hgd]; exact HB1.out.size
    clear hrow hon hon' hr2 ho2 hb2 hmac HO HB1 hgd
    go_loopw [] (fun X => ∃ (m : Ms) (sv : Value), Hid (Mac 34 w.heap.size g c arg data m (.slice a1 n c1) sv X) ∧ Hid (Fit c arg data m) ∧ Hid (lastP c arg data m = lastP c arg data (startP gas)) ∧ Hid (Below w.heap.size w X)) (fun X => fuelAt g X)
    case atStart => exact ⟨_, _, HM, HS, rfl, HB⟩
    case round =>
      obtain ⟨m, sv, HM2, HF2, HL2, HB2⟩ := hrel
      obtain ⟨-, -, -, -, c4, c5, c6, c7⟩ := HM2.out.cells
      have hgas := HF2.out.gas
      obtain ⟨sa, sc, rfl, hsn⟩ := own_nums HM2.out.stk HF2.out.nums
      have hsle := hsn.le
      have hssm := hsn.small
      unfold maxLen at hssm
      have hstk := HF2.out.stk
      obtain ⟨f, hf⟩ : ∃ f, f = m.fin := ⟨_, rfl⟩
      obtain ⟨G, hG⟩ : ∃ G, G = m.gas := ⟨_, rfl⟩
      obtain ⟨E, hE⟩ : ∃ E, E = m.err := ⟨_, rfl⟩
      obtain ⟨d, hdd⟩ : ∃ d, d = m.stk.length := ⟨_, rfl⟩
      rw [← hf] at c6
      rw [← hG] at c5 hgas
      rw [← hE] at c7
      rw [← hdd] at c4 hsle hstk hsn
      have HSN := Lib.hid hsn
      have HF := Lib.hid hf
      have HG := Lib.hid hG
      have HE := Lib.hid hE
      have HDD := Lib.hid hdd
      clear hsn hf hG hE hdd
      cases f
      · clear c4 c5 c7
        go_wp2_with fail
        refine (step_any HM2.out HF2.out HB2.out.size).mono ?_
        rintro _ w3 ⟨rfl, ⟨sv3, hm3⟩, hb3⟩
        have HM3 := Lib.hid hm3
        have HB3 := Lib.hid (HB2.out.trans (hb3.below HGB.out))
        clear hm3 hb3
        go_wp2_with fail
        try go_roundw
        case rel => exact ⟨_, _, HM3, step_fit HF2.out, (last_step HF.out.symm (by rw [← HG.out]; exact hgas.1)).trans HL2.out, HB3⟩
        case measure => rw [HM3.out.fuel, HM2.out.fuel]; exact fuel_step HF.out.symm (by rw [← HG.out]; exact hgas.1)
      · have hp2 : Hid (runP c arg data gas = toldP gas m) := by rw [hp.out, ← HL2.out, last_fin HF.out.symm]; exact Lib.hid rfl
        have hg1 := hgas.1
        have hg2 := hgas.2
        clear hgas
        by_cases hd0 : d = 0
        · have hr : Hid (toldP gas m = (0, gas - G, E)) := by
            unfold toldP
            rw [← HG.out, ← HE.out, show m.stk = [] from List.eq_nil_of_length_eq_zero (by rw [← HDD.out]; exact hd0)]
            by_cases h : E = 0
            · rw [if_pos h]; exact Lib.hid rfl
            · rw [if_neg h]; exact Lib.hid rfl
          subst hd0
          go_wp2_with fail
          go_quiet (fail)
          go_wp2_with fail
          go_ret3
          rw [hp2.out, hr.out]
          exact ⟨rfl, below_drewN HB2.out nq⟩
        · by_cases hE0 : E = 0
          · obtain ⟨ad, rfl, hcell⟩ := HSN.out.cell (d - 1) (by omega)
            obtain ⟨x, hx⟩ : ∃ x, x = m.stk.getD (d - 1) 0 := ⟨_, rfl⟩
            have hr : Hid (toldP gas m = (x, gas - G, E)) := by
              unfold toldP
              rw [← HG.out, ← HE.out, ← HDD.out, ← hx, if_pos hE0]
              exact Lib.hid rfl
            rw [← hx] at hcell
            clear hx
            obtain ⟨k, hk⟩ : ∃ k, k = d - 1 := ⟨_, rfl⟩
            have hdk : d = k + 1 := by omega
            rw [← hk] at hcell
            clear hk
            subst hdk
            subst hE0
            go_wp2_with fail
            go_quiet (fail)
            go_wp2_with fail
            go_ret3
            rw [hp2.out, hr.out]
            exact ⟨rfl, below_drewN HB2.out nq⟩
          · have hr : Hid (toldP gas m = (0, gas - G, E)) := by
              unfold toldP
              rw [← HG.out, ← HE.out, if_neg hE0]
              exact Lib.hid rfl
            have hE1 : (E == 0) = false := by simp; exact hE0
            have hd1 : 0 < d := by omega
            go_wp2_with fail
            go_quiet (fail)
            go_wp2_with fail
            go_ret3
            rw [hp2.out, hr.out]
            exact ⟨rfl, below_drewN HB2.out nq⟩
end Go.Proofs.Ytdbnfafafhdolaa
