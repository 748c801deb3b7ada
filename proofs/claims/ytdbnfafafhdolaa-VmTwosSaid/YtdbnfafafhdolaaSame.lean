/- Two machines that are the same. -/
import Derived.Test.YtdbnfafafhdolaaToRef
namespace Go.Proofs.Ytdbnfafafhdolaa
open Go Go.RowKit
set_option linter.unusedVariables false
set_option linter.unusedSimpArgs false

theorem nums_neq (z : List Int) (w : World) : (binOp .neq 9 (.string (strOfNums z)) (.string (strOfNums z))).run Try.prog w = .ok (.bool false) w := by
  first | (simp [go_sem]; done) | (go_simp; done)

set_option maxRecDepth 100000 in
set_option maxHeartbeats 4000000 in
theorem same_any {ca cb sa sb : Option Addr} {n d cc kc sc ks : Nat} {c stk : List Int} {arg data : Int} {pc : Nat} {G : Int} {F : Bool} {E : Int} {w : World} (hc1 : Came w ca n cc c) (hc2 : Came w cb n kc c) (hs1 : Nums w sa d sc stk) (hs2 : Nums w sb d ks stk) :
    Calls Try.prog 21 #[.agg (mcl (.slice ca n cc) (.slice sa d sc) arg data ⟨pc, stk, G, F, E⟩), .agg (mcl (.slice cb n kc) (.slice sb d ks) arg data ⟨pc, stk, G, F, E⟩)] w fun e w' => e = .returned (.bool true) ∧ Below w.heap.size w w' := by
  have HC1 := Lib.hid hc1
  have HC2 := Lib.hid hc2
  have HS1 := Lib.hid hs1
  have HS2 := Lib.hid hs2
  clear hc1 hc2 hs1 hs2
  obtain ⟨A1, hA1⟩ : ∃ A1, A1 = mcl (.slice ca n cc) (.slice sa d sc) arg data ⟨pc, stk, G, F, E⟩ := ⟨_, rfl⟩
  obtain ⟨A2, hA2⟩ : ∃ A2, A2 = mcl (.slice cb n kc) (.slice sb d ks) arg data ⟨pc, stk, G, F, E⟩ := ⟨_, rfl⟩
  rw [← hA1, ← hA2]
  have k1 := Lib.hid hA1
  have k2 := Lib.hid hA2
  clear hA1 hA2
  go_enter Try.func21, Try.ntmps21
  go_upto_region 1 with (fail)
  obtain ⟨X, hX⟩ : ∃ X, X = (w.alloc (Obj.cells A1 37)).alloc (Obj.cells A2 37) := ⟨_, rfl⟩
  rw [← hX]
  have hsz : (w.alloc (Obj.cells A1 37)).heap.size = w.heap.size + 1 := by simp
  have R1 : Hid (X.heap[w.heap.size]? = some (.cells (mcl (.slice ca n cc) (.slice sa d sc) arg data ⟨pc, stk, G, F, E⟩) 37 (0, 0))) := by
    show _ = _
    rw [hX, ((Below.refl (w.alloc (Obj.cells A1 37)).heap.size _).alloc (Nat.le_refl _) _).block w.heap.size (by simp), ← k1.out]
    exact heap_alloc_new _ _
  have R2 : Hid (X.heap[w.heap.size + 1]? = some (.cells (mcl (.slice cb n kc) (.slice sb d ks) arg data ⟨pc, stk, G, F, E⟩) 37 (0, 0))) := by
    show _ = _
    rw [hX, ← k2.out, ← hsz]
    exact heap_alloc_new _ _
  have HB : Hid (Below w.heap.size w X) := by
    show Below _ _ _
    rw [hX]
    exact ((Below.refl _ _).alloc (Nat.le_refl _) _).alloc (by simp) _
  have hv1 := conv_reads (HC1.out.below HB.out).reads cc
  have hv2 := conv_reads (HC2.out.below HB.out).reads kc
  have hne := nums_neq c
  clear hX hsz
  have p0 : X.cell? ⟨w.heap.size, 0, none⟩ = some (.slice ca n cc) := mcl_cell R1.out rfl
  have p1 : X.cell? ⟨w.heap.size, 1, none⟩ = some (.int .i64 arg) := mcl_cell R1.out rfl
  have p2 : X.cell? ⟨w.heap.size, 2, none⟩ = some (.int .i64 data) := mcl_cell R1.out rfl
  have p3 : X.cell? ⟨w.heap.size, 3, none⟩ = some (.int .i64 (pc : Int)) := mcl_cell R1.out rfl
  have p4 : X.cell? ⟨w.heap.size, 4, none⟩ = some (.slice sa d sc) := mcl_cell R1.out rfl
  have p5 : X.cell? ⟨w.heap.size, 5, none⟩ = some (.int .i64 G) := mcl_cell R1.out rfl
  have p6 : X.cell? ⟨w.heap.size, 6, none⟩ = some (.bool F) := mcl_cell R1.out rfl
  have p7 : X.cell? ⟨w.heap.size, 7, none⟩ = some (.int .i64 E) := mcl_cell R1.out rfl
  have q0 : X.cell? ⟨w.heap.size + 1, 0, none⟩ = some (.slice cb n kc) := mcl_cell R2.out rfl
  have q1 : X.cell? ⟨w.heap.size + 1, 1, none⟩ = some (.int .i64 arg) := mcl_cell R2.out rfl
  have q2 : X.cell? ⟨w.heap.size + 1, 2, none⟩ = some (.int .i64 data) := mcl_cell R2.out rfl
  have q3 : X.cell? ⟨w.heap.size + 1, 3, none⟩ = some (.int .i64 (pc : Int)) := mcl_cell R2.out rfl
  have q4 : X.cell? ⟨w.heap.size + 1, 4, none⟩ = some (.slice sb d ks) := mcl_cell R2.out rfl
  have q5 : X.cell? ⟨w.heap.size + 1, 5, none⟩ = some (.int .i64 G) := mcl_cell R2.out rfl
  have q6 : X.cell? ⟨w.heap.size + 1, 6, none⟩ = some (.bool F) := mcl_cell R2.out rfl
  have q7 : X.cell? ⟨w.heap.size + 1, 7, none⟩ = some (.int .i64 E) := mcl_cell R2.out rfl
  go_wp2_with fail
  have S1 := Lib.hid (HS1.out.below HB.out)
  have S2 := Lib.hid (HS2.out.below HB.out)
  clear hv1 hv2 hne p0 p1 p2 p3 p4 p5 p6 p7 q0 q1 q2 q3 q4 q5 q6 q7
  go_loopw [4, 5] (fun _ x5 V => ∃ i : Nat, i ≤ d ∧ x5 = .int .i64 (i : Int) ∧ Hid (V.heap[w.heap.size]? = some (.cells (mcl (.slice ca n cc) (.slice sa d sc) arg data ⟨pc, stk, G, F, E⟩) 37 (0, 0))) ∧ Hid (V.heap[w.heap.size + 1]? = some (.cells (mcl (.slice cb n kc) (.slice sb d ks) arg data ⟨pc, stk, G, F, E⟩) 37 (0, 0))) ∧ Hid (Nums V sa d sc stk) ∧ Hid (Nums V sb d ks stk) ∧ Hid (Below w.heap.size w V)) (fun _ x5 _ => (d - intOf x5).toNat)
  case atStart => exact ⟨0, by omega, rfl, R1, R2, S1, S2, HB⟩
  case round =>
    clear R1 R2 S1 S2 HB
    obtain ⟨i, hi, rfl, R1, R2, S1, S2, HB⟩ := hrel
    have p4 : wr.cell? ⟨w.heap.size, 4, none⟩ = some (.slice sa d sc) := mcl_cell R1.out rfl
    have q4 : wr.cell? ⟨w.heap.size + 1, 4, none⟩ = some (.slice sb d ks) := mcl_cell R2.out rfl
    have hdm := S1.out.le
    have hdk := S1.out.small
    unfold maxLen at hdk
    by_cases hlt : i < d
    · have hlt' : (i : Int) < (d : Int) := by omega
      obtain ⟨ad, rfl, za⟩ := S1.out.cell i hlt
      obtain ⟨bd, rfl, zb⟩ := S2.out.cell i hlt
      obtain ⟨x, hx⟩ : ∃ x, x = stk.getD i 0 := ⟨_, rfl⟩
      rw [← hx] at za zb
      clear hx
      go_wp2_with fail
      go_quiet (fail)
      have hq := Lib.hid (below_drewN (Below.refl wr.heap.size wr) nq)
      go_wp2_with fail
      try go_roundw
      case rel => exact ⟨i + 1, by omega, by go_num, Lib.hid ((hq.out.block _ (Array.getElem?_eq_some_iff.1 R1.out).1).trans R1.out), Lib.hid ((hq.out.block _ (Array.getElem?_eq_some_iff.1 R2.out).1).trans R2.out), Lib.hid (S1.out.below hq.out), Lib.hid (S2.out.below hq.out), Lib.hid (HB.out.trans (hq.out.mono HB.out.size))⟩
      case measure => simp [intOf]; omega
    · have hid : i = d := by omega
      subst hid
      go_wp2_with fail
      go_ret
      exact ⟨rfl, HB.out⟩
end Go.Proofs.Ytdbnfafafhdolaa
