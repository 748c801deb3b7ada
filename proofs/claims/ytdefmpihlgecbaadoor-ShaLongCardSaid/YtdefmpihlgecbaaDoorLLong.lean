/- ShaLong: the walk. -/
import Derived.Test.YtdefmpihlgecbaaDoorLSums
import Derived.Test.YtdefmpihlgecbaaDoorWithin
namespace Go.Proofs.YtdefmpihlgecbaaDoor
open Go.RowKit Sha
set_option linter.unusedVariables false
set_option linter.unusedSimpArgs false

theorem made_bts (n : Nat) : (madeCells (Value.int .u8 0).cells n).toList = bts (List.replicate n 0) := by
  apply List.ext_getElem?
  intro i
  simp [madeCells, Value.cells, bts, List.getElem?_replicate]
  by_cases h : i < n <;> simp [h, Nat.mod_one]

theorem BRow.reads {w : World} {g : Nat} {T : TypeId} {l : List Int} {n : Nat} (h : BRow w g T l) (hl : l.length = n) : Reads w (some ⟨g, 0, none⟩) n l := by
  refine ⟨hl, fun _ => ⟨_, rfl, fun j v hv => ?_⟩⟩
  rw [Addr.add_lit, Nat.zero_add]
  unfold BRow at h
  simp only [World.cell?, h]
  simpa using hv

theorem neq_same (z : List Int) (w : World) : (binOp .neq 24 (.agg (cur (sum z))) (.agg (cur (sum z)))).run Tryd.prog w = .ok (.bool false) w := by
  rw [neq_sum (sum_is z) (sum_is z) w, decide_eq_true rfl]
  rfl

theorem bytes_set {l : List Int} (h : ∀ c ∈ l, Byte c) (i : Nat) {b : Int} (hb : Byte b) : ∀ c ∈ l.set i b, Byte c := by
  intro c hc
  rcases List.mem_or_eq_of_mem_set hc with h1 | rfl
  · exact h c h1
  · exact hb

set_option maxRecDepth 100000 in
set_option maxHeartbeats 8000000 in
theorem llong_any (n0 : Int) (by0 : Int) (at0 : Int) (tn : Int) (w : World) (hn0 : I64 n0) (hby0 : Byte by0) (hat0 : I64 at0) (htn : Byte tn) (hlaid : Laid w) :
    Calls Tryd.prog 4 #[.int .i64 n0, .int .u8 by0, .int .i64 at0, .int .u8 tn] w fun e w' => e = .returned (.bool true) ∧ Below w.heap.size w w' := by
  obtain ⟨i0, hi, hz0, hz1, hz2⟩ := info_parts Tryd.infoByte
  have HLA0 := Lib.hid hlaid
  have HTN := Lib.hid htn
  have HB00 := Lib.hid hby0
  clear hlaid htn hby0
  go_enter Tryd.func4, Tryd.ntmps4
  go_wp2_with fail
  refine (known_any w HLA0.out).mono ?_
  rintro _ w1 ⟨rfl, hb1⟩
  have HB1 := Lib.hid hb1
  clear hb1
  go_wp2_with fail
  refine (within_any n0 300 w1 (by omega) (by omega)).mono ?_
  rintro _ _ ⟨rfl, rfl⟩
  have hk0 : 0 ≤ n0 % 300 := Int.emod_nonneg _ (by omega)
  have hk1 : n0 % 300 < 300 := Int.emod_lt_of_pos _ (by omega)
  obtain ⟨N, hN⟩ : ∃ N : Nat, n0 % 300 = (N : Int) := ⟨(n0 % 300).toNat, by omega⟩
  rw [hN]
  rw [hN] at hk0 hk1
  have hN3 : N < 300 := by omega
  clear hN hk0 hk1
  go_upto_region 5 with (at_make; refine wpList_make_any _ rfl _ _ 22 rfl 5 i0 _ Tryd.underlying22 hi hz0 hz1 hz2 _ _ _ _ N N rfl rfl (by omega) (by omega) (by omega) (by omega) ?_; intro w2 hg hs2 hb2)
  rw [made_bts] at hg
  have HG : Hid (BRow w2 w1.heap.size 5 (List.replicate N 0)) := hg
  have HB2 := Lib.hid hb2
  clear hg hs2 hb2
  obtain ⟨g, hgg⟩ : ∃ g, g = w1.heap.size := ⟨_, rfl⟩
  have HGW : Hid (w.heap.size ≤ g) := by rw [hgg]; exact HB1.out.size
  have HB : Hid (Below w.heap.size w w2) := HB1.out.trans (HB2.out.mono HB1.out.size)
  rw [← hgg] at HG ⊢
  clear hgg HB1 HB2
  go_wp2_with fail
  go_loopw [10] (fun v X => ∃ (i : Nat) (l : List Int), i ≤ N ∧ v = .int .i64 (i : Int) ∧ l.length = N ∧ Hid (∀ c ∈ l, Byte c) ∧ Hid (BRow X g 5 l) ∧ Hid (Below w.heap.size w X)) (fun v _ => (N - intOf v).toNat)
  case atStart => exact ⟨0, _, by omega, rfl, by simp, fun c hc => by rw [List.eq_of_mem_replicate hc]; exact ⟨by omega, by omega⟩, HG, HB⟩
  case round =>
    clear HG HB
    obtain ⟨i, l, hiN, rfl, hll, HLB, HG, HB⟩ := hrel
    by_cases hi : i < N
    · have hc := HG.out.at (i := i) (by omega)
      have hf := HG.out.free i
      obtain ⟨c, hcc⟩ : ∃ c, c = l.getD i 0 := ⟨_, rfl⟩
      rw [← hcc] at hc
      clear hcc
      have hb0 := HB00.out.1
      have hb1 := HB00.out.2
      go_wp2_with fail
      have hp := HG.out.put i ((by0 + (i : Int)) % 256)
      have HPO := Lib.hid hp.1
      refine ⟨⟨i + 1, l.set i ((by0 + (i : Int)) % 256), by omega, by go_num, by rw [List.length_set]; exact hll, bytes_set HLB.out i ⟨by omega, by omega⟩, hp.2, Below.step HB.out HPO.out HGW.out (Nat.le_refl _)⟩, by simp [intOf]; omega⟩
    · have hiN' : i = N := by omega
      have hr := HG.out.reads hll
      have HR := Lib.hid hr
      have he0 := neq_same l
      have he1 := same_sum l
      clear hr
      go_wp2_with fail
      refine (sum_any _ N N l wr HR.out (Nat.le_refl _) (fun h => by cases h) HLB.out (by omega) (HLA0.out.keep HB.out)).mono ?_
      rintro _ w3 ⟨rfl, hb3⟩
      have HR3 := Lib.hid (HR.out.below hb3)
      have HG3 := Lib.hid (HG.out.keep hb3)
      have HB3 := Lib.hid (HB.out.trans (hb3.mono HB.out.size))
      clear hb3 HR HG HB
      go_wp2_with fail
      refine (rsum_val _ N N l w3 HR3.out (fun h => by cases h) HLB.out (by omega)).mono ?_
      rintro _ w4 ⟨rfl, hb4⟩
      have HG4 := Lib.hid (HG3.out.keep hb4)
      have HB4 := Lib.hid (HB3.out.trans (hb4.mono HB3.out.size))
      clear hb4 HR3 HG3 HB3
      by_cases hz : N = 0
      · have hle : ¬ (0 < N) := by omega
        clear hz he1
        have hr5 := HG4.out.reads hll
        have HRz5 := Lib.hid hr5
        have he5 := same_sum (l)
        clear hr5
        go_wp2_with fail
        refine (sum_any _ N N (l) _ HRz5.out (Nat.le_refl _) (fun h => by cases h) HLB.out (by omega) (HLA0.out.keep HB4.out)).mono ?_
        rintro _ w7 ⟨rfl, hb7⟩
        have HR7 := Lib.hid (HRz5.out.below hb7)
        have HB7 := Lib.hid (HB4.out.trans (hb7.mono HB4.out.size))
        clear hb7 HRz5
        go_wp2_with fail
        refine (rsum_val _ N N (l) w7 HR7.out (fun h => by cases h) HLB.out (by omega)).mono ?_
        rintro _ w8 ⟨rfl, hb8⟩
        have HB8 := Lib.hid (HB7.out.trans (hb8.mono HB7.out.size))
        clear hb8 HR7 HB7
        go_wp2
        go_ret
        exact ⟨rfl, HB8.out⟩
      · have hpos : 0 < N := by omega
        clear hz he1
        go_wp2_with fail
        refine (within_any at0 (N : Int) w4 (by omega) (by omega)).mono ?_
        rintro _ _ ⟨rfl, rfl⟩
        have hk0 : 0 ≤ at0 % (N : Int) := Int.emod_nonneg _ (by omega)
        have hk1 : at0 % (N : Int) < (N : Int) := Int.emod_lt_of_pos _ (by omega)
        obtain ⟨q, hq⟩ : ∃ q : Nat, at0 % (N : Int) = (q : Int) := ⟨(at0 % (N : Int)).toNat, by omega⟩
        rw [hq]
        rw [hq] at hk0 hk1
        have hqN : q < N := by omega
        clear hq hk0 hk1 he0
        have hc := HG4.out.at (i := q) (by omega)
        have hf := HG4.out.free q
        have hcb : Byte (l.getD q 0) := HLB.out _ (by simp [List.getD, show q < l.length by omega])
        obtain ⟨c, hcc⟩ : ∃ c, c = l.getD q 0 := ⟨_, rfl⟩
        rw [← hcc] at hc hcb
        have ht0 := HTN.out.1
        have ht1 := HTN.out.2
        have hc0 := hcb.1
        have hc1 := hcb.2
        clear hcc hcb
        go_upto_region 13 with (fail)
        have hp := HG4.out.put q ((c + tn) % 256)
        have HG6 := Lib.hid hp.2
        have HB6 : Hid (Below w.heap.size w (w4.setCell ⟨g, q, none⟩ (.int .u8 ((c + tn) % 256)))) := Below.step HB4.out hp.1 HGW.out (Nat.le_refl _)
        have HL6 : Hid (∀ x ∈ l.set q ((c + tn) % 256), Byte x) := bytes_set HLB.out q ⟨by omega, by omega⟩
        clear hp hc hf HG4 HB4
        generalize World.setCell _ _ _ = w6 at HG6 HB6 ⊢
        obtain ⟨l6, hl6⟩ : ∃ m, m = l.set q ((c + tn) % 256) := ⟨_, rfl⟩
        have hll6 : l6.length = N := by rw [hl6, List.length_set]; exact hll
        rw [← hl6] at HG6 HL6
        clear hl6
        have hr6 := HG6.out.reads hll6
        have HRz6 := Lib.hid hr6
        have he6 := same_sum (l6)
        clear hr6
        go_wp2_with fail
        refine (sum_any _ N N (l6) _ HRz6.out (Nat.le_refl _) (fun h => by cases h) HL6.out (by omega) (HLA0.out.keep HB6.out)).mono ?_
        rintro _ w7 ⟨rfl, hb7⟩
        have HR7 := Lib.hid (HRz6.out.below hb7)
        have HB7 := Lib.hid (HB6.out.trans (hb7.mono HB6.out.size))
        clear hb7 HRz6
        go_wp2_with fail
        refine (rsum_val _ N N (l6) w7 HR7.out (fun h => by cases h) HL6.out (by omega)).mono ?_
        rintro _ w8 ⟨rfl, hb8⟩
        have HB8 := Lib.hid (HB7.out.trans (hb8.mono HB7.out.size))
        clear hb8 HR7 HB7
        go_wp2
        go_ret
        exact ⟨rfl, HB8.out⟩
end Go.Proofs.YtdefmpihlgecbaaDoor
