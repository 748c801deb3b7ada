/- The statements' helpers. -/
import Derived.Test.YtbgaekokjkdpiaaDoorScan
import Derived.Test.YtbgaekokjkdpiaaDoorRScan
import Derived.Lib.SlBytesConst
namespace Go.Proofs.YtbgaekokjkdpiaaDoor
open Go.RowKit Frm
set_option linter.unusedVariables false
set_option linter.unusedSimpArgs false

theorem ret_i64' {a b : Int} (h : a = b) : Ending.returned (Value.int .i64 a) = Ending.returned (Value.int .i64 b) := by rw [h]

theorem tmod_bd (k n : Int) (hn : 1 ≤ n) : -n < k.tmod n ∧ k.tmod n < n := by
  have h1 := Int.tmod_lt_of_pos k (show 0 < n by omega)
  have h2 := Int.lt_tmod_of_pos k (show 0 < n by omega)
  omega

theorem mod_of_tmod (k n : Int) (hn : 1 ≤ n) : k % n = if k.tmod n < 0 then k.tmod n + n else k.tmod n := by
  have hb := tmod_bd k n hn
  have hd := Int.mul_tdiv_add_tmod k n
  have e : k % n = k.tmod n % n := by
    conv => lhs; rw [← hd]
    rw [Int.add_comm, Int.add_mul_emod_self_left]
  rw [e]
  split
  · rw [← Int.add_emod_right, Int.emod_eq_of_lt (by omega) (by omega)]
  · rw [Int.emod_eq_of_lt (by omega) (by omega)]

set_option maxHeartbeats 400000 in
theorem within_any (k n : Int) (w : World) (h1 : 1 ≤ n) (h2 : n ≤ 1000000) :
    Calls Tryd.prog 14 #[.int .i64 k, .int .i64 n] w fun e w' => e = .returned (.int .i64 (k % n)) ∧ w = w' := by
  have hb := tmod_bd k n h1
  have hm := Lib.hid (mod_of_tmod k n h1)
  by_cases h : k.tmod n < 0
  · go_enter Tryd.func14, Tryd.ntmps14
    go_wp2
    go_ret
    exact ⟨ret_i64' (by rw [hm.out, if_pos h]), rfl⟩
  · by_cases hk : 0 ≤ k
    · have hge : 0 ≤ k % n := Int.emod_nonneg _ (by omega)
      have hlt : k % n < n := Int.emod_lt_of_pos _ (by omega)
      go_enter Tryd.func14, Tryd.ntmps14
      go_wp2
      go_ret
      exact ⟨rfl, rfl⟩
    · go_enter Tryd.func14, Tryd.ntmps14
      go_wp2
      go_ret
      exact ⟨ret_i64' (by rw [hm.out, if_neg (by omega)]), rfl⟩

theorem crc_known : (crc [49, 50, 51, 52, 53, 54, 55, 56, 57]).toNat = 3421780262 := by decide +kernel

theorem nine_new (w : World) (fr : Nat × Nat) : Reads (w.alloc (Obj.cells #[.int .u8 49, .int .u8 50, .int .u8 51, .int .u8 52, .int .u8 53, .int .u8 54, .int .u8 55, .int .u8 56, .int .u8 57] 5 fr)) (some ⟨w.heap.size, 0, none⟩) 9 [49, 50, 51, 52, 53, 54, 55, 56, 57] := by
  have hh : (w.alloc (Obj.cells #[.int .u8 49, .int .u8 50, .int .u8 51, .int .u8 52, .int .u8 53, .int .u8 54, .int .u8 55, .int .u8 56, .int .u8 57] 5 fr)).heap[w.heap.size]? = some (Obj.cells #[.int .u8 49, .int .u8 50, .int .u8 51, .int .u8 52, .int .u8 53, .int .u8 54, .int .u8 55, .int .u8 56, .int .u8 57] 5 fr) := by
    show (w.heap.push _)[w.heap.size]? = _
    simp
  refine ⟨rfl, fun _ => ⟨_, rfl, fun j u hj => ?_⟩⟩
  rw [Addr.add_lit, Nat.zero_add]
  simp only [World.cell?, hh]
  match j, hj with
  | 0, hj => simpa [bts] using hj
  | 1, hj => simpa [bts] using hj
  | 2, hj => simpa [bts] using hj
  | 3, hj => simpa [bts] using hj
  | 4, hj => simpa [bts] using hj
  | 5, hj => simpa [bts] using hj
  | 6, hj => simpa [bts] using hj
  | 7, hj => simpa [bts] using hj
  | 8, hj => simpa [bts] using hj

set_option maxRecDepth 100000 in
set_option maxHeartbeats 4000000 in
theorem known_any (w : World) (hlaid : Laid w) : Calls Tryd.prog 9 #[] w fun e w' => e = .returned (.bool true) ∧ Below w.heap.size w w' := by
  obtain ⟨X, hX⟩ : ∃ X, X = w.alloc (.cells #[.int .u8 49, .int .u8 50, .int .u8 51, .int .u8 52, .int .u8 53, .int .u8 54, .int .u8 55, .int .u8 56, .int .u8 57] 5 (9, 10)) := ⟨_, rfl⟩
  have HL : Hid (Below w.heap.size w X) := by rw [hX]; exact (Below.refl _ _).alloc (Nat.le_refl _) _
  have HR : Hid (Reads X (some ⟨w.heap.size, 0, none⟩) 9 [49, 50, 51, 52, 53, 54, 55, 56, 57]) := by rw [hX]; exact nine_new w _
  have HLA : Hid (Laid X) := hlaid.keep HL.out
  have HX := Lib.hid hX
  clear hX hlaid
  go_enter Tryd.func9, Tryd.ntmps9
  have hcv : (convert 22 22 (.slice (some ⟨w.heap.size, 0, none⟩) 9 9)).run Tryd.prog (w.alloc (.cells #[.int .u8 49, .int .u8 50, .int .u8 51, .int .u8 52, .int .u8 53, .int .u8 54, .int .u8 55, .int .u8 56, .int .u8 57] 5)) = .ok (.slice (some ⟨w.heap.size, 0, none⟩) 9 9) (w.alloc (.cells #[.int .u8 49, .int .u8 50, .int .u8 51, .int .u8 52, .int .u8 53, .int .u8 54, .int .u8 55, .int .u8 56, .int .u8 57] 5 (9, 10))) :=
    Lib.run_convert_bytes_const w 22 5 #[.int .u8 49, .int .u8 50, .int .u8 51, .int .u8 52, .int .u8 53, .int .u8 54, .int .u8 55, .int .u8 56, .int .u8 57] 9 9 Tryd.underlying22 Tryd.underlying5
  go_wp2_with fail
  clear hcv
  rw [← HX.out]
  refine (crc_any _ 9 9 [49, 50, 51, 52, 53, 54, 55, 56, 57] X HR.out (by intro c hc; simp at hc; rcases hc with rfl | rfl | rfl | rfl | rfl | rfl | rfl | rfl | rfl <;> exact ⟨by omega, by omega⟩) (by omega) HLA.out).mono ?_
  rintro _ _ ⟨rfl, rfl⟩
  rw [crc_known]
  clear HX HR HLA
  go_wp2_with fail
  go_ret
  exact ⟨rfl, HL.out⟩

set_option maxRecDepth 100000 in
set_option maxHeartbeats 4000000 in
theorem few_any {a0 : Option Addr} {len0 cap0 : Nat} {zss : List (List Int)} {w : World} (hm : Mat w a0 len0 cap0 zss) :
    Calls Tryd.prog 17 #[.slice a0 len0 cap0] w fun e w' => ∃ b : Bool, e = .returned (.bool b) ∧ w = w' ∧ Hid (b = true → len0 ≤ 10 ∧ ∀ j, j < len0 → (zss.getD j []).length ≤ 300) := by
  have HM := Lib.hid hm
  have hbig : len0 ≤ 9223372036854775807 := by have h1 := hm.le; have h2 := hm.small; unfold maxLen at h2; omega
  clear hm
  go_enter Tryd.func17, Tryd.ntmps17
  go_wp2_with fail
  go_loopw [3] (fun v X => ∃ i : Nat, i ≤ len0 ∧ v = .int .i64 (i : Int) ∧ Hid (∀ j, j < i → (zss.getD j []).length ≤ 300) ∧ X = w) (fun v _ => ((len0 : Int) - intOf v).toNat)
  case atStart => exact ⟨0, by omega, rfl, fun j hj => absurd hj (by omega), rfl⟩
  case round =>
    obtain ⟨i, hi, rfl, H3, rfl⟩ := hrel
    by_cases hlt : i < len0
    · obtain ⟨ad, rfl, b, l, c, hcell, hcame⟩ := HM.out.row i hlt
      have HR := Lib.hid hcame.reads.1
      clear hcame
      by_cases h3 : 300 < l
      · go_wp2_with fail
        go_ret
        exact ⟨false, rfl, rfl, fun h => by cases h⟩
      · go_wp2_with fail
        try go_roundw
        case rel =>
          refine ⟨i + 1, by omega, by go_num, Lib.hid fun j hj => ?_, by trivial⟩
          by_cases hj2 : j < i
          · exact H3.out j hj2
          · obtain rfl : j = i := by omega
            rw [HR.out]
            omega
        case measure => simp [intOf]; omega
    · obtain rfl : i = len0 := by omega
      go_wp2_with fail
      go_ret
      exact ⟨_, rfl, rfl, fun h => ⟨by simp at h; omega, H3.out⟩⟩


theorem nums_neq (z : List Int) (w : World) : (binOp .neq 9 (.string (strOfNums z)) (.string (strOfNums z))).run Tryd.prog w = .ok (.bool false) w := by
  have h : (binOp .neq 9 (.string (strOfNums z)) (.string (strOfNums z))).run Tryd.prog w = .ok (.bool (!(decide (strOfNums z = strOfNums z)))) w := by first | rfl | (simp [go_sem]; done) | (go_simp; done)
  rw [h]
  simp

set_option maxRecDepth 100000 in
set_option maxHeartbeats 4000000 in
theorem rows_true {a0 b0 : Option Addr} {n ca cb : Nat} {zss : List (List Int)} {w : World} (hm : Mat w a0 n ca zss) (hk : Mat w b0 n cb zss) :
    Calls Tryd.prog 21 #[.slice a0 n ca, .slice b0 n cb] w fun e w' => e = .returned (.bool true) ∧ ∃ k, w' = w.drewN k := by
  have HM := Lib.hid hm
  have HK := Lib.hid hk
  have hbig : n ≤ 9223372036854775807 := by have h1 := hm.le; have h2 := hm.small; unfold maxLen at h2; omega
  clear hm hk
  go_enter Tryd.func21, Tryd.ntmps21
  go_wp2_with fail
  go_loopw [5] (fun v X => ∃ i : Nat, i ≤ n ∧ v = .int .i64 (i : Int) ∧ Hid (∃ k, X = w.drewN k)) (fun v _ => ((n : Int) - intOf v).toNat)
  case atStart => exact ⟨0, by omega, rfl, 0, rfl⟩
  case round =>
    obtain ⟨i, hi, rfl, HX⟩ := hrel
    by_cases hlt : i < n
    · obtain ⟨ad, rfl, b1, l1, c1, hcell1, hcame1⟩ := HM.out.row i hlt
      obtain ⟨bd, rfl, b2, l2, c2, hcell2, hcame2⟩ := HK.out.row i hlt
      obtain ⟨kk, hkk⟩ := HX.out
      obtain ⟨z, hz⟩ : ∃ z, z = zss.getD i [] := ⟨_, rfl⟩
      rw [← hz] at hcame1 hcame2
      have hg1 : ∀ q, (wr.drewN q).cell? (ad.add i) = some (.slice b1 l1 c1) := fun q => by rw [hkk]; exact hcell1
      have hg2 : ∀ q, (wr.drewN q).cell? (bd.add i) = some (.slice b2 l2 c2) := fun q => by rw [hkk]; exact hcell2
      have hc1 : wr.cell? (ad.add i) = some (.slice b1 l1 c1) := by rw [hkk]; exact hcell1
      have hc2 : wr.cell? (bd.add i) = some (.slice b2 l2 c2) := by rw [hkk]; exact hcell2
      have hv1 : ∀ q, (convert 22 9 (.slice b1 l1 c1)).run Tryd.prog (wr.drewN q) = .ok (.string (strOfNums z)) (wr.drewN q) := fun q => conv_reads (by rw [hkk]; exact ((hcame1.drewN kk).drewN q).reads) c1
      have hv2 : ∀ q, (convert 22 9 (.slice b2 l2 c2)).run Tryd.prog (wr.drewN q) = .ok (.string (strOfNums z)) (wr.drewN q) := fun q => conv_reads (by rw [hkk]; exact ((hcame2.drewN kk).drewN q).reads) c2
      have hne := nums_neq z
      have HKK := Lib.hid hkk
      clear hz hcell1 hcell2 hcame1 hcame2 hkk
      go_upto_region 6 with (fail)
      go_quiet (fail)
      go_wp2_with fail
      try go_roundw
      case rel => exact ⟨i + 1, by omega, by go_num, kk + nq, by rw [HKK.out, World.drewN_drewN]⟩
      case measure => simp [intOf]; omega
    · obtain rfl : i = n := by omega
      go_wp2_with fail
      go_ret
      exact ⟨rfl, HX.out⟩
end Go.Proofs.YtbgaekokjkdpiaaDoor
