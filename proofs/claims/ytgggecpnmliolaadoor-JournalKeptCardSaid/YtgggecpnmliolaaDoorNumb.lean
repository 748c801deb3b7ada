/- What four bytes say, twice. -/
import Derived.Test.YtgggecpnmliolaaDoorFrN
namespace Go.Proofs.YtgggecpnmliolaaDoor
open Go.RowKit Frm
set_option linter.unusedVariables false
set_option linter.unusedSimpArgs false

set_option maxRecDepth 100000 in
set_option maxHeartbeats 4000000 in
theorem number_any (a0 : Option Addr) (len0 cap0 : Nat) (z : List Int) (w : World) (hr : Reads w a0 len0 z) (hby : ∀ c ∈ z, Byte c) (h4 : 4 ≤ len0) :
    Calls Tryd.prog 57 #[.slice a0 len0 cap0] w fun e w' => e = .returned (.int .u32 (num z : Int)) ∧ w = w' := by
  have HR := Lib.hid hr
  have HN := Lib.hid (num_part hby)
  have HB := Lib.hid hby
  clear hr hby
  go_enter Tryd.func57, Tryd.ntmps57
  go_wp2_with fail
  go_loopw [2, 4] (fun c v X => ∃ k : Nat, k ≤ 4 ∧ v = .int .i64 (k : Int) ∧ c = .int .u32 (part z k) ∧ X = w) (fun _ v _ => (4 - intOf v).toNat)
  case atStart => exact ⟨0, by omega, rfl, rfl, rfl⟩
  case round =>
    obtain ⟨k, hk, rfl, rfl, rfl⟩ := hrel
    by_cases hlt : k < 4
    · obtain ⟨ad, rfl, hcell⟩ := HR.out.at (show k < len0 by omega)
      have hx := getD_byte HB.out k
      obtain ⟨x, hxe⟩ : ∃ x, x = z.getD k 0 := ⟨_, rfl⟩
      have hnx : part z (k + 1) = part z k + x * 256 ^ k := by rw [hxe]; rfl
      rw [← hxe] at hcell hx
      have hx0 := hx.1
      have hx1 := hx.2
      have hkk : k = 0 ∨ k = 1 ∨ k = 2 ∨ k = 3 := by omega
      clear hxe
      rcases hkk with rfl | rfl | rfl | rfl
      · simp [Addr.add] at hcell
        have HNX := Lib.hid hnx
        clear hnx
        go_wp2_with fail
        refine ⟨⟨1, by omega, by go_num, u32_cong ?_, by trivial⟩, by simp [intOf]⟩
        rw [HNX.out]
        show bits .or .u32 0 x = 0 + x * 1
        rw [or0 hx]
        omega
      · simp [Addr.add] at hcell
        have HNX := Lib.hid hnx
        clear hnx
        go_wp2_with fail
        refine ⟨⟨2, by omega, by go_num, u32_cong ?_, by trivial⟩, by simp [intOf]⟩
        rw [HNX.out]
        show bits .or .u32 (part z 1) (x * 256) = part z 1 + x * 256
        exact or8 (by have h := part_bd HB.out 1; simpa using h) hx
      · simp [Addr.add] at hcell
        have HNX := Lib.hid hnx
        clear hnx
        go_wp2_with fail
        refine ⟨⟨3, by omega, by go_num, u32_cong ?_, by trivial⟩, by simp [intOf]⟩
        rw [HNX.out]
        show bits .or .u32 (part z 2) (x * 65536) = part z 2 + x * 65536
        exact or16 (by have h := part_bd HB.out 2; simpa using h) hx
      · simp [Addr.add] at hcell
        have HNX := Lib.hid hnx
        clear hnx
        go_wp2_with fail
        refine ⟨⟨4, by omega, by go_num, u32_cong ?_, by trivial⟩, by simp [intOf]⟩
        rw [HNX.out]
        show bits .or .u32 (part z 3) (x * 16777216) = part z 3 + x * 16777216
        exact or24 (by have h := part_bd HB.out 3; simpa using h) hx
    · have hk4 : k = 4 := by omega
      subst hk4
      rw [HN.out]
      go_wp2_with fail
      go_ret
      exact ⟨rfl, rfl⟩

theorem or_int8 {a x : Int} (ha : 0 ≤ a ∧ a < 256) (hx : 0 ≤ x ∧ x < 16777216) : bits .or .u32 (x * 256) a = a + x * 256 := by
  rw [or_comm32 (by omega) (by omega)]
  have h := or_add a.toNat x.toNat 8 (by omega) (by omega)
  rw [show ((a.toNat : Nat) : Int) = a by omega, show ((x.toNat * 2 ^ 8 : Nat) : Int) = x * 256 by omega] at h
  rw [h]
  omega
theorem or_int16 {a x : Int} (ha : 0 ≤ a ∧ a < 65536) (hx : 0 ≤ x ∧ x < 65536) : bits .or .u32 (x * 65536) a = a + x * 65536 := by
  rw [or_comm32 (by omega) (by omega)]
  have h := or_add a.toNat x.toNat 16 (by omega) (by omega)
  rw [show ((a.toNat : Nat) : Int) = a by omega, show ((x.toNat * 2 ^ 16 : Nat) : Int) = x * 65536 by omega] at h
  rw [h]
  omega
theorem or_int24 {a x : Int} (ha : 0 ≤ a ∧ a < 16777216) (hx : 0 ≤ x ∧ x < 256) : bits .or .u32 (x * 16777216) a = a + x * 16777216 := by
  rw [or_comm32 (by omega) (by omega)]
  have h := or_add a.toNat x.toNat 24 (by omega) (by omega)
  rw [show ((a.toNat : Nat) : Int) = a by omega, show ((x.toNat * 2 ^ 24 : Nat) : Int) = x * 16777216 by omega] at h
  rw [h]
  omega

theorem get_num {x0 x1 x2 x3 : Int} (b0 : 0 ≤ x0 ∧ x0 < 256) (b1 : 0 ≤ x1 ∧ x1 < 256) (b2 : 0 ≤ x2 ∧ x2 < 256) (b3 : 0 ≤ x3 ∧ x3 < 256) :
    bits .or .u32 (bits .or .u32 (bits .or .u32 (x3 * 16777216) (x2 * 65536)) (x1 * 256)) x0 = x0 + 256 * x1 + 65536 * x2 + 16777216 * x3 := by
  rw [or_int24 (by omega) (by omega)]
  rw [show x2 * 65536 + x3 * 16777216 = (x2 + 256 * x3) * 65536 by omega, or_int16 (by omega) (by omega)]
  rw [show x1 * 256 + (x2 + 256 * x3) * 65536 = (x1 + 256 * x2 + 65536 * x3) * 256 by omega, or_int8 (by omega) (by omega)]
  omega

set_option maxRecDepth 100000 in
set_option maxHeartbeats 4000000 in
theorem get_any (a0 : Option Addr) (len0 cap0 : Nat) (z : List Int) (w : World) (hr : Reads w a0 len0 z) (hby : ∀ c ∈ z, Byte c) (h4 : 4 ≤ len0) :
    Calls Tryd.prog 31 #[.slice a0 len0 cap0] w fun e w' => e = .returned (.int .u32 (num z : Int)) ∧ ∃ k, w' = w.drewN k := by
  obtain ⟨ad, rfl, c0⟩ := hr.at (show 0 < len0 by omega)
  obtain ⟨ad1, he1, c1⟩ := hr.at (show 1 < len0 by omega)
  cases he1
  obtain ⟨ad2, he2, c2⟩ := hr.at (show 2 < len0 by omega)
  cases he2
  obtain ⟨ad3, he3, c3⟩ := hr.at (show 3 < len0 by omega)
  cases he3
  have b0 := getD_byte hby 0
  have b1 := getD_byte hby 1
  have b2 := getD_byte hby 2
  have b3 := getD_byte hby 3
  unfold Byte at b0 b1 b2 b3
  have hnum : (num z : Int) = z.getD 0 0 + 256 * z.getD 1 0 + 65536 * z.getD 2 0 + 16777216 * z.getD 3 0 := by unfold num; omega
  generalize z.getD 0 0 = x0 at *
  generalize z.getD 1 0 = x1 at *
  generalize z.getD 2 0 = x2 at *
  generalize z.getD 3 0 = x3 at *
  have HG := Lib.hid (get_num b0 b1 b2 b3)
  rw [← hnum] at HG
  have m1 : Hid (x0 % 4294967296 = x0 ∧ x1 % 4294967296 * 256 % 4294967296 = x1 * 256 ∧ x2 % 4294967296 * 65536 % 4294967296 = x2 * 65536 ∧ x3 % 4294967296 * 16777216 % 4294967296 = x3 * 16777216) := ⟨by omega, by omega, by omega, by omega⟩
  simp [Addr.add] at c0 c1 c2 c3
  clear hr hby hnum b0 b1 b2 b3
  go_enter Tryd.func31, Tryd.ntmps31
  go_upto_region 1 with (fail)
  go_quiet (fail)
  go_wp2_with fail
  rw [m1.out.1, m1.out.2.1, m1.out.2.2.1, m1.out.2.2.2, HG.out]
  go_ret
  exact ⟨rfl, _, rfl⟩
end Go.Proofs.YtgggecpnmliolaaDoor
