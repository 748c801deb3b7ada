/- The second saying's Crc is the document's. -/
import Derived.Test.YtgggecpnmliolaaDoorFrN
namespace Go.Proofs.YtgggecpnmliolaaDoor
open Go.RowKit Frm
set_option linter.unusedVariables false
set_option linter.unusedSimpArgs false

set_option maxRecDepth 100000 in
set_option maxHeartbeats 4000000 in
theorem rcrc_any (a0 : Option Addr) (len0 cap0 : Nat) (z : List Int) (w : World) (hr : Reads w a0 len0 z) (hby : ∀ c ∈ z, Byte c) (hn : len0 ≤ 281474976710656) :
    Calls Tryd.prog 37 #[.slice a0 len0 cap0] w fun e w' => e = .returned (.int .u32 ((crc z).toNat : Int)) ∧ w = w' := by
  have HR := Lib.hid hr
  have HB := Lib.hid hby
  clear hr hby
  go_enter Tryd.func37, Tryd.ntmps37
  go_wp2_with fail
  go_loopw [3, 4] (fun c v X => ∃ i : Nat, i ≤ len0 ∧ v = .int .i64 (i : Int) ∧ c = .int .u32 ((raw (z.take i)).toNat : Int) ∧ X = w) (fun _ v _ => ((len0 : Int) - intOf v).toNat)
  case atStart => exact ⟨0, by omega, rfl, rfl, rfl⟩
  case round =>
    obtain ⟨i, hi, rfl, rfl, rfl⟩ := hrel
    by_cases hlt : i < len0
    · obtain ⟨ad, rfl, hcell⟩ := HR.out.at hlt
      have hx := HB.out (z.getD i 0) (by have := HR.out.1; simp [List.getD, show i < z.length by omega])
      have hnx := Lib.hid (raw_next (b := z) (i := i) (by rw [HR.out.1]; exact hlt))
      obtain ⟨x, hxe⟩ : ∃ x, x = z.getD i 0 := ⟨_, rfl⟩
      rw [← hxe] at hcell hx hnx
      have hv := by32_val hx
      obtain ⟨c, hc⟩ : ∃ c, c = raw (z.take i) := ⟨_, rfl⟩
      rw [← hc] at hnx ⊢
      have hm : x % 4294967296 = x := by have h1 := hx.1; have h2 := hx.2; omega
      have hb := bits_xor c (by32 x)
      rw [hv] at hb
      have HBX : Hid (bits .xor .u32 (c.toNat : Int) (x % 4294967296) = ((c ^^^ by32 x).toNat : Int)) := by rw [hm]; exact hb
      clear hv hxe hc hx hb hm
      go_wp2_with fail
      rw [HBX.out]
      obtain ⟨d, hd⟩ : ∃ d, d = c ^^^ by32 x := ⟨_, rfl⟩
      have hup : steps 8 (c ^^^ by32 x) = upd c x := rfl
      rw [← hd] at hup ⊢
      have HUP := Lib.hid hup
      clear hup hd HBX
      go_loopw [3, 5] (fun c v X => ∃ k : Nat, k ≤ 8 ∧ v = .int .i64 (k : Int) ∧ c = .int .u32 ((steps k d).toNat : Int) ∧ X = wr) (fun _ v _ => (8 - intOf v).toNat)
      case atStart => exact ⟨0, by omega, rfl, rfl, rfl⟩
      case round =>
        obtain ⟨k, hk, rfl, rfl, rfl⟩ := hrel
        by_cases hk2 : k < 8
        · obtain ⟨y, hy⟩ : ∃ y, y = steps k d := ⟨_, rfl⟩
          have hny : steps (k + 1) d = Frm.step y := by rw [hy]; rfl
          rw [← hy]
          clear hy
          obtain ⟨q, hq⟩ : ∃ q, q = y.toNat % 2 := ⟨_, rfl⟩
          have han : bits .and .u32 (y.toNat : Int) 1 = (q : Int) := by rw [hq, show (1 : Int) = ((1 : W).toNat : Int) from rfl, bits_and, BitVec.toNat_and]; exact congrArg Nat.cast (Nat.and_one_is_mod _)
          have hsh : (y.toNat : Int) / 2 = ((y >>> 1).toNat : Int) := shr_val y 1
          by_cases hq1 : q = 1
          · have hxx := bits_xor (y >>> 1) poly
            have hst : Frm.step y = (y >>> 1) ^^^ poly := by unfold Frm.step; rw [← hq, if_pos hq1]
            rw [← hst, ← hny, ← hsh] at hxx
            have HXX := Lib.hid hxx
            clear hq hxx hst hsh hny
            subst hq1
            go_wp2_with fail
            try go_roundw
            case rel => exact ⟨k + 1, by omega, by go_num, u32_cong HXX.out, by trivial⟩
            case measure => simp [intOf]; omega
          · have hq0 : q = 0 := by omega
            have hst : Frm.step y = y >>> 1 := by unfold Frm.step; rw [← hq, if_neg hq1]
            rw [← hst, ← hny] at hsh
            have HXX := Lib.hid hsh
            clear hq hst hsh hny hq1
            subst hq0
            go_wp2_with fail
            try go_roundw
            case rel => exact ⟨k + 1, by omega, by go_num, u32_cong HXX.out, by trivial⟩
            case measure => simp [intOf]; omega
        · have hk3 : k = 8 := by omega
          subst hk3
          go_wp2_with fail
          go_roundw
          case rel => exact ⟨i + 1, by omega, by go_num, u32_cong (by rw [hnx.out, ← HUP.out]), by trivial⟩
          case measure => simp [intOf]; omega
    · have hi2 : i = len0 := by omega
      have e : z.take i = z := List.take_of_length_le (by rw [HR.out.1]; omega)
      rw [e]
      obtain ⟨c, hc⟩ : ∃ c, c = raw z := ⟨_, rfl⟩
      have HC := Lib.hid hc
      rw [← hc]
      clear hc e
      have HCV := Lib.hid (compl_val c)
      go_wp2_with fail
      go_ret
      exact ⟨ret_u32 (by rw [crc, ← HC.out]; exact HCV.out), rfl⟩
end Go.Proofs.YtgggecpnmliolaaDoor
