/- The program's Crc is the document's. -/
import Derived.Test.YtgggecpnmliolaaDoorFrN
namespace Go.Proofs.YtgggecpnmliolaaDoor
open Go.RowKit Frm
set_option linter.unusedVariables false
set_option linter.unusedSimpArgs false

set_option maxRecDepth 100000 in
set_option maxHeartbeats 4000000 in
theorem crc_any (a0 : Option Addr) (len0 cap0 : Nat) (z : List Int) (w : World) (hr : Reads w a0 len0 z) (hby : ∀ c ∈ z, Byte c) (hn : len0 ≤ 281474976710656) (hlaid : Laid w) :
    Calls Tryd.prog 58 #[.slice a0 len0 cap0] w fun e w' => e = .returned (.int .u32 ((crc z).toNat : Int)) ∧ w = w' := by
  have HR := Lib.hid hr
  have HL := Lib.hid hlaid
  have HB := Lib.hid hby
  clear hr hlaid hby
  go_enter Tryd.func58, Tryd.ntmps58
  go_wp2_with fail
  go_loopw [3, 8] (fun c v X => ∃ i : Nat, i ≤ len0 ∧ v = .int .i64 (i : Int) ∧ c = .int .u32 ((raw (z.take i)).toNat : Int) ∧ X = w) (fun _ v _ => ((len0 : Int) - intOf v).toNat)
  case atStart => exact ⟨0, by omega, rfl, rfl, rfl⟩
  case round =>
    obtain ⟨i, hi, rfl, rfl, rfl⟩ := hrel
    by_cases hlt : i < len0
    · obtain ⟨ad, rfl, hcell⟩ := HR.out.at hlt
      have hx := HB.out (z.getD i 0) (by have := HR.out.1; simp [List.getD, show i < z.length by omega])
      have hnx := Lib.hid (raw_next (b := z) (i := i) (by rw [HR.out.1]; exact hlt))
      obtain ⟨x, hxe⟩ : ∃ x, x = z.getD i 0 := ⟨_, rfl⟩
      rw [← hxe] at hcell hx hnx
      have hv := by32_val hx
      obtain ⟨c, hc⟩ : ∃ c, c = raw (z.take i) := ⟨_, rfl⟩
      rw [← hc] at hnx ⊢
      have hm : x % 4294967296 = x := by have h1 := hx.1; have h2 := hx.2; omega
      have hb := bits_xor c (by32 x)
      rw [hv] at hb
      have HBX : Hid (bits .xor .u32 (c.toNat : Int) (x % 4294967296) = ((c ^^^ by32 x).toNat : Int)) := by rw [hm]; exact hb
      clear hv hxe hc hx hb hm
      go_wp2_with fail
      rw [HBX.out]
      obtain ⟨d, hd⟩ : ∃ d, d = c ^^^ by32 x := ⟨_, rfl⟩
      have hup := nibs2 c x
      rw [← hd] at hup ⊢
      have HUP := Lib.hid hup
      clear hup hd HBX
      go_loopw [3, 16] (fun c v X => ∃ k : Nat, k ≤ 2 ∧ v = .int .i64 (k : Int) ∧ c = .int .u32 ((nibs k d).toNat : Int) ∧ X = wr) (fun _ v _ => (2 - intOf v).toNat)
      case atStart => exact ⟨0, by omega, rfl, rfl, rfl⟩
      case round =>
        obtain ⟨k, hk, rfl, rfl, rfl⟩ := hrel
        by_cases hk2 : k < 2
        · obtain ⟨y, hy⟩ : ∃ y, y = nibs k d := ⟨_, rfl⟩
          have hny : nibs (k + 1) d = nib y := by rw [hy]; rfl
          rw [← hy]
          clear hy
          obtain ⟨q, hq⟩ : ∃ q, q = (y &&& 15).toNat := ⟨_, rfl⟩
          have hq15 : q < 16 := by
            rw [hq, BitVec.toNat_and]
            exact Nat.lt_of_le_of_lt Nat.and_le_right (by decide)
          have han : bits .and .u32 (y.toNat : Int) 15 = (q : Int) := by rw [hq]; exact bits_and y 15
          have htab := HL.out.tab q hq15
          obtain ⟨t, ht⟩ : ∃ t, t = halves.getD q 0 := ⟨_, rfl⟩
          rw [← ht] at htab
          have hsh : (y.toNat : Int) / 16 = ((y >>> 4).toNat : Int) := shr_val y 4
          have hxx := bits_xor (y >>> 4) t
          have hnib : nib y = (y >>> 4) ^^^ t := by rw [ht, hq]; rfl
          rw [← hnib, ← hny, ← hsh] at hxx
          have HXX := Lib.hid hxx
          clear hq hxx hnib ht hsh hny
          go_wp2_with fail
          try go_roundw
          case rel => exact ⟨k + 1, by omega, by go_num, u32_cong HXX.out, by trivial⟩
          case measure => simp [intOf]; omega
        · have hk3 : k = 2 := by omega
          subst hk3
          go_wp2_with fail
          go_roundw
          case rel => exact ⟨i + 1, by omega, by go_num, u32_cong (by rw [hnx.out, ← HUP.out]), by trivial⟩
          case measure => simp [intOf]; omega
    · have hi2 : i = len0 := by omega
      have e : z.take i = z := List.take_of_length_le (by rw [HR.out.1]; omega)
      rw [e]
      obtain ⟨c, hc⟩ : ∃ c, c = raw z := ⟨_, rfl⟩
      have HC := Lib.hid hc
      rw [← hc]
      clear hc e
      have HCV := Lib.hid (compl_val c)
      go_wp2_with fail
      go_ret
      exact ⟨ret_u32 (by rw [crc, ← HC.out]; exact HCV.out), rfl⟩
end Go.Proofs.YtgggecpnmliolaaDoor
