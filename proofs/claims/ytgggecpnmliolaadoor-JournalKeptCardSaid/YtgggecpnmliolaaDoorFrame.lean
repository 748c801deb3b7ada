/- A frame is made, twice. -/
import Derived.Test.YtgggecpnmliolaaDoorFour
import Derived.Test.YtgggecpnmliolaaDoorCrc
import Derived.Test.YtgggecpnmliolaaDoorRCrc
import Derived.Lib.Bytes
namespace Go.Proofs.YtgggecpnmliolaaDoor
open Go.RowKit Frm
set_option linter.unusedVariables false
set_option linter.unusedSimpArgs false

theorem own_came {w : World} {B n : Nat} {v : Value} {xs : List Int} (h : w.ownsRow B 5 1 v n (bts xs)) (hb : ∀ c ∈ xs, Byte c) : ∃ a c, v = .slice a n c ∧ Came w a n c xs := by
  have hl := h.1
  rw [bts_length, Nat.mul_one] at hl
  obtain ⟨a, c, hv, hr, h1, h2⟩ := owned_val2 h
  refine ⟨a, c, hv, hr, h1, h2, fun ha => ?_, hb⟩
  rcases h.2 with ⟨h3, h4⟩ | ⟨g, cap, cur, h3, -⟩
  · rw [hv] at h3
    cases h3
    exact ⟨rfl, rfl⟩
  · rw [hv] at h3
    cases h3
    cases ha

theorem four_new (w : World) (a b c d : Int) (fr : Nat × Nat) : ∀ (j : Nat) (u : Value), (bts [a, b, c, d])[j]? = some u → (w.alloc (Obj.cells #[Value.int IntKind.u8 a, Value.int IntKind.u8 b, Value.int IntKind.u8 c, Value.int IntKind.u8 d] 5 fr)).cell? ((⟨w.heap.size, 0, none⟩ : Addr).add j) = some u := by
  have hh : (w.alloc (Obj.cells #[Value.int IntKind.u8 a, Value.int IntKind.u8 b, Value.int IntKind.u8 c, Value.int IntKind.u8 d] 5 fr)).heap[w.heap.size]? = some (Obj.cells #[Value.int IntKind.u8 a, Value.int IntKind.u8 b, Value.int IntKind.u8 c, Value.int IntKind.u8 d] 5 fr) := by
    show (w.heap.push _)[w.heap.size]? = _
    simp
  intro j u hj
  rw [Addr.add_lit, Nat.zero_add]
  simp only [World.cell?, hh]
  match j, hj with
  | 0, hj => simpa [bts] using hj
  | 1, hj => simpa [bts] using hj
  | 2, hj => simpa [bts] using hj
  | 3, hj => simpa [bts] using hj





set_option maxRecDepth 100000 in
set_option maxHeartbeats 4000000 in
theorem frame_any (a0 : Option Addr) (len0 cap0 : Nat) (z : List Int) (w : World) (hc : Came w a0 len0 cap0 z) (hn : len0 ≤ 4194304) (hlaid : Laid w) :
    Calls Tryd.prog 52 #[.slice a0 len0 cap0] w fun e w' =>
      ∃ v, e = .returned (.tuple #[v, .int .i64 0]) ∧ w'.ownsRow w.heap.size 5 1 v (8 + len0) (bts (frame z)) ∧ Below w.heap.size w w' := by
  obtain ⟨i0, hi, hz0, hz1, hz2⟩ := info_parts Tryd.infoByte
  have HC := Lib.hid hc
  have HL := Lib.hid hlaid
  clear hc hlaid
  go_enter Tryd.func52, Tryd.ntmps52
  have hml : (madeCells (Value.int IntKind.u8 0).cells (8 + len0)).toList.length = 8 + len0 := by simp [size_madeCells]
  obtain ⟨cur, hcur⟩ : ∃ cur, cur = (madeCells (Value.int IntKind.u8 0).cells (8 + len0)).toList := ⟨_, rfl⟩
  rw [← hcur] at hml
  have HCU := Lib.hid hcur
  clear hcur
  go_wp2_with (at_make; refine wpList_make_any _ rfl _ _ 30 rfl 5 i0 _ Tryd.underlying30 hi hz0 hz1 hz2 _ _ _ _ 0 (8 + len0) rfl rfl (by omega) (by omega) (by omega) (by omega) ?_; intro w0 hg0 hs0 hb0; rw [← HCU.out] at hg0)
  have ho0 : w0.ownsRow w.heap.size 5 1 (.slice (some ⟨w.heap.size, 0, none⟩) 0 (8 + len0)) 0 (bts []) := ⟨by simp [bts], .inr ⟨w.heap.size, 8 + len0, cur.toArray, rfl, Nat.le_refl _, hg0, by omega, by unfold maxLen; omega, by simp [hml], by simp [bts]⟩⟩
  refine (four_any w.heap.size _ 0 [] len0 w0 ho0 (by omega) (by omega) (by omega)).mono ?_
  rintro _ w1 ⟨v1, rfl, ho1, hb1⟩
  have HO1 := Lib.hid ho1
  have HB1 := Lib.hid (hb0.trans (hb1.mono (Nat.le_refl _)))
  clear ho1 hb1 ho0 hg0 hs0 hb0
  go_wp2_with fail
  have hc1 := HC.out.below HB1.out
  refine (crc_any a0 len0 cap0 z w1 hc1.reads hc1.bytes (by omega) (HL.out.keep HB1.out)).mono ?_
  rintro _ _ ⟨rfl, rfl⟩
  clear hc1
  go_wp2_with fail
  refine (four_any w.heap.size _ (0 + 4) _ (crc z).toNat w1 HO1.out HB1.out.size (by omega) (crc z).isLt).mono ?_
  rintro _ w2 ⟨v2, rfl, ho2, hb2⟩
  have HO2 := Lib.hid ho2
  have HB2 := Lib.hid (HB1.out.trans (hb2.mono (Nat.le_refl _)))
  clear ho2 hb2
  have HC2 := Lib.hid (HC.out.below HB2.out)
  go_wp2_with (at_builtin; go_must (refine wpList_append_reads rfl _ _ 30 rfl w.heap.size 5 i0 Tryd.underlying30 hi hz0 hz1 hz2 _ (0 + 4 + 4) _ rfl HO2.out a0 len0 cap0 z rfl HC2.out.reads HC2.out.nil ?d4 ?d5 ?_))
  case d4 => omega
  case d5 => exact HB2.out.size
  intro v3 w3 ho3 hg3
  have hb3 := HB2.out.grown hg3 HB2.out.size (fun k hk => (HO2.out.lt k hk).1)
  have HO3 := Lib.hid ho3
  have HB3 := Lib.hid hb3
  clear ho3 hb3 hg3
  go_wp2_with fail
  go_ret2
  exact ⟨v3, rfl, by have h := HO3.out; have hl := HC.out.reads.1; unfold frame; rw [hl]; simpa [Nat.add_comm] using h, HB3.out⟩
end Go.Proofs.YtgggecpnmliolaaDoor
