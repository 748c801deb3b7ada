/- DiskStops: the walk. -/
import Derived.Test.YtibinilkhldfoaaLaw4
namespace Go.Proofs.Ytibinilkhldfoaa
open Go Go.RowKit
set_option linter.unusedVariables false
set_option linter.unusedSimpArgs false

/-- a disk that is to stop at its N-th operation, behind c of them -/
structure Live (N c : Nat) (d : Dk) : Prop where
  dead : d.dead = false
  stop : d.stop = (N : Int)
  count : d.count = c
  lt : c < N
  le : N ≤ 12
  log : d.log.length ≤ c
  snap : d.snap.length ≤ 2
  room : d.room = 60

/-- without power -/
structure Gone (d : Dk) : Prop where
  dead : d.dead = true
  count : d.count ≤ 12

section
variable {N c : Nat} {d : Dk}

theorem Live.free (h : Live N c d) (hn : c + 1 ≠ N) : (d.count : Int) + 1 ≠ d.stop := by rw [h.stop, h.count]; omega
theorem Live.last (h : Live N c d) (hn : c + 1 = N) : (d.count : Int) + 1 = d.stop := by rw [h.stop, h.count]; omega

theorem Live.append (h : Live N c d) (hn : c + 1 ≠ N) : Live N (c + 1) (d.append [1]) ∧ d.appendE 1 = 0 := by
  have h1 := h.lt; have h2 := h.le; have h3 := h.log; have h4 := h.snap
  have e := Dk.append_free h.dead (h.free hn) [1] 1 rfl (by rw [h.room]; omega)
  refine ⟨?_, e.2⟩
  rw [e.1]
  exact ⟨h.dead, h.stop, by show d.count + 1 = _; rw [h.count], by omega, h.le, by show (d.log ++ [1]).length ≤ _; rw [List.length_append]; show d.log.length + 1 ≤ _; omega, h.snap, h.room⟩
theorem Live.appendL (h : Live N c d) (hn : c + 1 = N) : Gone (d.append [1]) ∧ d.appendE 1 = 20 := by
  have h1 := h.lt; have h2 := h.le; have h3 := h.log; have h4 := h.snap
  have hf : d.full 1 = false := by unfold Dk.full; rw [decide_eq_false (by rw [h.room]; omega)]; simp
  have e := Dk.run_last h.dead (h.last hn) (Dk.add [1]) true
  have ea : d.append [1] = d.run (Dk.add [1]) true ∧ d.appendE 1 = d.runE := by
    unfold Dk.append Dk.appendE
    rw [show ([1] : List Int).length = 1 from rfl, hf]
    exact ⟨rfl, rfl⟩
  rw [ea.1, ea.2, e.1]
  exact ⟨⟨rfl, by show d.count + 1 ≤ 12; rw [h.count]; omega⟩, e.2⟩

theorem Live.sync (h : Live N c d) (hn : c + 1 ≠ N) : Live N (c + 1) d.syncs ∧ d.runE = 0 := by
  have h1 := h.lt; have h3 := h.log
  have e := Dk.syncs_free h.dead (h.free hn)
  refine ⟨?_, e.2⟩
  rw [e.1]
  exact ⟨h.dead, h.stop, by show d.count + 1 = _; rw [h.count], by omega, h.le, by show d.log.length ≤ _; omega, h.snap, h.room⟩
theorem Live.syncL (h : Live N c d) (hn : c + 1 = N) : Gone d.syncs ∧ d.runE = 20 := by
  have h2 := h.le
  have e := Dk.run_last h.dead (h.last hn) Dk.sync false
  refine ⟨?_, e.2⟩
  show Gone (d.run Dk.sync false)
  rw [e.1]
  exact ⟨rfl, by show d.count + 1 ≤ 12; rw [h.count]; omega⟩

theorem Live.swap (h : Live N c d) (hn : c + 1 ≠ N) : Live N (c + 1) (d.swaps [2, 3]) ∧ d.swapE 2 = 0 := by
  have h1 := h.lt
  have e := Dk.swaps_free h.dead (h.free hn) [2, 3] 2 rfl (by rw [h.room]; omega)
  refine ⟨?_, e.2⟩
  rw [e.1]
  exact ⟨h.dead, h.stop, by show d.count + 1 = _; rw [h.count], by omega, h.le, Nat.zero_le _, Nat.le_refl _, h.room⟩
theorem Live.swapL (h : Live N c d) (hn : c + 1 = N) : Gone (d.swaps [2, 3]) ∧ d.swapE 2 = 20 := by
  have h2 := h.le
  have e := Dk.swaps_last h.dead (h.last hn) [2, 3] 2 rfl (by rw [h.room]; omega)
  refine ⟨?_, e.2⟩
  rw [e.1]
  split
  all_goals exact ⟨rfl, by show d.count + 1 ≤ 12; rw [h.count]; omega⟩

theorem Live.cut (h : Live N c d) (hn : c + 1 ≠ N) : Live N (c + 1) (d.cuts ((0 : Nat) : Int)) ∧ d.cutE ((0 : Nat) : Int) = 0 := by
  have h1 := h.lt
  have e := Dk.cuts_free h.dead (h.free hn) 0 (Nat.zero_le _)
  refine ⟨?_, e.2⟩
  rw [e.1]
  exact ⟨h.dead, h.stop, by show d.count + 1 = _; rw [h.count], by omega, h.le, by show (d.log.take 0).length ≤ _; rw [List.take_zero]; exact Nat.zero_le _, h.snap, h.room⟩
theorem Live.cutL (h : Live N c d) (hn : c + 1 = N) : Gone (d.cuts ((0 : Nat) : Int)) ∧ d.cutE ((0 : Nat) : Int) = 20 := by
  have h2 := h.le
  have e := Dk.cuts_last h.dead (h.last hn) 0 (Nat.zero_le _)
  refine ⟨?_, e.2⟩
  rw [e.1]
  split
  all_goals exact ⟨rfl, by show d.count + 1 ≤ 12; rw [h.count]; omega⟩

theorem Live.full (h : Live N c d) : d.append (List.replicate 70 0) = d ∧ d.appendE 70 = 19 := Dk.append_full h.dead _ 70 List.length_replicate (by rw [h.room]; omega)
theorem Live.off (h : Live N c d) : d.cuts ((99 : Nat) : Int) = d ∧ d.cutE ((99 : Nat) : Int) = 1 := Dk.cuts_off h.dead 99 (by have := h.log; have := h.lt; have := h.le; omega)
end

/-- either, behind c operations -/
def Both (N c : Nat) (d : Dk) : Prop := Live N c d ∨ Gone d

theorem Both.count {N c : Nat} {d : Dk} (h : Both N c d) : d.count < 1000 := by
  rcases h with h | h
  · rw [h.count]; have := h.lt; have := h.le; omega
  · have := h.count; omega

set_option maxRecDepth 100000 in
set_option maxHeartbeats 16000000 in
theorem lstops_any (n : Int) (a1 : Option Addr) (len1 cap1 : Nat) (ns : List Int) (w : World) (hr : I64 n) (hn : Nums w a1 len1 cap1 ns) :
    Calls Try.prog 5 #[.int .i64 n, .slice a1 len1 cap1] w fun e w' => e = .returned (.bool true) ∧ Below w.heap.size w w' := by
  obtain ⟨i0, hi0, hz0, hz1, hz2⟩ := info_parts Try.infoByte
  have hbig1 : len1 ≤ 9223372036854775807 := by have h1 := hn.le; have h2 := hn.small; unfold maxLen at h2; omega
  have HN := Lib.hid hn
  clear hn hr
  go_enter Try.func5, Try.ntmps5
  go_wp2_with fail
  refine (known_any w).mono ?_
  rintro _ w1 ⟨rfl, hb1⟩
  have HB1 := Lib.hid hb1
  clear hb1
  go_wp2_with fail
  refine (new_any w1 w.heap.size HB1.out.size 60 (by omega) (by omega)).mono ?_
  rintro _ w2 ⟨g, rfl, h2, hg, hb2⟩
  have HB2 := Lib.hid (HB1.out.trans (hb2.mono HB1.out.size))
  have H2 := Lib.hid h2
  clear h2 hb2
  have hgB : w.heap.size ≤ g := Nat.le_trans HB1.out.size hg
  go_wp2_with fail
  refine (within_any n 12 w2 (by omega) (by omega)).mono ?_
  rintro _ _ ⟨rfl, rfl⟩
  have hm0 : 0 ≤ n % 12 := Int.emod_nonneg _ (by omega)
  have hm1 : n % 12 < 12 := Int.emod_lt_of_pos _ (by omega)
  obtain ⟨N, hN⟩ : ∃ N : Nat, 1 + n % 12 = (N : Int) := ⟨(1 + n % 12).toNat, by omega⟩
  have hN1 : 1 ≤ N := by omega
  have hN2 : N ≤ 12 := by omega
  go_wp2_with fail
  have HNN := Lib.hid hN
  clear hm0 hm1 hN
  refine (has_stop H2.out (N : Int) (by unfold I64; omega)).mono ?_
  rintro _ w3 ⟨rfl, h3, ho3⟩
  have H3 : Hid (∃ d, Both N 0 d ∧ Has w.heap.size g d w3) := ⟨_, .inl ⟨rfl, rfl, rfl, by omega, hN2, Nat.le_refl _, Nat.zero_le _, rfl⟩, h3⟩
  have HB3 := Lib.hid (HB2.out.trans (ho3.below hgB HB2.out.size))
  clear h3 ho3 H2 HB2
  go_wp2_with fail
  go_loopw [7, 8] (fun vc v X => ∃ i c : Nat, i ≤ len1 ∧ i ≤ 30 ∧ c ≤ 12 ∧ vc = .int .i64 (c : Int) ∧ v = .int .i64 (i : Int) ∧ Hid (∃ d, Both N c d ∧ Has w.heap.size g d X) ∧ Hid (Below w.heap.size w X)) (fun _ v _ => ((len1 : Int) - intOf v).toNat)
  case atStart => exact ⟨0, 0, by omega, by omega, by omega, rfl, rfl, H3, HB3⟩
  case round =>
    obtain ⟨i, c, hi, hi30, hc12, rfl, rfl, HD, HBI⟩ := hrel
    clear H3 HB3
    by_cases hlt : i < len1
    · by_cases hl30 : i < 30
      · obtain ⟨d, hS, hd⟩ := HD.out
        obtain ⟨ad, rfl, hcell⟩ := (HN.out.below HBI.out).cell i hlt
        obtain ⟨z, hz⟩ : ∃ z, z = ns.getD i 0 := ⟨_, rfl⟩
        rw [← hz] at hcell
        have H5 := Lib.hid hd
        have HCT := Lib.hid hS.count
        clear hd hz HD
        have hm0 : 0 ≤ z % 6 := Int.emod_nonneg _ (by omega)
        have hm1 : z % 6 < 6 := Int.emod_lt_of_pos _ (by omega)
        obtain ⟨T, hT⟩ : ∃ T, z % 6 = T := ⟨_, rfl⟩
        rw [hT] at hm0 hm1
        have HT0 := Lib.hid hT
        clear hT
        rcases hS with hL | hG
        · have HL := Lib.hid hL
          have hcN := hL.lt
          clear hL
          go_wp2_with fail
          refine (has_dead H5.out false HL.out.dead).mono ?_
          rintro _ _ ⟨rfl, rfl⟩
          go_wp2_with fail
          refine (within_any z 6 wr (by omega) (by omega)).mono ?_
          rintro _ _ ⟨rfl, rfl⟩
          rw [HT0.out]
          rcases (show T = 0 ∨ T = 1 ∨ T = 2 ∨ T = 3 ∨ T = 4 ∨ T = 5 by omega) with rfl | rfl | rfl | rfl | rfl | rfl
          · have HT := HT0
            clear HT0 hm0 hm1
            by_cases hlast : c + 1 = N
            · have hcn : ((c : Int) + 1 == (N : Int)) = true := by simp; omega
              have H6 : Hid (Has w.heap.size g d (wr.alloc (.cells #[.int .u8 1] 5))) := H5.out.later ((Below.refl _ _).alloc (Nat.le_refl _) _)
              have HC6 : Hid (Came (wr.alloc (.cells #[.int .u8 1] 5)) (some ⟨wr.heap.size, 0, none⟩) 1 1 [1]) := came_new wr [1] 1 rfl (by omega) (by intro c hc; simp at hc; subst hc; exact ⟨by omega, by omega⟩) (0, 0)
              have HB6 : Hid (Below w.heap.size w (wr.alloc (.cells #[.int .u8 1] 5))) := HBI.out.alloc HBI.out.size _
              go_wp2_with fail
              refine (append_any H6.out HB6.out.size HCT.out HC6.out).mono ?_
              rintro _ w7 ⟨rfl, h7, hb7⟩
              have HB7 := Lib.hid (HB6.out.trans hb7)
              have e7 := HL.out.appendL hlast
              rw [e7.2]
              have HG7 := Lib.hid e7.1
              have H7 := Lib.hid h7
              clear h7 hb7 e7
              go_wp2_with fail
              refine (has_dead H7.out true HG7.out.dead).mono ?_
              rintro _ _ ⟨rfl, rfl⟩
              go_wp2_with fail
              try go_roundw
              case rel => exact ⟨i + 1, c + 1, by omega, by omega, by omega, by first | rfl | go_num, by go_num, ⟨_, .inr HG7.out, H7.out⟩, HB7⟩
              case measure => simp [intOf]; omega
            · have hcn : ((c : Int) + 1 == (N : Int)) = false := by simp; omega
              have H6 : Hid (Has w.heap.size g d (wr.alloc (.cells #[.int .u8 1] 5))) := H5.out.later ((Below.refl _ _).alloc (Nat.le_refl _) _)
              have HC6 : Hid (Came (wr.alloc (.cells #[.int .u8 1] 5)) (some ⟨wr.heap.size, 0, none⟩) 1 1 [1]) := came_new wr [1] 1 rfl (by omega) (by intro c hc; simp at hc; subst hc; exact ⟨by omega, by omega⟩) (0, 0)
              have HB6 : Hid (Below w.heap.size w (wr.alloc (.cells #[.int .u8 1] 5))) := HBI.out.alloc HBI.out.size _
              go_wp2_with fail
              refine (append_any H6.out HB6.out.size HCT.out HC6.out).mono ?_
              rintro _ w7 ⟨rfl, h7, hb7⟩
              have HB7 := Lib.hid (HB6.out.trans hb7)
              have e7 := HL.out.append hlast
              rw [e7.2]
              have HG7 := Lib.hid e7.1
              have H7 := Lib.hid h7
              clear h7 hb7 e7
              go_wp2_with fail
              refine (has_dead H7.out false HG7.out.dead).mono ?_
              rintro _ _ ⟨rfl, rfl⟩
              go_wp2_with fail
              try go_roundw
              case rel => exact ⟨i + 1, c + 1, by omega, by omega, by omega, by first | rfl | go_num, by go_num, ⟨_, .inl HG7.out, H7.out⟩, HB7⟩
              case measure => simp [intOf]; omega
          · have HT := HT0
            clear HT0 hm0 hm1
            by_cases hlast : c + 1 = N
            · have hcn : ((c : Int) + 1 == (N : Int)) = true := by simp; omega
              have H6 := H5
              have HB6 := HBI
              go_wp2_with fail
              refine (syncs_any H6.out HB6.out.size HCT.out).mono ?_
              rintro _ w7 ⟨rfl, h7, hb7⟩
              have HB7 := Lib.hid (HB6.out.trans hb7)
              have e7 := HL.out.syncL hlast
              rw [e7.2]
              have HG7 := Lib.hid e7.1
              have H7 := Lib.hid h7
              clear h7 hb7 e7
              go_wp2_with fail
              refine (has_dead H7.out true HG7.out.dead).mono ?_
              rintro _ _ ⟨rfl, rfl⟩
              go_wp2_with fail
              try go_roundw
              case rel => exact ⟨i + 1, c + 1, by omega, by omega, by omega, by first | rfl | go_num, by go_num, ⟨_, .inr HG7.out, H7.out⟩, HB7⟩
              case measure => simp [intOf]; omega
            · have hcn : ((c : Int) + 1 == (N : Int)) = false := by simp; omega
              have H6 := H5
              have HB6 := HBI
              go_wp2_with fail
              refine (syncs_any H6.out HB6.out.size HCT.out).mono ?_
              rintro _ w7 ⟨rfl, h7, hb7⟩
              have HB7 := Lib.hid (HB6.out.trans hb7)
              have e7 := HL.out.sync hlast
              rw [e7.2]
              have HG7 := Lib.hid e7.1
              have H7 := Lib.hid h7
              clear h7 hb7 e7
              go_wp2_with fail
              refine (has_dead H7.out false HG7.out.dead).mono ?_
              rintro _ _ ⟨rfl, rfl⟩
              go_wp2_with fail
              try go_roundw
              case rel => exact ⟨i + 1, c + 1, by omega, by omega, by omega, by first | rfl | go_num, by go_num, ⟨_, .inl HG7.out, H7.out⟩, HB7⟩
              case measure => simp [intOf]; omega
          · have HT := HT0
            clear HT0 hm0 hm1
            by_cases hlast : c + 1 = N
            · have hcn : ((c : Int) + 1 == (N : Int)) = true := by simp; omega
              have H6 : Hid (Has w.heap.size g d (wr.alloc (.cells #[.int .u8 2, .int .u8 3] 5))) := H5.out.later ((Below.refl _ _).alloc (Nat.le_refl _) _)
              have HC6 : Hid (Came (wr.alloc (.cells #[.int .u8 2, .int .u8 3] 5)) (some ⟨wr.heap.size, 0, none⟩) 2 2 [2, 3]) := came_new wr [2, 3] 2 rfl (by omega) (by intro c hc; simp at hc; rcases hc with rfl | rfl <;> exact ⟨by omega, by omega⟩) (0, 0)
              have HB6 : Hid (Below w.heap.size w (wr.alloc (.cells #[.int .u8 2, .int .u8 3] 5))) := HBI.out.alloc HBI.out.size _
              go_wp2_with fail
              refine (swaps_any H6.out HB6.out.size HCT.out HC6.out).mono ?_
              rintro _ w7 ⟨rfl, h7, hb7⟩
              have HB7 := Lib.hid (HB6.out.trans hb7)
              have e7 := HL.out.swapL hlast
              rw [e7.2]
              have HG7 := Lib.hid e7.1
              have H7 := Lib.hid h7
              clear h7 hb7 e7
              go_wp2_with fail
              refine (has_dead H7.out true HG7.out.dead).mono ?_
              rintro _ _ ⟨rfl, rfl⟩
              go_wp2_with fail
              try go_roundw
              case rel => exact ⟨i + 1, c + 1, by omega, by omega, by omega, by first | rfl | go_num, by go_num, ⟨_, .inr HG7.out, H7.out⟩, HB7⟩
              case measure => simp [intOf]; omega
            · have hcn : ((c : Int) + 1 == (N : Int)) = false := by simp; omega
              have H6 : Hid (Has w.heap.size g d (wr.alloc (.cells #[.int .u8 2, .int .u8 3] 5))) := H5.out.later ((Below.refl _ _).alloc (Nat.le_refl _) _)
              have HC6 : Hid (Came (wr.alloc (.cells #[.int .u8 2, .int .u8 3] 5)) (some ⟨wr.heap.size, 0, none⟩) 2 2 [2, 3]) := came_new wr [2, 3] 2 rfl (by omega) (by intro c hc; simp at hc; rcases hc with rfl | rfl <;> exact ⟨by omega, by omega⟩) (0, 0)
              have HB6 : Hid (Below w.heap.size w (wr.alloc (.cells #[.int .u8 2, .int .u8 3] 5))) := HBI.out.alloc HBI.out.size _
              go_wp2_with fail
              refine (swaps_any H6.out HB6.out.size HCT.out HC6.out).mono ?_
              rintro _ w7 ⟨rfl, h7, hb7⟩
              have HB7 := Lib.hid (HB6.out.trans hb7)
              have e7 := HL.out.swap hlast
              rw [e7.2]
              have HG7 := Lib.hid e7.1
              have H7 := Lib.hid h7
              clear h7 hb7 e7
              go_wp2_with fail
              refine (has_dead H7.out false HG7.out.dead).mono ?_
              rintro _ _ ⟨rfl, rfl⟩
              go_wp2_with fail
              try go_roundw
              case rel => exact ⟨i + 1, c + 1, by omega, by omega, by omega, by first | rfl | go_num, by go_num, ⟨_, .inl HG7.out, H7.out⟩, HB7⟩
              case measure => simp [intOf]; omega
          · have HT := HT0
            clear HT0 hm0 hm1
            by_cases hlast : c + 1 = N
            · have hcn : ((c : Int) + 1 == (N : Int)) = true := by simp; omega
              have H6 := H5
              have HB6 := HBI
              go_wp2_with fail
              refine (cuts_any H6.out HB6.out.size HCT.out ((0 : Nat) : Int) (by unfold I64; omega)).mono ?_
              rintro _ w7 ⟨rfl, h7, hb7⟩
              have HB7 := Lib.hid (HB6.out.trans hb7)
              have e7 := HL.out.cutL hlast
              rw [e7.2]
              have HG7 := Lib.hid e7.1
              have H7 := Lib.hid h7
              clear h7 hb7 e7
              go_wp2_with fail
              refine (has_dead H7.out true HG7.out.dead).mono ?_
              rintro _ _ ⟨rfl, rfl⟩
              go_wp2_with fail
              try go_roundw
              case rel => exact ⟨i + 1, c + 1, by omega, by omega, by omega, by first | rfl | go_num, by go_num, ⟨_, .inr HG7.out, H7.out⟩, HB7⟩
              case measure => simp [intOf]; omega
            · have hcn : ((c : Int) + 1 == (N : Int)) = false := by simp; omega
              have H6 := H5
              have HB6 := HBI
              go_wp2_with fail
              refine (cuts_any H6.out HB6.out.size HCT.out ((0 : Nat) : Int) (by unfold I64; omega)).mono ?_
              rintro _ w7 ⟨rfl, h7, hb7⟩
              have HB7 := Lib.hid (HB6.out.trans hb7)
              have e7 := HL.out.cut hlast
              rw [e7.2]
              have HG7 := Lib.hid e7.1
              have H7 := Lib.hid h7
              clear h7 hb7 e7
              go_wp2_with fail
              refine (has_dead H7.out false HG7.out.dead).mono ?_
              rintro _ _ ⟨rfl, rfl⟩
              go_wp2_with fail
              try go_roundw
              case rel => exact ⟨i + 1, c + 1, by omega, by omega, by omega, by first | rfl | go_num, by go_num, ⟨_, .inl HG7.out, H7.out⟩, HB7⟩
              case measure => simp [intOf]; omega
          · have HT := HT0
            clear HT0 hm0 hm1
            go_wp2_with fail
            refine (within_any z 6 wr (by omega) (by omega)).mono ?_
            rintro _ _ ⟨rfl, rfl⟩
            rw [HT.out]
            go_wp2_with (at_make; refine wpList_make_any _ rfl _ _ 22 rfl 5 i0 _ Try.underlying22 hi0 hz0 hz1 hz2 _ _ _ _ 70 70 rfl rfl (by omega) (by omega) (by omega) (by omega) ?_; intro w5 hg5 hs5 hb5)
            have hc5 := came_made 70 (by omega) hg5
            have HC6 := Lib.hid hc5
            have H6 := Lib.hid (H5.out.later hb5)
            have HB6 := Lib.hid (HBI.out.trans (hb5.mono HBI.out.size))
            clear hc5 hg5 hs5 hb5
            refine (append_any H6.out HB6.out.size HCT.out HC6.out).mono ?_
            rintro _ w7 ⟨rfl, h7, hb7⟩
            have HB7 := Lib.hid (HB6.out.trans hb7)
            have e7 := HL.out.full
            rw [e7.2]
            rw [e7.1] at h7
            have H7 := Lib.hid h7
            clear h7 hb7 e7
            go_wp2_with fail
            refine (has_dead H7.out false HL.out.dead).mono ?_
            rintro _ _ ⟨rfl, rfl⟩
            go_wp2_with fail
            try go_roundw
            case rel => exact ⟨i + 1, c, by omega, by omega, by omega, by first | rfl | go_num, by go_num, ⟨_, .inl HL.out, H7.out⟩, HB7⟩
            case measure => simp [intOf]; omega
          · have HT := HT0
            clear HT0 hm0 hm1
            go_wp2_with fail
            refine (within_any z 6 wr (by omega) (by omega)).mono ?_
            rintro _ _ ⟨rfl, rfl⟩
            rw [HT.out]
            have H6 := H5
            have HB6 := HBI
            go_wp2_with fail
            refine (cuts_any H6.out HB6.out.size HCT.out ((99 : Nat) : Int) (by unfold I64; omega)).mono ?_
            rintro _ w7 ⟨rfl, h7, hb7⟩
            have HB7 := Lib.hid (HB6.out.trans hb7)
            have e7 := HL.out.off
            rw [e7.2]
            rw [e7.1] at h7
            have H7 := Lib.hid h7
            clear h7 hb7 e7
            go_wp2_with fail
            refine (has_dead H7.out false HL.out.dead).mono ?_
            rintro _ _ ⟨rfl, rfl⟩
            go_wp2_with fail
            try go_roundw
            case rel => exact ⟨i + 1, c, by omega, by omega, by omega, by first | rfl | go_num, by go_num, ⟨_, .inl HL.out, H7.out⟩, HB7⟩
            case measure => simp [intOf]; omega
        · have HG := Lib.hid hG
          clear hG
          go_wp2_with fail
          refine (has_dead H5.out true HG.out.dead).mono ?_
          rintro _ _ ⟨rfl, rfl⟩
          go_wp2_with fail
          refine (within_any z 6 wr (by omega) (by omega)).mono ?_
          rintro _ _ ⟨rfl, rfl⟩
          rw [HT0.out]
          rcases (show T = 0 ∨ T = 1 ∨ T = 2 ∨ T = 3 ∨ T = 4 ∨ T = 5 by omega) with rfl | rfl | rfl | rfl | rfl | rfl
          · have HT := HT0
            clear HT0 hm0 hm1
            have H6 : Hid (Has w.heap.size g d (wr.alloc (.cells #[.int .u8 1] 5))) := H5.out.later ((Below.refl _ _).alloc (Nat.le_refl _) _)
            have HC6 : Hid (Came (wr.alloc (.cells #[.int .u8 1] 5)) (some ⟨wr.heap.size, 0, none⟩) 1 1 [1]) := came_new wr [1] 1 rfl (by omega) (by intro c hc; simp at hc; subst hc; exact ⟨by omega, by omega⟩) (0, 0)
            have HB6 : Hid (Below w.heap.size w (wr.alloc (.cells #[.int .u8 1] 5))) := HBI.out.alloc HBI.out.size _
            go_wp2_with fail
            refine (append_any H6.out HB6.out.size HCT.out HC6.out).mono ?_
            rintro _ w7 ⟨rfl, h7, hb7⟩
            have HB7 := Lib.hid (HB6.out.trans hb7)
            have hG := HG.out.dead
            have e7 := Dk.append_gone hG [1] 1
            rw [e7.2]
            rw [e7.1] at h7
            have H7 := Lib.hid h7
            clear h7 hb7 e7 hG
            go_wp2_with fail
            try go_roundw
            case rel => exact ⟨i + 1, c, by omega, by omega, by omega, by first | rfl | go_num, by go_num, ⟨_, .inr HG.out, H7.out⟩, HB7⟩
            case measure => simp [intOf]; omega
          · have HT := HT0
            clear HT0 hm0 hm1
            have H6 := H5
            have HB6 := HBI
            go_wp2_with fail
            refine (syncs_any H6.out HB6.out.size HCT.out).mono ?_
            rintro _ w7 ⟨rfl, h7, hb7⟩
            have HB7 := Lib.hid (HB6.out.trans hb7)
            have hG := HG.out.dead
            have e7 := Dk.syncs_gone hG
            rw [e7.2]
            rw [e7.1] at h7
            have H7 := Lib.hid h7
            clear h7 hb7 e7 hG
            go_wp2_with fail
            try go_roundw
            case rel => exact ⟨i + 1, c, by omega, by omega, by omega, by first | rfl | go_num, by go_num, ⟨_, .inr HG.out, H7.out⟩, HB7⟩
            case measure => simp [intOf]; omega
          · have HT := HT0
            clear HT0 hm0 hm1
            have H6 : Hid (Has w.heap.size g d (wr.alloc (.cells #[.int .u8 2, .int .u8 3] 5))) := H5.out.later ((Below.refl _ _).alloc (Nat.le_refl _) _)
            have HC6 : Hid (Came (wr.alloc (.cells #[.int .u8 2, .int .u8 3] 5)) (some ⟨wr.heap.size, 0, none⟩) 2 2 [2, 3]) := came_new wr [2, 3] 2 rfl (by omega) (by intro c hc; simp at hc; rcases hc with rfl | rfl <;> exact ⟨by omega, by omega⟩) (0, 0)
            have HB6 : Hid (Below w.heap.size w (wr.alloc (.cells #[.int .u8 2, .int .u8 3] 5))) := HBI.out.alloc HBI.out.size _
            go_wp2_with fail
            refine (swaps_any H6.out HB6.out.size HCT.out HC6.out).mono ?_
            rintro _ w7 ⟨rfl, h7, hb7⟩
            have HB7 := Lib.hid (HB6.out.trans hb7)
            have hG := HG.out.dead
            have e7 := Dk.swaps_gone hG [2, 3] 2
            rw [e7.2]
            rw [e7.1] at h7
            have H7 := Lib.hid h7
            clear h7 hb7 e7 hG
            go_wp2_with fail
            try go_roundw
            case rel => exact ⟨i + 1, c, by omega, by omega, by omega, by first | rfl | go_num, by go_num, ⟨_, .inr HG.out, H7.out⟩, HB7⟩
            case measure => simp [intOf]; omega
          · have HT := HT0
            clear HT0 hm0 hm1
            have H6 := H5
            have HB6 := HBI
            go_wp2_with fail
            refine (cuts_any H6.out HB6.out.size HCT.out ((0 : Nat) : Int) (by unfold I64; omega)).mono ?_
            rintro _ w7 ⟨rfl, h7, hb7⟩
            have HB7 := Lib.hid (HB6.out.trans hb7)
            have hG := HG.out.dead
            have e7 := Dk.cuts_gone hG ((0 : Nat) : Int)
            rw [e7.2]
            rw [e7.1] at h7
            have H7 := Lib.hid h7
            clear h7 hb7 e7 hG
            go_wp2_with fail
            try go_roundw
            case rel => exact ⟨i + 1, c, by omega, by omega, by omega, by first | rfl | go_num, by go_num, ⟨_, .inr HG.out, H7.out⟩, HB7⟩
            case measure => simp [intOf]; omega
          · have HT := HT0
            clear HT0 hm0 hm1
            go_wp2_with fail
            refine (within_any z 6 wr (by omega) (by omega)).mono ?_
            rintro _ _ ⟨rfl, rfl⟩
            rw [HT.out]
            go_wp2_with (at_make; refine wpList_make_any _ rfl _ _ 22 rfl 5 i0 _ Try.underlying22 hi0 hz0 hz1 hz2 _ _ _ _ 70 70 rfl rfl (by omega) (by omega) (by omega) (by omega) ?_; intro w5 hg5 hs5 hb5)
            have hc5 := came_made 70 (by omega) hg5
            have HC6 := Lib.hid hc5
            have H6 := Lib.hid (H5.out.later hb5)
            have HB6 := Lib.hid (HBI.out.trans (hb5.mono HBI.out.size))
            clear hc5 hg5 hs5 hb5
            refine (append_any H6.out HB6.out.size HCT.out HC6.out).mono ?_
            rintro _ w7 ⟨rfl, h7, hb7⟩
            have HB7 := Lib.hid (HB6.out.trans hb7)
            have hG := HG.out.dead
            have e7 := Dk.append_gone hG (List.replicate 70 0) 70
            rw [e7.2]
            rw [e7.1] at h7
            have H7 := Lib.hid h7
            clear h7 hb7 e7 hG
            go_wp2_with fail
            try go_roundw
            case rel => exact ⟨i + 1, c, by omega, by omega, by omega, by first | rfl | go_num, by go_num, ⟨_, .inr HG.out, H7.out⟩, HB7⟩
            case measure => simp [intOf]; omega
          · have HT := HT0
            clear HT0 hm0 hm1
            go_wp2_with fail
            refine (within_any z 6 wr (by omega) (by omega)).mono ?_
            rintro _ _ ⟨rfl, rfl⟩
            rw [HT.out]
            have H6 := H5
            have HB6 := HBI
            go_wp2_with fail
            refine (cuts_any H6.out HB6.out.size HCT.out ((99 : Nat) : Int) (by unfold I64; omega)).mono ?_
            rintro _ w7 ⟨rfl, h7, hb7⟩
            have HB7 := Lib.hid (HB6.out.trans hb7)
            have hG := HG.out.dead
            have e7 := Dk.cuts_gone hG ((99 : Nat) : Int)
            rw [e7.2]
            rw [e7.1] at h7
            have H7 := Lib.hid h7
            clear h7 hb7 e7 hG
            go_wp2_with fail
            try go_roundw
            case rel => exact ⟨i + 1, c, by omega, by omega, by omega, by first | rfl | go_num, by go_num, ⟨_, .inr HG.out, H7.out⟩, HB7⟩
            case measure => simp [intOf]; omega
      · obtain rfl : i = 30 := by omega
        obtain ⟨d, hS, hd⟩ := HD.out
        have H5 := Lib.hid hd
        clear hd hS HD
        go_wp2_with fail
        refine (crash_any H5.out 0 (by unfold I64; omega)).mono ?_
        rintro _ w7 ⟨rfl, h7, ho7⟩
        have H7 := Lib.hid h7
        have HB7 := Lib.hid (HBI.out.trans (ho7.below hgB HBI.out.size))
        clear h7 ho7
        go_wp2_with fail
        refine (has_dead H7.out false rfl).mono ?_
        rintro _ _ ⟨rfl, rfl⟩
        go_wp2_with fail
        refine (syncs_any H7.out HB7.out.size (by show 0 < 1000; omega)).mono ?_
        rintro _ w8 ⟨rfl, h8, hb8⟩
        rw [(Dk.syncs_free (d := d.crash 0) rfl (by show ((0 : Nat) : Int) + 1 ≠ 0; omega)).2]
        have HB8 := Lib.hid (HB7.out.trans hb8)
        clear h8 hb8
        go_wp2_with fail
        go_ret
        exact ⟨rfl, HB8.out⟩
    · obtain rfl : i = len1 := by omega
      obtain ⟨d, hS, hd⟩ := HD.out
      have H5 := Lib.hid hd
      clear hd hS HD
      go_wp2_with fail
      refine (crash_any H5.out 0 (by unfold I64; omega)).mono ?_
      rintro _ w7 ⟨rfl, h7, ho7⟩
      have H7 := Lib.hid h7
      have HB7 := Lib.hid (HBI.out.trans (ho7.below hgB HBI.out.size))
      clear h7 ho7
      go_wp2_with fail
      refine (has_dead H7.out false rfl).mono ?_
      rintro _ _ ⟨rfl, rfl⟩
      go_wp2_with fail
      refine (syncs_any H7.out HB7.out.size (by show 0 < 1000; omega)).mono ?_
      rintro _ w8 ⟨rfl, h8, hb8⟩
      rw [(Dk.syncs_free (d := d.crash 0) rfl (by show ((0 : Nat) : Int) + 1 ≠ 0; omega)).2]
      have HB8 := Lib.hid (HB7.out.trans hb8)
      clear h8 hb8
      go_wp2_with fail
      go_ret
      exact ⟨rfl, HB8.out⟩
end Go.Proofs.Ytibinilkhldfoaa
