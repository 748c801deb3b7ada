/- DiskRoom: the walk. -/
import Derived.Test.YtibinilkhldfoaaLaw4
namespace Go.Proofs.Ytibinilkhldfoaa
open Go Go.RowKit
set_option linter.unusedVariables false
set_option linter.unusedSimpArgs false

/-- how much stands on a disk whose power stays -/
structure Roomy (R L S i : Nat) (d : Dk) : Prop where
  log : d.log.length = L
  snap : d.snap.length = S
  dead : d.dead = false
  stop : d.stop = 0
  count : d.count ≤ i
  room : d.room = R
  fit : L + S ≤ R

section
variable {R L S i k : Nat} {d : Dk}

theorem Roomy.more (h : Roomy R L S i d) : Roomy R L S (i + 1) d := ⟨h.log, h.snap, h.dead, h.stop, Nat.le_succ_of_le h.count, h.room, h.fit⟩
theorem Roomy.live (h : Roomy R L S i d) : (d.count : Int) + 1 ≠ d.stop := by rw [h.stop]; omega

theorem Roomy.add (h : Roomy R L S i d) (hk : L + S + k ≤ R) : Roomy R (L + k) S (i + 1) (d.append (List.replicate k 0)) ∧ d.appendE k = 0 := by
  have hc := h.count
  have e := Dk.append_free h.dead h.live (List.replicate k 0) k List.length_replicate (by rw [h.log, h.snap, h.room]; exact hk)
  refine ⟨?_, e.2⟩
  rw [e.1]
  exact ⟨by show (d.log ++ List.replicate k 0).length = _; rw [List.length_append, h.log, List.length_replicate], h.snap, h.dead, h.stop, by show d.count + 1 ≤ _; omega, h.room, by omega⟩
theorem Roomy.full (h : Roomy R L S i d) (hk : R < L + S + k) : d.append (List.replicate k 0) = d ∧ d.appendE k = 19 := Dk.append_full h.dead _ k List.length_replicate (by rw [h.log, h.snap, h.room]; exact hk)

theorem Roomy.swap (h : Roomy R L S i d) (hk : k ≤ R) : Roomy R 0 k (i + 1) (d.swaps (List.replicate k 0)) ∧ d.swapE k = 0 := by
  have hc := h.count
  have e := Dk.swaps_free h.dead h.live (List.replicate k 0) k List.length_replicate (by rw [h.room]; exact hk)
  refine ⟨?_, e.2⟩
  rw [e.1]
  exact ⟨rfl, List.length_replicate, h.dead, h.stop, by show d.count + 1 ≤ _; omega, h.room, by omega⟩
theorem Roomy.wide (h : Roomy R L S i d) (hk : R < k) : d.swaps (List.replicate k 0) = d ∧ d.swapE k = 19 := Dk.swaps_wide h.dead _ k List.length_replicate (by rw [h.room]; exact hk)

theorem Roomy.cut (h : Roomy R L S i d) (hk : k ≤ L) : Roomy R k S (i + 1) (d.cuts (k : Int)) ∧ d.cutE (k : Int) = 0 := by
  have hc := h.count
  have hf := h.fit
  have e := Dk.cuts_free h.dead h.live k (by rw [h.log]; exact hk)
  refine ⟨?_, e.2⟩
  rw [e.1]
  exact ⟨by show (d.log.take k).length = _; rw [List.length_take, h.log]; omega, h.snap, h.dead, h.stop, by show d.count + 1 ≤ _; omega, h.room, by omega⟩
theorem Roomy.off (h : Roomy R L S i d) (hk : L < k) : d.cuts (k : Int) = d ∧ d.cutE (k : Int) = 1 := Dk.cuts_off h.dead k (by rw [h.log]; exact hk)
end

set_option maxRecDepth 100000 in
set_option maxHeartbeats 8000000 in
theorem lroom_any (room : Int) (a1 : Option Addr) (len1 cap1 : Nat) (ns : List Int) (w : World) (hr : I64 room) (hn : Nums w a1 len1 cap1 ns) :
    Calls Try.prog 6 #[.int .i64 room, .slice a1 len1 cap1] w fun e w' => e = .returned (.bool true) ∧ Below w.heap.size w w' := by
  obtain ⟨i0, hi0, hz0, hz1, hz2⟩ := info_parts Try.infoByte
  have hbig1 : len1 ≤ 9223372036854775807 := by have h1 := hn.le; have h2 := hn.small; unfold maxLen at h2; omega
  have HN := Lib.hid hn
  clear hn hr
  go_enter Try.func6, Try.ntmps6
  go_wp2_with fail
  refine (known_any w).mono ?_
  rintro _ w1 ⟨rfl, hb1⟩
  have HB1 := Lib.hid hb1
  clear hb1
  go_wp2_with fail
  refine (within_any room 200 w1 (by omega) (by omega)).mono ?_
  rintro _ _ ⟨rfl, rfl⟩
  have hm0 : 0 ≤ room % 200 := Int.emod_nonneg _ (by omega)
  have hm1 : room % 200 < 200 := Int.emod_lt_of_pos _ (by omega)
  obtain ⟨R, hR⟩ : ∃ R : Nat, 1 + room % 200 = (R : Int) := ⟨(1 + room % 200).toNat, by omega⟩
  have hR1 : 1 ≤ R := by omega
  have hR2 : R ≤ 200 := by omega
  go_wp2_with fail
  have HRR := Lib.hid hR
  clear hm0 hm1 hR
  refine (new_any w1 w.heap.size HB1.out.size R (by omega) (by omega)).mono ?_
  rintro _ w2 ⟨g, rfl, h2, hg, hb2⟩
  have HB2 := Lib.hid (HB1.out.trans (hb2.mono HB1.out.size))
  have H2 : Hid (∃ d, Roomy R 0 0 0 d ∧ Has w.heap.size g d w2) := ⟨_, ⟨rfl, rfl, rfl, rfl, Nat.le_refl _, rfl, by omega⟩, h2⟩
  clear h2 hb2
  have hgB : w.heap.size ≤ g := Nat.le_trans HB1.out.size hg
  go_wp2_with fail
  go_loopw [7, 8, 9] (fun vl vs v X => ∃ i L S : Nat, i ≤ len1 ∧ i ≤ 30 ∧ L + S ≤ R ∧ vl = .int .i64 (L : Int) ∧ vs = .int .i64 (S : Int) ∧ v = .int .i64 (i : Int) ∧ Hid (∃ d, Roomy R L S i d ∧ Has w.heap.size g d X) ∧ Hid (Below w.heap.size w X)) (fun _ _ v _ => ((len1 : Int) - intOf v).toNat)
  case atStart => exact ⟨0, 0, 0, by omega, by omega, by omega, rfl, rfl, rfl, H2, HB2⟩
  case round =>
    obtain ⟨i, L, S, hi, hi30, hLS, rfl, rfl, rfl, HD, HBI⟩ := hrel
    clear H2 HB2
    by_cases hlt : i < len1
    · by_cases hl30 : i < 30
      · obtain ⟨d, hS, hd⟩ := HD.out
        obtain ⟨ad, rfl, hcell⟩ := (HN.out.below HBI.out).cell i hlt
        have hz64 := HN.out.at i hlt
        obtain ⟨z, hz⟩ : ∃ z, z = ns.getD i 0 := ⟨_, rfl⟩
        rw [← hz] at hcell hz64
        have hzl := hz64.1
        have hzu := hz64.2
        have H5 := Lib.hid hd
        have HS5 := Lib.hid hS
        clear hd hS hz HD hz64
        go_wp2_with fail
        refine (within_any _ 60 wr (by omega) (by omega)).mono ?_
        rintro _ _ ⟨rfl, rfl⟩
        obtain ⟨q, hq⟩ : ∃ q, q = z.tdiv 3 := ⟨_, rfl⟩
        rw [← hq]
        have hm0 : 0 ≤ q % 60 := Int.emod_nonneg _ (by omega)
        have hm1 : q % 60 < 60 := Int.emod_lt_of_pos _ (by omega)
        obtain ⟨k, hk⟩ : ∃ k : Nat, q % 60 = (k : Int) := ⟨(q % 60).toNat, by omega⟩
        rw [hk]
        have hk60 : k < 60 := by omega
        clear hk hm0 hm1 hq
        go_wp2_with fail
        refine (within_any z 3 wr (by omega) (by omega)).mono ?_
        rintro _ _ ⟨rfl, rfl⟩
        have hm0 : 0 ≤ z % 3 := Int.emod_nonneg _ (by omega)
        have hm1 : z % 3 < 3 := Int.emod_lt_of_pos _ (by omega)
        obtain ⟨T, hT⟩ : ∃ T, T = z % 3 := ⟨_, rfl⟩
        rw [← hT] at hm0 hm1 ⊢
        clear hT hcell
        rcases (show T = 0 ∨ T = 1 ∨ T = 2 by omega) with rfl | rfl | rfl
        · clear hm0 hm1
          by_cases hfit : L + S + k ≤ R
          · have hno : ¬ (R : Int) < (L : Int) + (S : Int) + (k : Int) := by omega
            go_wp2_with (at_make; refine wpList_make_any _ rfl _ _ 22 rfl 5 i0 _ Try.underlying22 hi0 hz0 hz1 hz2 _ _ _ _ k k rfl rfl (by omega) (by omega) (by omega) (by omega) ?_; intro w5 hg5 hs5 hb5)
            have hc5 := came_made k (by omega) hg5
            have HC5 := Lib.hid hc5
            have H6 := Lib.hid (H5.out.later hb5)
            have HB6 := Lib.hid (HBI.out.trans (hb5.mono HBI.out.size))
            clear hc5 hg5 hs5 hb5
            refine (append_any H6.out HB6.out.size (by have := HS5.out.count; omega) HC5.out).mono ?_
            rintro _ w7 ⟨rfl, h7, hb7⟩
            have e7 := HS5.out.add hfit
            rw [e7.2]
            have HB7 := Lib.hid (HB6.out.trans hb7)
            obtain ⟨d7, hd7⟩ : ∃ d7, d7 = d.append (List.replicate k 0) := ⟨_, rfl⟩
            rw [← hd7] at h7 e7
            have H7 := Lib.hid h7
            have HS7 := Lib.hid e7.1
            clear h7 e7 hb7 hd7
            go_wp2_with fail
            refine (logs_len H7.out d7.log (L + k) rfl HS7.out.log).mono ?_
            rintro _ w8 ⟨ax, cx, rfl, hc8, hb8⟩
            have H8 := Lib.hid (H7.out.later hb8)
            have HB8 := Lib.hid (HB7.out.trans (hb8.mono HB7.out.size))
            clear hc8 hb8
            go_wp2_with fail
            refine (snaps_len H8.out d7.snap S rfl HS7.out.snap).mono ?_
            rintro _ w9 ⟨ay, cy, rfl, hc9, hb9⟩
            have H9 := Lib.hid (H8.out.later hb9)
            have HB9 := Lib.hid (HB8.out.trans (hb9.mono HB8.out.size))
            clear hc9 hb9
            go_wp2_with fail
            try go_roundw
            case rel => exact ⟨i + 1, (L + k), S, by omega, by omega, by omega, by first | rfl | go_num, by first | rfl | go_num, by go_num, ⟨d7, HS7.out, H9.out⟩, HB9⟩
            case measure => simp [intOf]; omega
          · have hno : (R : Int) < (L : Int) + (S : Int) + (k : Int) := by omega
            replace hfit : R < L + S + k := by omega
            go_wp2_with (at_make; refine wpList_make_any _ rfl _ _ 22 rfl 5 i0 _ Try.underlying22 hi0 hz0 hz1 hz2 _ _ _ _ k k rfl rfl (by omega) (by omega) (by omega) (by omega) ?_; intro w5 hg5 hs5 hb5)
            have hc5 := came_made k (by omega) hg5
            have HC5 := Lib.hid hc5
            have H6 := Lib.hid (H5.out.later hb5)
            have HB6 := Lib.hid (HBI.out.trans (hb5.mono HBI.out.size))
            clear hc5 hg5 hs5 hb5
            refine (append_any H6.out HB6.out.size (by have := HS5.out.count; omega) HC5.out).mono ?_
            rintro _ w7 ⟨rfl, h7, hb7⟩
            have e7 := HS5.out.full hfit
            rw [e7.2]
            have HB7 := Lib.hid (HB6.out.trans hb7)
            rw [e7.1] at h7
            have H7 := Lib.hid h7
            have HS7 := Lib.hid HS5.out.more
            obtain ⟨d7, hd7⟩ : ∃ d7, d7 = d := ⟨_, rfl⟩
            rw [← hd7] at H7 HS7
            clear h7 e7 hb7 hd7
            go_wp2_with fail
            refine (logs_len H7.out d7.log L rfl HS7.out.log).mono ?_
            rintro _ w8 ⟨ax, cx, rfl, hc8, hb8⟩
            have H8 := Lib.hid (H7.out.later hb8)
            have HB8 := Lib.hid (HB7.out.trans (hb8.mono HB7.out.size))
            clear hc8 hb8
            go_wp2_with fail
            refine (snaps_len H8.out d7.snap S rfl HS7.out.snap).mono ?_
            rintro _ w9 ⟨ay, cy, rfl, hc9, hb9⟩
            have H9 := Lib.hid (H8.out.later hb9)
            have HB9 := Lib.hid (HB8.out.trans (hb9.mono HB8.out.size))
            clear hc9 hb9
            go_wp2_with fail
            try go_roundw
            case rel => exact ⟨i + 1, L, S, by omega, by omega, by omega, by first | rfl | go_num, by first | rfl | go_num, by go_num, ⟨d7, HS7.out, H9.out⟩, HB9⟩
            case measure => simp [intOf]; omega
        · clear hm0 hm1
          by_cases hfit : k ≤ R
          · have hno : ¬ R < k := by omega
            go_wp2_with (at_make; refine wpList_make_any _ rfl _ _ 22 rfl 5 i0 _ Try.underlying22 hi0 hz0 hz1 hz2 _ _ _ _ k k rfl rfl (by omega) (by omega) (by omega) (by omega) ?_; intro w5 hg5 hs5 hb5)
            have hc5 := came_made k (by omega) hg5
            have HC5 := Lib.hid hc5
            have H6 := Lib.hid (H5.out.later hb5)
            have HB6 := Lib.hid (HBI.out.trans (hb5.mono HBI.out.size))
            clear hc5 hg5 hs5 hb5
            refine (swaps_any H6.out HB6.out.size (by have := HS5.out.count; omega) HC5.out).mono ?_
            rintro _ w7 ⟨rfl, h7, hb7⟩
            have e7 := HS5.out.swap hfit
            rw [e7.2]
            have HB7 := Lib.hid (HB6.out.trans hb7)
            obtain ⟨d7, hd7⟩ : ∃ d7, d7 = d.swaps (List.replicate k 0) := ⟨_, rfl⟩
            rw [← hd7] at h7 e7
            have H7 := Lib.hid h7
            have HS7 := Lib.hid e7.1
            clear h7 e7 hb7 hd7
            go_wp2_with fail
            refine (logs_len H7.out d7.log 0 rfl HS7.out.log).mono ?_
            rintro _ w8 ⟨ax, cx, rfl, hc8, hb8⟩
            have H8 := Lib.hid (H7.out.later hb8)
            have HB8 := Lib.hid (HB7.out.trans (hb8.mono HB7.out.size))
            clear hc8 hb8
            go_wp2_with fail
            refine (snaps_len H8.out d7.snap k rfl HS7.out.snap).mono ?_
            rintro _ w9 ⟨ay, cy, rfl, hc9, hb9⟩
            have H9 := Lib.hid (H8.out.later hb9)
            have HB9 := Lib.hid (HB8.out.trans (hb9.mono HB8.out.size))
            clear hc9 hb9
            go_wp2_with fail
            try go_roundw
            case rel => exact ⟨i + 1, 0, k, by omega, by omega, by omega, by first | rfl | go_num, by first | rfl | go_num, by go_num, ⟨d7, HS7.out, H9.out⟩, HB9⟩
            case measure => simp [intOf]; omega
          · replace hfit : R < k := by omega
            go_wp2_with (at_make; refine wpList_make_any _ rfl _ _ 22 rfl 5 i0 _ Try.underlying22 hi0 hz0 hz1 hz2 _ _ _ _ k k rfl rfl (by omega) (by omega) (by omega) (by omega) ?_; intro w5 hg5 hs5 hb5)
            have hc5 := came_made k (by omega) hg5
            have HC5 := Lib.hid hc5
            have H6 := Lib.hid (H5.out.later hb5)
            have HB6 := Lib.hid (HBI.out.trans (hb5.mono HBI.out.size))
            clear hc5 hg5 hs5 hb5
            refine (swaps_any H6.out HB6.out.size (by have := HS5.out.count; omega) HC5.out).mono ?_
            rintro _ w7 ⟨rfl, h7, hb7⟩
            have e7 := HS5.out.wide hfit
            rw [e7.2]
            have HB7 := Lib.hid (HB6.out.trans hb7)
            rw [e7.1] at h7
            have H7 := Lib.hid h7
            have HS7 := Lib.hid HS5.out.more
            obtain ⟨d7, hd7⟩ : ∃ d7, d7 = d := ⟨_, rfl⟩
            rw [← hd7] at H7 HS7
            clear h7 e7 hb7 hd7
            go_wp2_with fail
            refine (logs_len H7.out d7.log L rfl HS7.out.log).mono ?_
            rintro _ w8 ⟨ax, cx, rfl, hc8, hb8⟩
            have H8 := Lib.hid (H7.out.later hb8)
            have HB8 := Lib.hid (HB7.out.trans (hb8.mono HB7.out.size))
            clear hc8 hb8
            go_wp2_with fail
            refine (snaps_len H8.out d7.snap S rfl HS7.out.snap).mono ?_
            rintro _ w9 ⟨ay, cy, rfl, hc9, hb9⟩
            have H9 := Lib.hid (H8.out.later hb9)
            have HB9 := Lib.hid (HB8.out.trans (hb9.mono HB8.out.size))
            clear hc9 hb9
            go_wp2_with fail
            try go_roundw
            case rel => exact ⟨i + 1, L, S, by omega, by omega, by omega, by first | rfl | go_num, by first | rfl | go_num, by go_num, ⟨d7, HS7.out, H9.out⟩, HB9⟩
            case measure => simp [intOf]; omega
        · clear hm0 hm1
          by_cases hfit : k ≤ L
          · have hno : ¬ L < k := by omega
            have H6 := H5
            have HB6 := HBI
            go_wp2_with fail
            refine (cuts_any H6.out HB6.out.size (by have := HS5.out.count; omega) (k : Int) (by unfold I64; omega)).mono ?_
            rintro _ w7 ⟨rfl, h7, hb7⟩
            have e7 := HS5.out.cut hfit
            rw [e7.2]
            have HB7 := Lib.hid (HB6.out.trans hb7)
            obtain ⟨d7, hd7⟩ : ∃ d7, d7 = d.cuts (k : Int) := ⟨_, rfl⟩
            rw [← hd7] at h7 e7
            have H7 := Lib.hid h7
            have HS7 := Lib.hid e7.1
            clear h7 e7 hb7 hd7
            go_wp2_with fail
            refine (logs_len H7.out d7.log k rfl HS7.out.log).mono ?_
            rintro _ w8 ⟨ax, cx, rfl, hc8, hb8⟩
            have H8 := Lib.hid (H7.out.later hb8)
            have HB8 := Lib.hid (HB7.out.trans (hb8.mono HB7.out.size))
            clear hc8 hb8
            go_wp2_with fail
            refine (snaps_len H8.out d7.snap S rfl HS7.out.snap).mono ?_
            rintro _ w9 ⟨ay, cy, rfl, hc9, hb9⟩
            have H9 := Lib.hid (H8.out.later hb9)
            have HB9 := Lib.hid (HB8.out.trans (hb9.mono HB8.out.size))
            clear hc9 hb9
            go_wp2_with fail
            try go_roundw
            case rel => exact ⟨i + 1, k, S, by omega, by omega, by omega, by first | rfl | go_num, by first | rfl | go_num, by go_num, ⟨d7, HS7.out, H9.out⟩, HB9⟩
            case measure => simp [intOf]; omega
          · replace hfit : L < k := by omega
            have H6 := H5
            have HB6 := HBI
            go_wp2_with fail
            refine (cuts_any H6.out HB6.out.size (by have := HS5.out.count; omega) (k : Int) (by unfold I64; omega)).mono ?_
            rintro _ w7 ⟨rfl, h7, hb7⟩
            have e7 := HS5.out.off hfit
            rw [e7.2]
            have HB7 := Lib.hid (HB6.out.trans hb7)
            rw [e7.1] at h7
            have H7 := Lib.hid h7
            have HS7 := Lib.hid HS5.out.more
            obtain ⟨d7, hd7⟩ : ∃ d7, d7 = d := ⟨_, rfl⟩
            rw [← hd7] at H7 HS7
            clear h7 e7 hb7 hd7
            go_wp2_with fail
            refine (logs_len H7.out d7.log L rfl HS7.out.log).mono ?_
            rintro _ w8 ⟨ax, cx, rfl, hc8, hb8⟩
            have H8 := Lib.hid (H7.out.later hb8)
            have HB8 := Lib.hid (HB7.out.trans (hb8.mono HB7.out.size))
            clear hc8 hb8
            go_wp2_with fail
            refine (snaps_len H8.out d7.snap S rfl HS7.out.snap).mono ?_
            rintro _ w9 ⟨ay, cy, rfl, hc9, hb9⟩
            have H9 := Lib.hid (H8.out.later hb9)
            have HB9 := Lib.hid (HB8.out.trans (hb9.mono HB8.out.size))
            clear hc9 hb9
            go_wp2_with fail
            try go_roundw
            case rel => exact ⟨i + 1, L, S, by omega, by omega, by omega, by first | rfl | go_num, by first | rfl | go_num, by go_num, ⟨d7, HS7.out, H9.out⟩, HB9⟩
            case measure => simp [intOf]; omega
      · obtain rfl : i = 30 := by omega
        go_wp2_with fail
        go_ret
        exact ⟨rfl, HBI.out⟩
    · obtain rfl : i = len1 := by omega
      go_wp2_with fail
      go_ret
      exact ⟨rfl, HBI.out⟩
end Go.Proofs.Ytibinilkhldfoaa
