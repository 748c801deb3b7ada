/- How a journal stands, whose power goes at one of its writes. -/
import Derived.Test.YtgggecpnmliolaaDoorKep
namespace Go.Proofs.YtgggecpnmliolaaDoor
open Go Go.RowKit Frm
set_option linter.unusedVariables false
set_option linter.unusedSimpArgs false

namespace Dk
theorem append_last {d : Dk} (hd : d.dead = false) (hs : (d.count : Int) + 1 = d.stop) (b : List Int) (n : Nat) (hn : b.length = n) (hr : d.log.length + d.snap.length + n ≤ d.room) :
    d.append b = { d with log := d.log ++ b, count := d.count + 1, dead := true } ∧ d.appendE n = 20 := by
  have hf : d.full n = false := by unfold full; rw [decide_eq_false (by omega)]; simp
  have h := run_last hd hs (add b) true
  unfold append appendE
  rw [hn, hf]
  simp only [Bool.false_eq_true, if_false]
  exact ⟨h.1, h.2⟩
theorem syncs_last {d : Dk} (hd : d.dead = false) (hs : (d.count : Int) + 1 = d.stop) : d.syncs = { d with count := d.count + 1, dead := true } ∧ d.runE = 20 := run_last hd hs sync false
end Dk

inductive Stat (T : Int) (s : List Int) (rs : List (List Int)) : Dk → ByteArray → Bool → Prop
  | alive (d : Dk) (mo : ByteArray) : d.dead = false → Kep 1048576 s rs d → d.stop = T → (d.count : Int) + 1 ≤ T → Stat T s rs d mo false
  | died (d e : Dk) (z : List Int) : d.dead = true → Kep 1048576 s rs e → d.log = e.log ++ frame z → d.syn = e.syn → d.snap = e.snap → z.length ≤ 200 → Stat T s rs d (strOfNums z) false
  | swapped (d : Dk) (z : List Int) : d.dead = true → Kep 1048576 z [] d → Stat T s rs d (strOfNums z) true
  | unswapped (d : Dk) (z : List Int) : d.dead = true → Kep 1048576 s rs d → Stat T s rs d (strOfNums z) true

section
variable {T : Int} {s z : List Int} {rs : List (List Int)} {d : Dk} {l : Nat} {mo : ByteArray} {sw : Bool}

theorem Stat.live (h : Stat T s rs d mo sw) (hd : d.dead = false) : sw = false ∧ Kep 1048576 s rs d ∧ d.stop = T ∧ (d.count : Int) + 1 ≤ T := by
  cases h with
  | alive _ h1 h2 h3 h4 => exact ⟨rfl, h2, h3, h4⟩
  | died _ _ h1 => rw [h1] at hd; cases hd
  | swapped _ h1 => rw [h1] at hd; cases hd
  | unswapped _ h1 => rw [h1] at hd; cases hd

theorem alive_add (hd : d.dead = false) (hk : Kep 1048576 s rs d) (hst : d.stop = T) (hc : (d.count : Int) + 1 ≤ T) (hz : z.length = l) (hl : l ≤ 200) (hzb : ∀ c ∈ z, Byte c) (hn : rs.length ≤ 100) (mo : ByteArray) :
    (d.addsE (frame z) (8 + l) = 0 ∧ Stat T s (rs ++ [z]) (d.adds (frame z) (8 + l)) mo false) ∨ (d.addsE (frame z) (8 + l) = 20 ∧ Stat T s rs (d.adds (frame z) (8 + l)) (strOfNums z) false) := by
  have hlen := hk.len
  have hfz : (frame z).length = 8 + l := by rw [frame_length, hz]
  have hfit : d.log.length + d.snap.length + (8 + l) ≤ d.room := by rw [hk.room]; omega
  by_cases h1 : (d.count : Int) + 1 = d.stop
  · right
    have e := Dk.append_last hd h1 (frame z) (8 + l) hfz hfit
    have hA : d.adds (frame z) (8 + l) = { d with log := d.log ++ frame z, count := d.count + 1, dead := true } := by
      unfold Dk.adds
      rw [e.2, if_neg (by omega)]
      exact e.1
    refine ⟨by unfold Dk.addsE; rw [e.2, if_neg (by omega)], ?_⟩
    rw [hA]
    exact .died _ d z rfl hk rfl rfl rfl (by omega)
  · by_cases h2 : (d.count : Int) + 2 = d.stop
    · right
      have e := Dk.append_free hd h1 (frame z) (8 + l) hfz hfit
      have e2 := Dk.syncs_last (d := { d with log := d.log ++ frame z, count := d.count + 1 }) hd (by show ((d.count + 1 : Nat) : Int) + 1 = d.stop; omega)
      have hA : d.adds (frame z) (8 + l) = { d with log := d.log ++ frame z, count := d.count + 1 + 1, dead := true } := by
        unfold Dk.adds
        rw [e.2, if_pos rfl, e.1]
        exact e2.1
      refine ⟨by unfold Dk.addsE; rw [e.2, if_pos rfl, e.1]; exact e2.2, ?_⟩
      rw [hA]
      exact .died _ d z rfl hk rfl rfl rfl (by omega)
    · left
      have e := hk.add_free hd h1 h2 hz hl hzb (by omega)
      refine ⟨e.1, ?_⟩
      rw [e.2.1]
      exact .alive _ _ hd e.2.2 hst (by show ((d.count + 2 : Nat) : Int) + 1 ≤ T; omega)

theorem alive_snap (hd : d.dead = false) (hk : Kep 1048576 s rs d) (hst : d.stop = T) (hc : (d.count : Int) + 1 ≤ T) (hz : z.length = l) (hl : l ≤ 200) (hzb : ∀ c ∈ z, Byte c) (mo : ByteArray) :
    (d.swapE (8 + l) = 0 ∧ Stat T z [] (d.swaps (frame z)) mo false) ∨ (d.swapE (8 + l) = 20 ∧ Stat T s rs (d.swaps (frame z)) (strOfNums z) true) := by
  by_cases h1 : (d.count : Int) + 1 = d.stop
  · right
    have e := Dk.swaps_last hd h1 (frame z) (8 + l) (by rw [frame_length, hz]) (by rw [hk.room]; omega)
    refine ⟨e.2, ?_⟩
    rw [e.1]
    split
    · exact .swapped _ z rfl ⟨hk.room, rfl, rfl, .inr rfl, by simp, by omega, hzb, by simp⟩
    · exact .unswapped _ z rfl ⟨hk.room, hk.log, hk.syn, hk.snap, hk.rows, hk.sn, hk.sb, hk.rb⟩
  · left
    have e := hk.snap_free hd h1 hz hl hzb (by omega)
    refine ⟨e.1, ?_⟩
    rw [e.2.1]
    exact .alive _ _ hd e.2.2 hst (by show ((d.count + 1 : Nat) : Int) + 1 ≤ T; omega)

/-- what is found when it is opened anew -/
inductive Fin (s : List Int) (rs : List (List Int)) (dead : Bool) (mo : ByteArray) (sw : Bool) : List Int → List (List Int) → Prop
  | same : Fin s rs dead mo sw s rs
  | more (z : List Int) : dead = true → sw = false → mo = strOfNums z → Fin s rs dead mo sw s (rs ++ [z])
  | swapped (z : List Int) : dead = true → sw = true → mo = strOfNums z → Fin s rs dead mo sw z []

theorem crash_log (d : Dk) (p : Int) (hs : d.syn ≤ d.log.length) : ∃ k, k ≤ d.log.length - d.syn ∧ (d.crash p).log = d.log.take (d.syn + k) ∧ (d.crash p).snap = d.snap := by
  refine ⟨d.stays p, ?_, rfl, rfl⟩
  have h0 : 0 ≤ p % ((d.log.length : Int) - (d.syn : Int) + 1) := Int.emod_nonneg _ (by omega)
  have h1 : p % ((d.log.length : Int) - (d.syn : Int) + 1) < (d.log.length : Int) - (d.syn : Int) + 1 := Int.emod_lt_of_pos _ (by omega)
  show (p % ((d.log.length : Int) - d.syn + 1)).toNat ≤ _
  omega

theorem kep_end (hk : Kep 1048576 s rs d) (p : Int) : snE (d.crash p).snap = 0 ∧ snR (d.crash p).snap = s ∧ scan (d.crash p).log = rs := by
  obtain ⟨k, hk1, hk2, hk3⟩ := crash_log d p (by rw [hk.syn]; exact Nat.le_refl _)
  rw [hk.syn] at hk1 hk2
  have e : k = 0 := by omega
  rw [hk2, hk3, e, Nat.add_zero, List.take_length]
  exact ⟨hk.says.1, hk.says.2, hk.scans⟩

theorem Stat.fin (h : Stat T s rs d mo sw) (p : Int) : ∃ sn rl, snE (Dk.crash p { d with stop := 0, count := 0 }).snap = 0 ∧ snR (Dk.crash p { d with stop := 0, count := 0 }).snap = sn ∧ scan (Dk.crash p { d with stop := 0, count := 0 }).log = rl ∧ Fin s rs d.dead mo sw sn rl ∧ ∀ c ∈ sn, Byte c := by
  cases h with
  | alive _ h1 h2 h3 h4 =>
    have hk : Kep 1048576 s rs { d with stop := 0, count := 0 } := ⟨h2.room, h2.log, h2.syn, h2.snap, h2.rows, h2.sn, h2.sb, h2.rb⟩
    have e := kep_end hk p
    exact ⟨s, rs, e.1, e.2.1, e.2.2, .same, h2.sb⟩
  | swapped z h1 h2 =>
    have hk : Kep 1048576 z [] { d with stop := 0, count := 0 } := ⟨h2.room, h2.log, h2.syn, h2.snap, h2.rows, h2.sn, h2.sb, h2.rb⟩
    have e := kep_end hk p
    exact ⟨z, [], e.1, e.2.1, e.2.2, .swapped z h1 rfl rfl, h2.sb⟩
  | unswapped z h1 h2 =>
    have hk : Kep 1048576 s rs { d with stop := 0, count := 0 } := ⟨h2.room, h2.log, h2.syn, h2.snap, h2.rows, h2.sn, h2.sb, h2.rb⟩
    have e := kep_end hk p
    exact ⟨s, rs, e.1, e.2.1, e.2.2, .same, h2.sb⟩
  | died e z h1 h2 hlog hsyn hsnap hz =>
    have hel : e.syn = (frames rs).length := by rw [h2.syn, h2.log]
    have hfz := frame_length z
    have hdl : d.log.length = (frames rs).length + (8 + z.length) := by rw [hlog, List.length_append, h2.log, hfz]
    obtain ⟨k, hk1, hk2, hk3⟩ := crash_log { d with stop := 0, count := 0 } p (by show d.syn ≤ d.log.length; rw [hsyn, hel, hdl]; omega)
    have hk1 : k ≤ d.log.length - d.syn := hk1
    have hk2 : (Dk.crash p { d with stop := 0, count := 0 }).log = d.log.take (d.syn + k) := hk2
    have hk3 : (Dk.crash p { d with stop := 0, count := 0 }).snap = d.snap := hk3
    have hkl : k ≤ 8 + z.length := by rw [hsyn, hel, hdl] at hk1; omega
    have hlog2 : d.log.take (d.syn + k) = frames rs ++ (frame z).take k := by
      rw [hlog, h2.log, hsyn, hel, List.take_append, List.take_of_length_le (by omega), Nat.add_sub_cancel_left]
    have hsay := snap_says h2.snap h2.sn
    rw [← hsnap] at hsay
    rw [hk3]
    by_cases hkk : k < 8 + z.length
    · refine ⟨s, rs, hsay.1, hsay.2, ?_, .same, h2.sb⟩
      rw [hk2, hlog2, scan_frames h2.small, scan_none (front_none (by omega) hkk), List.append_nil]
    · refine ⟨s, rs ++ [z], hsay.1, hsay.2, ?_, .more z h1 rfl rfl, h2.sb⟩
      have h3 := scan_frame (b := z) (by omega) []
      rw [List.append_nil, scan_nil] at h3
      rw [hk2, hlog2, List.take_of_length_le (by omega), scan_frames h2.small, h3]
end
end Go.Proofs.YtgggecpnmliolaaDoor
