/- What a journal has kept: a snapshot, and records behind it. -/
import Derived.Test.YtgggecpnmliolaaDoorLaw5
namespace Go.Proofs.YtgggecpnmliolaaDoor
open Go Go.RowKit Frm
set_option linter.unusedVariables false
set_option linter.unusedSimpArgs false

theorem bulk_rows {rs : List (List Int)} (h : ∀ r ∈ rs, r.length ≤ 200) : bulk rs ≤ 208 * rs.length := by
  induction rs with
  | nil => exact Nat.zero_le _
  | cons r rs ih =>
    simp only [bulk, List.length_cons]
    have h1 := h r (by simp)
    have h2 := ih (fun q hq => h q (by simp [hq]))
    omega

theorem take_next {zss : List (List Int)} {i : Nat} (hi : i < zss.length) : zss.take (i + 1) = zss.take i ++ [zss.getD i []] := by
  have h : zss[i]? = some (zss.getD i []) := by simp [List.getD, hi]
  rw [List.take_add_one, h]
  rfl

theorem mat_bytes {w : World} {a : Option Addr} {n c : Nat} {zss : List (List Int)} (h : Mat w a n c zss) : ∀ r ∈ zss, ∀ c ∈ r, Byte c := by
  intro r hr
  obtain ⟨j, hj, rfl⟩ := List.getElem_of_mem hr
  obtain ⟨_, _, _, _, _, _, hc⟩ := h.row j (by rw [← h.sz]; exact hj)
  have e : zss.getD j [] = zss[j] := by simp [List.getD, hj]
  rw [← e]
  exact hc.bytes

structure Kep (R : Nat) (s : List Int) (rs : List (List Int)) (d : Dk) : Prop where
  room : d.room = R
  log : d.log = frames rs
  syn : d.syn = d.log.length
  snap : (d.snap = [] ∧ s = []) ∨ d.snap = frame s
  rows : ∀ r ∈ rs, r.length ≤ 200
  sn : s.length ≤ 200
  sb : ∀ c ∈ s, Byte c
  rb : ∀ r ∈ rs, ∀ c ∈ r, Byte c

section
variable {R : Nat} {s z : List Int} {rs : List (List Int)} {d : Dk} {l : Nat}

theorem Kep.new (R : Nat) : Kep R [] [] (Dk.new R) := ⟨rfl, rfl, rfl, .inl ⟨rfl, rfl⟩, by simp, by simp, by simp, by simp⟩
theorem Kep.small (h : Kep R s rs d) : ∀ r ∈ rs, r.length ≤ 4194304 := fun r hr => Nat.le_trans (h.rows r hr) (by omega)
theorem Kep.len (h : Kep R s rs d) : d.log.length ≤ 208 * rs.length ∧ d.snap.length ≤ 208 := by
  rw [h.log, frames_length]
  refine ⟨bulk_rows h.rows, ?_⟩
  rcases h.snap with ⟨h1, _⟩ | h1
  · rw [h1]; simp
  · rw [h1, frame_length]; have := h.sn; omega

theorem scan_logs {a : List (List Int)} (h : ∀ r ∈ a, r.length ≤ 4194304) : scan (frames a) = a := by
  have h1 := scan_frames h []
  rwa [List.append_nil, scan_nil, List.append_nil] at h1

theorem snap_says (h : (d.snap = [] ∧ s = []) ∨ d.snap = frame s) (hs : s.length ≤ 200) : snE d.snap = 0 ∧ snR d.snap = s := by
  rcases h with ⟨h1, rfl⟩ | h1
  · rw [h1]; exact ⟨rfl, rfl⟩
  · rw [h1]
    have hl := frame_length s
    have ho := one_frame (b := s) (by omega)
    unfold snE snR
    have hne : ¬ (frame s).length = 0 := by omega
    rw [if_neg hne, if_neg hne, ho.1]
    exact ⟨rfl, ho.2⟩

theorem Kep.says (h : Kep R s rs d) : snE d.snap = 0 ∧ snR d.snap = s := snap_says h.snap h.sn
theorem Kep.scans (h : Kep R s rs d) : scan d.log = rs := by rw [h.log]; exact scan_logs h.small
theorem Kep.opened (h : Kep R s rs d) : d.opened = d := by
  unfold Dk.opened
  rw [h.scans, h.log, frames_length, if_neg (by omega)]

/-- something that is no record stands behind the records: it is cut off when the disk is opened -/
theorem Kep.torn (h : Kep R s rs d) {y : List Int} (hy : scan y = []) (d2 : Dk) (hlog : d2.log = d.log ++ y) (hsnap : d2.snap = d.snap) (hroom : d2.room = d.room) (hsyn : d2.syn = d.syn) (hd : d2.dead = false) (hs : (d2.count : Int) + 1 ≠ d2.stop) :
    scan d2.log = rs ∧ Kep R s rs d2.opened ∧ d2.opened.dead = false ∧ d2.opened.stop = d2.stop ∧ d2.opened.count ≤ d2.count + 1 := by
  have h1 : scan d2.log = rs := by rw [hlog, h.log, scan_frames h.small, hy, List.append_nil]
  have hb : (frames rs).length = bulk rs := frames_length rs
  refine ⟨h1, ?_⟩
  unfold Dk.opened
  rw [h1]
  have hl : d2.log.length = bulk rs + y.length := by rw [hlog, List.length_append, h.log, hb]
  by_cases h0 : bulk rs < d2.log.length
  · have e := Dk.cuts_free hd hs (bulk rs) (Nat.le_of_lt h0)
    have ht : d2.log.take (bulk rs) = frames rs := by rw [hlog, h.log, ← hb, List.take_left]
    rw [if_pos h0, e.1]
    refine ⟨⟨by show d2.room = R; rw [hroom]; exact h.room, ht, ?_, by show (d2.snap = [] ∧ s = []) ∨ d2.snap = frame s; rw [hsnap]; exact h.snap, h.rows, h.sn, h.sb, h.rb⟩, hd, rfl, Nat.le_refl _⟩
    show bulk rs = (d2.log.take (bulk rs)).length
    rw [ht, hb]
  · have hy0 : y = [] := List.eq_nil_of_length_eq_zero (by omega)
    rw [if_neg h0]
    refine ⟨⟨by rw [hroom]; exact h.room, by rw [hlog, hy0, List.append_nil]; exact h.log, ?_, by rw [hsnap]; exact h.snap, h.rows, h.sn, h.sb, h.rb⟩, hd, rfl, Nat.le_succ _⟩
    rw [hsyn, h.syn, hlog, hy0, List.append_nil]

/-- a snapshot is laid, where the power stays -/
theorem Kep.snap_free (h : Kep R s rs d) (hd : d.dead = false) (hs : (d.count : Int) + 1 ≠ d.stop) (hz : z.length = l) (hl : l ≤ 200) (hzb : ∀ c ∈ z, Byte c) (hR : 208 ≤ R) :
    d.swapE (8 + l) = 0 ∧ d.swaps (frame z) = { d with log := [], syn := 0, snap := frame z, count := d.count + 1 } ∧ Kep R z [] { d with log := [], syn := 0, snap := frame z, count := d.count + 1 } := by
  have e := Dk.swaps_free hd hs (frame z) (8 + l) (by rw [frame_length, hz]) (by rw [h.room]; omega)
  exact ⟨e.2, e.1, h.room, rfl, rfl, .inr rfl, by simp, by omega, hzb, by simp⟩

/-- a record is added, where the power stays -/
theorem Kep.add_free (h : Kep R s rs d) (hd : d.dead = false) (hs : (d.count : Int) + 1 ≠ d.stop) (hs2 : (d.count : Int) + 2 ≠ d.stop) (hz : z.length = l) (hl : l ≤ 200) (hzb : ∀ c ∈ z, Byte c) (hR : 208 * rs.length + 416 ≤ R) :
    d.addsE (frame z) (8 + l) = 0 ∧ d.adds (frame z) (8 + l) = { d with log := d.log ++ frame z, syn := (d.log ++ frame z).length, count := d.count + 2 } ∧ Kep R s (rs ++ [z]) { d with log := d.log ++ frame z, syn := (d.log ++ frame z).length, count := d.count + 2 } := by
  have hlen := h.len
  have e := Dk.append_free hd hs (frame z) (8 + l) (by rw [frame_length, hz]) (by rw [h.room]; omega)
  have e2 := Dk.syncs_free (d := { d with log := d.log ++ frame z, count := d.count + 1 }) hd (by show ((d.count + 1 : Nat) : Int) + 1 ≠ d.stop; omega)
  have h1 : d.addsE (frame z) (8 + l) = 0 := by
    unfold Dk.addsE
    rw [e.2, if_pos rfl, e.1]
    exact e2.2
  have h2 : d.adds (frame z) (8 + l) = { d with log := d.log ++ frame z, syn := (d.log ++ frame z).length, count := d.count + 2 } := by
    unfold Dk.adds
    rw [e.2, if_pos rfl, e.1]
    exact e2.1
  refine ⟨h1, h2, h.room, ?_, rfl, h.snap, ?_, h.sn, h.sb, ?_⟩
  · show d.log ++ frame z = frames (rs ++ [z])
    rw [frames_append, h.log]
    simp [frames]
  · intro r hr
    rcases List.mem_append.1 hr with hr | hr
    · exact h.rows r hr
    · rw [List.mem_singleton.1 hr]; omega
  · intro r hr
    rcases List.mem_append.1 hr with hr | hr
    · exact h.rb r hr
    · rw [List.mem_singleton.1 hr]; exact hzb
end
end Go.Proofs.YtgggecpnmliolaaDoor
