/- What the statements' walks lean on: operations where the power stays; strings cut and put together. -/
import Derived.Test.YtgggecpnmliolaaDoorKnown4
import Derived.Laws.OwnMore
namespace Go.Proofs.YtgggecpnmliolaaDoor
open Go Go.RowKit
set_option linter.unusedVariables false
set_option linter.unusedSimpArgs false

namespace Dk
theorem run_free {d : Dk} (hd : d.dead = false) (hs : (d.count : Int) + 1 ≠ d.stop) (op : Dk → Dk) (anyway : Bool) : d.run op anyway = op { d with count := d.count + 1 } ∧ d.runE = 0 := by
  have e : d.spend = { d with count := d.count + 1 } := by
    cases d
    simp only [spend] at *
    subst hd
    congr
    simpa using hs
  have ed : d.spend.dead = false := by rw [e]; exact hd
  unfold run after runE
  have h1 : ¬ d.dead = true := by rw [hd]; simp
  have h2 : ¬ d.spend.dead = true := by rw [ed]; simp
  have h3 : (anyway || !d.spend.dead) = true := by rw [ed]; simp
  rw [if_neg h1, if_pos h3, if_neg h1, if_neg h2, e]
  exact ⟨rfl, rfl⟩

theorem run_last {d : Dk} (hd : d.dead = false) (hs : (d.count : Int) + 1 = d.stop) (op : Dk → Dk) (anyway : Bool) : d.run op anyway = (if anyway = true then op { d with count := d.count + 1, dead := true } else { d with count := d.count + 1, dead := true }) ∧ d.runE = 20 := by
  have e : d.spend = { d with count := d.count + 1, dead := true } := by
    cases d
    simp only [spend] at *
    congr
    simpa using hs
  have ed : d.spend.dead = true := by rw [e]
  unfold run after runE
  rw [hd, ed, e]
  cases anyway <;> simp

theorem run_gone {d : Dk} (hd : d.dead = true) (op : Dk → Dk) (anyway : Bool) : d.run op anyway = d ∧ d.runE = 20 := by
  unfold run runE
  rw [hd]
  simp

/-- an append, where there is power and room -/
theorem append_free {d : Dk} (hd : d.dead = false) (hs : (d.count : Int) + 1 ≠ d.stop) (b : List Int) (n : Nat) (hn : b.length = n) (hr : d.log.length + d.snap.length + n ≤ d.room) :
    d.append b = { d with log := d.log ++ b, count := d.count + 1 } ∧ d.appendE n = 0 := by
  have hf : d.full n = false := by unfold full; rw [decide_eq_false (by omega)]; simp
  have h := run_free hd hs (add b) true
  unfold append appendE
  rw [hn, hf]
  simp only [Bool.false_eq_true, if_false]
  exact ⟨h.1, h.2⟩

/-- a cut, where there is power -/
theorem cuts_free {d : Dk} (hd : d.dead = false) (hs : (d.count : Int) + 1 ≠ d.stop) (n : Nat) (hn : n ≤ d.log.length) :
    d.cuts (n : Int) = { d with log := d.log.take n, syn := n, count := d.count + 1 } ∧ d.cutE (n : Int) = 0 := by
  have hf : d.off (n : Int) = false := by unfold off; rw [decide_eq_false (show ¬ (n : Int) < 0 by omega), decide_eq_false (show ¬ (d.log.length : Int) < (n : Int) by omega)]; simp
  have h := run_free hd hs (cut n) d.even
  unfold cuts cutE
  rw [hf]
  simp only [Bool.false_eq_true, if_false, Int.toNat_natCast]
  exact ⟨h.1, h.2⟩

theorem syncs_free {d : Dk} (hd : d.dead = false) (hs : (d.count : Int) + 1 ≠ d.stop) : d.syncs = { d with syn := d.log.length, count := d.count + 1 } ∧ d.runE = 0 := run_free hd hs sync false

theorem swaps_free {d : Dk} (hd : d.dead = false) (hs : (d.count : Int) + 1 ≠ d.stop) (b : List Int) (n : Nat) (hn : b.length = n) (hr : n ≤ d.room) :
    d.swaps b = { d with log := [], syn := 0, snap := b, count := d.count + 1 } ∧ d.swapE n = 0 := by
  have hf : d.wide n = false := by unfold wide; rw [decide_eq_false (by omega)]; simp
  have h := run_free hd hs (swap b) d.even
  unfold swaps swapE
  rw [hn, hf]
  simp only [Bool.false_eq_true, if_false]
  exact ⟨h.1, h.2⟩

/-- the last operation: a swap, a cut -/
theorem swaps_last {d : Dk} (hd : d.dead = false) (hs : (d.count : Int) + 1 = d.stop) (b : List Int) (n : Nat) (hn : b.length = n) (hr : n ≤ d.room) :
    d.swaps b = (if d.even = true then { d with log := [], syn := 0, snap := b, count := d.count + 1, dead := true } else { d with count := d.count + 1, dead := true }) ∧ d.swapE n = 20 := by
  have hf : d.wide n = false := by unfold wide; rw [decide_eq_false (by omega)]; simp
  have h := run_last hd hs (swap b) d.even
  unfold swaps swapE
  rw [hn, hf]
  simp only [Bool.false_eq_true, if_false]
  exact ⟨h.1, h.2⟩

theorem cuts_last {d : Dk} (hd : d.dead = false) (hs : (d.count : Int) + 1 = d.stop) (n : Nat) (hn : n ≤ d.log.length) :
    d.cuts (n : Int) = (if d.even = true then { d with log := d.log.take n, syn := n, count := d.count + 1, dead := true } else { d with count := d.count + 1, dead := true }) ∧ d.cutE (n : Int) = 20 := by
  have hf : d.off (n : Int) = false := by unfold off; rw [decide_eq_false (show ¬ (n : Int) < 0 by omega), decide_eq_false (show ¬ (d.log.length : Int) < (n : Int) by omega)]; simp
  have h := run_last hd hs (cut n) d.even
  unfold cuts cutE
  rw [hf]
  simp only [Bool.false_eq_true, if_false, Int.toNat_natCast]
  exact ⟨h.1, h.2⟩

/-- without power -/
theorem syncs_gone {d : Dk} (hd : d.dead = true) : d.syncs = d ∧ d.runE = 20 := run_gone hd sync false
theorem cuts_gone {d : Dk} (hd : d.dead = true) (n : Int) : d.cuts n = d ∧ d.cutE n = 20 := by
  have h := run_gone hd (cut n.toNat) d.even
  unfold cuts cutE off
  rw [hd]
  simp only [Bool.not_true, Bool.false_and, Bool.false_eq_true, if_false]
  exact ⟨h.1, h.2⟩
theorem append_gone {d : Dk} (hd : d.dead = true) (b : List Int) (n : Nat) : d.append b = d ∧ d.appendE n = 20 := by
  have h := run_gone hd (add b) true
  unfold append appendE full
  rw [hd]
  simp only [Bool.not_true, Bool.false_and, Bool.false_eq_true, if_false]
  exact ⟨h.1, h.2⟩
theorem swaps_gone {d : Dk} (hd : d.dead = true) (b : List Int) (n : Nat) : d.swaps b = d ∧ d.swapE n = 20 := by
  have h := run_gone hd (swap b) d.even
  unfold swaps swapE wide
  rw [hd]
  simp only [Bool.not_true, Bool.false_and, Bool.false_eq_true, if_false]
  exact ⟨h.1, h.2⟩

/-- what is refused -/
theorem append_full {d : Dk} (hd : d.dead = false) (b : List Int) (n : Nat) (hn : b.length = n) (hr : d.room < d.log.length + d.snap.length + n) : d.append b = d ∧ d.appendE n = 19 := by
  unfold append appendE full
  rw [hd, hn, decide_eq_true hr]
  exact ⟨rfl, rfl⟩
theorem swaps_wide {d : Dk} (hd : d.dead = false) (b : List Int) (n : Nat) (hn : b.length = n) (hr : d.room < n) : d.swaps b = d ∧ d.swapE n = 19 := by
  unfold swaps swapE wide
  rw [hd, hn, decide_eq_true hr]
  exact ⟨rfl, rfl⟩
theorem cuts_off {d : Dk} (hd : d.dead = false) (n : Nat) (hn : d.log.length < n) : d.cuts (n : Int) = d ∧ d.cutE (n : Int) = 1 := by
  unfold cuts cutE off
  rw [hd, decide_eq_false (show ¬ (n : Int) < 0 by omega), decide_eq_true (show (d.log.length : Int) < (n : Int) by omega)]
  exact ⟨rfl, rfl⟩
end Dk

/-- the log's bytes, of a length that is known, in new memory -/
theorem logs_len {B g : Nat} {d : Dk} {w : World} (h : Has B g d w) (z : List Int) (m : Nat) (hz : d.log = z) (hm : z.length = m) :
    Calls Tryd.prog 19 #[.pointer (some ⟨g, 0, none⟩)] w fun e w' => ∃ a c, e = .returned (.slice a m c) ∧ Came w' a m c z ∧ Below w.heap.size w w' := by
  obtain ⟨-, lv, sv, h⟩ := h
  refine (logs_any h).mono ?_
  rintro _ w' ⟨v, rfl, ho, hb⟩
  subst hz
  subst hm
  obtain ⟨a, c, rfl, hc⟩ := own_came ho h.lby
  exact ⟨a, c, rfl, hc, hb⟩

theorem snaps_len {B g : Nat} {d : Dk} {w : World} (h : Has B g d w) (z : List Int) (m : Nat) (hz : d.snap = z) (hm : z.length = m) :
    Calls Tryd.prog 23 #[.pointer (some ⟨g, 0, none⟩)] w fun e w' => ∃ a c, e = .returned (.slice a m c) ∧ Came w' a m c z ∧ Below w.heap.size w w' := by
  obtain ⟨-, lv, sv, h⟩ := h
  refine (snaps_any h).mono ?_
  rintro _ w' ⟨v, rfl, ho, hb⟩
  subst hz
  subst hm
  obtain ⟨a, c, rfl, hc⟩ := own_came ho h.sby
  exact ⟨a, c, rfl, hc, hb⟩

theorem extract_nums (xs : List Int) (n : Nat) : (strOfNums xs).extract 0 n = strOfNums (xs.take n) := by
  apply ByteArray.ext
  rw [ByteArray.data_extract]
  apply Array.ext'
  simp [strOfNums, List.map_take]

theorem cat_nums (xs ys : List Int) : strOfNums xs ++ strOfNums ys = strOfNums (xs ++ ys) := by
  apply ByteArray.ext
  simp [strOfNums]

theorem str_to (z : List Int) (k : Nat) (hk : k ≤ z.length) (w : World) : (Instr.sliceAt 9 (.string (strOfNums z)) none (some (.int .i64 (k : Int))) none).run Tryd.prog w = .ok (.string (strOfNums (z.take k))) w := by
  have e := run_slice_string_h (P := Tryd.prog) (s := strOfNums z) w 9 (by kernel_rfl) .i64 (k : Int) (by omega) (by rw [strOfNums_size]; omega)
  rw [run_sliceAt_string _ _ _ _ _ _ (by kernel_rfl), e]
  simp [extract_nums]

theorem str_cat (a b : List Int) (hl : a.length + b.length ≤ 1000000) (w : World) : (binOp .add 9 (.string (strOfNums a)) (.string (strOfNums b))).run Tryd.prog w = .ok (.string (strOfNums (a ++ b))) w := by
  have h : (binOp .add 9 (.string (strOfNums a)) (.string (strOfNums b))).run Tryd.prog w = .ok (.string (strOfNums a ++ strOfNums b)) w := by
    have h1 : (strOfNums a).size + (strOfNums b).size ≤ 9223372036854775807 := by rw [strOfNums_size, strOfNums_size]; omega
    first | (simp [go_sem, h1]; done) | (go_simp; done)
  rw [h, cat_nums]

theorem nums_eql (z : List Int) (w : World) : (binOp .eql 9 (.string (strOfNums z)) (.string (strOfNums z))).run Tryd.prog w = .ok (.bool true) w := by
  have h : (binOp .eql 9 (.string (strOfNums z)) (.string (strOfNums z))).run Tryd.prog w = .ok (.bool (decide (strOfNums z = strOfNums z))) w := by first | rfl | (simp [go_sem]; done) | (go_simp; done)
  rw [h]
  simp

theorem str_eql (s : ByteArray) (w : World) : (binOp .eql 9 (.string s) (.string s)).run Tryd.prog w = .ok (.bool true) w := by
  have h : (binOp .eql 9 (.string s) (.string s)).run Tryd.prog w = .ok (.bool (decide (s = s))) w := by first | rfl | (simp [go_sem]; done) | (go_simp; done)
  rw [h]
  simp

theorem has_dead {B g : Nat} {d : Dk} {w : World} (h : Has B g d w) (v : Bool) (hv : d.dead = v) : Calls Tryd.prog 12 #[.pointer (some ⟨g, 0, none⟩)] w fun e w' => e = .returned (.bool v) ∧ w = w' := by
  obtain ⟨-, lv, sv, h⟩ := h
  subst hv
  exact dead_any h

theorem has_stop {B g : Nat} {d : Dk} {w : World} (h : Has B g d w) (n : Int) (hn : I64 n) : Calls Tryd.prog 10 #[.pointer (some ⟨g, 0, none⟩), .int .i64 n] w fun e w' => e = .returned (.tuple #[]) ∧ Has B g { d with stop := n, count := 0 } w' ∧ Only g w w' := by
  obtain ⟨hs, lv, sv, h⟩ := h
  exact (stop_any h n hn).mono fun e w' ⟨he, h1, h2⟩ => ⟨he, ⟨hs, lv, sv, h1⟩, h2⟩

/-- a slice of noughts that has just been made -/
theorem came_made {w w' : World} (k : Nat) (hk : k ≤ 1000) (hg : w'.heap[w.heap.size]? = some (.cells (madeCells (Value.int IntKind.u8 0).cells k).toList.toArray 5 (0, 0))) :
    Came w' (some ⟨w.heap.size, 0, none⟩) k k (List.replicate k 0) := by
  have e : (madeCells (Value.int IntKind.u8 0).cells k).toList = bts (List.replicate k 0) := by
    rw [show (Value.int IntKind.u8 0).cells = #[Value.int IntKind.u8 0] from rfl, toList_madeCells_one]
    simp [bts]
  rw [e] at hg
  refine ⟨⟨List.length_replicate, fun hp => ⟨_, rfl, fun j v hv => ?_⟩⟩, Nat.le_refl _, by unfold maxLen; omega, (fun h => by cases h), fun c hc => by rw [List.eq_of_mem_replicate hc]; exact ⟨by omega, by omega⟩⟩
  rw [Addr.add_lit, Nat.zero_add]
  simp only [World.cell?, hg]
  simpa using hv
end Go.Proofs.YtgggecpnmliolaaDoor
