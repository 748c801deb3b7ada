/- P102: the reader's parts: what it holds; taking bytes from the front; Fail and End. -/
import Derived.Test.YtlaafpfpoehonaaCame
namespace Go.Proofs.Ytlaafpfpoehonaa
open Go.RowKit Num
set_option linter.unusedVariables false
set_option linter.unusedSimpArgs false

/-- a reader at block r: its error, and the bytes that are left, in a row of block g (which is another one) -/
structure Rd (w : World) (r : Nat) (e : Int) (bs : List Int) : Prop where
  row : ∃ g off c, w.heap[r]? = some (.cells #[.slice (some ⟨g, off, none⟩) bs.length c, .int .i64 e] 56 (0, 0)) ∧ g < r ∧ g < w.heap.size ∧ bs.length ≤ c ∧ c ≤ 281474976710656 ∧
    ∀ i, i < bs.length → w.cell? ⟨g, off + i, none⟩ = some (.int .u8 (bs.getD i 0))

/-- but for block r, and new ones, the world is as it was -/
def Only (r : Nat) (w w' : World) : Prop := w.grownBy w' (some r)

theorem Only.refl (r : Nat) (w : World) : Only r w w := ⟨rfl, rfl, rfl, Nat.le_refl _, fun _ _ _ => rfl⟩
theorem Only.trans {r : Nat} {a b c : World} (h : Only r a b) (k : Only r b c) : Only r a c :=
  ⟨k.os.trans h.os, k.tape.trans h.tape, k.output.trans h.output, Nat.le_trans h.size k.size, fun i hi hne => (k.block i (Nat.lt_of_lt_of_le hi h.size) hne).trans (h.block i hi hne)⟩
theorem Only.of_below {r : Nat} {w w' : World} (h : Below w.heap.size w w') : Only r w w' := ⟨h.os, h.tape, h.output, h.size, fun i hi _ => h.block i hi⟩
theorem Only.below {r B : Nat} {w w' : World} (h : Only r w w') (hr : B ≤ r) (hB : B ≤ w.heap.size) : Below B w w' :=
  ⟨h.os, h.tape, h.output, h.size, fun i hi => h.block i (by omega) (by simp; omega)⟩
theorem Only.cell {r : Nat} {w w' : World} (h : Only r w w') {a : Addr} {v : Value} (hv : w.cell? a = some v) (hne : a.block ≠ r) : w'.cell? a = some v :=
  World.grownBy.cell h hv (by simpa using hne)

theorem Rd.cells {w : World} {r : Nat} {e : Int} {bs : List Int} (h : Rd w r e bs) : ∃ g off c, w.cell? ⟨r, 0, none⟩ = some (.slice (some ⟨g, off, none⟩) bs.length c) ∧ w.cell? ⟨r, 1, none⟩ = some (.int .i64 e) ∧
    w.frozen? ⟨r, 0, none⟩ = false ∧ w.frozen? ⟨r, 1, none⟩ = false ∧ g < r ∧ g < w.heap.size ∧ bs.length ≤ c ∧ c ≤ 281474976710656 ∧ r < w.heap.size ∧ ∀ i, i < bs.length → w.cell? ⟨g, off + i, none⟩ = some (.int .u8 (bs.getD i 0)) := by
  obtain ⟨g, off, c, hr, h1, h2, h3, h4, h5⟩ := h.row
  refine ⟨g, off, c, ?_, ?_, ?_, ?_, h1, h2, h3, h4, (Array.getElem?_eq_some_iff.1 hr).1, h5⟩
  · simp [World.cell?, hr]
  · simp [World.cell?, hr]
  · simp [World.frozen?, hr]
  · simp [World.frozen?, hr]

theorem only_setCell (w : World) (r o : Nat) (cur : Array Value) (t : TypeId) (v : Value) (hr : w.heap[r]? = some (.cells cur t (0, 0))) :
    Only r w (w.setCell ⟨r, o, none⟩ v) ∧ (w.setCell ⟨r, o, none⟩ v).heap[r]? = some (.cells (cur.setIfInBounds o v) t (0, 0)) := by
  rw [setCell_eq_setRow w r o cur t (0, 0) v hr]
  refine ⟨⟨rfl, rfl, rfl, by simp, fun k _ hk => setRow_other w r k _ (fun e => hk (by simp [e]))⟩, setRow_heap w r cur _ t _ hr⟩

theorem Rd.setErr {w : World} {r : Nat} {e : Int} {bs : List Int} (h : Rd w r e bs) (f : Int) : Rd (w.setCell ⟨r, 1, none⟩ (.int .i64 f)) r f bs ∧ Only r w (w.setCell ⟨r, 1, none⟩ (.int .i64 f)) := by
  obtain ⟨g, off, c, hr, h1, h2, h3, h4, h5⟩ := h.row
  have h0 := only_setCell w r 1 _ _ (.int .i64 f) hr
  refine ⟨⟨g, off, c, by rw [h0.2]; rfl, h1, by have := h0.1.size; omega, h3, h4, fun i hi => h0.1.cell (h5 i hi) (by simp; omega)⟩, h0.1⟩

/-- k bytes less -/
theorem Rd.setRest {w : World} {r : Nat} {e : Int} {bs : List Int} {g off c : Nat} (hr : w.heap[r]? = some (.cells #[.slice (some ⟨g, off, none⟩) bs.length c, .int .i64 e] 56 (0, 0))) (h1 : g < r) (h2 : g < w.heap.size) (h3 : bs.length ≤ c) (h4 : c ≤ 281474976710656)
    (h5 : ∀ i, i < bs.length → w.cell? ⟨g, off + i, none⟩ = some (.int .u8 (bs.getD i 0))) (k off' : Nat) (hk : k ≤ bs.length) (ho : k < bs.length → off' = off + k) :
    Rd (w.setCell ⟨r, 0, none⟩ (.slice (some ⟨g, off', none⟩) (bs.length - k) (c - k))) r e (bs.drop k) ∧ Only r w (w.setCell ⟨r, 0, none⟩ (.slice (some ⟨g, off', none⟩) (bs.length - k) (c - k))) := by
  have h0 := only_setCell w r 0 _ _ (.slice (some ⟨g, off', none⟩) (bs.length - k) (c - k)) hr
  refine ⟨⟨g, off', c - k, by rw [h0.2, List.length_drop]; rfl, h1, by have := h0.1.size; omega, by rw [List.length_drop]; omega, by omega, fun i hi => ?_⟩, h0.1⟩
  rw [List.length_drop] at hi
  obtain rfl := ho (by omega)
  have hx := h0.1.cell (h5 (k + i) (by omega)) (by simp; omega)
  have hg : (bs.drop k).getD i 0 = bs.getD (k + i) 0 := by simp [List.getD]
  rw [hg, Nat.add_assoc]
  exact hx

theorem Rd.kept {w w' : World} {r B : Nat} {e : Int} {bs : List Int} (h : Rd w r e bs) (hb : Below B w w') (hB : r < B) : Rd w' r e bs := by
  obtain ⟨g, off, c, hr, h1, h2, h3, h4, h5⟩ := h.row
  refine ⟨g, off, c, by rw [hb.block r hB]; exact hr, h1, by have := hb.size; omega, h3, h4, fun i hi => ?_⟩
  rw [hb.cell (by simp; omega)]
  exact h5 i hi

theorem Rd.keep {w w' : World} {r : Nat} {e : Int} {bs : List Int} (h : Rd w r e bs) (hb : Below w.heap.size w w') : Rd w' r e bs := by
  obtain ⟨g, off, c, hr, -⟩ := h.row
  exact h.kept hb (Array.getElem?_eq_some_iff.1 hr).1

/-- the error behind a Fail -/
def errOf (e f : Int) : Int := if e = 0 then f else e
/-- what End tells -/
def endOf (e : Int) (bs : List Int) : Int := if e = 0 ∧ bs ≠ [] then 9 else e

set_option maxHeartbeats 400000 in
theorem fail_any (r : Nat) (e f : Int) (bs : List Int) (w : World) (h : Rd w r e bs) :
    Calls Try.prog 28 #[.pointer (some ⟨r, 0, none⟩), .int .i64 f] w fun x w' => x = .returned (.tuple #[]) ∧ Rd w' r (errOf e f) bs ∧ Only r w w' := by
  obtain ⟨g, off, c, c0, c1, f0, f1, -⟩ := h.cells
  have H := Lib.hid h
  clear h
  by_cases he : e = 0
  · subst he
    go_enter Try.func28, Try.ntmps28
    go_wp2
    go_end0
    exact ⟨rfl, by rw [errOf, if_pos rfl]; exact (H.out.setErr f).1, (H.out.setErr f).2⟩
  · have he2 : (e == 0) = false := by simpa using he
    go_enter Try.func28, Try.ntmps28
    go_wp2
    go_end0
    exact ⟨rfl, by rw [errOf, if_neg he]; exact H.out, Only.refl _ _⟩

set_option maxHeartbeats 400000 in
theorem end_any (r : Nat) (e : Int) (bs : List Int) (w : World) (h : Rd w r e bs) :
    Calls Try.prog 30 #[.pointer (some ⟨r, 0, none⟩)] w fun x w' => x = .returned (.int .i64 (endOf e bs)) ∧ w = w' := by
  obtain ⟨g, off, c, c0, c1, f0, f1, -⟩ := h.cells
  clear h
  by_cases he : e = 0
  · subst he
    by_cases hb : bs = []
    · subst hb
      simp only [List.length_nil] at c0
      have hd : decide ((0 : Int) < 0) = false := rfl
      go_enter Try.func30, Try.ntmps30
      go_wp2
      go_ret
      exact ⟨ret_i64 (by simp [endOf]), rfl⟩
    · have hl : 0 < bs.length := List.length_pos_iff.2 hb
      have hd : decide ((0 : Int) < (bs.length : Int)) = true := by simp; omega
      obtain ⟨L, hL⟩ : ∃ L, L = bs.length := ⟨_, rfl⟩
      rw [← hL] at c0 hl hd
      clear hL
      go_enter Try.func30, Try.ntmps30
      go_wp2
      go_ret
      exact ⟨ret_i64 (by simp [endOf, hb]), rfl⟩
  · have he2 : (e == 0) = false := by simpa using he
    go_enter Try.func30, Try.ntmps30
    go_wp2
    go_ret
    exact ⟨ret_i64 (by simp [endOf, he]), rfl⟩

end Go.Proofs.Ytlaafpfpoehonaa
