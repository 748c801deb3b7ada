/- P102: the chapter said a second time: its reader's parts: what it holds; New, Fail and End. -/
import Derived.Test.YtlaafpfpoehonaaFails
import Derived.Test.YtlaafpfpoehonaaArr
import Derived.BigQuiet
namespace Go.Proofs.Ytlaafpfpoehonaa
open Go.RowKit Num
set_option linter.unusedVariables false
set_option linter.unusedSimpArgs false

/-- the second reader at block x: the bytes B, of which P are behind it; its error -/
structure Rx (w : World) (x : Nat) (a : Option Addr) (n c : Nat) (B : List Int) (P : Nat) (E : Int) : Prop where
  row : w.heap[x]? = some (.cells #[.slice a n c, .int .i64 (P : Int), .int .i64 E] 58 (0, 0))
  reads : Reads w a n B
  apart : 0 < n → ∀ ad, a = some ad → ad.block < x
  le : P ≤ n
  small : n ≤ 1000000
  room : n ≤ c
  most : c ≤ maxLen

theorem add_block (a : Addr) (n : Nat) : (a.add n).block = a.block := by unfold Addr.add; split <;> rfl

section
variable {w w' : World} {x : Nat} {a : Option Addr} {n c : Nat} {B : List Int} {P : Nat} {E : Int}

theorem Rx.lt (h : Rx w x a n c B P E) : x < w.heap.size := (Array.getElem?_eq_some_iff.1 h.row).1

theorem Rx.cells (h : Rx w x a n c B P E) : w.cell? ⟨x, 0, none⟩ = some (.slice a n c) ∧ w.cell? ⟨x, 1, none⟩ = some (.int .i64 (P : Int)) ∧ w.cell? ⟨x, 2, none⟩ = some (.int .i64 E) ∧
    w.frozen? ⟨x, 0, none⟩ = false ∧ w.frozen? ⟨x, 1, none⟩ = false ∧ w.frozen? ⟨x, 2, none⟩ = false := by
  have hr := h.row
  refine ⟨?_, ?_, ?_, ?_, ?_, ?_⟩
  · simp [World.cell?, hr]
  · simp [World.cell?, hr]
  · simp [World.cell?, hr]
  · simp [World.frozen?, hr]
  · simp [World.frozen?, hr]
  · simp [World.frozen?, hr]

theorem reads_only {r : Nat} (h : Reads w a n B) (ho : Only r w w') (hne : 0 < n → ∀ ad, a = some ad → ad.block ≠ r) : Reads w' a n B := by
  refine ⟨h.1, fun hp => ?_⟩
  obtain ⟨ad, h1, h2⟩ := h.2 hp
  exact ⟨ad, h1, fun j v hv => ho.cell (h2 j v hv) (by rw [add_block]; exact hne hp ad h1)⟩

theorem Rx.setErr (h : Rx w x a n c B P E) (f : Int) : Rx (w.setCell ⟨x, 2, none⟩ (.int .i64 f)) x a n c B P f ∧ Only x w (w.setCell ⟨x, 2, none⟩ (.int .i64 f)) := by
  have h0 := only_setCell w x 2 _ _ (.int .i64 f) h.row
  exact ⟨⟨by rw [h0.2]; rfl, reads_only h.reads h0.1 (fun hp ad ha => Nat.ne_of_lt (h.apart hp ad ha)), h.apart, h.le, h.small, h.room, h.most⟩, h0.1⟩

theorem Rx.setPos (h : Rx w x a n c B P E) (Q : Nat) (hq : Q ≤ n) : Rx (w.setCell ⟨x, 1, none⟩ (.int .i64 (Q : Int))) x a n c B Q E ∧ Only x w (w.setCell ⟨x, 1, none⟩ (.int .i64 (Q : Int))) := by
  have h0 := only_setCell w x 1 _ _ (.int .i64 (Q : Int)) h.row
  exact ⟨⟨by rw [h0.2]; rfl, reads_only h.reads h0.1 (fun hp ad ha => Nat.ne_of_lt (h.apart hp ad ha)), h.apart, hq, h.small, h.room, h.most⟩, h0.1⟩

theorem Rx.other {r : Nat} (h : Rx w x a n c B P E) (ho : Only r w w') (hx : x ≠ r) (ha : 0 < n → ∀ ad, a = some ad → ad.block ≠ r) : Rx w' x a n c B P E :=
  ⟨by rw [ho.block x h.lt (by simpa using hx)]; exact h.row, reads_only h.reads ho ha, h.apart, h.le, h.small, h.room, h.most⟩

theorem Rx.keep (h : Rx w x a n c B P E) (hb : Below w.heap.size w w') : Rx w' x a n c B P E :=
  ⟨by rw [hb.block x h.lt]; exact h.row, h.reads.below hb, h.apart, h.le, h.small, h.room, h.most⟩

theorem Rd.other {r : Nat} {e : Int} {bs : List Int} (h : Rd w r e bs) (ho : Only x w w') (hx : r < x) : Rd w' r e bs := by
  obtain ⟨g, off, c, hr, h1, h2, h3, h4, h5⟩ := h.row
  refine ⟨g, off, c, by rw [ho.block r h.lt (by simp; omega)]; exact hr, h1, by have := ho.size; omega, h3, h4, fun i hi => ?_⟩
  exact ho.cell (h5 i hi) (by simp; omega)
end

theorem rx_new {w : World} {a : Option Addr} {n c : Nat} {B : List Int} (h : Came w a n c B) (hn : n ≤ 1000000) (ha : 0 < n → ∀ ad, a = some ad → ad.block < w.heap.size) :
    Rx (w.alloc (.cells #[.slice a n c, .int .i64 0, .int .i64 0] 58)) w.heap.size a n c B 0 0 :=
  ⟨heap_alloc_new w _, h.reads.below ((Below.refl _ _).alloc (Nat.le_refl _) _), ha, Nat.zero_le _, hn, h.le, h.small⟩

set_option maxHeartbeats 400000 in
theorem xnew_any (a : Option Addr) (n c : Nat) (B : List Int) (w : World) (h : Came w a n c B) (hn : n ≤ 1000000) (ha : 0 < n → ∀ ad, a = some ad → ad.block < w.heap.size) :
    Calls Try.prog 20 #[.slice a n c] w fun y w' => ∃ x, y = .returned (.pointer (some ⟨x, 0, none⟩)) ∧ Rx w' x a n c B 0 0 ∧ w.heap.size ≤ x ∧ Below w.heap.size w w' := by
  have H := Lib.hid (rx_new h hn ha)
  clear h ha
  go_enter Try.func20, Try.ntmps20
  go_wp2
  go_ret
  exact ⟨_, rfl, H.out, Nat.le_refl _, (Below.refl _ _).alloc (Nat.le_refl _) _⟩

set_option maxHeartbeats 400000 in
theorem xfail_any (x : Nat) (a : Option Addr) (n c : Nat) (B : List Int) (P : Nat) (E f : Int) (w : World) (h : Rx w x a n c B P E) :
    Calls Try.prog 29 #[.pointer (some ⟨x, 0, none⟩), .int .i64 f] w fun y w' => y = .returned (.tuple #[]) ∧ Rx w' x a n c B P (errOf E f) ∧ Only x w w' := by
  obtain ⟨c0, c1, c2, f0, f1, f2⟩ := h.cells
  have H := Lib.hid h
  clear h
  by_cases he : E = 0
  · subst he
    go_enter Try.func29, Try.ntmps29
    go_wp2
    go_end0
    exact ⟨rfl, by rw [errOf, if_pos rfl]; exact (H.out.setErr f).1, (H.out.setErr f).2⟩
  · have he2 : (E == 0) = false := by simpa using he
    go_enter Try.func29, Try.ntmps29
    go_wp2
    go_end0
    exact ⟨rfl, by rw [errOf, if_neg he]; exact H.out, Only.refl _ _⟩

theorem only_drew {r : Nat} {w w' : World} (h : Only r w w') (k : Nat) : Only r w (w'.drewN k) := h.trans (.of_below (below_drewN (Below.refl _ _) k))

set_option maxRecDepth 100000 in
set_option maxHeartbeats 1000000 in
theorem xend_any (x : Nat) (a : Option Addr) (n c : Nat) (B : List Int) (P : Nat) (E : Int) (w : World) (h : Rx w x a n c B P E) :
    Calls Try.prog 31 #[.pointer (some ⟨x, 0, none⟩)] w fun y w' => y = .returned (.int .i64 (endOf E (B.drop P))) ∧ Only x w w' ∧ Rx w' x a n c B P E := by
  obtain ⟨c0, c1, c2, f0, f1, f2⟩ := h.cells
  have H := Lib.hid h
  have hB := h.reads.1
  have HBL := Lib.hid hB
  clear h hB
  by_cases he : E = 0
  · subst he
    by_cases hp : P < n
    · have hpd : decide ((P : Int) < (n : Int)) = true := by simp; omega
      have HE : Hid (endOf 0 (B.drop P) = 9) := by
        show _ = _
        rw [endOf, if_pos ⟨rfl, fun h => by have := List.drop_eq_nil_iff.1 h; have := HBL.out; omega⟩]
      go_enter Try.func31, Try.ntmps31
      go_wp2_with fail
      go_quiet (fail)
      go_wp2
      go_ret
      exact ⟨by rw [HE.out]; rfl, only_drew (Only.refl _ _) _, H.out.keep (below_drewN (Below.refl _ _) _)⟩
    · have hpd : decide ((P : Int) < (n : Int)) = false := by simp; omega
      have HE : Hid (endOf 0 (B.drop P) = 0) := by
        show _ = _
        rw [List.drop_eq_nil_of_le (by have := HBL.out; omega)]; rfl
      go_enter Try.func31, Try.ntmps31
      go_wp2_with fail
      go_quiet (fail)
      go_wp2
      go_ret
      exact ⟨by rw [HE.out]; rfl, only_drew (Only.refl _ _) _, H.out.keep (below_drewN (Below.refl _ _) _)⟩
  · have he2 : (E == 0) = false := by simpa using he
    have hed : decide (E = 0) = false := by simpa using he
    have HE : Hid (endOf E (B.drop P) = E) := by show _ = _; rw [endOf, if_neg (fun h => he h.1)]
    clear he
    go_enter Try.func31, Try.ntmps31
    go_wp2_with fail
    go_quiet (fail)
    go_wp2
    go_ret
    exact ⟨by rw [HE.out]; rfl, only_drew (Only.refl _ _) _, H.out.keep (below_drewN (Below.refl _ _) _)⟩

end Go.Proofs.Ytlaafpfpoehonaa
