/- P102: the reader's Text, and a new reader: what they answer, and what is left of the reader. -/
import Derived.Test.YtlaafpfpoehonaaGuarded
namespace Go.Proofs.Ytlaafpfpoehonaa
open Go.RowKit Num
set_option linter.unusedVariables false
set_option linter.unusedSimpArgs false

/-- the reader behind Text: its error, its bytes, what was read -/
def rdText (e : Int) (bs : List Int) : Int × List Int × List Int :=
  if e ≠ 0 then (e, bs, []) else if (txt bs).1 = 0 then (0, bs.drop (txt bs).2.2, (txt bs).2.1) else ((txt bs).1, bs.drop (txt bs).2.2, [])

def RTextPost (r : Nat) (e : Int) (bs : List Int) (w : World) (x : Ending) (w' : World) : Prop :=
  ∃ a c, x = .returned (.slice a (rdText e bs).2.2.length c) ∧ Reads w' a (rdText e bs).2.2.length (rdText e bs).2.2 ∧ Rd w' r (rdText e bs).1 (rdText e bs).2.1 ∧ Only r w w'

set_option maxRecDepth 100000 in
set_option maxHeartbeats 1000000 in
theorem guarded_text (r : Nat) (e : Int) (bs : List Int) (w : World) (h : Rd w r e bs) (hby : ∀ c ∈ bs, Byte c) :
    Calls Try.prog 37 #[.pointer (some ⟨r, 0, none⟩), .func (.func 38) #[.pointer (some ⟨r, 0, none⟩)] #[]] w (RTextPost r e bs w) := by
  have hmf : ∀ (fn : Fn) (first cap : Array Value) (w : World), (Instr.makeFunc fn first cap).run Try.prog w = .ok (.func fn first cap) w := fun _ _ _ _ => rfl
  obtain ⟨hk, hok⟩ := box_keep h (.cells #[.pointer (some ⟨r, 0, none⟩)] 31)
  have HK := Lib.hid hk
  have HOK := Lib.hid hok
  have HBY := Lib.hid hby
  have hbc := box_cell w (.pointer (some ⟨r, 0, none⟩)) 31
  obtain ⟨g, off, c, c0, c1, f0, f1, -⟩ := hk.cells
  have hpr : w.heap.size ≠ r := by have := h.lt; omega
  clear h hk hok hby c0 f0 f1
  by_cases he : e = 0
  · subst he
    go_enter_defers Try.func37, Try.ntmps37
    go_wp2_with fail
    refine (text_any r 0 bs _ HK.out HBY.out).mono ?_
    rintro x w1 ⟨p1, p2, p3, p4⟩
    have hbc1 : w1.cell? ⟨w.heap.size, 0, none⟩ = some (.pointer (some ⟨r, 0, none⟩)) := p4.cell hbc hpr
    have P3 := Lib.hid p3
    have P4 := Lib.hid (HOK.out.trans p4)
    clear p3 p4 hbc c1
    by_cases hn : (txt bs).1 = 0
    · obtain ⟨a, cc, rfl, hrd⟩ := p1 hn
      obtain ⟨n, hnl⟩ : ∃ n, n = (txt bs).2.1.length := ⟨_, rfl⟩
      rw [← hnl] at hrd ⊢
      have hp : RTextPost r 0 bs w (.returned (.slice a n cc)) w1 := by
        have e1 : rdText 0 bs = (0, bs.drop (txt bs).2.2, (txt bs).2.1) := by simp [rdText, hn]
        unfold RTextPost; rw [e1]; simp only []; rw [← hnl]; exact ⟨a, cc, rfl, hrd, P3.out, P4.out⟩
      clear hnl hrd
      have HP := Lib.hid hp
      clear p1 p2 hn hp
      go_wp2
      refine leaves_cons (f := 44) (args := #[.pointer (some ⟨w.heap.size, 0, none⟩)]) (by simp) (by simp [go_sem]) ?_
      refine (idle_text w.heap.size _).mono ?_
      rintro x u' w'' ⟨rfl, rfl, rfl⟩
      exact ⟨_, results_tmp (t := 4) rfl _ _ _, HP.out⟩
    · obtain rfl := p2 hn
      have hp : ∀ w', Rd w' r (errOf 0 (txt bs).1) (bs.drop (txt bs).2.2) → Only r w1 w' → RTextPost r 0 bs w (.returned (.slice none 0 0)) w' := by
        intro w' h1 h2
        unfold errOf at h1
        rw [if_pos rfl] at h1
        have e1 : rdText 0 bs = ((txt bs).1, bs.drop (txt bs).2.2, []) := by simp [rdText, hn]
        unfold RTextPost; rw [e1]; exact ⟨none, 0, rfl, reads_nil _, h1, P4.out.trans h2⟩
      have HP := Lib.hid hp
      clear p1 p2 hn hp
      go_wp2
      refine leaves_cons (f := 44) (args := #[.pointer (some ⟨w.heap.size, 0, none⟩)]) (by simp) (by simp [go_sem]) ?_
      refine (catch_text w.heap.size r 0 _ _ _ hbc1 P3.out).mono ?_
      rintro x u' w'' ⟨rfl, rfl, h1, h2⟩
      exact ⟨_, results_tmp (t := 4) rfl _ _ _, HP.out _ h1 h2⟩
  · have he2 : (e == 0) = false := by simpa using he
    have hp : RTextPost r e bs w (.returned (.slice none 0 0)) (w.alloc (.cells #[.pointer (some ⟨r, 0, none⟩)] 31)) := by
      have e1 : rdText e bs = (e, bs, []) := by simp [rdText, he]
      unfold RTextPost; rw [e1]; exact ⟨none, 0, rfl, reads_nil _, HK.out, HOK.out⟩
    have HP := Lib.hid hp
    clear hp
    go_enter_defers Try.func37, Try.ntmps37
    go_wp2_with fail
    refine leaves_cons (f := 44) (args := #[.pointer (some ⟨w.heap.size, 0, none⟩)]) (by simp) (by simp [go_sem]) ?_
    refine (idle_text w.heap.size _).mono ?_
    rintro x u' w'' ⟨rfl, rfl, rfl⟩
    exact ⟨_, results_tmp (t := 4) rfl _ _ _, HP.out⟩

set_option maxHeartbeats 400000 in
/-- P102: Text -/
theorem rtext_any (r : Nat) (e : Int) (bs : List Int) (w : World) (h : Rd w r e bs) (hby : ∀ c ∈ bs, Byte c) :
    Calls Try.prog 24 #[.pointer (some ⟨r, 0, none⟩)] w (RTextPost r e bs w) := by
  have hmf : ∀ (fn : Fn) (first cap : Array Value) (w : World), (Instr.makeFunc fn first cap).run Try.prog w = .ok (.func fn first cap) w := fun _ _ _ _ => rfl
  have H := Lib.hid h
  have HB := Lib.hid hby
  clear h hby
  go_enter Try.func24, Try.ntmps24
  go_wp2_with fail
  refine (guarded_text r e bs _ H.out HB.out).mono ?_
  rintro x w1 hp
  have HP := Lib.hid hp
  obtain ⟨a, c, hx, -⟩ := hp
  obtain ⟨n, hnl⟩ : ∃ n, n = (rdText e bs).2.2.length := ⟨_, rfl⟩
  rw [← hnl] at hx
  clear hnl
  subst hx
  go_wp2
  go_ret
  exact HP.out

end Go.Proofs.Ytlaafpfpoehonaa
