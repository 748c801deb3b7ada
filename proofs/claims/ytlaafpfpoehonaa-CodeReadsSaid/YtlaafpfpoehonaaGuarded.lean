/- P102: the reader's Int and Text: what they answer, and what is left of the reader. -/
import Derived.Test.YtlaafpfpoehonaaGuard
namespace Go.Proofs.Ytlaafpfpoehonaa
open Go.RowKit Num
set_option linter.unusedVariables false
set_option linter.unusedSimpArgs false

/-- the reader behind Int: its error, its bytes, the number -/
def rdInt (e : Int) (bs : List Int) : Int × List Int × Int :=
  if e ≠ 0 then (e, bs, 0) else if (num 10 0 0 bs).1 = 0 then (0, bs.drop (num 10 0 0 bs).2.2, (num 10 0 0 bs).2.1) else ((num 10 0 0 bs).1, bs.drop (num 10 0 0 bs).2.2, 0)

def IntPost (r : Nat) (e : Int) (bs : List Int) (w : World) (x : Ending) (w' : World) : Prop :=
  x = .returned (.int .i64 (rdInt e bs).2.2) ∧ Rd w' r (rdInt e bs).1 (rdInt e bs).2.1 ∧ Only r w w'

theorem Rd.lt {w : World} {r : Nat} {e : Int} {bs : List Int} (h : Rd w r e bs) : r < w.heap.size := by
  obtain ⟨g, off, c, hr, -⟩ := h.row
  exact (Array.getElem?_eq_some_iff.1 hr).1

theorem box_keep {w : World} {r : Nat} {e : Int} {bs : List Int} (h : Rd w r e bs) (o : Obj) : Rd (w.alloc o) r e bs ∧ Only r w (w.alloc o) :=
  ⟨h.keep ((Below.refl _ _).alloc (Nat.le_refl _) o), .of_below ((Below.refl _ _).alloc (Nat.le_refl _) o)⟩

theorem box_cell (w : World) (v : Value) (t : TypeId) : (w.alloc (.cells #[v] t)).cell? ⟨w.heap.size, 0, none⟩ = some v := by
  rw [World.cell?_alloc_at _ _ _ _ rfl]; rfl

set_option maxRecDepth 100000 in
set_option maxHeartbeats 1000000 in
theorem guarded_int (r : Nat) (e : Int) (bs : List Int) (w : World) (h : Rd w r e bs) (hby : ∀ c ∈ bs, Byte c) :
    Calls Try.prog 35 #[.pointer (some ⟨r, 0, none⟩), .func (.func 36) #[.pointer (some ⟨r, 0, none⟩)] #[]] w (IntPost r e bs w) := by
  have hmf : ∀ (fn : Fn) (first cap : Array Value) (w : World), (Instr.makeFunc fn first cap).run Try.prog w = .ok (.func fn first cap) w := fun _ _ _ _ => rfl
  obtain ⟨hk, hok⟩ := box_keep h (.cells #[.pointer (some ⟨r, 0, none⟩)] 31)
  have HK := Lib.hid hk
  have HOK := Lib.hid hok
  have HBY := Lib.hid hby
  have hbc := box_cell w (.pointer (some ⟨r, 0, none⟩)) 31
  obtain ⟨g, off, c, c0, c1, f0, f1, -⟩ := hk.cells
  have hpr : w.heap.size ≠ r := by have := h.lt; omega
  clear h hk hok hby c0 f0 f1
  by_cases he : e = 0
  · subst he
    go_enter_defers Try.func35, Try.ntmps35
    go_wp2_with fail
    refine (number_any r 0 bs _ HK.out HBY.out).mono ?_
    rintro x w1 ⟨p1, p2, p3, p4⟩
    have hbc1 : w1.cell? ⟨w.heap.size, 0, none⟩ = some (.pointer (some ⟨r, 0, none⟩)) := p4.cell hbc hpr
    have P3 := Lib.hid p3
    have P4 := Lib.hid (HOK.out.trans p4)
    clear p3 p4 hbc c1
    by_cases hn : (num 10 0 0 bs).1 = 0
    · obtain rfl := p1 hn
      have hp : IntPost r 0 bs w (.returned (.int .i64 (num 10 0 0 bs).2.1)) w1 := by
        have e1 : rdInt 0 bs = (0, bs.drop (num 10 0 0 bs).2.2, (num 10 0 0 bs).2.1) := by simp [rdInt, hn]
        unfold IntPost; rw [e1]; exact ⟨rfl, P3.out, P4.out⟩
      have HP := Lib.hid hp
      clear p1 p2 hn hp
      go_wp2
      refine leaves_cons (f := 41) (args := #[.pointer (some ⟨w.heap.size, 0, none⟩)]) (by simp) (by simp [go_sem]) ?_
      refine (idle_int w.heap.size _).mono ?_
      rintro x u' w'' ⟨rfl, rfl, rfl⟩
      exact ⟨_, results_tmp (t := 4) rfl _ _ _, HP.out⟩
    · obtain rfl := p2 hn
      have hp : ∀ w', Rd w' r (errOf 0 (num 10 0 0 bs).1) (bs.drop (num 10 0 0 bs).2.2) → Only r w1 w' → IntPost r 0 bs w (.returned (.int .i64 0)) w' := by
        intro w' h1 h2
        unfold errOf at h1
        rw [if_pos rfl] at h1
        have e1 : rdInt 0 bs = ((num 10 0 0 bs).1, bs.drop (num 10 0 0 bs).2.2, 0) := by simp [rdInt, hn]
        unfold IntPost; rw [e1]; exact ⟨rfl, h1, P4.out.trans h2⟩
      have HP := Lib.hid hp
      clear p1 p2 hn hp
      go_wp2
      refine leaves_cons (f := 41) (args := #[.pointer (some ⟨w.heap.size, 0, none⟩)]) (by simp) (by simp [go_sem]) ?_
      refine (catch_int w.heap.size r 0 _ _ _ hbc1 P3.out).mono ?_
      rintro x u' w'' ⟨rfl, rfl, h1, h2⟩
      exact ⟨_, results_tmp (t := 4) rfl _ _ _, HP.out _ h1 h2⟩
  · have he2 : (e == 0) = false := by simpa using he
    have hp : IntPost r e bs w (.returned (.int .i64 0)) (w.alloc (.cells #[.pointer (some ⟨r, 0, none⟩)] 31)) := by
      have e1 : rdInt e bs = (e, bs, 0) := by simp [rdInt, he]
      unfold IntPost; rw [e1]; exact ⟨rfl, HK.out, HOK.out⟩
    have HP := Lib.hid hp
    clear hp
    go_enter_defers Try.func35, Try.ntmps35
    go_wp2_with fail
    refine leaves_cons (f := 41) (args := #[.pointer (some ⟨w.heap.size, 0, none⟩)]) (by simp) (by simp [go_sem]) ?_
    refine (idle_int w.heap.size _).mono ?_
    rintro x u' w'' ⟨rfl, rfl, rfl⟩
    exact ⟨_, results_tmp (t := 4) rfl _ _ _, HP.out⟩

set_option maxHeartbeats 400000 in
/-- P102: Int -/
theorem rint_any (r : Nat) (e : Int) (bs : List Int) (w : World) (h : Rd w r e bs) (hby : ∀ c ∈ bs, Byte c) :
    Calls Try.prog 22 #[.pointer (some ⟨r, 0, none⟩)] w (IntPost r e bs w) := by
  have hmf : ∀ (fn : Fn) (first cap : Array Value) (w : World), (Instr.makeFunc fn first cap).run Try.prog w = .ok (.func fn first cap) w := fun _ _ _ _ => rfl
  have H := Lib.hid h
  have HB := Lib.hid hby
  clear h hby
  go_enter Try.func22, Try.ntmps22
  go_wp2_with fail
  refine (guarded_int r e bs _ H.out HB.out).mono ?_
  rintro x w1 hp
  have HP := Lib.hid hp
  obtain rfl := hp.1
  clear hp
  go_wp2
  go_ret
  exact HP.out

end Go.Proofs.Ytlaafpfpoehonaa
