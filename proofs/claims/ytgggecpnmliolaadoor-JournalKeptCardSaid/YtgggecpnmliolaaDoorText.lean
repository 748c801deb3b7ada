/- What the program asks of bytes that may begin with a frame. -/
import Derived.Test.YtgggecpnmliolaaDoorFrame
import Derived.Test.YtgggecpnmliolaaDoorOrd
namespace Go.Proofs.YtgggecpnmliolaaDoor
open Go.RowKit Frm
set_option linter.unusedVariables false
set_option linter.unusedSimpArgs false

/-- where a slice begins that was cut -/
def cutAt (a : Option Addr) (cap p : Nat) : Option Addr := if cap = p then a else Option.map (fun x => x.add p) a

theorem slice_from22 (a : Option Addr) (len cap p : Nat) (hp : p ≤ len) (n : Int) (hn : n = (p : Int)) (w : World) :
    (Instr.sliceAt 30 (.slice a len cap) (some (.int .i64 n)) none none).run Tryd.prog w = .ok (.slice (cutAt a cap p) (len - p) (cap - p)) w := by
  subst hn
  have e := run_slice_l (P := Tryd.prog) (a := a) (len := len) (cap := cap) w 30 (by kernel_rfl) .i64 (p : Int) (by omega) (by omega)
  have hs : (sizeOf (Tryd.prog.elem 30)).run Tryd.prog w = .ok 1 w := by kernel_rfl
  rw [run_sliceAt_slice _ _ _ _ _ _ (by kernel_rfl), e, hs]
  simp [sliced, cutAt]
theorem slice_from48 (a : Option Addr) (len cap p : Nat) (hp : p ≤ len) (n : Int) (hn : n = (p : Int)) (w : World) :
    (Instr.sliceAt 66 (.slice a len cap) (some (.int .i64 n)) none none).run Tryd.prog w = .ok (.slice (cutAt a cap p) (len - p) (cap - p)) w := by
  subst hn
  have e := run_slice_l (P := Tryd.prog) (a := a) (len := len) (cap := cap) w 66 (by kernel_rfl) .i64 (p : Int) (by omega) (by omega)
  have hs : (sizeOf (Tryd.prog.elem 66)).run Tryd.prog w = .ok 1 w := by kernel_rfl
  rw [run_sliceAt_slice _ _ _ _ _ _ (by kernel_rfl), e, hs]
  simp [sliced, cutAt]
theorem slice_mid22 (a : Option Addr) (len cap p q : Nat) (hp : p ≤ q) (hq : q ≤ cap) (n m : Int) (hn : n = (p : Int)) (hm : m = (q : Int)) (w : World) :
    (Instr.sliceAt 30 (.slice a len cap) (some (.int .i64 n)) (some (.int .i64 m)) none).run Tryd.prog w = .ok (.slice (cutAt a cap p) (q - p) (cap - p)) w := by
  subst hn
  subst hm
  have e := run_slice_lh (P := Tryd.prog) (a := a) (len := len) (cap := cap) w 30 (by kernel_rfl) .i64 .i64 (p : Int) (q : Int) (by omega) (by omega) (by omega)
  have hs : (sizeOf (Tryd.prog.elem 30)).run Tryd.prog w = .ok 1 w := by kernel_rfl
  rw [run_sliceAt_slice _ _ _ _ _ _ (by kernel_rfl), e, hs]
  simp [sliced, cutAt]
theorem slice_mid48 (a : Option Addr) (len cap p q : Nat) (hp : p ≤ q) (hq : q ≤ cap) (n m : Int) (hn : n = (p : Int)) (hm : m = (q : Int)) (w : World) :
    (Instr.sliceAt 66 (.slice a len cap) (some (.int .i64 n)) (some (.int .i64 m)) none).run Tryd.prog w = .ok (.slice (cutAt a cap p) (q - p) (cap - p)) w := by
  subst hn
  subst hm
  have e := run_slice_lh (P := Tryd.prog) (a := a) (len := len) (cap := cap) w 66 (by kernel_rfl) .i64 .i64 (p : Int) (q : Int) (by omega) (by omega) (by omega)
  have hs : (sizeOf (Tryd.prog.elem 66)).run Tryd.prog w = .ok 1 w := by kernel_rfl
  rw [run_sliceAt_slice _ _ _ _ _ _ (by kernel_rfl), e, hs]
  simp [sliced, cutAt]
theorem slice_to22 (a : Option Addr) (len cap q : Nat) (hq : q ≤ cap) (m : Int) (hm : m = (q : Int)) (w : World) :
    (Instr.sliceAt 30 (.slice a len cap) none (some (.int .i64 m)) none).run Tryd.prog w = .ok (.slice a q cap) w := by
  subst hm
  have e := run_slice_h (P := Tryd.prog) (a := a) (len := len) (cap := cap) w 30 (by kernel_rfl) .i64 (q : Int) (by omega) (by omega)
  have hs : (sizeOf (Tryd.prog.elem 30)).run Tryd.prog w = .ok 1 w := by kernel_rfl
  rw [run_sliceAt_slice _ _ _ _ _ _ (by kernel_rfl), e, hs]
  simp [sliced]
  intro _
  cases a <;> simp [Addr.add]

theorem came_sub {w : World} {a : Option Addr} {len cap : Nat} {z : List Int} (h : Came w a len cap z) (p v : Nat) (hv : p + v ≤ len) : Came w (cutAt a cap p) v (cap - p) ((z.drop p).take v) := by
  have h1 := slice_reads h.reads h.nil hv h.le
  have h2 := h.le
  have h3 := h.small
  exact ⟨h1.1, by omega, by omega, h1.2, fun c hc => h.bytes c (List.mem_of_mem_drop (List.mem_of_mem_take hc))⟩
theorem came_drop {w : World} {a : Option Addr} {len cap : Nat} {z : List Int} (h : Came w a len cap z) (p : Nat) (hv : p ≤ len) : Came w (cutAt a cap p) (len - p) (cap - p) (z.drop p) := by
  have h1 := came_sub h p (len - p) (by omega)
  rwa [List.take_of_length_le (by rw [List.length_drop, h.reads.1]; exact Nat.le_refl _)] at h1
theorem came_take {w : World} {a : Option Addr} {len cap : Nat} {z : List Int} (h : Came w a len cap z) (v : Nat) (hv : v ≤ len) : Came w a v cap (z.take v) := by
  refine ⟨h.reads.take hv, Nat.le_trans hv h.le, h.small, fun ha => ?_, fun c hc => h.bytes c (List.mem_of_mem_take hc)⟩
  have h1 := h.nil ha
  exact ⟨by omega, h1.2⟩

theorem ret_i64 {a b : Int} (h : a = b) : Ending.returned (Value.int .i64 a) = Ending.returned (Value.int .i64 b) := by rw [h]

/-- n, where it is so -/
def chk (so : Bool) (n : Int) : Int := if so then n else 0
theorem chk_cong {p q : Prop} [Decidable p] [Decidable q] (n : Int) (h : p ↔ q) : chk (decide p) n = chk (decide q) n := by rw [decide_eq_decide.2 h]

theorem failed_any (so : Bool) (n : Int) (w : World) : Calls Tryd.prog 56 #[.bool so, .int .i64 n] w fun e w' => e = .returned (.int .i64 (chk so n)) ∧ w = w' := by
  cases so
  · go_enter Tryd.func56, Tryd.ntmps56
    go_wp2_with fail
    go_ret
    exact ⟨rfl, rfl⟩
  · go_enter Tryd.func56, Tryd.ntmps56
    go_wp2_with fail
    go_ret
    exact ⟨rfl, rfl⟩

section
variable {a0 : Option Addr} {len0 cap0 : Nat} {z : List Int} {w : World}

theorem size_any (hc : Came w a0 len0 cap0 z) (h4 : 4 ≤ len0) : Calls Tryd.prog 48 #[.slice a0 len0 cap0] w fun e w' => e = .returned (.int .i64 (8 + (num z : Int))) ∧ w = w' := by
  have hn := num_lt hc.bytes
  have HC := Lib.hid hc
  clear hc
  go_enter Tryd.func48, Tryd.ntmps48
  go_wp2_with fail
  refine (number_any a0 len0 cap0 z w HC.out.reads HC.out.bytes h4).mono ?_
  rintro _ _ ⟨rfl, rfl⟩
  go_wp2_with fail
  go_ret
  exact ⟨rfl, rfl⟩

theorem headless_any (hc : Came w a0 len0 cap0 z) : Calls Tryd.prog 43 #[.slice a0 len0 cap0] w fun e w' => e = .returned (.int .i64 (chk (decide (len0 < 8)) 8)) ∧ w = w' := by
  go_enter Tryd.func43, Tryd.ntmps43
  go_wp2_with fail
  refine (failed_any _ _ w).mono ?_
  rintro _ _ ⟨rfl, rfl⟩
  go_wp2_with fail
  go_ret
  exact ⟨ret_i64 (chk_cong _ (by omega)), rfl⟩

theorem long_any (hc : Came w a0 len0 cap0 z) (h4 : 4 ≤ len0) : Calls Tryd.prog 44 #[.slice a0 len0 cap0] w fun e w' => e = .returned (.int .i64 (chk (decide (4194304 < num z)) 5)) ∧ w = w' := by
  have hn := num_lt hc.bytes
  have HC := Lib.hid hc
  clear hc
  go_enter Tryd.func44, Tryd.ntmps44
  go_wp2_with fail
  refine (number_any a0 len0 cap0 z w HC.out.reads HC.out.bytes h4).mono ?_
  rintro _ _ ⟨rfl, rfl⟩
  go_wp2_with fail
  refine (failed_any _ _ w).mono ?_
  rintro _ _ ⟨rfl, rfl⟩
  go_wp2_with fail
  go_ret
  exact ⟨ret_i64 (chk_cong _ (by omega)), rfl⟩

theorem cut_any (hc : Came w a0 len0 cap0 z) (h4 : 4 ≤ len0) : Calls Tryd.prog 45 #[.slice a0 len0 cap0] w fun e w' => e = .returned (.int .i64 (chk (decide (len0 < 8 + num z)) 8)) ∧ w = w' := by
  have HC := Lib.hid hc
  clear hc
  go_enter Tryd.func45, Tryd.ntmps45
  go_wp2_with fail
  refine (size_any HC.out h4).mono ?_
  rintro _ _ ⟨rfl, rfl⟩
  go_wp2_with fail
  refine (failed_any _ _ w).mono ?_
  rintro _ _ ⟨rfl, rfl⟩
  go_wp2_with fail
  go_ret
  exact ⟨ret_i64 (chk_cong _ (by omega)), rfl⟩

theorem more_any (hc : Came w a0 len0 cap0 z) (h4 : 4 ≤ len0) : Calls Tryd.prog 55 #[.slice a0 len0 cap0] w fun e w' => e = .returned (.int .i64 (chk (decide (8 + num z < len0)) 9)) ∧ w = w' := by
  have HC := Lib.hid hc
  clear hc
  go_enter Tryd.func55, Tryd.ntmps55
  go_wp2_with fail
  refine (size_any HC.out h4).mono ?_
  rintro _ _ ⟨rfl, rfl⟩
  go_wp2_with fail
  refine (failed_any _ _ w).mono ?_
  rintro _ _ ⟨rfl, rfl⟩
  go_wp2_with fail
  go_ret
  exact ⟨ret_i64 (chk_cong _ (by omega)), rfl⟩
end
end Go.Proofs.YtgggecpnmliolaaDoor
