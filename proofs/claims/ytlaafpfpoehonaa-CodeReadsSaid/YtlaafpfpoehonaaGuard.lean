/- P102: the guard round a reader's part: the deferred call that catches a panic with an error, in both of its modes. -/
import Derived.Test.YtlaafpfpoehonaaText
import Derived.Recover
import Derived.Defers
namespace Go.Proofs.Ytlaafpfpoehonaa
open Go.RowKit Num
set_option linter.unusedVariables false
set_option linter.unusedSimpArgs false

theorem wp_act {P : Program} {c : Code} {Q : Exit → Act → World → Prop} {a A : Act} {w : World} (h : a = A) (hw : c.wp P Q A w) : c.wp P Q a w := h ▸ hw

/-- an error as a panic's value -/
def thrown (d : Int) (b : Bool) : PanicEntry := { v := .iface 40 (.int .i64 d), recovered := b }

theorem assert_hit (d : Int) (w : World) : (Instr.typeAssert (.iface 40 (.int .i64 d)) 20 40 true).run Try.prog w = .ok (.tuple #[.int .i64 d, .bool true]) w := by kernel_rfl
theorem assert_nil (w : World) : (Instr.typeAssert .nilIface 20 40 true).run Try.prog w = .ok (.tuple #[.int .i64 0, .bool false]) w := by kernel_rfl

set_option maxRecDepth 100000 in
set_option maxHeartbeats 1000000 in
theorem catch_int (p r : Nat) (e d : Int) (bs : List Int) (w : World) (hp : w.cell? ⟨p, 0, none⟩ = some (.pointer (some ⟨r, 0, none⟩))) (h : Rd w r e bs) :
    CallsD Try.prog 41 #[.pointer (some ⟨p, 0, none⟩)] (.panicking [{ v := .iface 40 (.int .i64 d), recovered := false }]) w fun x u' w' =>
      x = .returned (.tuple #[]) ∧ u' = .panicking [{ v := .iface 40 (.int .i64 d), recovered := true }] ∧ Rd w' r (errOf e d) bs ∧ Only r w w' := by
  have H := Lib.hid h
  clear h
  refine callsD_of_wpS Try.func41 rfl fun c₀ cs hu => ?_
  apply wpS_seq
  apply wpS_region
  simp [wpOpsS, go_sem, recoverD, hu, Try.ntmps41, Exit.thenS, assert_hit, assert_nil]
  refine wpS_of_wp ?_
  generalize hQ : (fun (e : Exit) (a' : Act) (w' : World) => bodyPostS Try.prog _ _ _ _ e a' _ w') = Q
  have HQ := Lib.hid hQ
  clear hQ hu
  refine wp_act (A := { tmps := #[.pointer (some ⟨p, 0, none⟩), .int .i64 d, .bool true, .tuple #[.int .i64 d, .bool true], .iface 40 (.int .i64 d), .tuple #[.int .i64 d, .bool true], .int .i64 d, .bool true, undef, undef, undef, undef], defers := [] }) (by kernel_rfl) ?_
  go_wp2_with fail
  refine (fail_any r e d bs _ H.out).mono ?_
  rintro x w1 ⟨rfl, hr, ho⟩
  have HR := Lib.hid hr
  have HO := Lib.hid ho
  clear hr ho
  go_wp2_with fail
  rw [← HQ.out]
  exact ⟨rfl, _, rfl, _, results_none rfl _ _ _, rfl, rfl, HR.out, HO.out⟩

set_option maxRecDepth 100000 in
set_option maxHeartbeats 1000000 in
theorem idle_int (p : Nat) (w : World) :
    CallsD Try.prog 41 #[.pointer (some ⟨p, 0, none⟩)] .returning w fun x u' w' => x = .returned (.tuple #[]) ∧ u' = .returning ∧ w = w' := by
  refine callsD_of_wpS Try.func41 rfl fun c₀ cs hu => ?_
  apply wpS_seq
  apply wpS_region
  simp [wpOpsS, go_sem, recoverD, hu, Try.ntmps41, Exit.thenS, assert_hit, assert_nil]
  refine wpS_of_wp ?_
  go_wp2_with fail
  cases c₀
  simp_all [bodyPostS, results, Try.results41]
set_option maxRecDepth 100000 in
set_option maxHeartbeats 1000000 in
theorem catch_text (p r : Nat) (e d : Int) (bs : List Int) (w : World) (hp : w.cell? ⟨p, 0, none⟩ = some (.pointer (some ⟨r, 0, none⟩))) (h : Rd w r e bs) :
    CallsD Try.prog 44 #[.pointer (some ⟨p, 0, none⟩)] (.panicking [{ v := .iface 40 (.int .i64 d), recovered := false }]) w fun x u' w' =>
      x = .returned (.tuple #[]) ∧ u' = .panicking [{ v := .iface 40 (.int .i64 d), recovered := true }] ∧ Rd w' r (errOf e d) bs ∧ Only r w w' := by
  have H := Lib.hid h
  clear h
  refine callsD_of_wpS Try.func44 rfl fun c₀ cs hu => ?_
  apply wpS_seq
  apply wpS_region
  simp [wpOpsS, go_sem, recoverD, hu, Try.ntmps44, Exit.thenS, assert_hit, assert_nil]
  refine wpS_of_wp ?_
  generalize hQ : (fun (e : Exit) (a' : Act) (w' : World) => bodyPostS Try.prog _ _ _ _ e a' _ w') = Q
  have HQ := Lib.hid hQ
  clear hQ hu
  refine wp_act (A := { tmps := #[.pointer (some ⟨p, 0, none⟩), .int .i64 d, .bool true, .tuple #[.int .i64 d, .bool true], .iface 40 (.int .i64 d), .tuple #[.int .i64 d, .bool true], .int .i64 d, .bool true, undef, undef, undef, undef], defers := [] }) (by kernel_rfl) ?_
  go_wp2_with fail
  refine (fail_any r e d bs _ H.out).mono ?_
  rintro x w1 ⟨rfl, hr, ho⟩
  have HR := Lib.hid hr
  have HO := Lib.hid ho
  clear hr ho
  go_wp2_with fail
  rw [← HQ.out]
  exact ⟨rfl, _, rfl, _, results_none rfl _ _ _, rfl, rfl, HR.out, HO.out⟩

set_option maxRecDepth 100000 in
set_option maxHeartbeats 1000000 in
theorem idle_text (p : Nat) (w : World) :
    CallsD Try.prog 44 #[.pointer (some ⟨p, 0, none⟩)] .returning w fun x u' w' => x = .returned (.tuple #[]) ∧ u' = .returning ∧ w = w' := by
  refine callsD_of_wpS Try.func44 rfl fun c₀ cs hu => ?_
  apply wpS_seq
  apply wpS_region
  simp [wpOpsS, go_sem, recoverD, hu, Try.ntmps44, Exit.thenS, assert_hit, assert_nil]
  refine wpS_of_wp ?_
  go_wp2_with fail
  cases c₀
  simp_all [bodyPostS, results, Try.results44]
set_option maxRecDepth 100000 in
set_option maxHeartbeats 1000000 in
theorem catch_sum (p r : Nat) (e d : Int) (bs : List Int) (w : World) (hp : w.cell? ⟨p, 0, none⟩ = some (.pointer (some ⟨r, 0, none⟩))) (h : Rd w r e bs) :
    CallsD Try.prog 45 #[.pointer (some ⟨p, 0, none⟩)] (.panicking [{ v := .iface 40 (.int .i64 d), recovered := false }]) w fun x u' w' =>
      x = .returned (.tuple #[]) ∧ u' = .panicking [{ v := .iface 40 (.int .i64 d), recovered := true }] ∧ Rd w' r (errOf e d) bs ∧ Only r w w' := by
  have H := Lib.hid h
  clear h
  refine callsD_of_wpS Try.func45 rfl fun c₀ cs hu => ?_
  apply wpS_seq
  apply wpS_region
  simp [wpOpsS, go_sem, recoverD, hu, Try.ntmps45, Exit.thenS, assert_hit, assert_nil]
  refine wpS_of_wp ?_
  generalize hQ : (fun (e : Exit) (a' : Act) (w' : World) => bodyPostS Try.prog _ _ _ _ e a' _ w') = Q
  have HQ := Lib.hid hQ
  clear hQ hu
  refine wp_act (A := { tmps := #[.pointer (some ⟨p, 0, none⟩), .int .i64 d, .bool true, .tuple #[.int .i64 d, .bool true], .iface 40 (.int .i64 d), .tuple #[.int .i64 d, .bool true], .int .i64 d, .bool true, undef, undef, undef, undef], defers := [] }) (by kernel_rfl) ?_
  go_wp2_with fail
  refine (fail_any r e d bs _ H.out).mono ?_
  rintro x w1 ⟨rfl, hr, ho⟩
  have HR := Lib.hid hr
  have HO := Lib.hid ho
  clear hr ho
  go_wp2_with fail
  rw [← HQ.out]
  exact ⟨rfl, _, rfl, _, results_none rfl _ _ _, rfl, rfl, HR.out, HO.out⟩

set_option maxRecDepth 100000 in
set_option maxHeartbeats 1000000 in
theorem idle_sum (p : Nat) (w : World) :
    CallsD Try.prog 45 #[.pointer (some ⟨p, 0, none⟩)] .returning w fun x u' w' => x = .returned (.tuple #[]) ∧ u' = .returning ∧ w = w' := by
  refine callsD_of_wpS Try.func45 rfl fun c₀ cs hu => ?_
  apply wpS_seq
  apply wpS_region
  simp [wpOpsS, go_sem, recoverD, hu, Try.ntmps45, Exit.thenS, assert_hit, assert_nil]
  refine wpS_of_wp ?_
  go_wp2_with fail
  cases c₀
  simp_all [bodyPostS, results, Try.results45]
end Go.Proofs.Ytlaafpfpoehonaa
