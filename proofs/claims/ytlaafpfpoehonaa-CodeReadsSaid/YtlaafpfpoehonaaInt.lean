/- P101: code.Int: a number behind what a slice holds. The slice holds at most a million bytes. -/
import Derived.Test.YtlaafpfpoehonaaWrite
namespace Go.Proofs.Ytlaafpfpoehonaa
open Go.RowKit Num
set_option linter.unusedVariables false
set_option linter.unusedSimpArgs false

theorem zig_pow {n : Int} (h : I64 n) : Hid (zig n < 128 ^ 10) := by
  have := (zig_bd h.1 h.2).2
  have e : (128 : Int) ^ 10 = 1180591620717411303424 := by decide
  show zig n < 128 ^ 10
  rw [e]; omega

theorem sev9 (n : Int) : sev 9 (zig n) = enc n := rfl

set_option maxHeartbeats 400000 in
theorem int_any (a : Option Addr) (n c : Nat) (xs : List Int) (z : Int) (w : World) (hr : Reads w a n xs) (hn : n ≤ 1000000) (hz : I64 z) :
    Calls Try.prog 13 #[.slice a n c, .int .i64 z] w fun e w' =>
      ∃ v, e = .returned v ∧ w'.ownsRow w.heap.size 5 1 v (n + (enc z).length) (bts (xs ++ enc z)) ∧ Below w.heap.size w w' := by
  have h0 := (zig_bd hz.1 hz.2).1
  have hp := zig_pow hz
  have HZ := Lib.hid hz
  have HR := Lib.hid hr
  clear hz hr
  go_enter Try.func13, Try.ntmps13
  go_wp2_with fail
  refine (more_any a n c xs 10 _ HR.out hn (by omega) (by omega)).mono ?_
  rintro e w1 ⟨v1, rfl, hf⟩
  have HF := Lib.hid hf
  clear hf
  go_wp2_with fail
  refine (fold_any z _ HZ.out).mono ?_
  rintro e w2 ⟨rfl, rfl⟩
  go_wp2_with fail
  refine (sevens_any w.heap.size v1 n xs (zig z) _ (HF.out.owns _ (Nat.le_refl _)) HF.out.below.size (by omega) h0 hp).mono ?_
  rintro e w3 ⟨v3, rfl, hown, hb⟩
  have HO := Lib.hid hown
  have HB := Lib.hid hb
  clear hown hb
  go_wp2
  go_ret
  exact ⟨v3, rfl, by have := HO.out; rwa [sev9] at this, HF.out.below.trans HB.out⟩

theorem reads_nil (w : World) : Reads w none 0 [] := ⟨rfl, fun h => absurd h (by omega)⟩

/-- what is owned is read -/
theorem owned_val {w : World} {B : Nat} {v : Value} {n : Nat} {xs : List Int} (h : w.ownsRow B 5 1 v n (bts xs)) : ∃ a c, v = .slice a n c ∧ Reads w a n xs := by
  have hl : xs.length = n := by have := h.1; rw [bts_length] at this; omega
  rcases h.2 with ⟨rfl, rfl⟩ | ⟨g, cap, cur, rfl, _⟩
  · exact ⟨none, 0, rfl, hl, fun hp => absurd hp (by omega)⟩
  · exact ⟨_, cap, rfl, hl, fun _ => ⟨_, rfl, h.cells rfl⟩⟩
end Go.Proofs.Ytlaafpfpoehonaa
