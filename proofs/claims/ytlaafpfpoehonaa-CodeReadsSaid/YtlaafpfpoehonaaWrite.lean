/- P101: a number, folded and by sevens, behind what a slice holds. The number is one of 64 bits; the slice holds at most a million bytes. -/
import Derived.Test.YtlaafpfpoehonaaBase
import Derived.Test.YtlaafpfpoehonaaBits
namespace Go.Proofs.Ytlaafpfpoehonaa
open Go.RowKit Num
set_option linter.unusedVariables false
set_option linter.unusedSimpArgs false

theorem ret_u64 {a b : Int} (h : a = b) : Ending.returned (.int .u64 a) = .returned (.int .u64 b) := by rw [h]
theorem ret_i64 {a b : Int} (h : a = b) : Ending.returned (.int .i64 a) = .returned (.int .i64 b) := by rw [h]

/-- a number of 64 bits -/
def I64 (n : Int) : Prop := -9223372036854775808 ≤ n ∧ n ≤ 9223372036854775807
def U64 (u : Int) : Prop := 0 ≤ u ∧ u < 18446744073709551616

set_option maxHeartbeats 400000 in
theorem fold_any (n : Int) (w : World) (hn : I64 n) :
    Calls Try.prog 34 #[.int .i64 n] w fun e w' => e = .returned (.int .u64 (zig n)) ∧ w = w' := by
  by_cases hneg : n < 0
  · go_enter Try.func34, Try.ntmps34
    go_wp2
    all_goals
      go_ret
      exact ⟨ret_u64 (fold_neg_val n hn.1 hneg), rfl⟩
  · go_enter Try.func34, Try.ntmps34
    go_wp2
    go_ret
    exact ⟨ret_u64 (fold_pos_val n (by omega) hn.2), rfl⟩

theorem len_end {n k : Nat} {xs ys zs : List Int} {U : Int} (h1 : (bts xs).length = n * 1) (h2 : (bts ys).length = k * 1) (E : ys ++ [U] = xs ++ zs) : n + zs.length = k + 1 := by
  have := congrArg List.length E
  simp [bts] at h1 h2 this
  omega

theorem one_new' (z : Int) : ∀ (j : Nat) (u : Value), (bts [z])[j]? = some u → [Value.int IntKind.u8 z][j]? = some u := fun j u h => h

theorem one_new (w : World) (z : Int) : ∀ (j : Nat) (u : Value), (bts [z])[j]? = some u → (w.alloc (Obj.cells #[Value.int IntKind.u8 z] 5)).cell? ((⟨w.heap.size, 0, none⟩ : Addr).add j) = some u := by
  intro j u hj
  match j, hj with
  | 0, hj => simp [bts] at hj; subst hj; simp [Addr.add]

set_option maxRecDepth 100000 in
set_option maxHeartbeats 1000000 in
theorem sevens_any (B : Nat) (v : Value) (n : Nat) (xs : List Int) (u : Int) (w : World) (hown : w.ownsRow B 5 1 v n (bts xs)) (hB : B ≤ w.heap.size) (hn : n ≤ 2000000) (hu : 0 ≤ u) (hu2 : Hid (u < 128 ^ 10)) :
    Calls Try.prog 32 #[v, .int .u64 u] w fun e w' =>
      ∃ v', e = .returned v' ∧ w'.ownsRow B 5 1 v' (n + (sev 9 u).length) (bts (xs ++ sev 9 u)) ∧ Below B w w' := by
  obtain ⟨i0, hi, hz0, hz1, hz2⟩ := info_parts Try.infoByte
  obtain ⟨N, rfl⟩ := Int.eq_ofNat_of_zero_le hu
  go_enter Try.func32, Try.ntmps32
  go_wp2
  go_loopw [0, 1] (fun x y wr => ∃ (f k : Nat) (U : Nat) (ys : List Int), y = .int .u64 (U : Int) ∧ Hid ((U : Int) < 128 ^ (f + 1)) ∧ k + f ≤ n + 9 ∧ wr.ownsRow B 5 1 x k (bts ys) ∧ Hid (ys ++ sev f U = xs ++ sev 9 (N : Int)) ∧ Below B w wr) (fun _ y _ => (intOf y).toNat)
  case atStart => exact ⟨9, n, N, xs, rfl, hu2, by omega, hown, rfl, Below.refl _ _⟩
  case round =>
    clear hu2
    obtain ⟨f, k, U, ys, rfl, hU, hk, hown1, heq, hbel⟩ := hrel
    have hsz := hbel.size
    by_cases hlt : (U : Int) < 128
    · go_wp2_with (at_builtin; go_must (refine wpList_append_own _ rfl _ _ 22 rfl B 5 i0 (.int .u8 0) 1 1 Try.underlying22 hi hz0 hz1 hz2 rfl (by decide) _ _ _ rfl (hown1.alloc _) ⟨wr.heap.size, 0, none⟩ 1 1 (bts [(U : Int)]) rfl rfl ?c1 ?c2 ?c3 ?c4 ?c5 ?_))
      case c1 => exact one_new wr _
      case c2 => exact bts_one _
      case c3 => unfold maxLen; omega
      case c4 => omega
      case c5 => simp; omega
      intro v' w1 hown' hgrow _
      have hb1 := (hbel.alloc (by omega) (.cells #[Value.int .u8 (U : Int)] 5)).grown hgrow (by simp; omega) (fun k hk => (hown1.lt k hk).1)
      have E := (sev_end f U hlt heq.out).1
      have el : n + (sev 9 (N : Int)).length = k + 1 := len_end hown.1 hown1.1 E
      have EH := Lib.hid E
      have LH := Lib.hid el
      clear E el
      clear hgrow hown hown1 heq
      go_wp2
      go_ret
      exact ⟨v', rfl, by rw [LH.out, ← EH.out, bts_append]; exact hown', hb1⟩
    · have e := seven_rem U
      go_wp2_with (at_builtin; go_must (refine wpList_append_own _ rfl _ _ 22 rfl B 5 i0 (.int .u8 0) 1 1 Try.underlying22 hi hz0 hz1 hz2 rfl (by decide) _ _ _ rfl (hown1.alloc _) ⟨wr.heap.size, 0, none⟩ 1 1 (bts [(U : Int) % 128 + 128]) rfl rfl ?d1 ?d2 ?d3 ?d4 ?d5 ?_))
      case d1 => first | exact one_new wr _ | exact one_new' _
      case d2 => exact bts_one _
      case d3 => unfold maxLen; omega
      case d4 => omega
      case d5 => first | omega | (simp; omega)
      intro v' w1 hown' hgrow _
      have hb1 := (hbel.alloc (by omega) (.cells #[Value.int .u8 ((U : Int) % 128 + 128)] 5)).grown hgrow (by simp; omega) (fun k hk => (hown1.lt k hk).1)
      obtain ⟨f', rfl, hU', E⟩ := sev_step f U (by omega) hU.out heq.out
      have EH := Lib.hid E
      have UH := Lib.hid hU'
      clear E hU' hU e
      clear hgrow hown hown1 heq
      go_wp2
      go_roundw
      case rel => exact ⟨f', k + 1, U / 128, ys ++ [(U : Int) % 128 + 128], by go_num, UH.out, by omega, by rw [bts_append]; exact hown', EH.out, hb1⟩
      case measure => simp [intOf]; omega
end Go.Proofs.Ytlaafpfpoehonaa
