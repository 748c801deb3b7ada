/- The second writing of the chapter's numbers, bytes and sums, behind what the call owns. -/
import Derived.Test.YtlaafpfpoehonaaKeep
import Derived.Test.YtlaafpfpoehonaaHash
namespace Go.Proofs.Ytlaafpfpoehonaa
open Go.RowKit Num
set_option linter.unusedVariables false
set_option linter.unusedSimpArgs false

theorem ref_neg (n : Int) (h0 : -9223372036854775808 ≤ n) (h : n < 0) : bits .xor .u64 IntKind.u64.max (IntKind.u64.wrap (IntKind.u64.wrap n * 2)) = zig n := by
  rw [Lib.zigzag_neg h0 h]
  unfold Lib.zigzag zig
  rw [if_neg (by omega), if_pos h]
  omega

theorem one_reads (w : World) (z : Int) : Reads (w.alloc (.cells #[Value.int .u8 z] 5)) (some ⟨w.heap.size, 0, none⟩) 1 [z] :=
  ⟨rfl, fun _ => ⟨_, rfl, one_new w z⟩⟩

/-- what the loop of the second writing starts from -/
def RefPost (B : Nat) (v : Value) (n : Nat) (xs : List Int) (z : Int) (w : World) (x : Ending) (w' : World) : Prop :=
  ∃ v', x = .returned v' ∧ w'.ownsRow B 5 1 v' (n + (enc z).length) (bts (xs ++ enc z)) ∧ KeptUpto B 5 w w' v n ∧ Kin w v v' ∧ Below B w w'

set_option maxRecDepth 100000 in
set_option maxHeartbeats 2000000 in
theorem refint_any (B : Nat) (v : Value) (n : Nat) (xs : List Int) (z : Int) (w : World) (hown : w.ownsRow B 5 1 v n (bts xs)) (hB : B ≤ w.heap.size) (hn : n ≤ 1000000) (hz : I64 z) :
    Calls Try.prog 14 #[v, .int .i64 z] w (RefPost B v n xs z w) := by
  obtain ⟨i0, hi, hz0, hz1, hz2⟩ := info_parts Try.infoByte
  have HZ := Lib.hid hz
  have HO := Lib.hid hown
  obtain ⟨b1, b2⟩ := hz
  have hcase : (z < 0 ∧ Hid (bits .xor .u64 IntKind.u64.max (IntKind.u64.wrap (IntKind.u64.wrap z * 2)) = zig z)) ∨ (0 ≤ z ∧ Hid (IntKind.u64.wrap (IntKind.u64.wrap z * 2) = zig z)) := by
    rcases Int.lt_or_le z 0 with h | h
    · exact .inl ⟨h, ref_neg z b1 h⟩
    · exact .inr ⟨h, fold_pos_val z h b2⟩
  clear hown b1 b2
  obtain ⟨N, hN⟩ := Int.eq_ofNat_of_zero_le (zig_bd HZ.out.1 HZ.out.2).1
  have hp := zig_pow HZ.out
  have HN := Lib.hid hN
  have HP := Lib.hid hp
  clear hN hp
  rcases hcase with ⟨hneg, hv⟩ | ⟨hneg, hv⟩
  all_goals
    have HV := Lib.hid hv.out
    clear hv
    go_enter Try.func14, Try.ntmps14
    go_wp2_with fail
    go_loopw [0, 5] (fun x y wr => ∃ (f k : Nat) (U : Nat) (ys : List Int), y = .int .u64 (U : Int) ∧ Hid ((U : Int) < 128 ^ (f + 1)) ∧ n ≤ k ∧ k + f ≤ n + 9 ∧ Hid (wr.ownsRow B 5 1 x k (bts ys)) ∧ Hid (KeptUpto B 5 w wr v n) ∧ Hid (Kin w v x) ∧ Hid (ys ++ sev f U = xs ++ enc z) ∧ Hid (Below B w wr)) (fun _ y _ => (intOf y).toNat)
    case atStart => exact ⟨9, n, N, xs, by rw [HV.out, HN.out], by rw [← HN.out]; exact HP.out, by omega, by omega, HO.out, KeptUpto.refl _ _ _ _ _, Kin.refl _ _, by rw [← HN.out]; rfl, Below.refl _ _⟩
    case round =>
      clear HP
      obtain ⟨f, k, U, ys, rfl, hU, hnk, hk, hown1, hown2, hkin, heq, hbel⟩ := hrel
      have hsz := hbel.out.size
      have hwsz : Hid (w.heap.size ≤ wr.heap.size) := hsz
      by_cases hlt : (U : Int) < 128
      · have HR1 : Hid (Reads (wr.alloc (.cells #[Value.int .u8 (U : Int)] 5)) (some ⟨wr.heap.size, 0, none⟩) 1 [(U : Int)]) := one_reads wr _
        have HE := Lib.hid (sev_end f U hlt heq.out).1
        have HL := Lib.hid (len_end HO.out.1 hown1.out.1 HE.out)
        go_wp2_with (at_builtin; go_must (refine wpList_append_keep rfl _ _ 22 rfl B 5 i0 Try.underlying22 hi hz0 hz1 hz2 u0 k ys rfl (hown1.out.alloc _) _ 1 1 [(U : Int)] rfl HR1.out (fun h => by cases h) (by omega) (by simp; omega) ?_; intro v1 w1 ho1 hg1 hk1 hn1))
        have HK := Lib.hid ((hown2.out.step (KeptUpto.below (v := u0) (n := k) ((Below.refl _ _).alloc (Nat.le_refl _) (.cells #[Value.int .u8 (U : Int)] 5))) hkin.out hnk).step hk1 hkin.out hnk)
        have HKIN := Lib.hid (hkin.out.trans hn1 (by simp; omega))
        have HB := Lib.hid ((hbel.out.alloc (by omega) (.cells #[Value.int .u8 (U : Int)] 5)).grown hg1 (by simp; omega) (fun k hk => (hown1.out.lt k hk).1))
        rw [HE.out] at ho1
        have HO1 := Lib.hid ho1
        clear ho1 hg1 hk1 hn1
        go_wp2
        go_ret
        exact ⟨v1, rfl, by rw [HL.out]; exact HO1.out, HK.out, HKIN.out, HB.out⟩
      · have e := seven_rem U
        have HR1 : Hid (Reads (wr.alloc (.cells #[Value.int .u8 ((U : Int) % 128 + 128)] 5)) (some ⟨wr.heap.size, 0, none⟩) 1 [(U : Int) % 128 + 128]) := one_reads wr _
        go_wp2_with (at_builtin; go_must (refine wpList_append_keep rfl _ _ 22 rfl B 5 i0 Try.underlying22 hi hz0 hz1 hz2 u0 k ys rfl (hown1.out.alloc _) _ 1 1 [(U : Int) % 128 + 128] rfl HR1.out (fun h => by cases h) (by omega) (by simp; omega) ?_; intro v1 w1 ho1 hg1 hk1 hn1))
        have HK := Lib.hid ((hown2.out.step (KeptUpto.below (v := u0) (n := k) ((Below.refl _ _).alloc (Nat.le_refl _) (.cells #[Value.int .u8 ((U : Int) % 128 + 128)] 5))) hkin.out hnk).step hk1 hkin.out hnk)
        have HKIN := Lib.hid (hkin.out.trans hn1 (by simp; omega))
        have HB := Lib.hid ((hbel.out.alloc (by omega) (.cells #[Value.int .u8 ((U : Int) % 128 + 128)] 5)).grown hg1 (by simp; omega) (fun k hk => (hown1.out.lt k hk).1))
        obtain ⟨f', rfl, hU', E⟩ := sev_step f U (by omega) hU.out heq.out
        have HO1 := Lib.hid ho1
        have EH := Lib.hid E
        have UH := Lib.hid hU'
        clear ho1 hg1 hk1 hn1 E hU' hU e heq hown1 hown2 hkin
        go_wp2
        go_roundw
        case rel => exact ⟨f', k + 1, U / 128, ys ++ [(U : Int) % 128 + 128], by go_num, UH.out, by omega, by omega, HO1.out, HK.out, HKIN.out, EH.out, HB.out⟩
        case measure => simp [intOf]; omega

end Go.Proofs.Ytlaafpfpoehonaa
