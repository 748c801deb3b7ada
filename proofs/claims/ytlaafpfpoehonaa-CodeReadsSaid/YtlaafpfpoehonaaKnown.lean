/- The chapter's examples, and a number cut to a range: the functions known and within. -/
import Derived.Test.YtlaafpfpoehonaaInt
namespace Go.Proofs.Ytlaafpfpoehonaa
open Go.RowKit Num
set_option linter.unusedVariables false
set_option linter.unusedSimpArgs false

theorem owned_slice {w : World} {B : Nat} {v : Value} {n : Nat} {xs : List Int} (h : w.ownsRow B 5 1 v n (bts xs)) (hn : 0 < n) :
    ∃ g cap, v = .slice (some ⟨g, 0, none⟩) n cap ∧ B ≤ g ∧ g < w.heap.size ∧ n ≤ cap ∧ cap ≤ maxLen ∧ ∀ i, i < n → w.cell? ⟨g, i, none⟩ = some (.int .u8 (xs.getD i 0)) := by
  have hl : xs.length = n := by have := h.1; rw [bts_length] at this; omega
  have hc := fun g => h.cells (g := g)
  have hlt := h.lt
  rcases h.2 with ⟨rfl, rfl⟩ | ⟨g, cap, cur, rfl, hb, hg, h1, h2, h3, h4⟩
  · omega
  · refine ⟨g, cap, rfl, hb, (hlt g rfl).2, h1, h2, fun i hi => ?_⟩
    have := hc g rfl i (.int .u8 (xs.getD i 0)) (by simp [bts, List.getD, hl, hi])
    rwa [Addr.add_lit, Nat.zero_add] at this

theorem enc_neg1 : enc (-1) = [1] := by decide
theorem enc_64 : enc 64 = [128, 1] := by decide

theorem i64_small {z : Int} (h1 : -1000000 ≤ z) (h2 : z ≤ 1000000) : I64 z := ⟨by omega, by omega⟩

set_option maxRecDepth 100000 in
set_option maxHeartbeats 400000 in
theorem known_any (w : World) : Calls Try.prog 12 #[] w fun e w' => e = .returned (.bool true) ∧ Below w.heap.size w w' := by
  go_enter Try.func12, Try.ntmps12
  go_wp2_with fail
  refine (int_any none 0 0 [] (-1) _ (reads_nil _) (by omega) (i64_small (by omega) (by omega))).mono ?_
  rintro e w1 ⟨v1, rfl, ho1, hb1⟩
  rw [enc_neg1] at ho1
  obtain ⟨g1, c1, rfl, hg1, hs1, _, _, hc1⟩ := owned_slice ho1 (by decide)
  have k1 := hc1 0 (by decide)
  clear ho1 hc1
  simp at k1
  have HK := Lib.hid k1
  clear k1
  go_wp2_with fail
  refine (int_any none 0 0 [] 64 _ (reads_nil _) (by omega) (i64_small (by omega) (by omega))).mono ?_
  rintro e w2 ⟨v2, rfl, ho2, hb2⟩
  rw [enc_64] at ho2
  obtain ⟨g2, c2, rfl, hg2, hs2, _, _, hc2⟩ := owned_slice ho2 (by decide)
  have k2 := hc2 0 (by decide)
  have k3 := hc2 1 (by decide)
  have k1 : w2.cell? ⟨g1, 0, none⟩ = some (.int .u8 1) := by rw [hb2.cell hs1]; exact HK.out
  clear ho2 hc2
  simp at k2 k3
  have HB : Hid (Below w.heap.size w w2) := hb1.trans (hb2.mono hb1.size)
  clear hb1 hb2
  go_wp2
  go_ret
  exact ⟨rfl, HB.out⟩

theorem tmod_bd (k n : Int) (hn : 1 ≤ n) : -n < k.tmod n ∧ k.tmod n < n := by
  have h1 := Int.tmod_lt_of_pos k (show 0 < n by omega)
  have h2 := Int.lt_tmod_of_pos k (show 0 < n by omega)
  omega

theorem mod_of_tmod (k n : Int) (hn : 1 ≤ n) : k % n = if k.tmod n < 0 then k.tmod n + n else k.tmod n := by
  have hb := tmod_bd k n hn
  have hd := Int.mul_tdiv_add_tmod k n
  have e : k % n = k.tmod n % n := by
    conv => lhs; rw [← hd]
    rw [Int.add_comm, Int.add_mul_emod_self_left]
  rw [e]
  split
  · rw [← Int.add_emod_right, Int.emod_eq_of_lt (by omega) (by omega)]
  · rw [Int.emod_eq_of_lt (by omega) (by omega)]

set_option maxHeartbeats 400000 in
theorem within_any (k n : Int) (w : World) (h1 : 1 ≤ n) (h2 : n ≤ 1000) :
    Calls Try.prog 21 #[.int .i64 k, .int .i64 n] w fun e w' => e = .returned (.int .i64 (k % n)) ∧ w = w' := by
  have hb := tmod_bd k n h1
  have hm := Lib.hid (mod_of_tmod k n h1)
  by_cases h : k.tmod n < 0
  · go_enter Try.func21, Try.ntmps21
    go_wp2
    go_ret
    exact ⟨ret_i64 (by rw [hm.out, if_pos h]), rfl⟩
  · by_cases hk : 0 ≤ k
    · have hge : 0 ≤ k % n := Int.emod_nonneg _ (by omega)
      have hlt : k % n < n := Int.emod_lt_of_pos _ (by omega)
      go_enter Try.func21, Try.ntmps21
      go_wp2
      go_ret
      exact ⟨rfl, rfl⟩
    · go_enter Try.func21, Try.ntmps21
      go_wp2
      go_ret
      exact ⟨ret_i64 (by rw [hm.out, if_neg (by omega)]), rfl⟩
end Go.Proofs.Ytlaafpfpoehonaa
