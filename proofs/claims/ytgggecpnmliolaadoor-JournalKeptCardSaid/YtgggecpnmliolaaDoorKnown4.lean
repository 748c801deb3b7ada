/- A number cut to a range; bytes that have just been laid. -/
import Derived.Test.YtgggecpnmliolaaDoorOps
import Derived.Lib.SlBytesConst
namespace Go.Proofs.YtgggecpnmliolaaDoor
open Go Go.RowKit
set_option linter.unusedVariables false
set_option linter.unusedSimpArgs false

set_option maxHeartbeats 400000 in
theorem within_any (k n : Int) (w : World) (h1 : 1 ≤ n) (h2 : n ≤ 100000) :
    Calls Tryd.prog 11 #[.int .i64 k, .int .i64 n] w fun e w' => e = .returned (.int .i64 (k % n)) ∧ w = w' := by
  have hb := tmod_bd k n h1
  have hm := Lib.hid (mod_of_tmod k n h1)
  by_cases h : k.tmod n < 0
  · go_enter Tryd.func11, Tryd.ntmps11
    go_wp2
    go_ret
    exact ⟨ret_i64 (by rw [hm.out, if_pos h]), rfl⟩
  · by_cases hk : 0 ≤ k
    · have hge : 0 ≤ k % n := Int.emod_nonneg _ (by omega)
      have hlt : k % n < n := Int.emod_lt_of_pos _ (by omega)
      go_enter Tryd.func11, Tryd.ntmps11
      go_wp2
      go_ret
      exact ⟨rfl, rfl⟩
    · go_enter Tryd.func11, Tryd.ntmps11
      go_wp2
      go_ret
      exact ⟨ret_i64 (by rw [hm.out, if_neg (by omega)]), rfl⟩

/-- bytes that have just been laid -/
theorem came_new (w : World) (xs : List Int) (n : Nat) (hn : xs.length = n) (hs : n ≤ 1000) (hb : ∀ c ∈ xs, Byte c) (fr : Nat × Nat) : Came (w.alloc (.cells (bts xs).toArray 5 fr)) (some ⟨w.heap.size, 0, none⟩) n n xs := by
  refine ⟨⟨hn, fun hp => ⟨_, rfl, fun j v hv => ?_⟩⟩, Nat.le_refl _, by unfold maxLen; omega, (fun h => by cases h), hb⟩
  have hh : (w.alloc (.cells (bts xs).toArray 5 fr)).heap[w.heap.size]? = some (.cells (bts xs).toArray 5 fr) := by
    show (w.heap.push _)[w.heap.size]? = _
    simp
  rw [Addr.add_lit, Nat.zero_add]
  simp only [World.cell?, hh]
  simpa using hv

end Go.Proofs.YtgggecpnmliolaaDoor
