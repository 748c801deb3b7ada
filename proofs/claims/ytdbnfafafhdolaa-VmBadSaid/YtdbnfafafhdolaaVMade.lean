/- append(s, make([]byte, l)...): so many noughts behind what the call owns. -/
import Derived.Test.YtdbnfafafhdolaaLStacks
import Derived.Laws.AppendOwn
namespace Go.Proofs.Ytdbnfafafhdolaa
open Go Go.RowKit
set_option linter.unusedVariables false
set_option linter.unusedSimpArgs false

theorem zeros_one (l : Nat) : (Builtin.zeroCells #[Value.int .u8 0] l).toList = List.replicate l (Value.int .u8 0) := by
  apply List.ext_getElem?
  intro i
  simp only [Builtin.zeroCells, Array.toList_map, List.getElem?_map, Array.toList_range, List.getElem?_replicate]
  by_cases h : i < l
  · rw [if_pos h]
    simp [h, Nat.mod_one]
  · rw [if_neg h]
    simp [show l ≤ i by omega]

theorem made_room {w : World} {g n cap l : Nat} {cur : Array Value} (ty : TypeId) (hg : w.heap[g]? = some (.cells cur 5 (0, 0))) (hroom : n + l ≤ cap) (hfit : n + l ≤ cur.size) (hl : l ≤ 1000) :
    (Builtin.append_ #[22, 3] ty #[.slice (some ⟨g, 0, none⟩) n cap, .int .i64 (l : Int)]).run Try.prog w =
      .ok (.slice (some ⟨g, 0, none⟩) (n + l) cap) (w.setRow g (cur.toList.take n ++ List.replicate l (Value.int .u8 0) ++ cur.toList.drop (n + l)).toArray) := by
  obtain ⟨i, hi, hz, hsize, hby⟩ := info_parts Try.infoByte
  have hst := run_storeCells_at Try.prog g n 5 (List.replicate l (Value.int .u8 0)) 0 cur w hg (by simpa using hfit) (fun v hv => by rw [List.eq_of_mem_replicate hv]; rfl)
  simp only [Nat.add_zero, List.length_replicate] at hst
  have hw : IntKind.i64.wrap (l : Int) = l := by rw [IntKind.wrap_i64]; omega
  have h0 : ¬ ((l : Int) < 0) := by omega
  have h48 : ¬ (281474976710656 < (l : Int)) := by omega
  by_cases hl0 : l = 0
  · subst hl0
    simp only [List.replicate_zero] at hst
    simp at hroom
    have hw0 : IntKind.i64.wrap 0 = 0 := by decide
    simp [Builtin.append_, run_underlying Try.underlying22, run_underlying Try.underlying3, sizeOf, typeInfo, zeroValue, hi, hz, hsize, hby, asInt, asIntOf, hw0, hroom, Addr.add_lit, hst]
  · simp [Builtin.append_, run_underlying Try.underlying22, run_underlying Try.underlying3, sizeOf, typeInfo, zeroValue, hi, hz, hsize, hby, asInt, asIntOf, hw, h0, h48, hl0, hroom, Addr.add_lit, zeros_one, Value.cells, hst]

theorem made_grow {w : World} {g n cap l : Nat} (ty : TypeId) (olds : List Value) (ho : olds.length = n) (holds : ∀ j v, olds[j]? = some v → w.cell? ((⟨g, 0, none⟩ : Addr).add j) = some v) (hl1 : 0 < l) (hroom : cap < n + l) (hl : l ≤ 1000) (hn : n ≤ 1000) :
    (Builtin.append_ #[22, 3] ty #[.slice (some ⟨g, 0, none⟩) n cap, .int .i64 (l : Int)]).run Try.prog w =
      .ok (.slice (some ⟨w.heap.size, 0, none⟩) (n + l) (grownCap w (n + l) cap 5))
        (w.drew.alloc (.cells (olds.toArray ++ (List.replicate l (Value.int .u8 0)).toArray ++ Builtin.zeroCells #[Value.int .u8 0] (grownCap w (n + l) cap 5 - (n + l))) 5)) := by
  obtain ⟨i, hi, hz, hsize, hby⟩ := info_parts Try.infoByte
  have hfo := run_firstCells_some (P := Try.prog) w.drew 1 n ⟨g, 0, none⟩ n cap olds (by omega) (by simpa using holds)
  have hw : IntKind.i64.wrap (l : Int) = l := by rw [IntKind.wrap_i64]; omega
  have h0 : ¬ ((l : Int) < 0) := by omega
  have h48 : ¬ (281474976710656 < (l : Int)) := by omega
  have hn' : ¬ (n + l ≤ cap) := by omega
  have h63' : ¬ (9223372036854775807 < ((n : Int) + (l : Int))) := by omega
  have hfit := growslice_fits (bytes := 1) hroom (by omega)
  have h48' : ¬ (281474976710656 < Builtin.nextslicecap (n + l) cap) := by omega
  have hl0 : ¬ l = 0 := by omega
  simp [Builtin.append_, run_underlying Try.underlying22, run_underlying Try.underlying3, sizeOf, typeInfo, zeroValue, hi, hz, hsize, hby, asInt, asIntOf, hw, h0, h48, hl0, hn', h63', h48', Question.forced, hfo, newRow, grownCap, Value.cells]
  congr 2
  apply Array.ext'
  simp [List.append_assoc, zeros_one]

theorem made_own {w : World} {B : Nat} {v : Value} {n l : Nat} {xs : List Int} (ty : TypeId) (hown : w.ownsRow B 5 1 v n (bts xs)) (hn0 : 0 < n) (hn : n ≤ 1000) (hl : l ≤ 1000) (hB : B ≤ w.heap.size) :
    ∃ v' w', (Builtin.append_ #[22, 3] ty #[v, .int .i64 (l : Int)]).run Try.prog w = .ok v' w' ∧ w'.ownsRow B 5 1 v' (n + l) (bts (xs ++ List.replicate l 0)) ∧ w.grownBy w' v.ownBlock := by
  have hx := hown.1
  have hz : bts (List.replicate l (0 : Int)) = List.replicate l (Value.int .u8 0) := by simp [bts]
  have hlen : (bts (xs ++ List.replicate l 0)).length = (n + l) * 1 := by rw [bts_append, List.length_append, hx, hz, List.length_replicate]; omega
  rcases hown.2 with ⟨-, h0⟩ | ⟨g, cap, cur, rfl, hbg, hg, hnc, hcm, hcs, htake⟩
  · omega
  · rw [Nat.mul_one] at hcs htake
    by_cases hroom : n + l ≤ cap
    · refine ⟨_, _, made_room ty hg hroom (by omega) hl, ⟨hlen, .inr ⟨g, cap, _, rfl, hbg, setRow_heap w g _ _ _ _ hg, hroom, hcm, ?_, ?_⟩⟩, ⟨rfl, rfl, rfl, by simp, fun k hk hne => setRow_other w g k _ (fun e => hne (by simp [e, Value.ownBlock]))⟩⟩
      · simp only [List.size_toArray, List.length_append, List.length_take, List.length_replicate, List.length_drop, Array.length_toList]
        omega
      · rw [Nat.mul_one, htake, bts_append, hz]
        have e : (bts xs ++ List.replicate l (Value.int .u8 0) ++ cur.toList.drop (n + l)).toArray.toList = (bts xs ++ List.replicate l (Value.int .u8 0)) ++ cur.toList.drop (n + l) := rfl
        rw [e, List.take_left' (by rw [List.length_append, List.length_replicate, hx]; omega)]
    · have hge := grownCap_ge w (n + l) cap 5
      refine ⟨_, _, made_grow ty (bts xs) (by rw [hx]; omega) (fun j u hj => hown.cells rfl j u hj) (by omega) (by omega) hl hn, ⟨hlen, .inr ⟨w.heap.size, _, _, rfl, hB, heap_alloc_new w.drew _, hge, grownCap_le_maxLen w (n + l) cap 5 (by unfold maxLen; omega), ?_, ?_⟩⟩, ⟨rfl, rfl, rfl, by simp, fun k hk _ => heap_alloc_old w.drew _ hk⟩⟩
      · simp only [Array.size_append, List.size_toArray, size_zeroCells, List.length_replicate, hx, List.size_toArray]
        simp
        omega
      · rw [Nat.mul_one, bts_append, hz]
        simp only [Array.toList_append, List.append_assoc]
        rw [← List.append_assoc]
        exact List.take_left' (by rw [List.length_append, List.length_replicate, hx]; omega)

/-- as a step of a walk -/
theorem wpList_made {w : World} {ops : Array Oper} {rest : List Oper} {o : Oper} {a : Act} {Q : Exit → Act → World → Prop} (hgd : o.guard = none) (s x : Operand)
    (ho : o.op = .call { callee := .builtin .append, args := #[s, x], argTypes := #[22, 3] })
    (B : Nat) (v : Value) (n : Nat) (xs : List Int) (l : Nat) (hs : a.eval s = v) (hown : w.ownsRow B 5 1 v n (bts xs)) (hx : a.eval x = .int .i64 (l : Int)) (hn0 : 0 < n) (hn : n ≤ 1000) (hl : l ≤ 1000) (hB : B ≤ w.heap.size)
    (h : ∀ v' w', w'.ownsRow B 5 1 v' (n + l) (bts (xs ++ List.replicate l 0)) → Below B w w' → wpList Try.prog ops Q rest (a.put o.dst v') w') : wpList Try.prog ops Q (o :: rest) a w := by
  refine wpList_plain hgd fun K hK' => ?_
  obtain ⟨v', w', hrun, h1, h2⟩ := made_own o.type hown hn0 hn hl hB
  unfold Oper.wp
  simp [execOp, ho, resolve, invoke, builtin, hs, hx, hrun, Result.andThen]
  exact hK' _ _ (h v' w' h1 ((Below.refl B w).grown h2 hB (fun k hk => (hown.lt k hk).1)))
end Go.Proofs.Ytdbnfafafhdolaa
