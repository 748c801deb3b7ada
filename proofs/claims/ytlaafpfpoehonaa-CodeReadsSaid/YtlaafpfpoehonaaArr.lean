/- Two sums held against each other. -/
import Derived.Test.YtlaafpfpoehonaaRHash
import Derived.ChangeKeysEq
import Derived.Laws.StructEq
namespace Go.Proofs.Ytlaafpfpoehonaa
open Go.RowKit Num
set_option linter.unusedVariables false
set_option linter.unusedSimpArgs false

theorem plain_byte : Try.prog.plainKey 5 = true := by kernel_rfl
theorem cells_byte : Try.prog.cellsOf 5 = 1 := by kernel_rfl
theorem array_sum : ∃ n, n = 32 ∧ Try.prog.underlying 24 = some (.array n 5) := ⟨32, rfl, by kernel_rfl⟩

theorem Sum.at {cs : Array Value} {hs : List Int} (h : Sum cs hs) (i : Nat) (hi : i < 32) : cs[i]? = some (.int .u8 (hs.getD i 0)) := by
  have hc := congrArg (fun l => l[i]?) h.cells
  simp only [Array.getElem?_toList] at hc
  rw [hc]
  have hl := h.len
  simp [bts, List.getD, show i < hs.length by omega]

theorem eqItems_bytes (d : Nat) {cs ds : Array Value} {xs ys : List Int} (hx : Sum cs xs) (hy : Sum ds ys) (w : World) : ∀ (is : List Nat), (∀ i ∈ is, i < 32) →
    (Op.eqItems (d + 1) 5 1 cs ds is).run Try.prog w = .ok (is.all fun i => xs.getD i 0 == ys.getD i 0) w := by
  intro is
  induction is with
  | nil => intro _; simp [Op.eqItems]
  | cons i is ih =>
    intro hi
    have h1 := hi i (by simp)
    have p1 := run_part_plain (P := Try.prog) w plain_byte (hx.at i h1)
    have p2 := run_part_plain (P := Try.prog) w plain_byte (hy.at i h1)
    have p3 := run_equalIn_int (P := Try.prog) w d 5 .u8 _ (xs.getD i 0) (ys.getD i 0) Try.underlying5
    simp only [Op.eqItems, Nat.mul_one, Sem.run_bind, p1, p2, p3, Result.andThen_ok, List.all_cons]
    cases hb : xs.getD i 0 == ys.getD i 0
    · simp
    · simp only [Bool.not_true, Bool.false_eq_true, if_false, Bool.true_and]
      exact ih (fun j hj => hi j (by simp [hj]))

theorem all_eq {xs ys : List Int} (hx : xs.length = 32) (hy : ys.length = 32) : ((List.range 32).all fun i => xs.getD i 0 == ys.getD i 0) = decide (xs = ys) := by
  rw [Bool.eq_iff_iff]
  simp only [List.all_eq_true, List.mem_range, beq_iff_eq, decide_eq_true_eq]
  constructor
  · intro h
    apply List.ext_getElem (by rw [hx, hy])
    intro i h1 h2
    have := h i (by omega)
    simpa [List.getD, h1, h2] using this
  · rintro rfl i _; rfl

theorem equalIn_sum {cs ds : Array Value} {xs ys : List Int} (hx : Sum cs xs) (hy : Sum ds ys) (w : World) : (Op.equalIn 10000 24 (.agg cs) (.agg ds)).run Try.prog w = .ok (decide (xs = ys)) w := by
  obtain ⟨i0, hi, -⟩ := info_parts Try.infoByte
  obtain ⟨n, hn, hu⟩ := array_sum
  have r := run_equalIn_array (P := Try.prog) w 9999 cs ds hu hi
  rw [cells_byte, hn, eqItems_bytes 9998 hx hy w _ (by intro i hi; simpa using hi), all_eq hx.len hy.len] at r
  exact r

theorem eql_sum {cs ds : Array Value} {xs ys : List Int} (hx : Sum cs xs) (hy : Sum ds ys) (w : World) : (binOp .eql 24 (.agg cs) (.agg ds)).run Try.prog w = .ok (.bool (decide (xs = ys))) w := by
  rw [run_eql_struct, equalIn_sum hx hy w]; rfl
theorem neq_sum {cs ds : Array Value} {xs ys : List Int} (hx : Sum cs xs) (hy : Sum ds ys) (w : World) : (binOp .neq 24 (.agg cs) (.agg ds)).run Try.prog w = .ok (.bool (!decide (xs = ys))) w := by
  rw [run_neq_struct, equalIn_sum hx hy w]; rfl

/-- a sum stored into a variable of noughts: the world behind it under a name -/
theorem wpList_store_sum {ops : Array Oper} {rest : List Oper} {o : Oper} {a : Act} {w : World} {Q : Exit → Act → World → Prop} (hgd : o.guard = none) (x y : Operand) (ho : o.op = .store 24 x y)
    (g : Nat) (cells : Array Value) (hs : List Int) (hx : a.eval x = .pointer (some ⟨g, 0, none⟩)) (hy : a.eval y = .agg cells) (hsum : Sum cells hs)
    (old : Array Value) (hg : w.heap[g]? = some (.cells old 24 (0, 0))) (hold : old.size = 32)
    (h : ∀ w', w'.heap[g]? = some (.cells cells 24 (0, 0)) → Below g w w' → wpList Try.prog ops Q rest (a.put o.dst undef) w') : wpList Try.prog ops Q (o :: rest) a w :=
  wpList_store_row hgd 24 x y ho g cells hx hy 24 old hg (sum_info hsum) (by rw [hold, sum_size hsum]) (sum_one hsum)
    (h _ (setRow_heap _ _ _ _ _ _ hg) (below_setRow (Below.refl _ _) (Nat.le_refl _) _))

theorem eqGuard_sum : Try.prog.eqGuardType Try.prog.depth 24 = false := by kernel_rfl

theorem eql_noughts (w : World) : (binOp .eql 24 (.agg noughts.toArray) (.agg #[.int .u8 0, .int .u8 0, .int .u8 0, .int .u8 0, .int .u8 0, .int .u8 0, .int .u8 0, .int .u8 0, .int .u8 0, .int .u8 0, .int .u8 0, .int .u8 0, .int .u8 0, .int .u8 0, .int .u8 0, .int .u8 0, .int .u8 0, .int .u8 0, .int .u8 0, .int .u8 0, .int .u8 0, .int .u8 0, .int .u8 0, .int .u8 0, .int .u8 0, .int .u8 0, .int .u8 0, .int .u8 0, .int .u8 0, .int .u8 0, .int .u8 0, .int .u8 0])).run Try.prog w = .ok (.bool true) w := by
  rw [← noughts_eq, eql_sum zeros_sum zeros_sum]; simp

/-- a sum loaded behind a guard that holds -/
theorem wpList_load_sum_if {ops : Array Oper} {rest : List Oper} {o : Oper} {a : Act} {w : World} {Q : Exit → Act → World → Prop} (hgd : Region.wanted o (yielded ops a.tmps) = true) (x : Operand) (ho : o.op = .load 24 x)
    (g : Nat) (cells : Array Value) (hs : List Int) (hx : a.eval x = .pointer (some ⟨g, 0, none⟩)) (hg : w.heap[g]? = some (.cells cells 24 (0, 0))) (hsum : Sum cells hs)
    (h : wpList Try.prog ops Q rest (a.put o.dst (.agg cells)) w) : wpList Try.prog ops Q (o :: rest) a w :=
  wpList_step fun K hK => by
    rw [if_pos hgd]
    exact wp_load_row 24 x ho g hx 24 cells (0, 0) _ hg Try.underlying24 rfl (sum_info hsum) (hK _ _ h)

end Go.Proofs.Ytlaafpfpoehonaa
