/- What a machine is, how it goes a step, and how it stands in memory. -/
import Derived.Test.YtdbnfafafhdolaaVNum
import Derived.Test.YtdbnfafafhdolaaOrd
import Derived.StillTailTactics
namespace Go.Proofs.Ytdbnfafafhdolaa
open Go Go.RowKit
set_option linter.unusedVariables false
set_option linter.unusedSimpArgs false

/-- numbers as cells -/
def nts (xs : List Int) : List Value := xs.map (Value.int .i64)
theorem nts_length (xs : List Int) : (nts xs).length = xs.length := by simp [nts]
theorem nts_append (xs ys : List Int) : nts (xs ++ ys) = nts xs ++ nts ys := by simp [nts]
theorem nts_one (xs : List Int) : ∀ v ∈ nts xs, v.oneCell' = true := ints_oneCell _ _
theorem nts_at {xs : List Int} {i : Nat} (h : i < xs.length) : (nts xs)[i]? = some (.int .i64 (xs.getD i 0)) := by simp [nts, List.getD, h]

theorem own_later {w w' : World} {B n s : Nat} {e : TypeId} {v : Value} {xs : List Value} (h : w.ownsRow B e s v n xs) (hb : Below w.heap.size w w') : w'.ownsRow B e s v n xs :=
  h.kept (row := none) ⟨hb.os, hb.tape, hb.output, hb.size, fun k hk _ => hb.block k hk⟩ (by cases hv : v.ownBlock <;> simp)
theorem own_mono {B b n s : Nat} {e : TypeId} {v : Value} {xs : List Value} {w : World} (h : w.ownsRow b e s v n xs) (hB : B ≤ b) : w.ownsRow B e s v n xs := by
  refine ⟨h.1, ?_⟩
  rcases h.2 with h0 | ⟨g, cap, cur, h1, h2, h3⟩
  · exact .inl h0
  · exact .inr ⟨g, cap, cur, h1, Nat.le_trans hB h2, h3⟩
theorem own_only {w w' : World} {B n s r : Nat} {e : TypeId} {v : Value} {xs : List Value} (h : w.ownsRow B e s v n xs) (ho : Only r w w') (hne : v.ownBlock ≠ some r) : w'.ownsRow B e s v n xs :=
  h.kept (row := some r) ho (.inr hne)
theorem own_slice {w : World} {B n s : Nat} {e : TypeId} {v : Value} {xs : List Value} (h : w.ownsRow B e s v n xs) : ∃ a c, v = .slice a n c := by
  rcases h.2 with ⟨rfl, h0⟩ | ⟨k, cap, cur, rfl, _⟩
  · exact ⟨none, 0, by rw [h0]⟩
  · exact ⟨_, cap, rfl⟩
/-- a block of another type is not the row's -/
theorem own_not {w : World} {B n s g : Nat} {e t : TypeId} {v : Value} {xs : List Value} {cs : Array Value} {fr : Nat × Nat} (h : w.ownsRow B e s v n xs) (hr : w.heap[g]? = some (.cells cs t fr)) (hne : e ≠ t) : v.ownBlock ≠ some g := by
  rcases h.2 with ⟨rfl, _⟩ | ⟨k, cap, cur, rfl, _, hg, _⟩
  · simp [Value.ownBlock]
  · intro hk
    simp only [Value.ownBlock, Option.some.injEq] at hk
    subst hk
    rw [hg] at hr
    simp only [Option.some.injEq, Obj.cells.injEq] at hr
    exact hne hr.2.1
theorem own_apart {w : World} {B B' n m s s' : Nat} {e e' : TypeId} {u v : Value} {xs ys : List Value} (h : w.ownsRow B e s u n xs) (k : w.ownsRow B' e' s' v m ys) (hne : e ≠ e') : u.ownBlock = none ∨ u.ownBlock ≠ v.ownBlock := by
  rcases h.2 with ⟨rfl, _⟩ | ⟨g, cap, cur, rfl, _, hg, _⟩
  · exact .inl rfl
  · right
    rcases k.2 with ⟨rfl, _⟩ | ⟨g', cap', cur', rfl, _, hg', _⟩
    · simp [Value.ownBlock]
    · intro hh
      simp only [Value.ownBlock, Option.some.injEq] at hh
      rw [← hh, hg] at hg'
      simp only [Option.some.injEq, Obj.cells.injEq] at hg'
      exact hne hg'.2.1

theorem own_came {w : World} {B n : Nat} {v : Value} {xs : List Int} (h : w.ownsRow B 5 1 v n (bts xs)) (hb : ∀ c ∈ xs, Byte c) : ∃ a c, v = .slice a n c ∧ Came w a n c xs := by
  have hl := h.1
  rw [bts_length, Nat.mul_one] at hl
  rcases h.2 with ⟨rfl, h0⟩ | ⟨g, cap, cur, rfl, h1, h2, h3, h4, _⟩
  · subst h0
    have e : xs = [] := List.eq_nil_of_length_eq_zero hl
    subst e
    exact ⟨none, 0, rfl, reads_nil w, Nat.le_refl _, by unfold maxLen; omega, fun _ => ⟨rfl, rfl⟩, by simp⟩
  · exact ⟨_, cap, rfl, ⟨hl, fun _ => ⟨_, rfl, h.cells rfl⟩⟩, h3, h4, (fun h => by cases h), hb⟩

theorem own_nums {w : World} {B n : Nat} {v : Value} {xs : List Int} (h : w.ownsRow B 3 1 v n (nts xs)) (hb : ∀ z ∈ xs, I64 z) : ∃ a c, v = .slice a n c ∧ Nums w a n c xs := by
  have hl := h.1
  rw [nts_length, Nat.mul_one] at hl
  rcases h.2 with ⟨rfl, h0⟩ | ⟨g, cap, cur, rfl, h1, h2, h3, h4, _⟩
  · subst h0
    have e : xs = [] := List.eq_nil_of_length_eq_zero hl
    subst e
    exact ⟨none, 0, rfl, rfl, Nat.le_refl _, by unfold maxLen; omega, fun i hi => absurd hi (by omega), by simp⟩
  · exact ⟨_, cap, rfl, hl, h3, h4, fun i hi => ⟨_, rfl, h.cells rfl i _ (nts_at (by omega))⟩, hb⟩

/-- what a machine is on its way, besides its code and its two numbers -/
structure Ms where
  pc : Nat
  stk : List Int
  gas : Int
  fin : Bool
  err : Int

/-- the sign at hand -/
def sgn (c : List Int) (m : Ms) : Int := c.getD m.pc 0
/-- the number that belongs to it -/
def saidP (c : List Int) (m : Ms) : Int := numP ((c.drop (m.pc + 1)).take (tailP (sgn c m)))
/-- what it takes -/
def tookP (c : List Int) (m : Ms) : List Int := m.stk.drop (m.stk.length - takesP (sgn c m))
/-- what it puts, and the error -/
def outP (s said : Int) (took : List Int) (arg data n : Int) : List Int × Int :=
  if s = 1 then ([said], 0)
  else if 2 ≤ s ∧ s ≤ 7 then ([(pairP s (took.getD 0 0) (took.getD 1 0)).1], (pairP s (took.getD 0 0) (took.getD 1 0)).2)
  else if s = 8 then ([took.getD 0 0, took.getD 0 0], 0)
  else if s = 9 then ([took.getD 1 0, took.getD 0 0], 0)
  else if s = 10 then ([], 0)
  else if s = 11 then ([arg], 0)
  else if s = 12 then ([data], 0)
  else if s = 13 then ([], if took.getD 0 0 = 0 ∧ n < said then 10 else 0)
  else if s = 14 then ([wrap64 (wrap32 (took.getD 0 0))], 0)
  else if s = 15 then ([took.getD 0 0 % 256], 0)
  else ([], 10)
/-- the error of the sign at hand -/
def actE (c : List Int) (arg data : Int) (m : Ms) : Int :=
  if c.length < m.pc + 1 + tailP (sgn c m) then 8
  else if m.stk.length < takesP (sgn c m) ∨ 16 < m.stk.length - takesP (sgn c m) + putsP (sgn c m) then 15
  else (outP (sgn c m) (saidP c m) (tookP c m) arg data c.length).2
/-- the machine behind it, if it has none -/
def actM (c : List Int) (arg data : Int) (m : Ms) : Ms :=
  { m with
    pc := if sgn c m = 13 ∧ (tookP c m).getD 0 0 = 0 then (saidP c m).toNat else m.pc + 1 + tailP (sgn c m)
    stk := m.stk.take (m.stk.length - takesP (sgn c m)) ++ (outP (sgn c m) (saidP c m) (tookP c m) arg data c.length).1 }
def Ms.halt (m : Ms) (e : Int) : Ms := { m with fin := true, err := e }
def paidP (c : List Int) (arg data : Int) (m : Ms) : Ms :=
  if m.pc = c.length ∨ sgn c m = 0 then m.halt 0
  else if actE c arg data m = 0 then actM c arg data m else m.halt (actE c arg data m)
def Ms.spend (m : Ms) : Ms := { m with gas := m.gas - 1, err := 0 }
def stepP (c : List Int) (arg data : Int) (m : Ms) : Ms :=
  if m.fin = true then m else if m.gas < 1 then m.halt 14 else paidP c arg data m.spend

/-- a machine's cells -/
def mcl (cv sv : Value) (arg data : Int) (m : Ms) : Array Value := #[cv, .int .i64 arg, .int .i64 data, .int .i64 (m.pc : Int), sv, .int .i64 m.gas, .bool m.fin, .int .i64 m.err]

/-- what it is to be fit -/
structure Fit (c : List Int) (arg data : Int) (m : Ms) : Prop where
  bytes : ∀ x ∈ c, Byte x
  len : c.length ≤ 100
  arg : I64 arg
  data : I64 data
  pc : m.pc ≤ c.length
  stk : m.stk.length ≤ 16
  nums : ∀ z ∈ m.stk, I64 z
  gas : 0 ≤ m.gas ∧ m.gas ≤ 200

/-- a machine in memory: its cells lie in block g, its code and its stack in rows of their own, the rows not older than B -/
structure Mac (t : TypeId) (B g : Nat) (c : List Int) (arg data : Int) (m : Ms) (cv sv : Value) (w : World) : Prop where
  row : w.heap[g]? = some (.cells (mcl cv sv arg data m) t (0, 0))
  kind : t = 34 ∨ t = 37
  code : w.ownsRow B 5 1 cv c.length (bts c)
  stk : w.ownsRow B 3 1 sv m.stk.length (nts m.stk)

section
variable {t : TypeId} {B g : Nat} {c : List Int} {arg data : Int} {m : Ms} {cv sv : Value} {w : World}
theorem Mac.lt (h : Mac t B g c arg data m cv sv w) : g < w.heap.size := (Array.getElem?_eq_some_iff.1 h.row).1
theorem Mac.k8 (h : Mac t B g c arg data m cv sv w) : 5 ≠ t := by rcases h.kind with rfl | rfl <;> decide
theorem Mac.k64 (h : Mac t B g c arg data m cv sv w) : 3 ≠ t := by rcases h.kind with rfl | rfl <;> decide
theorem Mac.later (h : Mac t B g c arg data m cv sv w) {w' : World} (hb : Below w.heap.size w w') : Mac t B g c arg data m cv sv w' :=
  ⟨by rw [hb.block g h.lt]; exact h.row, h.kind, own_later h.code hb, own_later h.stk hb⟩
theorem Mac.drewN (h : Mac t B g c arg data m cv sv w) (k : Nat) : Mac t B g c arg data m cv sv (w.drewN k) := h.later (below_drewN (Below.refl _ _) k)
theorem Mac.drew (h : Mac t B g c arg data m cv sv w) : Mac t B g c arg data m cv sv w.drew := h.later (Below.refl _ _).drew
theorem Mac.free (h : Mac t B g c arg data m cv sv w) (k : Nat) : w.frozen? ⟨g, k, none⟩ = false := by simp [World.frozen?, h.row]
theorem Mac.cells (h : Mac t B g c arg data m cv sv w) : w.cell? ⟨g, 0, none⟩ = some cv ∧ w.cell? ⟨g, 1, none⟩ = some (.int .i64 arg) ∧ w.cell? ⟨g, 2, none⟩ = some (.int .i64 data) ∧ w.cell? ⟨g, 3, none⟩ = some (.int .i64 (m.pc : Int)) ∧
    w.cell? ⟨g, 4, none⟩ = some sv ∧ w.cell? ⟨g, 5, none⟩ = some (.int .i64 m.gas) ∧ w.cell? ⟨g, 6, none⟩ = some (.bool m.fin) ∧ w.cell? ⟨g, 7, none⟩ = some (.int .i64 m.err) := by
  have hr := h.row
  unfold mcl at hr
  refine ⟨?_, ?_, ?_, ?_, ?_, ?_, ?_, ?_⟩ <;> simp [World.cell?, hr]
/-- one of its cells is written, but not a slice -/
theorem Mac.put (h : Mac t B g c arg data m cv sv w) (k : Nat) (v : Value) (m' : Ms) (hc : (mcl cv sv arg data m).setIfInBounds k v = mcl cv sv arg data m') (hs : m'.stk = m.stk) :
    Mac t B g c arg data m' cv sv (w.setCell ⟨g, k, none⟩ v) ∧ Only g w (w.setCell ⟨g, k, none⟩ v) := by
  have ho := only_setCell w g k _ _ v h.row
  refine ⟨⟨by rw [ho.2, hc], h.kind, own_only h.code ho.1 (own_not h.code h.row h.k8), ?_⟩, ho.1⟩
  rw [hs]
  exact own_only h.stk ho.1 (own_not h.stk h.row h.k64)
theorem Mac.grew (h : Mac t B g c arg data m cv sv w) {w' : World} {st : List Int} {sv' : Value} (hown : w'.ownsRow B 3 1 sv' st.length (nts st)) (hg : w.grownBy w' sv.ownBlock) :
    w'.heap[g]? = some (.cells (mcl cv sv arg data m) t (0, 0)) ∧ w'.ownsRow B 5 1 cv c.length (bts c) := by
  refine ⟨?_, h.code.kept hg (own_apart h.code h.stk (by decide))⟩
  rw [hg.block g h.lt (fun e => own_not h.stk h.row h.k64 e.symm)]
  exact h.row
end
/-- but for block g, all that is older than B is as it was -/
structure But (g B : Nat) (w w' : World) : Prop where
  os : w'.os = w.os
  tape : w'.tape = w.tape
  output : w'.output = w.output
  size : w.heap.size ≤ w'.heap.size
  block : ∀ i, i < B → i ≠ g → w'.heap[i]? = w.heap[i]?

theorem But.of_below {g B : Nat} {w w' : World} (h : Below B w w') : But g B w w' := ⟨h.os, h.tape, h.output, h.size, fun i hi _ => h.block i hi⟩
theorem But.of_only {g B : Nat} {w w' : World} (h : Only g w w') (hB : B ≤ w.heap.size) : But g B w w' := ⟨h.os, h.tape, h.output, h.size, fun i hi hne => h.block i (Nat.lt_of_lt_of_le hi hB) (fun e => hne (by simpa using e))⟩
theorem But.trans {g B : Nat} {a b c : World} (h : But g B a b) (k : But g B b c) : But g B a c := ⟨k.os.trans h.os, k.tape.trans h.tape, k.output.trans h.output, Nat.le_trans h.size k.size, fun i hi hne => (k.block i hi hne).trans (h.block i hi hne)⟩
theorem But.refl (g B : Nat) (w : World) : But g B w w := ⟨rfl, rfl, rfl, Nat.le_refl _, fun _ _ _ => rfl⟩
theorem But.below {g B : Nat} {w w' : World} (h : But g B w w') (hg : B ≤ g) : Below B w w' := ⟨h.os, h.tape, h.output, h.size, fun i hi => h.block i hi (by omega)⟩
theorem But.under {g B C : Nat} {w w' : World} (h : But g B w w') (hg : C ≤ g) (hC : C ≤ B) : Below C w w' := ⟨h.os, h.tape, h.output, h.size, fun i hi => h.block i (by omega) (by omega)⟩
end Go.Proofs.Ytdbnfafafhdolaa
