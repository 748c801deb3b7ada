/- What speaks of no function of the program: bytes, sums, numbers, rows in memory, as the texts of the first stage have them. -/
import Derived.Test.YtdbnfafafhdolaaRows
import Derived.WalkKit
import Derived.WalkLawsBesides
import Derived.WalkSpells
import Derived.Laws.CopyOwn
import Derived.Laws.BitsAllLaws
import Derived.Laws.BytesArg
import Derived.Lib.Hide
import Derived.ProofKit
import Derived.OpenShut
import Derived.Deep.Matrix
import Derived.Deep.RegionWith
import Derived.Deep.DeepCutAuto
import Derived.BigQuiet
import Derived.Deep.MidRow
namespace Go.Proofs.Ytdbnfafafhdolaa
open Go.RowKit
set_option linter.unusedVariables false
set_option linter.unusedSimpArgs false

def I64 (n : Int) : Prop := -9223372036854775808 ≤ n ∧ n ≤ 9223372036854775807

def Byte (c : Int) : Prop := 0 ≤ c ∧ c < 256

/-- bytes as cells -/
def bts (xs : List Int) : List Value := xs.map (Value.int .u8)

theorem bts_length (xs : List Int) : (bts xs).length = xs.length := by simp [bts]

theorem bts_append (xs ys : List Int) : bts (xs ++ ys) = bts xs ++ bts ys := by simp [bts]

theorem bts_one (xs : List Int) : ∀ v ∈ bts xs, v.oneCell' = true := ints_oneCell _ _

/-- a slice value of n bytes at an address reads as a list -/
def Reads (w : World) (a : Option Addr) (n : Nat) (xs : List Int) : Prop :=
  xs.length = n ∧ (0 < n → ∃ ad, a = some ad ∧ ∀ j v, (bts xs)[j]? = some v → w.cell? (ad.add j) = some v)

theorem Reads.lift {w w' : World} {a : Option Addr} {n : Nat} {xs : List Int} (h : Reads w a n xs) (hb : Below w.heap.size w w') (hp : 0 < n) : ∃ ad, a = some ad ∧ ∀ j v, (bts xs)[j]? = some v → w'.cell? (ad.add j) = some v := by
  obtain ⟨ad, ha, hc⟩ := h.2 hp
  refine ⟨ad, ha, fun j v hv => ?_⟩
  have := hc j v hv
  rw [hb.cell (World.block_lt_of_cell? w _ this)]
  exact this

theorem Reads.below {w w' : World} {a : Option Addr} {n : Nat} {xs : List Int} (h : Reads w a n xs) (hb : Below w.heap.size w w') : Reads w' a n xs := ⟨h.1, h.lift hb⟩

/-- make with a length and a capacity -/
theorem wpList_make_any {P : Program} (w : World) {ops : Array Oper} {rest : List Oper} {o : Oper} {a : Act} {Q : Exit → Act → World → Prop}
    (hg : o.guard = none) (l c : Operand) (t : TypeId) (hop : o.op = Op.makeSlice t l c)
    (e : TypeId) (i : TypeInfo) (z : Value) (h1 : P.underlying t = some (.slice e)) (h2 : P.info? e = some i) (h3 : i.zero = some z) (h4 : i.size = 1) (h5 : i.bytes = 1)
    (kl kc : IntKind) (L C : Int) (n m : Nat) (hl : a.eval l = .int kl L) (hc : a.eval c = .int kc C) (hL : L = (n : Int)) (hC : C = (m : Int)) (hnm : n ≤ m) (b2 : m ≤ 281474976710656)
    (hK : ∀ w', w'.heap[w.heap.size]? = some (.cells (madeCells z.cells m).toList.toArray e (0, 0)) → w'.heap.size = w.heap.size + 1 → Below w.heap.size w w' →
      wpList P ops Q rest (a.put o.dst (.slice (some ⟨w.heap.size, 0, none⟩) n m)) w') :
    wpList P ops Q (o :: rest) a w := by
  refine wpList_plain hg fun K hK' => ?_
  subst hL
  subst hC
  have hrun := run_make (P := P) w t e i z h1 h2 h3 kl kc (n : Int) (m : Int) (by omega) (by omega) (by rw [h5]; omega) (by omega)
  simp only [Int.toNat_natCast, h4, Nat.mul_one] at hrun
  unfold Oper.wp
  simp [execOp, hop, hl, hc, hrun, Result.andThen]
  exact hK' _ _ (hK _ (by rw [heap_alloc_new]) (by simp) ((Below.refl _ _).alloc (Nat.le_refl _) _))

theorem Try.infoByte : (Try.prog.info? 5).map (fun i => (i.zero, i.size, i.bytes)) = some (some (.int .u8 0), 1, 1) := by kernel_rfl

theorem Try.sizeByte : (Try.prog.info? 5).map (·.size) = some 1 := by kernel_rfl

theorem i64_of {n : Int} (h : (Lit.int .i64 n).wf = true) : I64 n := by
  have := h
  simp [Lit.wf, IntKind.min, IntKind.max, IntKind.bits, IntKind.signed] at this
  exact this

/-- a slice of bytes that came in -/
structure Came (w : World) (a : Option Addr) (len cap : Nat) (xs : List Int) : Prop where
  reads : Reads w a len xs
  le : len ≤ cap
  small : cap ≤ maxLen
  nil : a = none → len = 0 ∧ cap = 0
  bytes : ∀ c ∈ xs, Byte c

theorem byte_of {n : Int} (h : (Lit.int .u8 n).wf = true) : Byte n := by
  have := h
  simp [Lit.wf, IntKind.min, IntKind.max, IntKind.bits, IntKind.signed] at this
  exact ⟨by omega, by omega⟩

theorem came_of {w : World} {a : Option Addr} {len cap : Nat} {zs : List Int}
    (h : (a = none ∧ len = 0 ∧ cap = 0 ∧ zs = []) ∨
      ∃ x, a = some x ∧ len ≤ cap ∧ cap ≤ maxLen ∧ zs.length = cap ∧ (∀ i, i < zs.length → w.cell? (x.add i) = some (.int .u8 (zs.getD i 0))) ∧ ∀ n ∈ zs, (Lit.int .u8 n).wf = true) :
    Came w a len cap (zs.take len) := by
  rcases h with ⟨rfl, rfl, rfl, rfl⟩ | ⟨x, rfl, hl, hm, hz, hc, hw⟩
  · exact ⟨⟨rfl, fun h => absurd h (by omega)⟩, Nat.le_refl _, by unfold maxLen; omega, fun _ => ⟨rfl, rfl⟩, by simp⟩
  · refine ⟨⟨by simp; omega, fun _ => ⟨x, rfl, fun j v hv => ?_⟩⟩, hl, hm, (fun h => by cases h), fun c hc => byte_of (hw c (List.mem_of_mem_take hc))⟩
    have hj : j < (bts (zs.take len)).length := (List.getElem?_eq_some_iff.1 hv).1
    rw [bts_length, List.length_take] at hj
    rw [hc j (by omega)]
    rw [← hv]
    simp [bts, List.getD, show j < len by omega, show j < zs.length by omega]

theorem reads_nil (w : World) : Reads w none 0 [] := ⟨rfl, fun h => absurd h (by omega)⟩

/-- what is owned is read -/
theorem owned_val {w : World} {B : Nat} {v : Value} {n : Nat} {xs : List Int} (h : w.ownsRow B 5 1 v n (bts xs)) : ∃ a c, v = .slice a n c ∧ Reads w a n xs := by
  have hl : xs.length = n := by have := h.1; rw [bts_length] at this; omega
  rcases h.2 with ⟨rfl, rfl⟩ | ⟨g, cap, cur, rfl, _⟩
  · exact ⟨none, 0, rfl, hl, fun hp => absurd hp (by omega)⟩
  · exact ⟨_, cap, rfl, hl, fun _ => ⟨_, rfl, h.cells rfl⟩⟩

/-- bytes as a string -/
theorem conv_reads {w : World} {a : Option Addr} {n : Nat} {xs : List Int} (h : Reads w a n xs) (c : Nat) : (convert 22 9 (.slice a n c)).run Try.prog w = .ok (.string (strOfNums xs)) w := by
  rw [run_convert_bytes_string w 22 9 5 a n c Try.underlying22 Try.underlying5 Try.underlying9]
  cases a with
  | none =>
    have hn : n = 0 := by
      by_cases hp : 0 < n
      · obtain ⟨ad, h1, -⟩ := h.2 hp; cases h1
      · omega
    have hx : xs = [] := List.eq_nil_of_length_eq_zero (by rw [h.1, hn])
    subst hx
    simp [Conv.bytesToString, strOfNums]
    rfl
  | some ad =>
    have hl : (loadCells ad n).run Try.prog w = .ok (xs.map (Value.int .u8)).toArray w := by
      have := run_loadCells_list (P := Try.prog) w ad (bts xs) (fun j v hj => by
        have hp : 0 < n := by
          have := (List.getElem?_eq_some_iff.1 hj).1
          rw [bts_length, h.1] at this
          omega
        obtain ⟨ad', h1, h2⟩ := h.2 hp
        obtain rfl := Option.some.inj h1
        exact h2 j v hj)
      rw [bts_length, h.1] at this
      exact this
    rw [run_bytesToString w ad n c xs hl, foldl_push_bytes]
    simp [strOfNums, ByteArray.empty, ByteArray.emptyWithCapacity]
    rfl

theorem Reads.take {w : World} {a : Option Addr} {n k : Nat} {xs : List Int} (h : Reads w a n xs) (hk : k ≤ n) : Reads w a k (xs.take k) := by
  refine ⟨by rw [List.length_take, h.1]; omega, fun hp => ?_⟩
  obtain ⟨ad, h1, h2⟩ := h.2 (by omega)
  refine ⟨ad, h1, fun j v hj => h2 j v ?_⟩
  have hjl := (List.getElem?_eq_some_iff.1 hj).1
  rw [bts_length, List.length_take] at hjl
  have e : bts (xs.take k) = (bts xs).take k := by simp [bts, List.map_take]
  rw [e, List.getElem?_take, if_pos (by omega)] at hj
  exact hj

/-- but for block r, and new ones, the world is as it was -/
def Only (r : Nat) (w w' : World) : Prop := w.grownBy w' (some r)

theorem Only.refl (r : Nat) (w : World) : Only r w w := ⟨rfl, rfl, rfl, Nat.le_refl _, fun _ _ _ => rfl⟩

theorem Only.trans {r : Nat} {a b c : World} (h : Only r a b) (k : Only r b c) : Only r a c :=
  ⟨k.os.trans h.os, k.tape.trans h.tape, k.output.trans h.output, Nat.le_trans h.size k.size, fun i hi hne => (k.block i (Nat.lt_of_lt_of_le hi h.size) hne).trans (h.block i hi hne)⟩

theorem Only.of_below {r : Nat} {w w' : World} (h : Below w.heap.size w w') : Only r w w' := ⟨h.os, h.tape, h.output, h.size, fun i hi _ => h.block i hi⟩

theorem Only.below {r B : Nat} {w w' : World} (h : Only r w w') (hr : B ≤ r) (hB : B ≤ w.heap.size) : Below B w w' :=
  ⟨h.os, h.tape, h.output, h.size, fun i hi => h.block i (by omega) (by simp; omega)⟩

theorem Only.cell {r : Nat} {w w' : World} (h : Only r w w') {a : Addr} {v : Value} (hv : w.cell? a = some v) (hne : a.block ≠ r) : w'.cell? a = some v :=
  World.grownBy.cell h hv (by simpa using hne)

theorem only_setCell (w : World) (r o : Nat) (cur : Array Value) (t : TypeId) (v : Value) (hr : w.heap[r]? = some (.cells cur t (0, 0))) :
    Only r w (w.setCell ⟨r, o, none⟩ v) ∧ (w.setCell ⟨r, o, none⟩ v).heap[r]? = some (.cells (cur.setIfInBounds o v) t (0, 0)) := by
  rw [setCell_eq_setRow w r o cur t (0, 0) v hr]
  refine ⟨⟨rfl, rfl, rfl, by simp, fun k _ hk => setRow_other w r k _ (fun e => hk (by simp [e]))⟩, setRow_heap w r cur _ t _ hr⟩

theorem Below.step {B r : Nat} {w w1 w2 : World} (hb : Below B w w1) (ho : Only r w1 w2) (hr : B ≤ r) (hB : B ≤ w.heap.size) : Below B w w2 :=
  hb.trans (ho.below hr (Nat.le_trans hB hb.size))

/-- append of any slice of bytes to what the call owns -/
theorem wpList_append_reads {P : Program} {w : World} {ops : Array Oper} {rest : List Oper} {o : Oper} {a : Act} {Q : Exit → Act → World → Prop} (hgd : o.guard = none) (s x : Operand) (t : TypeId)
    (ho : o.op = .call { callee := .builtin .append, args := #[s, x], argTypes := #[t, t] })
    (base : Nat) (e : TypeId) (i : TypeInfo) (ht : P.underlying t = some (.slice e)) (hi : P.info? e = some i) (hz : i.zero = some (.int .u8 0)) (hsize : i.size = 1) (hby : i.bytes = 1)
    (v : Value) (n : Nat) (xs : List Int) (hs : a.eval s = v) (hown : w.ownsRow base e 1 v n (bts xs)) (ao : Option Addr) (m c : Nat) (ys : List Int) (hx : a.eval x = .slice ao m c)
    (hr : Reads w ao m ys) (hnil : ao = none → m = 0 ∧ c = 0) (hn : n + m ≤ 10000000) (hbase : base ≤ w.heap.size)
    (h : ∀ v' w', w'.ownsRow base e 1 v' (n + m) (bts (xs ++ ys)) → w.grownBy w' v.ownBlock → wpList P ops Q rest (a.put o.dst v') w') : wpList P ops Q (o :: rest) a w := by
  cases ao with
  | none =>
    obtain ⟨rfl, rfl⟩ := hnil rfl
    have hy : ys = [] := List.eq_nil_of_length_eq_zero hr.1
    subst hy
    refine wpList_plain hgd fun K hK' => ?_
    have hrun := run_append_owned_none (P := P) w base t o.type e i 1 ht hi v n (bts xs) hown
    unfold Oper.wp
    simp [execOp, ho, resolve, invoke, builtin, hs, hx, hrun, Result.andThen]
    exact hK' _ _ (by simpa using h v w (by simpa using hown) ⟨rfl, rfl, rfl, Nat.le_refl _, fun _ _ _ => rfl⟩)
  | some ad =>
    refine wpList_append_own w hgd s x t ho base e i (.int .u8 0) 1 1 ht hi hz hsize hby rfl (by decide) v n (bts xs) hs hown ad m c (bts ys) hx (by rw [bts_length, hr.1]; omega) ?_ (bts_one _) (by unfold maxLen; omega) (by omega) hbase ?_
    · intro j u hj
      have hjl := (List.getElem?_eq_some_iff.1 hj).1
      rw [bts_length, hr.1] at hjl
      obtain ⟨ad', h1, h2⟩ := hr.2 (by omega)
      obtain rfl := Option.some.inj h1
      exact h2 j u hj
    · intro v' w' h1 h2 _
      exact h v' w' (by rw [bts_append]; exact h1) h2

/-- append of any slice of bytes to what the call owns, as a step of a region that draws its order -/
theorem step_append_reads {P : Program} {ops : Array Oper} {o : Oper} {a : Act} {w : World} {K : Act → World → Prop} {Q : Exit → Act → World → Prop} {E : Prop}
    (hg : o.guard = none) (s x : Operand) (t : TypeId) (ho : o.op = Op.call { callee := Callee.builtin Builtin.append, args := #[s, x], argTypes := #[t, t] })
    (base : Nat) (e : TypeId) (i : TypeInfo) (ht : P.underlying t = some (.slice e)) (hi : P.info? e = some i) (hz : i.zero = some (.int .u8 0)) (hsize : i.size = 1) (hby : i.bytes = 1)
    (v : Value) (n : Nat) (xs : List Int) (hs : a.eval s = v) (hown : w.ownsRow base e 1 v n (bts xs)) (ad : Addr) (m c : Nat) (ys : List Int) (hx : a.eval x = .slice (some ad) m c)
    (hr : Reads w (some ad) m ys) (hn : n + m ≤ 10000000) (hbase : base ≤ w.heap.size)
    (h : ∀ v' w', w'.ownsRow base e 1 v' (n + m) (bts (xs ++ ys)) → w.grownBy w' v.ownBlock → K (a.put o.dst v') w') :
    if Region.wanted o (yielded ops a.tmps) = true then Oper.wp P o a w K Q else E := by
  have hw : Region.wanted o (yielded ops a.tmps) = true := by simp [Region.wanted, hg]
  rw [if_pos hw]
  refine wp_append_own w s x t ho base e i (.int .u8 0) 1 1 ht hi hz hsize hby rfl (by decide) v n (bts xs) hs hown ad m c (bts ys) hx (by rw [bts_length, hr.1]; omega) ?_ (bts_one _) (by unfold maxLen; omega) (by omega) hbase ?_
  · intro j u hj
    have hjl := (List.getElem?_eq_some_iff.1 hj).1
    rw [bts_length, hr.1] at hjl
    obtain ⟨ad', h1, h2⟩ := hr.2 (by omega)
    obtain rfl := Option.some.inj h1
    exact h2 j u hj
  · intro v' w' h1 h2 _
    exact h v' w' (by rw [bts_append]; exact h1) h2

/-- a sum as a value -/
structure Sum (cs : Array Value) (hs : List Int) : Prop where
  cells : cs.toList = bts hs
  len : hs.length = 32
  bytes : ∀ c ∈ hs, Byte c

theorem Sum.boxed {cs : Array Value} {hs : List Int} (h : Sum cs hs) (w : World) (t : TypeId) : Reads (w.alloc (.cells cs t)) (some ⟨w.heap.size, 0, none⟩) 32 hs := by
  refine ⟨h.len, fun _ => ⟨_, rfl, fun j v hv => ?_⟩⟩
  rw [Addr.add_lit, Nat.zero_add, World.cell?_alloc_at _ _ _ _ rfl]
  have hc := h.cells
  show cs[j]? = some v
  rw [← hv, ← hc]
  simp

/-- a sum of noughts, as cells -/
def noughts : List Value := List.replicate 32 (.int .u8 0)

theorem splice_all {X : List Value} (h : X.length = 32) : splice noughts 0 X = X := by
  unfold splice
  rw [List.drop_eq_nil_of_le (by rw [h]; decide)]
  simp

theorem Only.still {r B : Nat} {w w' w'' : World} (h : Only r w w') (hb : Below B w' w'') (hB : w.heap.size ≤ B) : Only r w w'' :=
  ⟨hb.os.trans h.os, hb.tape.trans h.tape, hb.output.trans h.output, Nat.le_trans h.size hb.size, fun i hi hne => (hb.block i (by omega)).trans (h.block i hi hne)⟩

theorem noughts_eq : noughts.toArray = #[.int .u8 0, .int .u8 0, .int .u8 0, .int .u8 0, .int .u8 0, .int .u8 0, .int .u8 0, .int .u8 0, .int .u8 0, .int .u8 0, .int .u8 0, .int .u8 0, .int .u8 0, .int .u8 0, .int .u8 0, .int .u8 0,
  .int .u8 0, .int .u8 0, .int .u8 0, .int .u8 0, .int .u8 0, .int .u8 0, .int .u8 0, .int .u8 0, .int .u8 0, .int .u8 0, .int .u8 0, .int .u8 0, .int .u8 0, .int .u8 0, .int .u8 0, .int .u8 0] := rfl

def zeros : List Int := List.replicate 32 0

theorem zeros_sum : Sum noughts.toArray zeros := ⟨by simp [noughts, zeros, bts], rfl, fun c hc => by rw [List.eq_of_mem_replicate hc]; exact ⟨by omega, by omega⟩⟩

theorem sum_size {cs : Array Value} {hs : List Int} (h : Sum cs hs) : cs.size = 32 := by
  have := congrArg List.length h.cells
  rw [bts_length, h.len] at this
  simpa using this

theorem sum_one {cs : Array Value} {hs : List Int} (h : Sum cs hs) : cs.all (·.oneCell') = true := by
  rw [Array.all_eq_true_iff_forall_mem]
  intro v hv
  exact bts_one hs v (by rw [← h.cells]; simpa using hv)

theorem plain_byte : Try.prog.plainKey 5 = true := by kernel_rfl

theorem cells_byte : Try.prog.cellsOf 5 = 1 := by kernel_rfl

theorem Sum.at {cs : Array Value} {hs : List Int} (h : Sum cs hs) (i : Nat) (hi : i < 32) : cs[i]? = some (.int .u8 (hs.getD i 0)) := by
  have hc := congrArg (fun l => l[i]?) h.cells
  simp only [Array.getElem?_toList] at hc
  rw [hc]
  have hl := h.len
  simp [bts, List.getD, show i < hs.length by omega]

theorem eqItems_bytes (d : Nat) {cs ds : Array Value} {xs ys : List Int} (hx : Sum cs xs) (hy : Sum ds ys) (w : World) : ∀ (is : List Nat), (∀ i ∈ is, i < 32) →
    (Op.eqItems (d + 1) 5 1 cs ds is).run Try.prog w = .ok (is.all fun i => xs.getD i 0 == ys.getD i 0) w := by
  intro is
  induction is with
  | nil => intro _; simp [Op.eqItems]
  | cons i is ih =>
    intro hi
    have h1 := hi i (by simp)
    have p1 := run_part_plain (P := Try.prog) w plain_byte (hx.at i h1)
    have p2 := run_part_plain (P := Try.prog) w plain_byte (hy.at i h1)
    have p3 := run_equalIn_int (P := Try.prog) w d 5 .u8 _ (xs.getD i 0) (ys.getD i 0) Try.underlying5
    simp only [Op.eqItems, Nat.mul_one, Sem.run_bind, p1, p2, p3, Result.andThen_ok, List.all_cons]
    cases hb : xs.getD i 0 == ys.getD i 0
    · simp
    · simp only [Bool.not_true, Bool.false_eq_true, if_false, Bool.true_and]
      exact ih (fun j hj => hi j (by simp [hj]))

theorem all_eq {xs ys : List Int} (hx : xs.length = 32) (hy : ys.length = 32) : ((List.range 32).all fun i => xs.getD i 0 == ys.getD i 0) = decide (xs = ys) := by
  rw [Bool.eq_iff_iff]
  simp only [List.all_eq_true, List.mem_range, beq_iff_eq, decide_eq_true_eq]
  constructor
  · intro h
    apply List.ext_getElem (by rw [hx, hy])
    intro i h1 h2
    have := h i (by omega)
    simpa [List.getD, h1, h2] using this
  · rintro rfl i _; rfl

theorem cellsOf_byte : Try.prog.cellsOf 5 = 1 := by kernel_rfl

def numAt (cs : Array Value) (i : Nat) : Int :=
  match cs[i]? with
  | some (Value.int _ n) => n
  | _ => 0

/-- who owns no more than n of v's row still owns it -/
def KeptUpto (base : Nat) (e : TypeId) (w w' : World) (v : Value) (n : Nat) : Prop :=
  ∀ u k ys, w.ownsRow base e 1 u k ys → (u.ownBlock = v.ownBlock → k ≤ n) → w'.ownsRow base e 1 u k ys

/-- the row of v' is v's own, or a new one -/
def Kin (w : World) (v v' : Value) : Prop := v'.ownBlock = v.ownBlock ∨ ∃ g, v'.ownBlock = some g ∧ w.heap.size ≤ g

theorem run_append_keep {P : Program} (w : World) (base : Nat) (t ty e : TypeId) (i : TypeInfo) (ht : P.underlying t = some (.slice e)) (hi : P.info? e = some i) (hz : i.zero = some (.int .u8 0)) (hsize : i.size = 1) (hby : i.bytes = 1)
    (v : Value) (n : Nat) (xs : List Value) (hown : w.ownsRow base e 1 v n xs)
    (a : Addr) (m c : Nat) (news : List Value) (hl : news.length = m) (hnews : ∀ j u, news[j]? = some u → w.cell? (a.add j) = some u) (h1 : ∀ u ∈ news, u.oneCell' = true)
    (hb : n + m ≤ 10000000) (hbase : base ≤ w.heap.size) :
    ∃ v' w', (Builtin.append_ #[t, t] ty #[v, .slice (some a) m c]).run P w = .ok v' w' ∧ w'.ownsRow base e 1 v' (n + m) (xs ++ news) ∧ w.grownBy w' v.ownBlock ∧ KeptUpto base e w w' v n ∧ Kin w v v' := by
  obtain ⟨v', w', hr, h2, h3, hnil⟩ := run_append_own (P := P) w base t ty e i (.int .u8 0) 1 1 ht hi hz hsize hby rfl (by decide) v n xs hown a m c news (by omega) hnews h1 (by unfold maxLen; omega) (by omega) hbase
  refine ⟨v', w', hr, h2, h3, ?_⟩
  rcases hown.2 with ⟨rfl, rfl⟩ | ⟨g, cap, cur, rfl, hbg, hg, hnc, hcm, hcs, htake⟩
  · refine ⟨?_, ?_⟩
    · intro u k ys hu _
      exact hu.kept h3 (by cases hh : u.ownBlock <;> simp [Value.ownBlock])
    · by_cases hm : m = 0
      · rw [hnil.2 ⟨rfl, hm⟩]; exact .inl rfl
      · have hr2 := run_append_nil (P := P) w t ty e i (.int .u8 0) ht hi hz a m c news (by rw [hsize]; omega) hnews (by omega) (by omega) (by rw [hby]; omega)
        rw [hr2] at hr
        simp only [Result.ok.injEq] at hr
        obtain ⟨rfl, -⟩ := hr
        exact .inr ⟨_, rfl, Nat.le_refl _⟩
  · by_cases hroom : n + m ≤ cap
    · have hr2 := run_append_room (P := P) w t ty e i ht hi g n cap cur hg a m c news (by rw [hsize]; omega) hnews h1 hroom (by rw [hsize, hl, hcs]; omega)
      rw [hr2] at hr
      simp only [Result.ok.injEq] at hr
      obtain ⟨rfl, rfl⟩ := hr
      refine ⟨?_, .inl rfl⟩
      intro u k ys hu hk
      by_cases hub : u.ownBlock = some g
      · have hkn := hk hub
        refine ⟨hu.1, ?_⟩
        rcases hu.2 with hn | ⟨g', cap', cur', rfl, hb', hg', hk', hm', hs', ht'⟩
        · exact .inl hn
        · have hgg : g' = g := by simpa [Value.ownBlock] using hub
          subst hgg
          rw [hg] at hg'
          simp only [Option.some.injEq, Obj.cells.injEq, and_true] at hg'
          obtain rfl := hg'
          refine .inr ⟨g', cap', _, rfl, hb', setRow_heap w g' cur _ e _ hg, hk', hm', ?_, ?_⟩
          · simp [hsize, hl]; omega
          · simp only [hsize, Nat.mul_one] at ht' ⊢
            rw [← ht', List.append_assoc, List.take_append_of_le_length (by simp; omega), List.take_take, Nat.min_eq_left hkn]
      · exact hu.kept (row := some g) ⟨rfl, rfl, rfl, by simp, fun k _ hk => setRow_other w g k _ (fun e => hk (by simp [e]))⟩ (.inr hub)
    · have hr2 := run_append_grow (P := P) w t ty e i (.int .u8 0) ht hi hz ⟨g, 0, none⟩ n cap xs (by rw [hsize]; exact hown.1) (fun j u hj => hown.cells (g := g) rfl j u hj) a m c news (by rw [hsize]; omega) hnews (by omega) (by omega) (growslice_fits (by omega) (by rw [hby]; omega))
      rw [hr2] at hr
      simp only [Result.ok.injEq] at hr
      obtain ⟨rfl, rfl⟩ := hr
      refine ⟨?_, .inr ⟨_, rfl, Nat.le_refl _⟩⟩
      intro u k ys hu _
      exact hu.kept (row := none) ⟨rfl, rfl, rfl, by simp, fun k hk _ => heap_alloc_old w.drew _ hk⟩ (by cases hh : u.ownBlock <;> simp)

/-- an append to v', kin of v: who owned no more than n of v's row goes on owning it -/
theorem KeptUpto.step {base : Nat} {e : TypeId} {w w1 w2 : World} {v x : Value} {n k : Nat} (h : KeptUpto base e w w1 v n) (hk : KeptUpto base e w1 w2 x k) (hkin : Kin w v x) (hnk : n ≤ k) : KeptUpto base e w w2 v n := by
  intro u m ys hu hm
  refine hk u m ys (h u m ys hu hm) (fun hux => ?_)
  rcases hkin with hv | ⟨g, hg, hnew⟩
  · exact Nat.le_trans (hm (hux.trans hv)) hnk
  · have h1 := (hu.lt g (by rw [hux, hg])).2
    omega

theorem Kin.trans {w w1 : World} {v x y : Value} (h : Kin w v x) (hk : Kin w1 x y) (hs : w.heap.size ≤ w1.heap.size) : Kin w v y := by
  rcases hk with he | ⟨g, hg, hn⟩
  · rcases h with h | ⟨g, hg, h⟩
    · exact .inl (he.trans h)
    · exact .inr ⟨g, by rw [he]; exact hg, h⟩
  · exact .inr ⟨g, hg, Nat.le_trans hs hn⟩

theorem Kin.refl (w : World) (v : Value) : Kin w v v := .inl rfl

theorem KeptUpto.below {base : Nat} {w w' : World} {v : Value} {n : Nat} (hb : Below w.heap.size w w') : KeptUpto base 5 w w' v n := fun u k ys h _ => h.kept (row := none) ⟨hb.os, hb.tape, hb.output, hb.size, fun k hk _ => hb.block k hk⟩ (by cases hv : u.ownBlock <;> simp)

theorem KeptUpto.refl (base : Nat) (e : TypeId) (w : World) (v : Value) (n : Nat) : KeptUpto base e w w v n := fun _ _ _ h _ => h

/-- append of any slice of bytes to what the call owns; who owns no more keeps it -/
theorem wpList_append_keep {P : Program} {w : World} {ops : Array Oper} {rest : List Oper} {o : Oper} {a : Act} {Q : Exit → Act → World → Prop} (hgd : o.guard = none) (s x : Operand) (t : TypeId)
    (ho : o.op = .call { callee := .builtin .append, args := #[s, x], argTypes := #[t, t] })
    (base : Nat) (e : TypeId) (i : TypeInfo) (ht : P.underlying t = some (.slice e)) (hi : P.info? e = some i) (hz : i.zero = some (.int .u8 0)) (hsize : i.size = 1) (hby : i.bytes = 1)
    (v : Value) (n : Nat) (xs : List Int) (hs : a.eval s = v) (hown : w.ownsRow base e 1 v n (bts xs)) (ao : Option Addr) (m c : Nat) (ys : List Int) (hx : a.eval x = .slice ao m c)
    (hr : Reads w ao m ys) (hnil : ao = none → m = 0 ∧ c = 0) (hn : n + m ≤ 10000000) (hbase : base ≤ w.heap.size)
    (h : ∀ v' w', w'.ownsRow base e 1 v' (n + m) (bts (xs ++ ys)) → w.grownBy w' v.ownBlock → KeptUpto base e w w' v n → Kin w v v' → wpList P ops Q rest (a.put o.dst v') w') : wpList P ops Q (o :: rest) a w := by
  refine wpList_plain hgd fun K hK' => ?_
  cases ao with
  | none =>
    obtain ⟨rfl, rfl⟩ := hnil rfl
    have hy : ys = [] := List.eq_nil_of_length_eq_zero hr.1
    subst hy
    have hrun := run_append_owned_none (P := P) w base t o.type e i 1 ht hi v n (bts xs) hown
    unfold Oper.wp
    simp [execOp, ho, resolve, invoke, builtin, hs, hx, hrun, Result.andThen]
    exact hK' _ _ (by simpa using h v w (by simpa using hown) ⟨rfl, rfl, rfl, Nat.le_refl _, fun _ _ _ => rfl⟩ (KeptUpto.refl _ _ _ _ _) (.inl rfl))
  | some ad =>
    have hc : ∀ j u, (bts ys)[j]? = some u → w.cell? (ad.add j) = some u := by
      intro j u hj
      have hjl := (List.getElem?_eq_some_iff.1 hj).1
      rw [bts_length, hr.1] at hjl
      obtain ⟨ad', h1, h2⟩ := hr.2 (by omega)
      obtain rfl := Option.some.inj h1
      exact h2 j u hj
    obtain ⟨v', w', hrun, h2, h3, h4, h5⟩ := run_append_keep (P := P) w base t o.type e i ht hi hz hsize hby v n (bts xs) hown ad m c (bts ys) (by rw [bts_length, hr.1]) hc (bts_one _) hn hbase
    unfold Oper.wp
    simp [execOp, ho, resolve, invoke, builtin, hs, hx, hrun, Result.andThen]
    exact hK' _ _ (h v' w' (by rw [bts_append]; exact h2) h3 h4 h5)

/-- what a variable that holds a sum holds -/
def sumAt (w : World) (g : Nat) : Option (Array Value) :=
  match w.heap[g]? with
  | some (.cells cs _ (0, 0)) => if cs.size = 32 then some cs else none
  | _ => none

theorem sumAt_mk {w : World} {g : Nat} {cs : Array Value} {t : TypeId} (h : w.heap[g]? = some (.cells cs t (0, 0))) (hs : cs.size = 32) : sumAt w g = some cs := by
  simp [sumAt, h, hs]

theorem sumAt_below {w w' : World} {g B : Nat} (hb : Below B w w') (hg : g < B) : sumAt w' g = sumAt w g := by
  unfold sumAt; rw [hb.block g hg]

/-- may a sum be loaded there? and which -/
def loadable (w : World) : Value → Bool
  | .pointer (some ⟨g, 0, none⟩) => (sumAt w g).isSome
  | _ => false

def sumOf (w : World) : Value → Array Value
  | .pointer (some a) => (sumAt w a.block).getD #[]
  | _ => #[]

theorem loadable_ptr (w : World) (g : Nat) : loadable w (.pointer (some ⟨g, 0, none⟩)) = (sumAt w g).isSome := rfl

theorem sumOf_ptr (w : World) (g : Nat) : sumOf w (.pointer (some ⟨g, 0, none⟩)) = (sumAt w g).getD #[] := rfl

theorem owned_val2 {w : World} {B : Nat} {v : Value} {n : Nat} {xs : List Int} (h : w.ownsRow B 5 1 v n (bts xs)) : ∃ a c, v = .slice a n c ∧ Reads w a n xs ∧ n ≤ c ∧ c ≤ maxLen := by
  have hl : xs.length = n := by have := h.1; rw [bts_length] at this; omega
  rcases h.2 with ⟨rfl, rfl⟩ | ⟨g, cap, cur, rfl, h1, h2, h3, h4, _⟩
  · exact ⟨none, 0, rfl, ⟨hl, fun hp => absurd hp (by omega)⟩, Nat.le_refl _, by unfold maxLen; omega⟩
  · exact ⟨_, cap, rfl, ⟨hl, fun _ => ⟨_, rfl, h.cells rfl⟩⟩, h3, h4⟩

theorem sum_same {cs ds : Array Value} {hs : List Int} (h : Sum cs hs) (h' : Sum ds hs) : cs = ds := by
  apply Array.ext'
  rw [h.cells, h'.cells]

theorem sumAt_only {w w' : World} {r g : Nat} {cs : Array Value} (ho : Only r w w') (hg : g < r) (h : sumAt w g = some cs) : sumAt w' g = some cs := by
  have hl : g < w.heap.size := by
    unfold sumAt at h
    split at h
    · rename_i hx; exact (Array.getElem?_eq_some_iff.1 hx).1
    · cases h
  unfold sumAt at h ⊢
  rw [ho.block g hl (by simp; omega)]
  exact h

theorem owns_below {w w' : World} {B n : Nat} {v : Value} {xs : List Value} (h : w.ownsRow B 5 1 v n xs) (hb : Below w.heap.size w w') : w'.ownsRow B 5 1 v n xs :=
  h.kept (row := none) ⟨hb.os, hb.tape, hb.output, hb.size, fun k hk _ => hb.block k hk⟩ (by cases hv : v.ownBlock <;> simp)

theorem Came.below {w w' : World} {a : Option Addr} {len cap : Nat} {xs : List Int} (h : Came w a len cap xs) (hb : Below w.heap.size w w') : Came w' a len cap xs :=
  ⟨h.reads.below hb, h.le, h.small, h.nil, h.bytes⟩

/-- a slice of numbers of 64 bits that came in -/
structure Nums (w : World) (a : Option Addr) (len cap : Nat) (ns : List Int) : Prop where
  sz : ns.length = len
  le : len ≤ cap
  small : cap ≤ maxLen
  cell : ∀ i, i < len → ∃ ad, a = some ad ∧ w.cell? (ad.add i) = some (.int .i64 (ns.getD i 0))
  i64 : ∀ z ∈ ns, I64 z

theorem Nums.below {w w' : World} {a : Option Addr} {len cap : Nat} {ns : List Int} (h : Nums w a len cap ns) (hb : Below w.heap.size w w') : Nums w' a len cap ns := by
  refine ⟨h.sz, h.le, h.small, fun i hi => ?_, h.i64⟩
  obtain ⟨ad, h1, h2⟩ := h.cell i hi
  exact ⟨ad, h1, by rw [hb.cell (World.block_lt_of_cell? w _ h2)]; exact h2⟩

theorem Nums.at {w : World} {a : Option Addr} {len cap : Nat} {ns : List Int} (h : Nums w a len cap ns) (i : Nat) (hi : i < len) : I64 (ns.getD i 0) := by
  refine h.i64 _ ?_
  have : i < ns.length := by rw [h.sz]; exact hi
  simp [List.getD, this]

theorem came64_of {w : World} {a : Option Addr} {len cap : Nat} {zs : List Int}
    (h : (a = none ∧ len = 0 ∧ cap = 0 ∧ zs = []) ∨
      ∃ x, a = some x ∧ len ≤ cap ∧ cap ≤ maxLen ∧ zs.length = cap ∧ (∀ i, i < zs.length → w.cell? (x.add i) = some (.int .i64 (zs.getD i 0))) ∧ ∀ n ∈ zs, (Lit.int .i64 n).wf = true) :
    Nums w a len cap (zs.take len) := by
  rcases h with ⟨rfl, rfl, rfl, rfl⟩ | ⟨x, rfl, hl, hm, hz, hc, hw⟩
  · exact ⟨rfl, Nat.le_refl _, by unfold maxLen; omega, fun i hi => absurd hi (by omega), by simp⟩
  · refine ⟨by rw [List.length_take]; omega, hl, hm, fun i hi => ⟨x, rfl, ?_⟩, fun c hc => i64_of (hw c (List.mem_of_mem_take hc))⟩
    rw [hc i (by omega)]
    simp [List.getD, hi]

/-- a slice of slices of bytes that came in -/
structure Mat (w : World) (a : Option Addr) (len cap : Nat) (zss : List (List Int)) : Prop where
  sz : zss.length = len
  le : len ≤ cap
  small : cap ≤ maxLen
  row : ∀ i, i < len → ∃ ad, a = some ad ∧ ∃ b l c, w.cell? (ad.add i) = some (.slice b l c) ∧ Came w b l c (zss.getD i [])

theorem Mat.below {w w' : World} {a : Option Addr} {len cap : Nat} {zss : List (List Int)} (h : Mat w a len cap zss) (hb : Below w.heap.size w w') : Mat w' a len cap zss := by
  refine ⟨h.sz, h.le, h.small, fun i hi => ?_⟩
  obtain ⟨ad, h1, b, l, c, h2, h3⟩ := h.row i hi
  exact ⟨ad, h1, b, l, c, by rw [hb.cell (World.block_lt_of_cell? w _ h2)]; exact h2, h3.below hb⟩

theorem one_new' (z : Int) : ∀ (j : Nat) (u : Value), (bts [z])[j]? = some u → [Value.int IntKind.u8 z][j]? = some u := fun j u h => h

theorem one_new (w : World) (z : Int) : ∀ (j : Nat) (u : Value), (bts [z])[j]? = some u → (w.alloc (Obj.cells #[Value.int IntKind.u8 z] 5)).cell? ((⟨w.heap.size, 0, none⟩ : Addr).add j) = some u := by
  intro j u hj
  match j, hj with
  | 0, hj => simp [bts] at hj; subst hj; simp [Addr.add]

/-- append of any slice of bytes, of none too, as a step of a region that draws its order -/
theorem step_append_opt {P : Program} {ops : Array Oper} {o : Oper} {a : Act} {w : World} {K : Act → World → Prop} {Q : Exit → Act → World → Prop} {E : Prop}
    (hg : o.guard = none) (s x : Operand) (t : TypeId) (ho : o.op = Op.call { callee := Callee.builtin Builtin.append, args := #[s, x], argTypes := #[t, t] })
    (base : Nat) (e : TypeId) (i : TypeInfo) (ht : P.underlying t = some (.slice e)) (hi : P.info? e = some i) (hz : i.zero = some (.int .u8 0)) (hsize : i.size = 1) (hby : i.bytes = 1)
    (v : Value) (n : Nat) (xs : List Int) (hs : a.eval s = v) (hown : w.ownsRow base e 1 v n (bts xs)) (ao : Option Addr) (m c : Nat) (ys : List Int) (hx : a.eval x = .slice ao m c)
    (hr : Reads w ao m ys) (hnil : ao = none → m = 0 ∧ c = 0) (hn : n + m ≤ 10000000) (hbase : base ≤ w.heap.size)
    (h : ∀ v' w', w'.ownsRow base e 1 v' (n + m) (bts (xs ++ ys)) → w.grownBy w' v.ownBlock → K (a.put o.dst v') w') :
    if Region.wanted o (yielded ops a.tmps) = true then Oper.wp P o a w K Q else E := by
  cases ao with
  | some ad => exact step_append_reads hg s x t ho base e i ht hi hz hsize hby v n xs hs hown ad m c ys hx hr hn hbase h
  | none =>
    have hw : Region.wanted o (yielded ops a.tmps) = true := by simp [Region.wanted, hg]
    rw [if_pos hw]
    obtain ⟨rfl, rfl⟩ := hnil rfl
    have hy : ys = [] := List.eq_nil_of_length_eq_zero hr.1
    subst hy
    have hrun := run_append_owned_none (P := P) w base t o.type e i 1 ht hi v n (bts xs) hown
    unfold Oper.wp
    simp [execOp, ho, resolve, invoke, builtin, hs, hx, hrun, Result.andThen, Oper.upon]
    exact (by simpa using h v w (by simpa using hown) ⟨rfl, rfl, rfl, Nat.le_refl _, fun _ _ _ => rfl⟩)

theorem slice_reads {W : World} {a : Option Addr} {n c P1 v : Nat} {B : List Int} (h : Reads W a n B) (hnil : a = none → n = 0 ∧ c = 0) (hv : P1 + v ≤ n) (hc : n ≤ c) :
    Reads W (if c = P1 then a else Option.map (fun x => x.add P1) a) v ((B.drop P1).take v) ∧ ((if c = P1 then a else Option.map (fun x => x.add P1) a) = none → v = 0 ∧ c - P1 = 0) := by
  refine ⟨⟨by rw [List.length_take, List.length_drop, h.1]; omega, fun hp => ?_⟩, fun hn => ?_⟩
  · rw [if_neg (by omega)]
    obtain ⟨ad, h1, h2⟩ := h.2 (by omega)
    refine ⟨ad.add P1, by rw [h1]; rfl, fun j u hj => ?_⟩
    rw [Addr.add_add]
    refine h2 (P1 + j) u ?_
    have hjl := (List.getElem?_eq_some_iff.1 hj).1
    rw [bts_length, List.length_take, List.length_drop, h.1] at hjl
    have e : bts ((B.drop P1).take v) = ((bts B).drop P1).take v := by simp [bts, List.map_take, List.map_drop]
    rw [e, List.getElem?_take, if_pos (by omega), List.getElem?_drop] at hj
    exact hj
  · by_cases hcp : c = P1
    · exact ⟨by omega, by omega⟩
    · rw [if_neg hcp] at hn
      cases a with
      | none => have := hnil rfl; omega
      | some ad => simp at hn

theorem add_block (a : Addr) (n : Nat) : (a.add n).block = a.block := by unfold Addr.add; split <;> rfl

theorem reads_only {w w' : World} {a : Option Addr} {n : Nat} {B : List Int} {r : Nat} (h : Reads w a n B) (ho : Only r w w') (hne : 0 < n → ∀ ad, a = some ad → ad.block ≠ r) : Reads w' a n B := by
  refine ⟨h.1, fun hp => ?_⟩
  obtain ⟨ad, h1, h2⟩ := h.2 hp
  exact ⟨ad, h1, fun j v hv => ho.cell (h2 j v hv) (by rw [add_block]; exact hne hp ad h1)⟩

theorem only_drew {r : Nat} {w w' : World} (h : Only r w w') (k : Nat) : Only r w (w'.drewN k) := h.trans (.of_below (below_drewN (Below.refl _ _) k))

theorem range_below {w W : World} {g : Nat} {cs : Array Value} (hb : Below w.heap.size w W) (hg : g < w.heap.size) (h : sumAt w g = some cs) : W.rangeAt g 0 cs.toList := by
  intro j v hj
  unfold sumAt at h
  split at h
  · rename_i cs' t hh
    split at h
    · cases h
      rw [hb.cell (by exact hg)]
      simp only [World.cell?, hh, Nat.zero_add]
      simpa using hj
    · cases h
  · cases h

/-- what 'string(v)' is -/
def Conv (v : Value) (zs : List Int) (w : World) : Prop := (convert 22 9 v).run Try.prog w = .ok (.string (strOfNums zs)) w

theorem owns_later {w w' : World} {B n : Nat} {v : Value} {xs : List Value} (h : w.ownsRow B 5 1 v n xs) (hb : Below w.heap.size w w') : w'.ownsRow B 5 1 v n xs :=
  h.kept (row := none) ⟨hb.os, hb.tape, hb.output, hb.size, fun k hk _ => hb.block k hk⟩ (by cases hv : v.ownBlock <;> simp)

theorem owns_mono {w : World} {B B' : Nat} {v : Value} {n : Nat} {xs : List Value} (h : w.ownsRow B 5 1 v n xs) (hB : B' ≤ B) : w.ownsRow B' 5 1 v n xs := by
  refine ⟨h.1, ?_⟩
  rcases h.2 with hn | ⟨g, cap, cur, h1, h2, r⟩
  · exact .inl hn
  · exact .inr ⟨g, cap, cur, h1, Nat.le_trans hB h2, r⟩

theorem fresh_le {w w' : World} {B : Nat} {u v : Value} {m n : Nat} {xs ys : List Value} (hu : w'.ownsRow w.heap.size 5 1 u m ys) (hv : w.ownsRow B 5 1 v n xs) : u.ownBlock = v.ownBlock → m ≤ n := by
  intro h
  cases hub : u.ownBlock with
  | some g =>
    have h1 := (hu.lt g hub).1
    have h2 := (hv.lt g (by rw [← h, hub])).2
    omega
  | none =>
    rcases hu.2 with ⟨_, h0⟩ | ⟨g, cap, cur, h1, _⟩
    · omega
    · rw [h1] at hub; simp [Value.ownBlock] at hub

theorem conv_owned {w : World} {B : Nat} {a : Option Addr} {n m c : Nat} {xs : List Int} (h : w.ownsRow B 5 1 (.slice a n c) m (bts xs)) : (convert 22 9 (.slice a n c)).run Try.prog w = .ok (.string (strOfNums xs)) w := by
  obtain ⟨a', c', hv, hr⟩ := owned_val h
  simp only [Value.slice.injEq] at hv
  obtain ⟨rfl, rfl, rfl⟩ := hv
  exact conv_reads hr c

/-- the noughts, of which the first are already read -/
def cur (l : List Int) : Array Value := (splice noughts 0 (bts l)).toArray

theorem cur_nil : cur [] = noughts.toArray := by unfold cur splice; simp [bts]

theorem cur_size {l : List Int} (h : l.length ≤ 32) : (cur l).size = 32 := by
  unfold cur
  rw [List.size_toArray, length_splice _ _ _ (by rw [bts_length]; simp [noughts]; omega)]
  simp [noughts]

theorem cur_all {l : List Int} (h : l.length = 32) : cur l = (bts l).toArray := by unfold cur; rw [splice_all (by rw [bts_length]; exact h)]

theorem cur_put {l : List Int} {b : Int} (h : l.length < 32) : (cur l).setIfInBounds l.length (.int .u8 b) = cur (l ++ [b]) := by
  unfold cur splice
  simp only [List.take_zero, List.nil_append, Nat.zero_add, List.setIfInBounds_toArray, bts_append, bts_length, List.length_append]
  have hd : noughts.drop l.length = .int .u8 0 :: noughts.drop (l.length + 1) := by
    have hl : l.length < noughts.length := by simp [noughts]; omega
    rw [List.drop_eq_getElem_cons hl]
    congr 1
    unfold noughts
    exact List.getElem_replicate ..
  rw [hd, List.set_append_right _ _ (by rw [bts_length]; exact Nat.le_refl _), bts_length, Nat.sub_self]
  simp [bts]

theorem Reads.at {w : World} {a : Option Addr} {n : Nat} {B : List Int} (h : Reads w a n B) {p : Nat} (hp : p < n) : ∃ ad, a = some ad ∧ w.cell? (ad.add p) = some (.int .u8 (B.getD p 0)) := by
  obtain ⟨ad, h1, h2⟩ := h.2 (by omega)
  refine ⟨ad, h1, h2 p _ ?_⟩
  have : p < B.length := by rw [h.1]; exact hp
  simp [bts, List.getD, this]



end Go.Proofs.Ytdbnfafafhdolaa
