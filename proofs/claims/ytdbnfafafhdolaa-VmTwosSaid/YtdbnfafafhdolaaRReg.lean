/- The document's Step: what is made of a machine handed in. -/
import Derived.Test.YtdbnfafafhdolaaVRef
namespace Go.Proofs.Ytdbnfafafhdolaa
open Go Go.RowKit
set_option linter.unusedVariables false
set_option linter.unusedSimpArgs false

section
variable {P : Program} {md : Region.Mode} {ops : Array Oper} {Q : Exit → Act → World → Prop}
theorem anyS_two {S : Nat → World → Prop} (i j : Nat) {oi oj : Oper} {fuel : Nat} {listed : Array Bool} {a : Act} {w : World} (hr : Region.ready md ops listed = [i, j]) (hi : ops.toList[i]? = some oi) (hj : ops.toList[j]? = some oj)
    (h1 : ∀ K' : Act → World → Prop, Shut (∀ a w, S i w → AnyS P md ops Q S fuel (listed.setIfInBounds i true) a w → K' a w) → if Region.wanted oi (yielded ops a.tmps) = true then Oper.wp P oi a w K' Q else K' (a.put oi.dst undef) w)
    (h2 : ∀ K' : Act → World → Prop, Shut (∀ a w, S j w → AnyS P md ops Q S fuel (listed.setIfInBounds j true) a w → K' a w) → if Region.wanted oj (yielded ops a.tmps) = true then Oper.wp P oj a w K' Q else K' (a.put oj.dst undef) w) :
    AnyS P md ops Q S (fuel + 1) listed a w :=
  ⟨fun h0 => (by rw [hr] at h0; cases h0), fun k hk => by
    rw [hr] at hk
    simp only [List.mem_cons, List.not_mem_nil, or_false] at hk
    rcases hk with rfl | rfl
    · exact wpOp_step (by_list hi) (fun K' hK => h1 K' (fun a w hS hW => hK a w ⟨hS, hW⟩))
    · exact wpOp_step (by_list hj) (fun K' hK => h2 K' (fun a w hS hW => hK a w ⟨hS, hW⟩))⟩
end

/-- append of any numbers to what the call owns, as a step of a region that draws its order -/
theorem step_nums_opt {ops : Array Oper} {o : Oper} {a : Act} {w : World} {K : Act → World → Prop} {Q : Exit → Act → World → Prop} {E : Prop}
    (hg : o.guard = none) (s x : Operand) (ho : o.op = Op.call { callee := Callee.builtin Builtin.append, args := #[s, x], argTypes := #[23, 23] })
    (base : Nat) (v : Value) (n : Nat) (xs : List Int) (hs : a.eval s = v) (hown : w.ownsRow base 3 1 v n (nts xs)) (ao : Option Addr) (m c : Nat) (ys : List Int) (hx : a.eval x = .slice ao m c)
    (hr : Nums w ao m c ys) (hnil : ao = none → m = 0 ∧ c = 0) (hn : n + m ≤ 1000000) (hbase : base ≤ w.heap.size)
    (h : ∀ v' w', w'.ownsRow base 3 1 v' (n + m) (nts (xs ++ ys)) → w.grownBy w' v.ownBlock → K (a.put o.dst v') w') :
    if Region.wanted o (yielded ops a.tmps) = true then Oper.wp Try.prog o a w K Q else E := by
  cases ao with
  | some ad =>
    refine step_append_nums hg s x ho base v n xs hs hown ad m c ys hx hr.sz ?_ hn hbase h
    intro j u hj
    have hjl := (List.getElem?_eq_some_iff.1 hj).1
    rw [nts_length, hr.sz] at hjl
    obtain ⟨ad', h1, h2⟩ := hr.cell j hjl
    obtain rfl := Option.some.inj h1
    rw [nts_at (by rw [hr.sz]; exact hjl)] at hj
    rw [h2]
    exact hj
  | none =>
    have hw : Region.wanted o (yielded ops a.tmps) = true := by simp [Region.wanted, hg]
    rw [if_pos hw]
    obtain ⟨rfl, rfl⟩ := hnil rfl
    have hy : ys = [] := List.eq_nil_of_length_eq_zero hr.sz
    subst hy
    obtain ⟨i, hi, hz, hsize, hby⟩ := info_parts Try.infoInt
    have hrun := run_append_owned_none (P := Try.prog) w base 23 o.type 3 i 1 Try.underlying23 hi v n (nts xs) hown
    unfold Oper.wp
    simp [execOp, ho, resolve, invoke, builtin, hs, hx, hrun, Result.andThen, Oper.upon]
    exact (by simpa using h v w (by simpa using hown) ⟨rfl, rfl, rfl, Nat.le_refl _, fun _ _ _ => rfl⟩)

/-- how a step's world begins: the machine's cells, those of the result -/
structure Bgn (w : World) (cs : Array Value) (V : World) : Prop where
  r1 : V.heap[w.heap.size]? = some (.cells cs 37 (0, 0))
  r2 : V.heap[w.heap.size + 1]? = some (.cells (noMac (.slice none 0 0) (.slice none 0 0)) 37 (0, 0))
  b : Below w.heap.size w V
  s : w.heap.size + 2 ≤ V.heap.size

theorem Bgn.later {w V V' : World} {cs : Array Value} (h : Bgn w cs V) (hb : Below (w.heap.size + 2) V V') : Bgn w cs V' :=
  ⟨(hb.block _ (by omega)).trans h.r1, (hb.block _ (by omega)).trans h.r2, h.b.trans (hb.mono (by omega)), Nat.le_trans h.s hb.size⟩

theorem Bgn.start (w : World) (cs : Array Value) : Bgn w cs ((w.alloc (Obj.cells cs 37)).alloc (Obj.cells (noMac (.slice none 0 0) (.slice none 0 0)) 37)) := by
  have h1 : (w.alloc (Obj.cells cs 37)).heap.size = w.heap.size + 1 := by simp
  refine ⟨?_, ?_, ((Below.refl _ _).alloc (Nat.le_refl _) _).alloc (by simp) _, by simp⟩
  · rw [((Below.refl (w.alloc (Obj.cells cs 37)).heap.size _).alloc (Nat.le_refl _) _).block w.heap.size (by simp)]
    exact heap_alloc_new _ _
  · rw [← h1]
    exact heap_alloc_new _ _

/-- how it stands when both slices are copied -/
structure One (w : World) (n d : Nat) (c stk : List Int) (cs : Array Value) (cv sv : Value) (V : World) : Prop where
  a : V.heap[w.heap.size]? = some (.cells cs 37 (0, 0))
  r : V.heap[w.heap.size + 1]? = some (.cells (noMac (.slice none 0 0) (.slice none 0 0)) 37 (0, 0))
  code : V.ownsRow (w.heap.size + 2) 5 1 cv n (bts c)
  stk : V.ownsRow (w.heap.size + 2) 3 1 sv d (nts stk)
  b : Below w.heap.size w V
  s : w.heap.size + 2 ≤ V.heap.size
theorem One.later {w V V' : World} {n d : Nat} {c stk : List Int} {cs : Array Value} {cv sv : Value} (h : One w n d c stk cs cv sv V) (hb : Below V.heap.size V V') : One w n d c stk cs cv sv V' :=
  ⟨(hb.block _ (by have := h.s; omega)).trans h.a, (hb.block _ (by have := h.s; omega)).trans h.r, own_later h.code hb, own_later h.stk hb, h.b.trans (hb.mono h.b.size), Nat.le_trans h.s hb.size⟩

/-- the same beside the copy that is changed -/
structure Prr (w : World) (g : Nat) (n d : Nat) (c stk : List Int) (cs xs : Array Value) (cv sv : Value) (V : World) : Prop where
  o : One w n d c stk cs cv sv V
  x : V.heap[g]? = some (.cells xs 37 (0, 0))
  g : w.heap.size + 2 ≤ g
section
variable {w V V' : World} {g n d : Nat} {c stk : List Int} {cs xs xs' : Array Value} {cv sv : Value}
theorem Prr.lt (h : Prr w g n d c stk cs xs cv sv V) : g < V.heap.size := (Array.getElem?_eq_some_iff.1 h.x).1
theorem Prr.later (h : Prr w g n d c stk cs xs cv sv V) (hb : Below V.heap.size V V') : Prr w g n d c stk cs xs cv sv V' :=
  ⟨h.o.later hb, (hb.block _ h.lt).trans h.x, h.g⟩
theorem Prr.put (h : Prr w g n d c stk cs xs cv sv V) (hrow : V'.heap[g]? = some (.cells xs' 37 (0, 0))) (ho : Only g V V') : Prr w g n d c stk cs xs' cv sv V' := by
  have hg := h.g
  have hs := h.o.s
  exact ⟨⟨(ho.block _ (by omega) (by simp; omega)).trans h.o.a, (ho.block _ (by omega) (by simp; omega)).trans h.o.r, own_only h.o.code ho (own_not h.o.code h.x (by decide)), own_only h.o.stk ho (own_not h.o.stk h.x (by decide)),
    h.o.b.trans (ho.below (by omega) h.o.b.size), Nat.le_trans hs ho.size⟩, hrow, hg⟩
theorem Prr.first (h : One w n d c stk cs cv sv V) (hb : Below V.heap.size V V') (hrow : V'.heap[V.heap.size]? = some (.cells xs 37 (0, 0))) : Prr w V.heap.size n d c stk cs xs cv sv V' :=
  ⟨h.later hb, hrow, h.s⟩
/-- a byte of the code -/
theorem own_byte {W : World} {B : Nat} {a : Option Addr} {k : Nat} (h : W.ownsRow B 5 1 (.slice a n k) n (bts c)) (hb : ∀ x ∈ c, Byte x) {p : Nat} (hp : p < n) : ∃ ad, a = some ad ∧ W.cell? (ad.add p) = some (.int .u8 (c.getD p 0)) := by
  obtain ⟨a', k', e, hc⟩ := own_came h hb
  simp only [Value.slice.injEq] at e
  obtain ⟨rfl, -, rfl⟩ := e
  exact hc.reads.at hp
/-- a number of the stack -/
theorem own_num {W : World} {B : Nat} {a : Option Addr} {k : Nat} (h : W.ownsRow B 3 1 (.slice a d k) d (nts stk)) (hb : ∀ x ∈ stk, I64 x) {p : Nat} (hp : p < d) : ∃ ad, a = some ad ∧ W.cell? (ad.add p) = some (.int .i64 (stk.getD p 0)) := by
  obtain ⟨a', k', e, hc⟩ := own_nums h hb
  simp only [Value.slice.injEq] at e
  obtain ⟨rfl, -, rfl⟩ := e
  exact hc.cell p hp

/-- what a step answers -/
def RPost (w : World) (n : Nat) (c : List Int) (arg data : Int) (R : Ms) (e : Ending) (w' : World) : Prop :=
  ∃ cv sv, e = .returned (.agg (mcl cv sv arg data R)) ∧ w'.ownsRow w.heap.size 5 1 cv n (bts c) ∧ w'.ownsRow w.heap.size 3 1 sv R.stk.length (nts R.stk) ∧ Below w.heap.size w w'

/-- the result is written -/
theorem One.done (h : One w n d c stk cs cv sv V) {T : World} (ho : Only (w.heap.size + 1) V T) : T.ownsRow w.heap.size 5 1 cv n (bts c) ∧ T.ownsRow w.heap.size 3 1 sv d (nts stk) ∧ Below w.heap.size w T :=
  ⟨own_mono (own_only h.code ho (own_not h.code h.r (by decide))) (by omega), own_mono (own_only h.stk ho (own_not h.stk h.r (by decide))) (by omega), h.b.trans (ho.below (by omega) h.b.size)⟩

/-- how it stands with the new stack -/
structure Lst (w : World) (g : Nat) (n : Nat) (c st : List Int) (xs : Array Value) (cv v : Value) (V : World) : Prop where
  r : V.heap[w.heap.size + 1]? = some (.cells (noMac (.slice none 0 0) (.slice none 0 0)) 37 (0, 0))
  x : V.heap[g]? = some (.cells xs 37 (0, 0))
  code : V.ownsRow (w.heap.size + 2) 5 1 cv n (bts c)
  stk : V.ownsRow (w.heap.size + 2) 3 1 v st.length (nts st)
  b : Below w.heap.size w V
  g : w.heap.size + 2 ≤ g
theorem Lst.of {a : Option Addr} {k : Nat} (h : Prr w g n d c stk cs xs cv (.slice a d k) V) (p : Nat) (hp : p ≤ d) : Lst w g n c (stk.take p) xs cv (.slice a p k) V := by
  have hl := h.o.stk.1
  rw [nts_length, Nat.mul_one] at hl
  have h2 := own_front h.o.stk p hp
  exact ⟨h.o.r, h.x, h.o.code, by rwa [List.length_take, Nat.min_eq_left (by omega)], h.o.b, h.g⟩
variable {v v' : Value} {st ys : List Int}
theorem Lst.lt (h : Lst w g n c st xs cv v V) : g < V.heap.size := (Array.getElem?_eq_some_iff.1 h.x).1
theorem Lst.grew (h : Lst w g n c st xs cv v V) (hb : Below V.heap.size V V') {W : World} (ho : W.ownsRow (w.heap.size + 2) 3 1 v' (st.length + ys.length) (nts (st ++ ys))) (hg : V'.grownBy W v.ownBlock) : Lst w g n c (st ++ ys) xs cv v' W := by
  have hs := h.g
  have hlt := h.lt
  have hsz := hb.size
  have h1 : v.ownBlock ≠ some (w.heap.size + 1) := own_not h.stk h.r (by decide)
  have h2 : v.ownBlock ≠ some g := own_not h.stk h.x (by decide)
  refine ⟨?_, ?_, (own_later h.code hb).kept hg (own_apart h.code h.stk (by decide)), by rwa [List.length_append], h.b.trans ((hb.mono h.b.size).grown hg (Nat.le_trans h.b.size hsz) (fun k hk => by have := (h.stk.lt k hk).1; omega)), hs⟩
  · rw [hg.block _ (by omega) (fun e => h1 e.symm), hb.block _ (by omega)]
    exact h.r
  · rw [hg.block _ (by omega) (fun e => h2 e.symm), hb.block _ (by omega)]
    exact h.x
theorem Lst.done (h : Lst w g n c st xs cv v V) {W T : World} (ho1 : Only g V W) (ho : Only (w.heap.size + 1) W T) : T.ownsRow w.heap.size 5 1 cv n (bts c) ∧ T.ownsRow w.heap.size 3 1 v st.length (nts st) ∧ Below w.heap.size w T := by
  have hs := h.g
  have hlt := h.lt
  have hr : W.heap[w.heap.size + 1]? = _ := (ho1.block _ (by omega) (by simp; omega)).trans h.r
  have k1 := own_only h.code ho1 (own_not h.code h.x (by decide))
  have k2 := own_only h.stk ho1 (own_not h.stk h.x (by decide))
  exact ⟨own_mono (own_only k1 ho (own_not k1 hr (by decide))) (by omega), own_mono (own_only k2 ho (own_not k2 hr (by decide))) (by omega), h.b.trans ((ho1.below (by omega) h.b.size).trans (ho.below (by omega) (Nat.le_trans h.b.size ho1.size)))⟩
theorem Lst.r2 (h : Lst w g n c st xs cv v V) {W : World} (ho1 : Only g V W) : W.heap[w.heap.size + 1]? = some (.cells (noMac (.slice none 0 0) (.slice none 0 0)) 37 (0, 0)) := by
  have hs := h.g
  have hlt := h.lt
  exact (ho1.block _ (by omega) (by simp; omega)).trans h.r
end

/-- a value of one cell stored in a block -/
theorem store_at {P : Program} {ops : Array Oper} {rest : List Oper} {o : Oper} {a : Act} {w : World} {Q : Exit → Act → World → Prop} (hgd : o.guard = none) (T : TypeId) (x y : Operand) (ho : o.op = .store T x y) (hd : o.dst = none)
    (g k : Nat) (v : Value) (hx : a.eval x = .pointer (some ⟨g, k, none⟩)) (hy : a.eval y = v) (h1 : v.oneCell' = true) (hi : (P.info? T).map (·.size) = some 1) (t : TypeId) (cells : Array Value) (hg : w.heap[g]? = some (.cells cells t (0, 0))) (hk : k < cells.size)
    (h : ∀ w', w'.heap[g]? = some (.cells (cells.setIfInBounds k v) t (0, 0)) → Only g w w' → wpList P ops Q rest a w') : wpList P ops Q (o :: rest) a w := by
  have ho2 := only_setCell w g k cells t v hg
  have hc : (w.cell? ⟨g, k, none⟩).isSome = true := by simp [World.cell?, hg, hk]
  have hf : w.frozen? ⟨g, k, none⟩ = false := by simp [World.frozen?, hg]
  have q1 : ∀ j, j < [v].length → (w.cell? ⟨g, k + 0 + j, none⟩).isSome = true := fun j hj => by
    have e : j = 0 := by simpa using hj
    subst e
    simpa using hc
  have q2 : ∀ j, j < [v].length → w.frozen? ⟨g, k + 0 + j, none⟩ = false := fun j hj => by
    have e : j = 0 := by simpa using hj
    subst e
    simpa using hf
  have q3 : ∀ u ∈ [v], u.oneCell' = true := fun u hu => by rw [List.mem_singleton.1 hu]; exact h1
  have hrun := run_storeCells_cells (P := P) g k [v] 0 w q1 q2 q3
  have hv : v.cells = #[v] := by cases v <;> first | rfl | cases h1
  refine wpList_plain hgd fun K hK => ?_
  cases hq : P.info? T with
  | none => simp [hq] at hi
  | some i =>
    have hs : i.size = 1 := by simpa [hq] using hi
    unfold Oper.wp execOp
    simp only [Nat.add_zero] at hrun
    simp only [ho, hx, hy, Instr.storeAt, Instr.sureAddr, Sem.run_bind, Sem.run_pure, Result.andThen_ok]
    have hstore : (storeVar T ⟨g, k, none⟩ v).run P w = .ok () (w.setCells g k [v]) := by simp [storeVar, sizeOf, typeInfo, hq, hv, hs, hrun]
    rw [hstore]
    exact hK _ _ (by rw [hd]; exact h _ ho2.2 ho2.1)

/-- append of numbers made just now to what the call owns -/
theorem wpList_appN {w : World} {ops : Array Oper} {rest : List Oper} {o : Oper} {a : Act} {Q : Exit → Act → World → Prop} (hgd : o.guard = none) (s x : Operand)
    (ho : o.op = .call { callee := .builtin .append, args := #[s, x], argTypes := #[23, 23] })
    (B : Nat) (v : Value) (n : Nat) (xs ys : List Int) (wb : World) (hs : a.eval s = v) (hown : wb.ownsRow B 3 1 v n (nts xs)) (hw : w = wb.alloc (Obj.cells (nts ys).toArray 3)) (hx : a.eval x = .slice (some ⟨wb.heap.size, 0, none⟩) ys.length ys.length)
    (hn : n ≤ 1000) (hl : ys.length ≤ 10) (hB : B ≤ wb.heap.size)
    (h : ∀ v' w', w'.ownsRow B 3 1 v' (n + ys.length) (nts (xs ++ ys)) → w.grownBy w' v.ownBlock → wpList Try.prog ops Q rest (a.put o.dst v') w') : wpList Try.prog ops Q (o :: rest) a w := by
  subst hw
  obtain ⟨i0, hi, hz0, hz1, hz2⟩ := info_parts Try.infoInt
  refine wpList_append_own _ hgd s x 23 ho B 3 i0 (.int .i64 0) 1 8 Try.underlying23 hi hz0 hz1 hz2 rfl (by decide) v n _ hs (hown.alloc _) ⟨wb.heap.size, 0, none⟩ ys.length ys.length (nts ys) hx (by rw [nts_length]; omega) ?_ (nts_one _) (by unfold maxLen; omega) (by omega) (by simp; omega) ?_
  · intro j u hj
    rw [Addr.add_lit, Nat.zero_add]
    simp only [World.cell?, heap_alloc_new]
    simpa using hj
  · intro v' w' ho' hg' _
    exact h v' w' (by rw [nts_append]; exact ho') hg'

theorem stepP_go {c : List Int} {arg data G : Int} {pc : Nat} {stk : List Int} (hG : 1 ≤ G) : stepP c arg data ⟨pc, stk, G, false, 0⟩ = paidP c arg data ⟨pc, stk, G - 1, false, 0⟩ := by
  unfold stepP
  rw [if_neg (by simp), if_neg (by show ¬ G < 1; omega)]
  rfl
theorem stepP_end {c : List Int} {arg data G : Int} {pc : Nat} {stk : List Int} (hG : 1 ≤ G) (h : pc = c.length ∨ c.getD pc 0 = 0) : stepP c arg data ⟨pc, stk, G, false, 0⟩ = ⟨pc, stk, G - 1, true, 0⟩ := by
  rw [stepP_go hG]
  unfold paidP
  exact if_pos h
theorem stepP_bad {c : List Int} {arg data G : Int} {pc : Nat} {stk : List Int} {e : Int} (hG : 1 ≤ G) (hpc : pc < c.length) (hs : c.getD pc 0 ≠ 0) (hE : actE c arg data ⟨pc, stk, G - 1, false, 0⟩ = e) (he : e ≠ 0) : stepP c arg data ⟨pc, stk, G, false, 0⟩ = (Ms.spend ⟨pc, stk, G, false, 0⟩).halt e := by
  rw [stepP_go hG]
  unfold paidP
  rw [if_neg (fun h => h.elim (fun h => by have : pc = c.length := h; omega) hs), hE, if_neg he]
  rfl
theorem stepP_ok {c : List Int} {arg data G : Int} {pc : Nat} {stk : List Int} (hG : 1 ≤ G) (hpc : pc < c.length) (hs : c.getD pc 0 ≠ 0) (hE : actE c arg data ⟨pc, stk, G - 1, false, 0⟩ = 0) : stepP c arg data ⟨pc, stk, G, false, 0⟩ = actM c arg data ⟨pc, stk, G - 1, false, 0⟩ := by
  rw [stepP_go hG]
  unfold paidP
  rw [if_neg (fun h => h.elim (fun h => by have : pc = c.length := h; omega) hs), hE, if_pos rfl]

set_option maxRecDepth 100000 in
set_option maxHeartbeats 4000000 in
theorem rstep_fin {c : List Int} {arg data : Int} {pc : Nat} {stk : List Int} {G : Int} {E : Int} {ca sa : Option Addr} {n d cc sc : Nat} {w : World} (hn : n = c.length) (hd : d = stk.length) (hc : Came w ca n cc c) (hs : Nums w sa d sc stk) (hnil : sa = none → d = 0 ∧ sc = 0) (hF : Fit c arg data ⟨pc, stk, G, true, E⟩) :
    Calls Try.prog 20 #[.agg (mcl (.slice ca n cc) (.slice sa d sc) arg data ⟨pc, stk, G, true, E⟩)] w (RPost w n c arg data (stepP c arg data ⟨pc, stk, G, true, E⟩)) := by
  have HC := Lib.hid hc
  have HS := Lib.hid hs
  have HF := Lib.hid hF
  have HN := Lib.hid hn
  have HD := Lib.hid hd
  have hlen : n ≤ 100 := by have := hF.len; omega
  have hstk : d ≤ 16 := by have := hF.stk; have h2 : d = stk.length := hd; show d ≤ 16; have h3 : stk.length ≤ 16 := this; omega
  have hpn : pc ≤ n := by have h3 : pc ≤ c.length := hF.pc; omega
  have hg200 : G ≤ 200 := hF.gas.2
  clear hc hs hF hn hd
  obtain ⟨i0, hi, hz0, hz1, hz2⟩ := info_parts Try.infoByte
  go_enter Try.func20, Try.ntmps20
  go_upto_region 1 with (fail)
  have hbg := Bgn.start w (mcl (.slice ca n cc) (.slice sa d sc) arg data ⟨pc, stk, G, true, E⟩)
  have HBG := Lib.hid hbg
  clear hbg
  generalize hX0 : (w.alloc _).alloc _ = X0
  have G00 : Hid (Bgn w (mcl (.slice ca n cc) (.slice sa d sc) arg data ⟨pc, stk, G, true, E⟩) X0) := by rw [← hX0]; exact HBG
  clear HBG hX0
  go_cut [] from 12 to 22 (fun wx => ∃ a1 k1 a2 k2, Hid (One w n d c stk (mcl (.slice a1 n k1) (.slice a2 d k2) arg data ⟨pc, stk, G, true, E⟩) (.slice a1 n k1) (.slice a2 d k2) wx))
  case first =>
    refine anyS_start (by kernel_rfl) ?_
    have G0 := Lib.hid (G00.out.later (Below.refl _ _).drew)
    clear G00
    generalize World.drew X0 = V0 at *
    have hcs0 : Hid (TwoAt w.heap.size (.slice ca n cc) (.slice sa d sc) V0) := ⟨mcl_cell G0.out.r1 rfl, mcl_cell G0.out.r1 rfl⟩
    (refine anyS_free (i := 1) (v := ?_) rfl (by kernel_rfl) (by kernel_rfl) (by kernel_rfl) (fun _ _ _ h => h) (fun _ => by simp) (Or.inl ⟨by rfl, fun w' _ => ?_⟩) ?_; rotate_left; (· go_simp; try with_reducible rfl))
    try simp only [Act.put, List.setIfInBounds_toArray, List.set_cons_zero, List.set_cons_succ]
    (refine anyS_free (i := 5) (v := ?_) rfl (by kernel_rfl) (by kernel_rfl) (by kernel_rfl) (fun _ _ _ h => h) (fun _ => by simp) (Or.inl ⟨by rfl, fun w' _ => ?_⟩) ?_; rotate_left; (· go_simp; try with_reducible rfl))
    try simp only [Act.put, List.setIfInBounds_toArray, List.set_cons_zero, List.set_cons_succ]
    (refine anyS_takeNew (i := 6) (v := .slice sa d sc) (fun w' => TwoAt w.heap.size (.slice ca n cc) (.slice sa d sc) w') [0, 2, 3, 4] hcs0.out rfl (by kernel_rfl) (by kernel_rfl) (by kernel_rfl) (by kernel_rfl) (fun _ _ _ h => h) (fun _ hcs => by repeat' (first | exact trivial | exact fun _ => hcs | refine ⟨?_, ?_⟩)) (Or.inl ⟨by rfl, fun w' hw' => ?_⟩) ?_; (· have c0 := hw'.l; have c4 := hw'.r; go_simp))
    try simp only [Act.put, List.setIfInBounds_toArray, List.set_cons_zero, List.set_cons_succ]
    (refine anyS_takeNew (i := 2) (v := .slice ca n cc) (fun w' => TwoAt w.heap.size (.slice ca n cc) (.slice sa d sc) w') [0, 4] hcs0.out rfl (by kernel_rfl) (by kernel_rfl) (by kernel_rfl) (by kernel_rfl) (fun _ _ _ h => h) (fun _ hcs => by repeat' (first | exact trivial | exact fun _ => hcs | refine ⟨?_, ?_⟩)) (Or.inl ⟨by rfl, fun w' hw' => ?_⟩) ?_; (· have c0 := hw'.l; have c4 := hw'.r; go_simp))
    try simp only [Act.put, List.setIfInBounds_toArray, List.set_cons_zero, List.set_cons_succ]
    clear hcs0
    refine anyS_two 0 4 (by kernel_rfl) rfl rfl (fun K' hK' => ?_) (fun K' hK' => ?_)
    · go_simp
      have M12_1 := Lib.hid (World.ownsRow_made (base := w.heap.size + 2) (e := 5) (size := 1) V0 #[] 0 G0.out.s (by unfold maxLen; omega) rfl)
      have hbs : Hid (Below (w.heap.size + 2) V0 (V0.alloc (.cells #[] 5))) := (Below.refl _ _).alloc G0.out.s _
      have hbl : Hid (Below V0.heap.size V0 (V0.alloc (.cells #[] 5))) := (Below.refl _ _).alloc (Nat.le_refl _) _
      have G1 := Lib.hid (G0.out.later hbs.out)
      obtain ⟨V1, hV1⟩ : ∃ X, X = V0.alloc (.cells #[] 5) := ⟨_, rfl⟩
      rw [← hV1] at M12_1 G1 ⊢
      clear hbs hbl hV1
      have hcs : TwoAt w.heap.size (.slice ca n cc) (.slice sa d sc) V1 := ⟨mcl_cell G1.out.r1 rfl, mcl_cell G1.out.r1 rfl⟩
      refine hK'.out _ _ (by repeat' (first | exact trivial | exact fun _ => hcs | refine ⟨?_, ?_⟩)) ?_
      clear hK' K' hcs
      try simp only [Act.put, List.setIfInBounds_toArray, List.set_cons_zero, List.set_cons_succ]
      refine anyS_two 3 4 (by kernel_rfl) rfl rfl (fun K' hK' => ?_) (fun K' hK' => ?_)
      · refine step_append_opt rfl (.tmp 12) (.tmp 14) 22 rfl (w.heap.size + 2) 5 i0 Try.underlying22 hi hz0 hz1 hz2 _ 0 [] rfl M12_1.out ca n cc c rfl (HC.out.below G1.out.b).reads (HC.out.below G1.out.b).nil (by omega) G1.out.s ?_
        intro v15 V2 ho hg
        rw [Nat.zero_add, List.nil_append] at ho
        have hbs : Hid (Below (w.heap.size + 2) V1 V2) := (Below.refl _ _).grown hg G1.out.s (fun k hk => (M12_1.out.lt k hk).1)
        have G2 := Lib.hid (G1.out.later hbs.out)
        obtain ⟨a15, k15, rfl⟩ := own_slice ho
        have M15_2 := Lib.hid ho
        clear ho hg hbs
        have hcs : TwoAt w.heap.size (.slice ca n cc) (.slice sa d sc) V2 := ⟨mcl_cell G2.out.r1 rfl, mcl_cell G2.out.r1 rfl⟩
        refine hK'.out _ _ (by repeat' (first | exact trivial | exact fun _ => hcs | refine ⟨?_, ?_⟩)) ?_
        clear hK' K' hcs
        try simp only [Act.put, List.setIfInBounds_toArray, List.set_cons_zero, List.set_cons_succ]
        (refine anyS_free (i := 8) (v := ?_) rfl (by kernel_rfl) (by kernel_rfl) (by kernel_rfl) (fun _ _ _ h => h) (fun _ => by simp) (Or.inl ⟨by rfl, fun w' _ => ?_⟩) ?_; rotate_left; (· go_simp; try with_reducible rfl))
        try simp only [Act.put, List.setIfInBounds_toArray, List.set_cons_zero, List.set_cons_succ]
        refine anyS_one 4 (by kernel_rfl) rfl (fun K' hK' => ?_)
        go_simp
        have M16_3 := Lib.hid (World.ownsRow_made (base := w.heap.size + 2) (e := 3) (size := 1) V2 #[] 0 G2.out.s (by unfold maxLen; omega) rfl)
        have hbs : Hid (Below (w.heap.size + 2) V2 (V2.alloc (.cells #[] 3))) := (Below.refl _ _).alloc G2.out.s _
        have hbl : Hid (Below V2.heap.size V2 (V2.alloc (.cells #[] 3))) := (Below.refl _ _).alloc (Nat.le_refl _) _
        have G3 := Lib.hid (G2.out.later hbs.out)
        have M15_3 := Lib.hid (own_later M15_2.out hbl.out)
        obtain ⟨V3, hV3⟩ : ∃ X, X = V2.alloc (.cells #[] 3) := ⟨_, rfl⟩
        rw [← hV3] at M16_3 G3 M15_3 ⊢
        clear hbs hbl hV3
        have hcs : TwoAt w.heap.size (.slice ca n cc) (.slice sa d sc) V3 := ⟨mcl_cell G3.out.r1 rfl, mcl_cell G3.out.r1 rfl⟩
        refine hK'.out _ _ (by repeat' (first | exact trivial | exact fun _ => hcs | refine ⟨?_, ?_⟩)) ?_
        clear hK' K' hcs
        try simp only [Act.put, List.setIfInBounds_toArray, List.set_cons_zero, List.set_cons_succ]
        refine anyS_one 7 (by kernel_rfl) rfl (fun K' hK' => ?_)
        refine step_nums_opt rfl (.tmp 16) (.tmp 18) rfl (w.heap.size + 2) _ 0 [] rfl M16_3.out sa d sc stk rfl (HS.out.below G3.out.b) hnil (by omega) G3.out.s ?_
        intro v19 V4 ho hg
        rw [Nat.zero_add, List.nil_append] at ho
        have hbs : Hid (Below (w.heap.size + 2) V3 V4) := (Below.refl _ _).grown hg G3.out.s (fun k hk => (M16_3.out.lt k hk).1)
        have G4 := Lib.hid (G3.out.later hbs.out)
        have M15_4 := Lib.hid (M15_3.out.kept hg (own_apart M15_3.out M16_3.out (by decide)))
        obtain ⟨a19, k19, rfl⟩ := own_slice ho
        have M19_4 := Lib.hid ho
        clear ho hg hbs
        have hcs : TwoAt w.heap.size (.slice ca n cc) (.slice sa d sc) V4 := ⟨mcl_cell G4.out.r1 rfl, mcl_cell G4.out.r1 rfl⟩
        refine hK'.out _ _ (by repeat' (first | exact trivial | exact fun _ => hcs | refine ⟨?_, ?_⟩)) ?_
        clear hK' K' hcs
        try simp only [Act.put, List.setIfInBounds_toArray, List.set_cons_zero, List.set_cons_succ]
        have h1 := only_setCell V4 w.heap.size 0 _ _ (.slice a15 n k15) G4.out.r1
        have h2 := only_setCell _ w.heap.size 4 _ _ (.slice a19 d k19) h1.2
        have c0' := mcl_cell (k := 0) G4.out.r1 rfl
        have f0' : V4.frozen? ⟨w.heap.size, 0, none⟩ = false := by simp [World.frozen?, G4.out.r1]
        have c4' : (V4.setCell ⟨w.heap.size, 0, none⟩ (.slice a15 n k15)).cell? ⟨w.heap.size, 4, none⟩ = some (.slice sa d sc) := mcl_cell h1.2 rfl
        have f4' : (V4.setCell ⟨w.heap.size, 0, none⟩ (.slice a15 n k15)).frozen? ⟨w.heap.size, 4, none⟩ = false := by simp [World.frozen?, h1.2]
        have ho := h1.1.trans h2.1
        have hmac : One w n d c stk (mcl (.slice a15 n k15) (.slice a19 d k19) arg data ⟨pc, stk, G, true, E⟩) (.slice a15 n k15) (.slice a19 d k19) ((V4.setCell ⟨w.heap.size, 0, none⟩ (.slice a15 n k15)).setCell ⟨w.heap.size, 4, none⟩ (.slice a19 d k19)) :=
          ⟨h2.2, (ho.block (w.heap.size + 1) (by have := G4.out.s; omega) (by simp)).trans G4.out.r2, own_only M15_4.out ho (own_not M15_4.out G4.out.r1 (by decide)), own_only M19_4.out ho (own_not M19_4.out G4.out.r1 (by decide)), G4.out.b.trans (ho.below (Nat.le_refl _) G4.out.b.size), Nat.le_trans G4.out.s ho.size⟩
        have HM := Lib.hid hmac
        clear ho hmac h2
        refine anyS_one 9 (by kernel_rfl) rfl (fun K' hK' => ?_)
        go_simp
        refine hK'.out _ _ (by repeat' (first | exact trivial | exact fun h => absurd h (by decide) | refine ⟨?_, ?_⟩)) ?_
        clear hK' K'
        try simp only [Act.put, List.setIfInBounds_toArray, List.set_cons_zero, List.set_cons_succ]
        (refine anyS_free (i := 10) (v := ?_) rfl (by kernel_rfl) (by kernel_rfl) (by kernel_rfl) (fun _ _ _ h => h) (fun _ => by simp) (Or.inl ⟨by rfl, fun w' _ => ?_⟩) ?_; rotate_left; (· go_simp; try with_reducible rfl))
        try simp only [Act.put, List.setIfInBounds_toArray, List.set_cons_zero, List.set_cons_succ]
        refine anyS_one 11 (by kernel_rfl) rfl (fun K' hK' => ?_)
        go_simp
        refine hK'.out _ _ (by repeat' (first | exact trivial | exact fun h => absurd h (by decide) | refine ⟨?_, ?_⟩)) ?_
        clear hK' K'
        try simp only [Act.put, List.setIfInBounds_toArray, List.set_cons_zero, List.set_cons_succ]
        refine anyS_done (by kernel_rfl) ?_ _
        refine NoPanic.normal ?_
        clear c0' f0' c4' f4' h1
        go_wp2_with fail
        go_meet
        case rel => exact ⟨_, _, _, _, HM⟩
      · go_simp
        have M16_5 := Lib.hid (World.ownsRow_made (base := w.heap.size + 2) (e := 3) (size := 1) V1 #[] 0 G1.out.s (by unfold maxLen; omega) rfl)
        have hbs : Hid (Below (w.heap.size + 2) V1 (V1.alloc (.cells #[] 3))) := (Below.refl _ _).alloc G1.out.s _
        have hbl : Hid (Below V1.heap.size V1 (V1.alloc (.cells #[] 3))) := (Below.refl _ _).alloc (Nat.le_refl _) _
        have G5 := Lib.hid (G1.out.later hbs.out)
        have M12_5 := Lib.hid (own_later M12_1.out hbl.out)
        obtain ⟨V5, hV5⟩ : ∃ X, X = V1.alloc (.cells #[] 3) := ⟨_, rfl⟩
        rw [← hV5] at M16_5 G5 M12_5 ⊢
        clear hbs hbl hV5
        have hcs : TwoAt w.heap.size (.slice ca n cc) (.slice sa d sc) V5 := ⟨mcl_cell G5.out.r1 rfl, mcl_cell G5.out.r1 rfl⟩
        refine hK'.out _ _ (by repeat' (first | exact trivial | exact fun _ => hcs | refine ⟨?_, ?_⟩)) ?_
        clear hK' K' hcs
        try simp only [Act.put, List.setIfInBounds_toArray, List.set_cons_zero, List.set_cons_succ]
        refine anyS_one 3 (by kernel_rfl) rfl (fun K' hK' => ?_)
        refine step_append_opt rfl (.tmp 12) (.tmp 14) 22 rfl (w.heap.size + 2) 5 i0 Try.underlying22 hi hz0 hz1 hz2 _ 0 [] rfl M12_5.out ca n cc c rfl (HC.out.below G5.out.b).reads (HC.out.below G5.out.b).nil (by omega) G5.out.s ?_
        intro v15 V6 ho hg
        rw [Nat.zero_add, List.nil_append] at ho
        have hbs : Hid (Below (w.heap.size + 2) V5 V6) := (Below.refl _ _).grown hg G5.out.s (fun k hk => (M12_5.out.lt k hk).1)
        have G6 := Lib.hid (G5.out.later hbs.out)
        have M16_6 := Lib.hid (M16_5.out.kept hg (own_apart M16_5.out M12_5.out (by decide)))
        obtain ⟨a15, k15, rfl⟩ := own_slice ho
        have M15_6 := Lib.hid ho
        clear ho hg hbs
        have hcs : TwoAt w.heap.size (.slice ca n cc) (.slice sa d sc) V6 := ⟨mcl_cell G6.out.r1 rfl, mcl_cell G6.out.r1 rfl⟩
        refine hK'.out _ _ (by repeat' (first | exact trivial | exact fun _ => hcs | refine ⟨?_, ?_⟩)) ?_
        clear hK' K' hcs
        try simp only [Act.put, List.setIfInBounds_toArray, List.set_cons_zero, List.set_cons_succ]
        (refine anyS_free (i := 8) (v := ?_) rfl (by kernel_rfl) (by kernel_rfl) (by kernel_rfl) (fun _ _ _ h => h) (fun _ => by simp) (Or.inl ⟨by rfl, fun w' _ => ?_⟩) ?_; rotate_left; (· go_simp; try with_reducible rfl))
        try simp only [Act.put, List.setIfInBounds_toArray, List.set_cons_zero, List.set_cons_succ]
        refine anyS_one 7 (by kernel_rfl) rfl (fun K' hK' => ?_)
        refine step_nums_opt rfl (.tmp 16) (.tmp 18) rfl (w.heap.size + 2) _ 0 [] rfl M16_6.out sa d sc stk rfl (HS.out.below G6.out.b) hnil (by omega) G6.out.s ?_
        intro v19 V7 ho hg
        rw [Nat.zero_add, List.nil_append] at ho
        have hbs : Hid (Below (w.heap.size + 2) V6 V7) := (Below.refl _ _).grown hg G6.out.s (fun k hk => (M16_6.out.lt k hk).1)
        have G7 := Lib.hid (G6.out.later hbs.out)
        have M15_7 := Lib.hid (M15_6.out.kept hg (own_apart M15_6.out M16_6.out (by decide)))
        obtain ⟨a19, k19, rfl⟩ := own_slice ho
        have M19_7 := Lib.hid ho
        clear ho hg hbs
        have hcs : TwoAt w.heap.size (.slice ca n cc) (.slice sa d sc) V7 := ⟨mcl_cell G7.out.r1 rfl, mcl_cell G7.out.r1 rfl⟩
        refine hK'.out _ _ (by repeat' (first | exact trivial | exact fun _ => hcs | refine ⟨?_, ?_⟩)) ?_
        clear hK' K' hcs
        try simp only [Act.put, List.setIfInBounds_toArray, List.set_cons_zero, List.set_cons_succ]
        have h1 := only_setCell V7 w.heap.size 0 _ _ (.slice a15 n k15) G7.out.r1
        have h2 := only_setCell _ w.heap.size 4 _ _ (.slice a19 d k19) h1.2
        have c0' := mcl_cell (k := 0) G7.out.r1 rfl
        have f0' : V7.frozen? ⟨w.heap.size, 0, none⟩ = false := by simp [World.frozen?, G7.out.r1]
        have c4' : (V7.setCell ⟨w.heap.size, 0, none⟩ (.slice a15 n k15)).cell? ⟨w.heap.size, 4, none⟩ = some (.slice sa d sc) := mcl_cell h1.2 rfl
        have f4' : (V7.setCell ⟨w.heap.size, 0, none⟩ (.slice a15 n k15)).frozen? ⟨w.heap.size, 4, none⟩ = false := by simp [World.frozen?, h1.2]
        have ho := h1.1.trans h2.1
        have hmac : One w n d c stk (mcl (.slice a15 n k15) (.slice a19 d k19) arg data ⟨pc, stk, G, true, E⟩) (.slice a15 n k15) (.slice a19 d k19) ((V7.setCell ⟨w.heap.size, 0, none⟩ (.slice a15 n k15)).setCell ⟨w.heap.size, 4, none⟩ (.slice a19 d k19)) :=
          ⟨h2.2, (ho.block (w.heap.size + 1) (by have := G7.out.s; omega) (by simp)).trans G7.out.r2, own_only M15_7.out ho (own_not M15_7.out G7.out.r1 (by decide)), own_only M19_7.out ho (own_not M19_7.out G7.out.r1 (by decide)), G7.out.b.trans (ho.below (Nat.le_refl _) G7.out.b.size), Nat.le_trans G7.out.s ho.size⟩
        have HM := Lib.hid hmac
        clear ho hmac h2
        refine anyS_one 9 (by kernel_rfl) rfl (fun K' hK' => ?_)
        go_simp
        refine hK'.out _ _ (by repeat' (first | exact trivial | exact fun h => absurd h (by decide) | refine ⟨?_, ?_⟩)) ?_
        clear hK' K'
        try simp only [Act.put, List.setIfInBounds_toArray, List.set_cons_zero, List.set_cons_succ]
        (refine anyS_free (i := 10) (v := ?_) rfl (by kernel_rfl) (by kernel_rfl) (by kernel_rfl) (fun _ _ _ h => h) (fun _ => by simp) (Or.inl ⟨by rfl, fun w' _ => ?_⟩) ?_; rotate_left; (· go_simp; try with_reducible rfl))
        try simp only [Act.put, List.setIfInBounds_toArray, List.set_cons_zero, List.set_cons_succ]
        refine anyS_one 11 (by kernel_rfl) rfl (fun K' hK' => ?_)
        go_simp
        refine hK'.out _ _ (by repeat' (first | exact trivial | exact fun h => absurd h (by decide) | refine ⟨?_, ?_⟩)) ?_
        clear hK' K'
        try simp only [Act.put, List.setIfInBounds_toArray, List.set_cons_zero, List.set_cons_succ]
        refine anyS_done (by kernel_rfl) ?_ _
        refine NoPanic.normal ?_
        clear c0' f0' c4' f4' h1
        go_wp2_with fail
        go_meet
        case rel => exact ⟨_, _, _, _, HM⟩
    · go_simp
      have M16_8 := Lib.hid (World.ownsRow_made (base := w.heap.size + 2) (e := 3) (size := 1) V0 #[] 0 G0.out.s (by unfold maxLen; omega) rfl)
      have hbs : Hid (Below (w.heap.size + 2) V0 (V0.alloc (.cells #[] 3))) := (Below.refl _ _).alloc G0.out.s _
      have hbl : Hid (Below V0.heap.size V0 (V0.alloc (.cells #[] 3))) := (Below.refl _ _).alloc (Nat.le_refl _) _
      have G8 := Lib.hid (G0.out.later hbs.out)
      obtain ⟨V8, hV8⟩ : ∃ X, X = V0.alloc (.cells #[] 3) := ⟨_, rfl⟩
      rw [← hV8] at M16_8 G8 ⊢
      clear hbs hbl hV8
      have hcs : TwoAt w.heap.size (.slice ca n cc) (.slice sa d sc) V8 := ⟨mcl_cell G8.out.r1 rfl, mcl_cell G8.out.r1 rfl⟩
      refine hK'.out _ _ (by repeat' (first | exact trivial | exact fun _ => hcs | refine ⟨?_, ?_⟩)) ?_
      clear hK' K' hcs
      try simp only [Act.put, List.setIfInBounds_toArray, List.set_cons_zero, List.set_cons_succ]
      refine anyS_one 0 (by kernel_rfl) rfl (fun K' hK' => ?_)
      go_simp
      have M12_9 := Lib.hid (World.ownsRow_made (base := w.heap.size + 2) (e := 5) (size := 1) V8 #[] 0 G8.out.s (by unfold maxLen; omega) rfl)
      have hbs : Hid (Below (w.heap.size + 2) V8 (V8.alloc (.cells #[] 5))) := (Below.refl _ _).alloc G8.out.s _
      have hbl : Hid (Below V8.heap.size V8 (V8.alloc (.cells #[] 5))) := (Below.refl _ _).alloc (Nat.le_refl _) _
      have G9 := Lib.hid (G8.out.later hbs.out)
      have M16_9 := Lib.hid (own_later M16_8.out hbl.out)
      obtain ⟨V9, hV9⟩ : ∃ X, X = V8.alloc (.cells #[] 5) := ⟨_, rfl⟩
      rw [← hV9] at M12_9 G9 M16_9 ⊢
      clear hbs hbl hV9
      have hcs : TwoAt w.heap.size (.slice ca n cc) (.slice sa d sc) V9 := ⟨mcl_cell G9.out.r1 rfl, mcl_cell G9.out.r1 rfl⟩
      refine hK'.out _ _ (by repeat' (first | exact trivial | exact fun _ => hcs | refine ⟨?_, ?_⟩)) ?_
      clear hK' K' hcs
      try simp only [Act.put, List.setIfInBounds_toArray, List.set_cons_zero, List.set_cons_succ]
      refine anyS_one 3 (by kernel_rfl) rfl (fun K' hK' => ?_)
      refine step_append_opt rfl (.tmp 12) (.tmp 14) 22 rfl (w.heap.size + 2) 5 i0 Try.underlying22 hi hz0 hz1 hz2 _ 0 [] rfl M12_9.out ca n cc c rfl (HC.out.below G9.out.b).reads (HC.out.below G9.out.b).nil (by omega) G9.out.s ?_
      intro v15 V10 ho hg
      rw [Nat.zero_add, List.nil_append] at ho
      have hbs : Hid (Below (w.heap.size + 2) V9 V10) := (Below.refl _ _).grown hg G9.out.s (fun k hk => (M12_9.out.lt k hk).1)
      have G10 := Lib.hid (G9.out.later hbs.out)
      have M16_10 := Lib.hid (M16_9.out.kept hg (own_apart M16_9.out M12_9.out (by decide)))
      obtain ⟨a15, k15, rfl⟩ := own_slice ho
      have M15_10 := Lib.hid ho
      clear ho hg hbs
      have hcs : TwoAt w.heap.size (.slice ca n cc) (.slice sa d sc) V10 := ⟨mcl_cell G10.out.r1 rfl, mcl_cell G10.out.r1 rfl⟩
      refine hK'.out _ _ (by repeat' (first | exact trivial | exact fun _ => hcs | refine ⟨?_, ?_⟩)) ?_
      clear hK' K' hcs
      try simp only [Act.put, List.setIfInBounds_toArray, List.set_cons_zero, List.set_cons_succ]
      (refine anyS_free (i := 8) (v := ?_) rfl (by kernel_rfl) (by kernel_rfl) (by kernel_rfl) (fun _ _ _ h => h) (fun _ => by simp) (Or.inl ⟨by rfl, fun w' _ => ?_⟩) ?_; rotate_left; (· go_simp; try with_reducible rfl))
      try simp only [Act.put, List.setIfInBounds_toArray, List.set_cons_zero, List.set_cons_succ]
      refine anyS_one 7 (by kernel_rfl) rfl (fun K' hK' => ?_)
      refine step_nums_opt rfl (.tmp 16) (.tmp 18) rfl (w.heap.size + 2) _ 0 [] rfl M16_10.out sa d sc stk rfl (HS.out.below G10.out.b) hnil (by omega) G10.out.s ?_
      intro v19 V11 ho hg
      rw [Nat.zero_add, List.nil_append] at ho
      have hbs : Hid (Below (w.heap.size + 2) V10 V11) := (Below.refl _ _).grown hg G10.out.s (fun k hk => (M16_10.out.lt k hk).1)
      have G11 := Lib.hid (G10.out.later hbs.out)
      have M15_11 := Lib.hid (M15_10.out.kept hg (own_apart M15_10.out M16_10.out (by decide)))
      obtain ⟨a19, k19, rfl⟩ := own_slice ho
      have M19_11 := Lib.hid ho
      clear ho hg hbs
      have hcs : TwoAt w.heap.size (.slice ca n cc) (.slice sa d sc) V11 := ⟨mcl_cell G11.out.r1 rfl, mcl_cell G11.out.r1 rfl⟩
      refine hK'.out _ _ (by repeat' (first | exact trivial | exact fun _ => hcs | refine ⟨?_, ?_⟩)) ?_
      clear hK' K' hcs
      try simp only [Act.put, List.setIfInBounds_toArray, List.set_cons_zero, List.set_cons_succ]
      have h1 := only_setCell V11 w.heap.size 0 _ _ (.slice a15 n k15) G11.out.r1
      have h2 := only_setCell _ w.heap.size 4 _ _ (.slice a19 d k19) h1.2
      have c0' := mcl_cell (k := 0) G11.out.r1 rfl
      have f0' : V11.frozen? ⟨w.heap.size, 0, none⟩ = false := by simp [World.frozen?, G11.out.r1]
      have c4' : (V11.setCell ⟨w.heap.size, 0, none⟩ (.slice a15 n k15)).cell? ⟨w.heap.size, 4, none⟩ = some (.slice sa d sc) := mcl_cell h1.2 rfl
      have f4' : (V11.setCell ⟨w.heap.size, 0, none⟩ (.slice a15 n k15)).frozen? ⟨w.heap.size, 4, none⟩ = false := by simp [World.frozen?, h1.2]
      have ho := h1.1.trans h2.1
      have hmac : One w n d c stk (mcl (.slice a15 n k15) (.slice a19 d k19) arg data ⟨pc, stk, G, true, E⟩) (.slice a15 n k15) (.slice a19 d k19) ((V11.setCell ⟨w.heap.size, 0, none⟩ (.slice a15 n k15)).setCell ⟨w.heap.size, 4, none⟩ (.slice a19 d k19)) :=
        ⟨h2.2, (ho.block (w.heap.size + 1) (by have := G11.out.s; omega) (by simp)).trans G11.out.r2, own_only M15_11.out ho (own_not M15_11.out G11.out.r1 (by decide)), own_only M19_11.out ho (own_not M19_11.out G11.out.r1 (by decide)), G11.out.b.trans (ho.below (Nat.le_refl _) G11.out.b.size), Nat.le_trans G11.out.s ho.size⟩
      have HM := Lib.hid hmac
      clear ho hmac h2
      refine anyS_one 9 (by kernel_rfl) rfl (fun K' hK' => ?_)
      go_simp
      refine hK'.out _ _ (by repeat' (first | exact trivial | exact fun h => absurd h (by decide) | refine ⟨?_, ?_⟩)) ?_
      clear hK' K'
      try simp only [Act.put, List.setIfInBounds_toArray, List.set_cons_zero, List.set_cons_succ]
      (refine anyS_free (i := 10) (v := ?_) rfl (by kernel_rfl) (by kernel_rfl) (by kernel_rfl) (fun _ _ _ h => h) (fun _ => by simp) (Or.inl ⟨by rfl, fun w' _ => ?_⟩) ?_; rotate_left; (· go_simp; try with_reducible rfl))
      try simp only [Act.put, List.setIfInBounds_toArray, List.set_cons_zero, List.set_cons_succ]
      refine anyS_one 11 (by kernel_rfl) rfl (fun K' hK' => ?_)
      go_simp
      refine hK'.out _ _ (by repeat' (first | exact trivial | exact fun h => absurd h (by decide) | refine ⟨?_, ?_⟩)) ?_
      clear hK' K'
      try simp only [Act.put, List.setIfInBounds_toArray, List.set_cons_zero, List.set_cons_succ]
      refine anyS_done (by kernel_rfl) ?_ _
      refine NoPanic.normal ?_
      clear c0' f0' c4' f4' h1
      go_wp2_with fail
      go_meet
      case rel => exact ⟨_, _, _, _, HM⟩
  clear G00 hi hz0 hz1 hz2
  clear i0
  case rest =>
    obtain ⟨a1, k1, a2, k2, HO⟩ := hcut
    have e6 : wc.cell? ⟨w.heap.size, 6, none⟩ = some (.bool true) := mcl_cell HO.out.a rfl
    go_wp2_with (first
      | (refine wpList_load_row rfl 37 (.tmp 1) rfl w.heap.size rfl 37 (mcl (.slice a1 n k1) (.slice a2 d k2) arg data ⟨pc, stk, G, true, E⟩) (0, 0) _ HO.out.a Try.underlying37 rfl size_ref ?_)
      | (refine store_agg rfl 37 (.tmp 2) (.tmp 24) rfl rfl (w.heap.size + 1) (mcl (.slice a1 n k1) (.slice a2 d k2) arg data ⟨pc, stk, G, true, E⟩) rfl rfl 37 _ HO.out.r size_ref rfl (mcl_one _ _ _ _ _ _ _ _ _) ?_; intro T hrow hon))
    refine bodyPost_ret (v := .agg (mcl (.slice a1 n k1) (.slice a2 d k2) arg data ⟨pc, stk, G, true, E⟩)) (results_cell_row (P := Try.prog) rfl _ _ (w.heap.size + 1) 37 _ (0, 0) _ rfl hrow Try.underlying37 rfl size_ref) rfl ?_
    have hp : stepP c arg data ⟨pc, stk, G, true, E⟩ = ⟨pc, stk, G, true, E⟩ := if_pos rfl
    rw [hp]
    refine ⟨_, _, rfl, ?_⟩
    have h := HO.out.done hon
    refine ⟨h.1, ?_, h.2.2⟩
    show T.ownsRow _ _ _ _ stk.length (nts stk)
    rw [← HD.out]
    exact h.2.1


set_option maxRecDepth 100000 in
set_option maxHeartbeats 4000000 in
theorem rstep_gas {c : List Int} {arg data : Int} {pc : Nat} {stk : List Int} {G : Int} {ca sa : Option Addr} {n d cc sc : Nat} {w : World} (hn : n = c.length) (hd : d = stk.length) (hc : Came w ca n cc c) (hs : Nums w sa d sc stk) (hnil : sa = none → d = 0 ∧ sc = 0) (hF : Fit c arg data ⟨pc, stk, G, false, 0⟩) (hG : G < 1) :
    Calls Try.prog 20 #[.agg (mcl (.slice ca n cc) (.slice sa d sc) arg data ⟨pc, stk, G, false, 0⟩)] w (RPost w n c arg data (stepP c arg data ⟨pc, stk, G, false, 0⟩)) := by
  have HC := Lib.hid hc
  have HS := Lib.hid hs
  have HF := Lib.hid hF
  have HN := Lib.hid hn
  have HD := Lib.hid hd
  have hlen : n ≤ 100 := by have := hF.len; omega
  have hstk : d ≤ 16 := by have := hF.stk; have h2 : d = stk.length := hd; show d ≤ 16; have h3 : stk.length ≤ 16 := this; omega
  have hpn : pc ≤ n := by have h3 : pc ≤ c.length := hF.pc; omega
  have hg200 : G ≤ 200 := hF.gas.2
  clear hc hs hF hn hd
  obtain ⟨i0, hi, hz0, hz1, hz2⟩ := info_parts Try.infoByte
  go_enter Try.func20, Try.ntmps20
  go_upto_region 1 with (fail)
  have hbg := Bgn.start w (mcl (.slice ca n cc) (.slice sa d sc) arg data ⟨pc, stk, G, false, 0⟩)
  have HBG := Lib.hid hbg
  clear hbg
  generalize hX0 : (w.alloc _).alloc _ = X0
  have G00 : Hid (Bgn w (mcl (.slice ca n cc) (.slice sa d sc) arg data ⟨pc, stk, G, false, 0⟩) X0) := by rw [← hX0]; exact HBG
  clear HBG hX0
  go_cut [] from 12 to 22 (fun wx => ∃ a1 k1 a2 k2, Hid (One w n d c stk (mcl (.slice a1 n k1) (.slice a2 d k2) arg data ⟨pc, stk, G, false, 0⟩) (.slice a1 n k1) (.slice a2 d k2) wx))
  case first =>
    refine anyS_start (by kernel_rfl) ?_
    have G0 := Lib.hid (G00.out.later (Below.refl _ _).drew)
    clear G00
    generalize World.drew X0 = V0 at *
    have hcs0 : Hid (TwoAt w.heap.size (.slice ca n cc) (.slice sa d sc) V0) := ⟨mcl_cell G0.out.r1 rfl, mcl_cell G0.out.r1 rfl⟩
    (refine anyS_free (i := 1) (v := ?_) rfl (by kernel_rfl) (by kernel_rfl) (by kernel_rfl) (fun _ _ _ h => h) (fun _ => by simp) (Or.inl ⟨by rfl, fun w' _ => ?_⟩) ?_; rotate_left; (· go_simp; try with_reducible rfl))
    try simp only [Act.put, List.setIfInBounds_toArray, List.set_cons_zero, List.set_cons_succ]
    (refine anyS_free (i := 5) (v := ?_) rfl (by kernel_rfl) (by kernel_rfl) (by kernel_rfl) (fun _ _ _ h => h) (fun _ => by simp) (Or.inl ⟨by rfl, fun w' _ => ?_⟩) ?_; rotate_left; (· go_simp; try with_reducible rfl))
    try simp only [Act.put, List.setIfInBounds_toArray, List.set_cons_zero, List.set_cons_succ]
    (refine anyS_takeNew (i := 6) (v := .slice sa d sc) (fun w' => TwoAt w.heap.size (.slice ca n cc) (.slice sa d sc) w') [0, 2, 3, 4] hcs0.out rfl (by kernel_rfl) (by kernel_rfl) (by kernel_rfl) (by kernel_rfl) (fun _ _ _ h => h) (fun _ hcs => by repeat' (first | exact trivial | exact fun _ => hcs | refine ⟨?_, ?_⟩)) (Or.inl ⟨by rfl, fun w' hw' => ?_⟩) ?_; (· have c0 := hw'.l; have c4 := hw'.r; go_simp))
    try simp only [Act.put, List.setIfInBounds_toArray, List.set_cons_zero, List.set_cons_succ]
    (refine anyS_takeNew (i := 2) (v := .slice ca n cc) (fun w' => TwoAt w.heap.size (.slice ca n cc) (.slice sa d sc) w') [0, 4] hcs0.out rfl (by kernel_rfl) (by kernel_rfl) (by kernel_rfl) (by kernel_rfl) (fun _ _ _ h => h) (fun _ hcs => by repeat' (first | exact trivial | exact fun _ => hcs | refine ⟨?_, ?_⟩)) (Or.inl ⟨by rfl, fun w' hw' => ?_⟩) ?_; (· have c0 := hw'.l; have c4 := hw'.r; go_simp))
    try simp only [Act.put, List.setIfInBounds_toArray, List.set_cons_zero, List.set_cons_succ]
    clear hcs0
    refine anyS_two 0 4 (by kernel_rfl) rfl rfl (fun K' hK' => ?_) (fun K' hK' => ?_)
    · go_simp
      have M12_1 := Lib.hid (World.ownsRow_made (base := w.heap.size + 2) (e := 5) (size := 1) V0 #[] 0 G0.out.s (by unfold maxLen; omega) rfl)
      have hbs : Hid (Below (w.heap.size + 2) V0 (V0.alloc (.cells #[] 5))) := (Below.refl _ _).alloc G0.out.s _
      have hbl : Hid (Below V0.heap.size V0 (V0.alloc (.cells #[] 5))) := (Below.refl _ _).alloc (Nat.le_refl _) _
      have G1 := Lib.hid (G0.out.later hbs.out)
      obtain ⟨V1, hV1⟩ : ∃ X, X = V0.alloc (.cells #[] 5) := ⟨_, rfl⟩
      rw [← hV1] at M12_1 G1 ⊢
      clear hbs hbl hV1
      have hcs : TwoAt w.heap.size (.slice ca n cc) (.slice sa d sc) V1 := ⟨mcl_cell G1.out.r1 rfl, mcl_cell G1.out.r1 rfl⟩
      refine hK'.out _ _ (by repeat' (first | exact trivial | exact fun _ => hcs | refine ⟨?_, ?_⟩)) ?_
      clear hK' K' hcs
      try simp only [Act.put, List.setIfInBounds_toArray, List.set_cons_zero, List.set_cons_succ]
      refine anyS_two 3 4 (by kernel_rfl) rfl rfl (fun K' hK' => ?_) (fun K' hK' => ?_)
      · refine step_append_opt rfl (.tmp 12) (.tmp 14) 22 rfl (w.heap.size + 2) 5 i0 Try.underlying22 hi hz0 hz1 hz2 _ 0 [] rfl M12_1.out ca n cc c rfl (HC.out.below G1.out.b).reads (HC.out.below G1.out.b).nil (by omega) G1.out.s ?_
        intro v15 V2 ho hg
        rw [Nat.zero_add, List.nil_append] at ho
        have hbs : Hid (Below (w.heap.size + 2) V1 V2) := (Below.refl _ _).grown hg G1.out.s (fun k hk => (M12_1.out.lt k hk).1)
        have G2 := Lib.hid (G1.out.later hbs.out)
        obtain ⟨a15, k15, rfl⟩ := own_slice ho
        have M15_2 := Lib.hid ho
        clear ho hg hbs
        have hcs : TwoAt w.heap.size (.slice ca n cc) (.slice sa d sc) V2 := ⟨mcl_cell G2.out.r1 rfl, mcl_cell G2.out.r1 rfl⟩
        refine hK'.out _ _ (by repeat' (first | exact trivial | exact fun _ => hcs | refine ⟨?_, ?_⟩)) ?_
        clear hK' K' hcs
        try simp only [Act.put, List.setIfInBounds_toArray, List.set_cons_zero, List.set_cons_succ]
        (refine anyS_free (i := 8) (v := ?_) rfl (by kernel_rfl) (by kernel_rfl) (by kernel_rfl) (fun _ _ _ h => h) (fun _ => by simp) (Or.inl ⟨by rfl, fun w' _ => ?_⟩) ?_; rotate_left; (· go_simp; try with_reducible rfl))
        try simp only [Act.put, List.setIfInBounds_toArray, List.set_cons_zero, List.set_cons_succ]
        refine anyS_one 4 (by kernel_rfl) rfl (fun K' hK' => ?_)
        go_simp
        have M16_3 := Lib.hid (World.ownsRow_made (base := w.heap.size + 2) (e := 3) (size := 1) V2 #[] 0 G2.out.s (by unfold maxLen; omega) rfl)
        have hbs : Hid (Below (w.heap.size + 2) V2 (V2.alloc (.cells #[] 3))) := (Below.refl _ _).alloc G2.out.s _
        have hbl : Hid (Below V2.heap.size V2 (V2.alloc (.cells #[] 3))) := (Below.refl _ _).alloc (Nat.le_refl _) _
        have G3 := Lib.hid (G2.out.later hbs.out)
        have M15_3 := Lib.hid (own_later M15_2.out hbl.out)
        obtain ⟨V3, hV3⟩ : ∃ X, X = V2.alloc (.cells #[] 3) := ⟨_, rfl⟩
        rw [← hV3] at M16_3 G3 M15_3 ⊢
        clear hbs hbl hV3
        have hcs : TwoAt w.heap.size (.slice ca n cc) (.slice sa d sc) V3 := ⟨mcl_cell G3.out.r1 rfl, mcl_cell G3.out.r1 rfl⟩
        refine hK'.out _ _ (by repeat' (first | exact trivial | exact fun _ => hcs | refine ⟨?_, ?_⟩)) ?_
        clear hK' K' hcs
        try simp only [Act.put, List.setIfInBounds_toArray, List.set_cons_zero, List.set_cons_succ]
        refine anyS_one 7 (by kernel_rfl) rfl (fun K' hK' => ?_)
        refine step_nums_opt rfl (.tmp 16) (.tmp 18) rfl (w.heap.size + 2) _ 0 [] rfl M16_3.out sa d sc stk rfl (HS.out.below G3.out.b) hnil (by omega) G3.out.s ?_
        intro v19 V4 ho hg
        rw [Nat.zero_add, List.nil_append] at ho
        have hbs : Hid (Below (w.heap.size + 2) V3 V4) := (Below.refl _ _).grown hg G3.out.s (fun k hk => (M16_3.out.lt k hk).1)
        have G4 := Lib.hid (G3.out.later hbs.out)
        have M15_4 := Lib.hid (M15_3.out.kept hg (own_apart M15_3.out M16_3.out (by decide)))
        obtain ⟨a19, k19, rfl⟩ := own_slice ho
        have M19_4 := Lib.hid ho
        clear ho hg hbs
        have hcs : TwoAt w.heap.size (.slice ca n cc) (.slice sa d sc) V4 := ⟨mcl_cell G4.out.r1 rfl, mcl_cell G4.out.r1 rfl⟩
        refine hK'.out _ _ (by repeat' (first | exact trivial | exact fun _ => hcs | refine ⟨?_, ?_⟩)) ?_
        clear hK' K' hcs
        try simp only [Act.put, List.setIfInBounds_toArray, List.set_cons_zero, List.set_cons_succ]
        have h1 := only_setCell V4 w.heap.size 0 _ _ (.slice a15 n k15) G4.out.r1
        have h2 := only_setCell _ w.heap.size 4 _ _ (.slice a19 d k19) h1.2
        have c0' := mcl_cell (k := 0) G4.out.r1 rfl
        have f0' : V4.frozen? ⟨w.heap.size, 0, none⟩ = false := by simp [World.frozen?, G4.out.r1]
        have c4' : (V4.setCell ⟨w.heap.size, 0, none⟩ (.slice a15 n k15)).cell? ⟨w.heap.size, 4, none⟩ = some (.slice sa d sc) := mcl_cell h1.2 rfl
        have f4' : (V4.setCell ⟨w.heap.size, 0, none⟩ (.slice a15 n k15)).frozen? ⟨w.heap.size, 4, none⟩ = false := by simp [World.frozen?, h1.2]
        have ho := h1.1.trans h2.1
        have hmac : One w n d c stk (mcl (.slice a15 n k15) (.slice a19 d k19) arg data ⟨pc, stk, G, false, 0⟩) (.slice a15 n k15) (.slice a19 d k19) ((V4.setCell ⟨w.heap.size, 0, none⟩ (.slice a15 n k15)).setCell ⟨w.heap.size, 4, none⟩ (.slice a19 d k19)) :=
          ⟨h2.2, (ho.block (w.heap.size + 1) (by have := G4.out.s; omega) (by simp)).trans G4.out.r2, own_only M15_4.out ho (own_not M15_4.out G4.out.r1 (by decide)), own_only M19_4.out ho (own_not M19_4.out G4.out.r1 (by decide)), G4.out.b.trans (ho.below (Nat.le_refl _) G4.out.b.size), Nat.le_trans G4.out.s ho.size⟩
        have HM := Lib.hid hmac
        clear ho hmac h2
        refine anyS_one 9 (by kernel_rfl) rfl (fun K' hK' => ?_)
        go_simp
        refine hK'.out _ _ (by repeat' (first | exact trivial | exact fun h => absurd h (by decide) | refine ⟨?_, ?_⟩)) ?_
        clear hK' K'
        try simp only [Act.put, List.setIfInBounds_toArray, List.set_cons_zero, List.set_cons_succ]
        (refine anyS_free (i := 10) (v := ?_) rfl (by kernel_rfl) (by kernel_rfl) (by kernel_rfl) (fun _ _ _ h => h) (fun _ => by simp) (Or.inl ⟨by rfl, fun w' _ => ?_⟩) ?_; rotate_left; (· go_simp; try with_reducible rfl))
        try simp only [Act.put, List.setIfInBounds_toArray, List.set_cons_zero, List.set_cons_succ]
        refine anyS_one 11 (by kernel_rfl) rfl (fun K' hK' => ?_)
        go_simp
        refine hK'.out _ _ (by repeat' (first | exact trivial | exact fun h => absurd h (by decide) | refine ⟨?_, ?_⟩)) ?_
        clear hK' K'
        try simp only [Act.put, List.setIfInBounds_toArray, List.set_cons_zero, List.set_cons_succ]
        refine anyS_done (by kernel_rfl) ?_ _
        refine NoPanic.normal ?_
        clear c0' f0' c4' f4' h1
        go_wp2_with fail
        go_meet
        case rel => exact ⟨_, _, _, _, HM⟩
      · go_simp
        have M16_5 := Lib.hid (World.ownsRow_made (base := w.heap.size + 2) (e := 3) (size := 1) V1 #[] 0 G1.out.s (by unfold maxLen; omega) rfl)
        have hbs : Hid (Below (w.heap.size + 2) V1 (V1.alloc (.cells #[] 3))) := (Below.refl _ _).alloc G1.out.s _
        have hbl : Hid (Below V1.heap.size V1 (V1.alloc (.cells #[] 3))) := (Below.refl _ _).alloc (Nat.le_refl _) _
        have G5 := Lib.hid (G1.out.later hbs.out)
        have M12_5 := Lib.hid (own_later M12_1.out hbl.out)
        obtain ⟨V5, hV5⟩ : ∃ X, X = V1.alloc (.cells #[] 3) := ⟨_, rfl⟩
        rw [← hV5] at M16_5 G5 M12_5 ⊢
        clear hbs hbl hV5
        have hcs : TwoAt w.heap.size (.slice ca n cc) (.slice sa d sc) V5 := ⟨mcl_cell G5.out.r1 rfl, mcl_cell G5.out.r1 rfl⟩
        refine hK'.out _ _ (by repeat' (first | exact trivial | exact fun _ => hcs | refine ⟨?_, ?_⟩)) ?_
        clear hK' K' hcs
        try simp only [Act.put, List.setIfInBounds_toArray, List.set_cons_zero, List.set_cons_succ]
        refine anyS_one 3 (by kernel_rfl) rfl (fun K' hK' => ?_)
        refine step_append_opt rfl (.tmp 12) (.tmp 14) 22 rfl (w.heap.size + 2) 5 i0 Try.underlying22 hi hz0 hz1 hz2 _ 0 [] rfl M12_5.out ca n cc c rfl (HC.out.below G5.out.b).reads (HC.out.below G5.out.b).nil (by omega) G5.out.s ?_
        intro v15 V6 ho hg
        rw [Nat.zero_add, List.nil_append] at ho
        have hbs : Hid (Below (w.heap.size + 2) V5 V6) := (Below.refl _ _).grown hg G5.out.s (fun k hk => (M12_5.out.lt k hk).1)
        have G6 := Lib.hid (G5.out.later hbs.out)
        have M16_6 := Lib.hid (M16_5.out.kept hg (own_apart M16_5.out M12_5.out (by decide)))
        obtain ⟨a15, k15, rfl⟩ := own_slice ho
        have M15_6 := Lib.hid ho
        clear ho hg hbs
        have hcs : TwoAt w.heap.size (.slice ca n cc) (.slice sa d sc) V6 := ⟨mcl_cell G6.out.r1 rfl, mcl_cell G6.out.r1 rfl⟩
        refine hK'.out _ _ (by repeat' (first | exact trivial | exact fun _ => hcs | refine ⟨?_, ?_⟩)) ?_
        clear hK' K' hcs
        try simp only [Act.put, List.setIfInBounds_toArray, List.set_cons_zero, List.set_cons_succ]
        (refine anyS_free (i := 8) (v := ?_) rfl (by kernel_rfl) (by kernel_rfl) (by kernel_rfl) (fun _ _ _ h => h) (fun _ => by simp) (Or.inl ⟨by rfl, fun w' _ => ?_⟩) ?_; rotate_left; (· go_simp; try with_reducible rfl))
        try simp only [Act.put, List.setIfInBounds_toArray, List.set_cons_zero, List.set_cons_succ]
        refine anyS_one 7 (by kernel_rfl) rfl (fun K' hK' => ?_)
        refine step_nums_opt rfl (.tmp 16) (.tmp 18) rfl (w.heap.size + 2) _ 0 [] rfl M16_6.out sa d sc stk rfl (HS.out.below G6.out.b) hnil (by omega) G6.out.s ?_
        intro v19 V7 ho hg
        rw [Nat.zero_add, List.nil_append] at ho
        have hbs : Hid (Below (w.heap.size + 2) V6 V7) := (Below.refl _ _).grown hg G6.out.s (fun k hk => (M16_6.out.lt k hk).1)
        have G7 := Lib.hid (G6.out.later hbs.out)
        have M15_7 := Lib.hid (M15_6.out.kept hg (own_apart M15_6.out M16_6.out (by decide)))
        obtain ⟨a19, k19, rfl⟩ := own_slice ho
        have M19_7 := Lib.hid ho
        clear ho hg hbs
        have hcs : TwoAt w.heap.size (.slice ca n cc) (.slice sa d sc) V7 := ⟨mcl_cell G7.out.r1 rfl, mcl_cell G7.out.r1 rfl⟩
        refine hK'.out _ _ (by repeat' (first | exact trivial | exact fun _ => hcs | refine ⟨?_, ?_⟩)) ?_
        clear hK' K' hcs
        try simp only [Act.put, List.setIfInBounds_toArray, List.set_cons_zero, List.set_cons_succ]
        have h1 := only_setCell V7 w.heap.size 0 _ _ (.slice a15 n k15) G7.out.r1
        have h2 := only_setCell _ w.heap.size 4 _ _ (.slice a19 d k19) h1.2
        have c0' := mcl_cell (k := 0) G7.out.r1 rfl
        have f0' : V7.frozen? ⟨w.heap.size, 0, none⟩ = false := by simp [World.frozen?, G7.out.r1]
        have c4' : (V7.setCell ⟨w.heap.size, 0, none⟩ (.slice a15 n k15)).cell? ⟨w.heap.size, 4, none⟩ = some (.slice sa d sc) := mcl_cell h1.2 rfl
        have f4' : (V7.setCell ⟨w.heap.size, 0, none⟩ (.slice a15 n k15)).frozen? ⟨w.heap.size, 4, none⟩ = false := by simp [World.frozen?, h1.2]
        have ho := h1.1.trans h2.1
        have hmac : One w n d c stk (mcl (.slice a15 n k15) (.slice a19 d k19) arg data ⟨pc, stk, G, false, 0⟩) (.slice a15 n k15) (.slice a19 d k19) ((V7.setCell ⟨w.heap.size, 0, none⟩ (.slice a15 n k15)).setCell ⟨w.heap.size, 4, none⟩ (.slice a19 d k19)) :=
          ⟨h2.2, (ho.block (w.heap.size + 1) (by have := G7.out.s; omega) (by simp)).trans G7.out.r2, own_only M15_7.out ho (own_not M15_7.out G7.out.r1 (by decide)), own_only M19_7.out ho (own_not M19_7.out G7.out.r1 (by decide)), G7.out.b.trans (ho.below (Nat.le_refl _) G7.out.b.size), Nat.le_trans G7.out.s ho.size⟩
        have HM := Lib.hid hmac
        clear ho hmac h2
        refine anyS_one 9 (by kernel_rfl) rfl (fun K' hK' => ?_)
        go_simp
        refine hK'.out _ _ (by repeat' (first | exact trivial | exact fun h => absurd h (by decide) | refine ⟨?_, ?_⟩)) ?_
        clear hK' K'
        try simp only [Act.put, List.setIfInBounds_toArray, List.set_cons_zero, List.set_cons_succ]
        (refine anyS_free (i := 10) (v := ?_) rfl (by kernel_rfl) (by kernel_rfl) (by kernel_rfl) (fun _ _ _ h => h) (fun _ => by simp) (Or.inl ⟨by rfl, fun w' _ => ?_⟩) ?_; rotate_left; (· go_simp; try with_reducible rfl))
        try simp only [Act.put, List.setIfInBounds_toArray, List.set_cons_zero, List.set_cons_succ]
        refine anyS_one 11 (by kernel_rfl) rfl (fun K' hK' => ?_)
        go_simp
        refine hK'.out _ _ (by repeat' (first | exact trivial | exact fun h => absurd h (by decide) | refine ⟨?_, ?_⟩)) ?_
        clear hK' K'
        try simp only [Act.put, List.setIfInBounds_toArray, List.set_cons_zero, List.set_cons_succ]
        refine anyS_done (by kernel_rfl) ?_ _
        refine NoPanic.normal ?_
        clear c0' f0' c4' f4' h1
        go_wp2_with fail
        go_meet
        case rel => exact ⟨_, _, _, _, HM⟩
    · go_simp
      have M16_8 := Lib.hid (World.ownsRow_made (base := w.heap.size + 2) (e := 3) (size := 1) V0 #[] 0 G0.out.s (by unfold maxLen; omega) rfl)
      have hbs : Hid (Below (w.heap.size + 2) V0 (V0.alloc (.cells #[] 3))) := (Below.refl _ _).alloc G0.out.s _
      have hbl : Hid (Below V0.heap.size V0 (V0.alloc (.cells #[] 3))) := (Below.refl _ _).alloc (Nat.le_refl _) _
      have G8 := Lib.hid (G0.out.later hbs.out)
      obtain ⟨V8, hV8⟩ : ∃ X, X = V0.alloc (.cells #[] 3) := ⟨_, rfl⟩
      rw [← hV8] at M16_8 G8 ⊢
      clear hbs hbl hV8
      have hcs : TwoAt w.heap.size (.slice ca n cc) (.slice sa d sc) V8 := ⟨mcl_cell G8.out.r1 rfl, mcl_cell G8.out.r1 rfl⟩
      refine hK'.out _ _ (by repeat' (first | exact trivial | exact fun _ => hcs | refine ⟨?_, ?_⟩)) ?_
      clear hK' K' hcs
      try simp only [Act.put, List.setIfInBounds_toArray, List.set_cons_zero, List.set_cons_succ]
      refine anyS_one 0 (by kernel_rfl) rfl (fun K' hK' => ?_)
      go_simp
      have M12_9 := Lib.hid (World.ownsRow_made (base := w.heap.size + 2) (e := 5) (size := 1) V8 #[] 0 G8.out.s (by unfold maxLen; omega) rfl)
      have hbs : Hid (Below (w.heap.size + 2) V8 (V8.alloc (.cells #[] 5))) := (Below.refl _ _).alloc G8.out.s _
      have hbl : Hid (Below V8.heap.size V8 (V8.alloc (.cells #[] 5))) := (Below.refl _ _).alloc (Nat.le_refl _) _
      have G9 := Lib.hid (G8.out.later hbs.out)
      have M16_9 := Lib.hid (own_later M16_8.out hbl.out)
      obtain ⟨V9, hV9⟩ : ∃ X, X = V8.alloc (.cells #[] 5) := ⟨_, rfl⟩
      rw [← hV9] at M12_9 G9 M16_9 ⊢
      clear hbs hbl hV9
      have hcs : TwoAt w.heap.size (.slice ca n cc) (.slice sa d sc) V9 := ⟨mcl_cell G9.out.r1 rfl, mcl_cell G9.out.r1 rfl⟩
      refine hK'.out _ _ (by repeat' (first | exact trivial | exact fun _ => hcs | refine ⟨?_, ?_⟩)) ?_
      clear hK' K' hcs
      try simp only [Act.put, List.setIfInBounds_toArray, List.set_cons_zero, List.set_cons_succ]
      refine anyS_one 3 (by kernel_rfl) rfl (fun K' hK' => ?_)
      refine step_append_opt rfl (.tmp 12) (.tmp 14) 22 rfl (w.heap.size + 2) 5 i0 Try.underlying22 hi hz0 hz1 hz2 _ 0 [] rfl M12_9.out ca n cc c rfl (HC.out.below G9.out.b).reads (HC.out.below G9.out.b).nil (by omega) G9.out.s ?_
      intro v15 V10 ho hg
      rw [Nat.zero_add, List.nil_append] at ho
      have hbs : Hid (Below (w.heap.size + 2) V9 V10) := (Below.refl _ _).grown hg G9.out.s (fun k hk => (M12_9.out.lt k hk).1)
      have G10 := Lib.hid (G9.out.later hbs.out)
      have M16_10 := Lib.hid (M16_9.out.kept hg (own_apart M16_9.out M12_9.out (by decide)))
      obtain ⟨a15, k15, rfl⟩ := own_slice ho
      have M15_10 := Lib.hid ho
      clear ho hg hbs
      have hcs : TwoAt w.heap.size (.slice ca n cc) (.slice sa d sc) V10 := ⟨mcl_cell G10.out.r1 rfl, mcl_cell G10.out.r1 rfl⟩
      refine hK'.out _ _ (by repeat' (first | exact trivial | exact fun _ => hcs | refine ⟨?_, ?_⟩)) ?_
      clear hK' K' hcs
      try simp only [Act.put, List.setIfInBounds_toArray, List.set_cons_zero, List.set_cons_succ]
      (refine anyS_free (i := 8) (v := ?_) rfl (by kernel_rfl) (by kernel_rfl) (by kernel_rfl) (fun _ _ _ h => h) (fun _ => by simp) (Or.inl ⟨by rfl, fun w' _ => ?_⟩) ?_; rotate_left; (· go_simp; try with_reducible rfl))
      try simp only [Act.put, List.setIfInBounds_toArray, List.set_cons_zero, List.set_cons_succ]
      refine anyS_one 7 (by kernel_rfl) rfl (fun K' hK' => ?_)
      refine step_nums_opt rfl (.tmp 16) (.tmp 18) rfl (w.heap.size + 2) _ 0 [] rfl M16_10.out sa d sc stk rfl (HS.out.below G10.out.b) hnil (by omega) G10.out.s ?_
      intro v19 V11 ho hg
      rw [Nat.zero_add, List.nil_append] at ho
      have hbs : Hid (Below (w.heap.size + 2) V10 V11) := (Below.refl _ _).grown hg G10.out.s (fun k hk => (M16_10.out.lt k hk).1)
      have G11 := Lib.hid (G10.out.later hbs.out)
      have M15_11 := Lib.hid (M15_10.out.kept hg (own_apart M15_10.out M16_10.out (by decide)))
      obtain ⟨a19, k19, rfl⟩ := own_slice ho
      have M19_11 := Lib.hid ho
      clear ho hg hbs
      have hcs : TwoAt w.heap.size (.slice ca n cc) (.slice sa d sc) V11 := ⟨mcl_cell G11.out.r1 rfl, mcl_cell G11.out.r1 rfl⟩
      refine hK'.out _ _ (by repeat' (first | exact trivial | exact fun _ => hcs | refine ⟨?_, ?_⟩)) ?_
      clear hK' K' hcs
      try simp only [Act.put, List.setIfInBounds_toArray, List.set_cons_zero, List.set_cons_succ]
      have h1 := only_setCell V11 w.heap.size 0 _ _ (.slice a15 n k15) G11.out.r1
      have h2 := only_setCell _ w.heap.size 4 _ _ (.slice a19 d k19) h1.2
      have c0' := mcl_cell (k := 0) G11.out.r1 rfl
      have f0' : V11.frozen? ⟨w.heap.size, 0, none⟩ = false := by simp [World.frozen?, G11.out.r1]
      have c4' : (V11.setCell ⟨w.heap.size, 0, none⟩ (.slice a15 n k15)).cell? ⟨w.heap.size, 4, none⟩ = some (.slice sa d sc) := mcl_cell h1.2 rfl
      have f4' : (V11.setCell ⟨w.heap.size, 0, none⟩ (.slice a15 n k15)).frozen? ⟨w.heap.size, 4, none⟩ = false := by simp [World.frozen?, h1.2]
      have ho := h1.1.trans h2.1
      have hmac : One w n d c stk (mcl (.slice a15 n k15) (.slice a19 d k19) arg data ⟨pc, stk, G, false, 0⟩) (.slice a15 n k15) (.slice a19 d k19) ((V11.setCell ⟨w.heap.size, 0, none⟩ (.slice a15 n k15)).setCell ⟨w.heap.size, 4, none⟩ (.slice a19 d k19)) :=
        ⟨h2.2, (ho.block (w.heap.size + 1) (by have := G11.out.s; omega) (by simp)).trans G11.out.r2, own_only M15_11.out ho (own_not M15_11.out G11.out.r1 (by decide)), own_only M19_11.out ho (own_not M19_11.out G11.out.r1 (by decide)), G11.out.b.trans (ho.below (Nat.le_refl _) G11.out.b.size), Nat.le_trans G11.out.s ho.size⟩
      have HM := Lib.hid hmac
      clear ho hmac h2
      refine anyS_one 9 (by kernel_rfl) rfl (fun K' hK' => ?_)
      go_simp
      refine hK'.out _ _ (by repeat' (first | exact trivial | exact fun h => absurd h (by decide) | refine ⟨?_, ?_⟩)) ?_
      clear hK' K'
      try simp only [Act.put, List.setIfInBounds_toArray, List.set_cons_zero, List.set_cons_succ]
      (refine anyS_free (i := 10) (v := ?_) rfl (by kernel_rfl) (by kernel_rfl) (by kernel_rfl) (fun _ _ _ h => h) (fun _ => by simp) (Or.inl ⟨by rfl, fun w' _ => ?_⟩) ?_; rotate_left; (· go_simp; try with_reducible rfl))
      try simp only [Act.put, List.setIfInBounds_toArray, List.set_cons_zero, List.set_cons_succ]
      refine anyS_one 11 (by kernel_rfl) rfl (fun K' hK' => ?_)
      go_simp
      refine hK'.out _ _ (by repeat' (first | exact trivial | exact fun h => absurd h (by decide) | refine ⟨?_, ?_⟩)) ?_
      clear hK' K'
      try simp only [Act.put, List.setIfInBounds_toArray, List.set_cons_zero, List.set_cons_succ]
      refine anyS_done (by kernel_rfl) ?_ _
      refine NoPanic.normal ?_
      clear c0' f0' c4' f4' h1
      go_wp2_with fail
      go_meet
      case rel => exact ⟨_, _, _, _, HM⟩
  clear G00 hi hz0 hz1 hz2
  clear i0
  case rest =>
    obtain ⟨a1, k1, a2, k2, HO⟩ := hcut
    have e6 : wc.cell? ⟨w.heap.size, 6, none⟩ = some (.bool false) := mcl_cell HO.out.a rfl
    have e5 : wc.cell? ⟨w.heap.size, 5, none⟩ = some (.int .i64 G) := mcl_cell HO.out.a rfl
    have f6 : wc.frozen? ⟨w.heap.size, 6, none⟩ = false := by simp [World.frozen?, HO.out.a]
    have h1 := only_setCell wc w.heap.size 6 _ _ (.bool true) HO.out.a
    have e7 : (wc.setCell ⟨w.heap.size, 6, none⟩ (.bool true)).cell? ⟨w.heap.size, 7, none⟩ = some (.int .i64 0) := mcl_cell h1.2 rfl
    have f7 : (wc.setCell ⟨w.heap.size, 6, none⟩ (.bool true)).frozen? ⟨w.heap.size, 7, none⟩ = false := by simp [World.frozen?, h1.2]
    have h2 := only_setCell _ w.heap.size 7 _ _ (.int .i64 14) h1.2
    have ho := h1.1.trans h2.1
    have hs0 := HO.out.s
    have HO2 : Hid (One w n d c stk (mcl (.slice a1 n k1) (.slice a2 d k2) arg data ⟨pc, stk, G, true, 14⟩) (.slice a1 n k1) (.slice a2 d k2) ((wc.setCell ⟨w.heap.size, 6, none⟩ (.bool true)).setCell ⟨w.heap.size, 7, none⟩ (.int .i64 14))) :=
      Lib.hid ⟨h2.2, (ho.block _ (by omega) (by simp)).trans HO.out.r, own_only HO.out.code ho (own_not HO.out.code HO.out.a (by decide)), own_only HO.out.stk ho (own_not HO.out.stk HO.out.a (by decide)), HO.out.b.trans (ho.below (Nat.le_refl _) HO.out.b.size), Nat.le_trans HO.out.s ho.size⟩
    clear h1 h2 ho hs0
    go_wp2_with (first
      | (refine wpList_load_row rfl 37 (.tmp 1) rfl w.heap.size rfl 37 (mcl (.slice a1 n k1) (.slice a2 d k2) arg data ⟨pc, stk, G, true, 14⟩) (0, 0) _ HO2.out.a Try.underlying37 rfl size_ref ?_)
      | (refine store_agg rfl 37 (.tmp 2) (.tmp 30) rfl rfl (w.heap.size + 1) (mcl (.slice a1 n k1) (.slice a2 d k2) arg data ⟨pc, stk, G, true, 14⟩) rfl rfl 37 _ HO2.out.r size_ref rfl (mcl_one _ _ _ _ _ _ _ _ _) ?_; intro T hrow hon))
    refine bodyPost_ret (v := .agg (mcl (.slice a1 n k1) (.slice a2 d k2) arg data ⟨pc, stk, G, true, 14⟩)) (results_cell_row (P := Try.prog) rfl _ _ (w.heap.size + 1) 37 _ (0, 0) _ rfl hrow Try.underlying37 rfl size_ref) rfl ?_
    have hp : stepP c arg data ⟨pc, stk, G, false, 0⟩ = ⟨pc, stk, G, true, 14⟩ := by
      unfold stepP
      rw [if_neg (by simp), if_pos hG]
      rfl
    rw [hp]
    refine ⟨_, _, rfl, ?_⟩
    have h := HO2.out.done hon
    refine ⟨h.1, ?_, h.2.2⟩
    show T.ownsRow _ _ _ _ stk.length (nts stk)
    rw [← HD.out]
    exact h.2.1

end Go.Proofs.Ytdbnfafafhdolaa
