/- An append to what the call owns keeps every owner of no more of the same row. -/
import Derived.Test.YtlaafpfpoehonaaMany
namespace Go.Proofs.Ytlaafpfpoehonaa
open Go.RowKit Num
set_option linter.unusedVariables false
set_option linter.unusedSimpArgs false

/-- who owns no more than n of v's row still owns it -/
def KeptUpto (base : Nat) (e : TypeId) (w w' : World) (v : Value) (n : Nat) : Prop :=
  ∀ u k ys, w.ownsRow base e 1 u k ys → (u.ownBlock = v.ownBlock → k ≤ n) → w'.ownsRow base e 1 u k ys

/-- the row of v' is v's own, or a new one -/
def Kin (w : World) (v v' : Value) : Prop := v'.ownBlock = v.ownBlock ∨ ∃ g, v'.ownBlock = some g ∧ w.heap.size ≤ g

theorem run_append_keep {P : Program} (w : World) (base : Nat) (t ty e : TypeId) (i : TypeInfo) (ht : P.underlying t = some (.slice e)) (hi : P.info? e = some i) (hz : i.zero = some (.int .u8 0)) (hsize : i.size = 1) (hby : i.bytes = 1)
    (v : Value) (n : Nat) (xs : List Value) (hown : w.ownsRow base e 1 v n xs)
    (a : Addr) (m c : Nat) (news : List Value) (hl : news.length = m) (hnews : ∀ j u, news[j]? = some u → w.cell? (a.add j) = some u) (h1 : ∀ u ∈ news, u.oneCell' = true)
    (hb : n + m ≤ 10000000) (hbase : base ≤ w.heap.size) :
    ∃ v' w', (Builtin.append_ #[t, t] ty #[v, .slice (some a) m c]).run P w = .ok v' w' ∧ w'.ownsRow base e 1 v' (n + m) (xs ++ news) ∧ w.grownBy w' v.ownBlock ∧ KeptUpto base e w w' v n ∧ Kin w v v' := by
  obtain ⟨v', w', hr, h2, h3, hnil⟩ := run_append_own (P := P) w base t ty e i (.int .u8 0) 1 1 ht hi hz hsize hby rfl (by decide) v n xs hown a m c news (by omega) hnews h1 (by unfold maxLen; omega) (by omega) hbase
  refine ⟨v', w', hr, h2, h3, ?_⟩
  rcases hown.2 with ⟨rfl, rfl⟩ | ⟨g, cap, cur, rfl, hbg, hg, hnc, hcm, hcs, htake⟩
  · refine ⟨?_, ?_⟩
    · intro u k ys hu _
      exact hu.kept h3 (by cases hh : u.ownBlock <;> simp [Value.ownBlock])
    · by_cases hm : m = 0
      · rw [hnil.2 ⟨rfl, hm⟩]; exact .inl rfl
      · have hr2 := run_append_nil (P := P) w t ty e i (.int .u8 0) ht hi hz a m c news (by rw [hsize]; omega) hnews (by omega) (by omega) (by rw [hby]; omega)
        rw [hr2] at hr
        simp only [Result.ok.injEq] at hr
        obtain ⟨rfl, -⟩ := hr
        exact .inr ⟨_, rfl, Nat.le_refl _⟩
  · by_cases hroom : n + m ≤ cap
    · have hr2 := run_append_room (P := P) w t ty e i ht hi g n cap cur hg a m c news (by rw [hsize]; omega) hnews h1 hroom (by rw [hsize, hl, hcs]; omega)
      rw [hr2] at hr
      simp only [Result.ok.injEq] at hr
      obtain ⟨rfl, rfl⟩ := hr
      refine ⟨?_, .inl rfl⟩
      intro u k ys hu hk
      by_cases hub : u.ownBlock = some g
      · have hkn := hk hub
        refine ⟨hu.1, ?_⟩
        rcases hu.2 with hn | ⟨g', cap', cur', rfl, hb', hg', hk', hm', hs', ht'⟩
        · exact .inl hn
        · have hgg : g' = g := by simpa [Value.ownBlock] using hub
          subst hgg
          rw [hg] at hg'
          simp only [Option.some.injEq, Obj.cells.injEq, and_true] at hg'
          obtain rfl := hg'
          refine .inr ⟨g', cap', _, rfl, hb', setRow_heap w g' cur _ e _ hg, hk', hm', ?_, ?_⟩
          · simp [hsize, hl]; omega
          · simp only [hsize, Nat.mul_one] at ht' ⊢
            rw [← ht', List.append_assoc, List.take_append_of_le_length (by simp; omega), List.take_take, Nat.min_eq_left hkn]
      · exact hu.kept (row := some g) ⟨rfl, rfl, rfl, by simp, fun k _ hk => setRow_other w g k _ (fun e => hk (by simp [e]))⟩ (.inr hub)
    · have hr2 := run_append_grow (P := P) w t ty e i (.int .u8 0) ht hi hz ⟨g, 0, none⟩ n cap xs (by rw [hsize]; exact hown.1) (fun j u hj => hown.cells (g := g) rfl j u hj) a m c news (by rw [hsize]; omega) hnews (by omega) (by omega) (growslice_fits (by omega) (by rw [hby]; omega))
      rw [hr2] at hr
      simp only [Result.ok.injEq] at hr
      obtain ⟨rfl, rfl⟩ := hr
      refine ⟨?_, .inr ⟨_, rfl, Nat.le_refl _⟩⟩
      intro u k ys hu _
      exact hu.kept (row := none) ⟨rfl, rfl, rfl, by simp, fun k hk _ => heap_alloc_old w.drew _ hk⟩ (by cases hh : u.ownBlock <;> simp)

/-- an append to v', kin of v: who owned no more than n of v's row goes on owning it -/
theorem KeptUpto.step {base : Nat} {e : TypeId} {w w1 w2 : World} {v x : Value} {n k : Nat} (h : KeptUpto base e w w1 v n) (hk : KeptUpto base e w1 w2 x k) (hkin : Kin w v x) (hnk : n ≤ k) : KeptUpto base e w w2 v n := by
  intro u m ys hu hm
  refine hk u m ys (h u m ys hu hm) (fun hux => ?_)
  rcases hkin with hv | ⟨g, hg, hnew⟩
  · exact Nat.le_trans (hm (hux.trans hv)) hnk
  · have h1 := (hu.lt g (by rw [hux, hg])).2
    omega

theorem Kin.trans {w w1 : World} {v x y : Value} (h : Kin w v x) (hk : Kin w1 x y) (hs : w.heap.size ≤ w1.heap.size) : Kin w v y := by
  rcases hk with he | ⟨g, hg, hn⟩
  · rcases h with h | ⟨g, hg, h⟩
    · exact .inl (he.trans h)
    · exact .inr ⟨g, by rw [he]; exact hg, h⟩
  · exact .inr ⟨g, hg, Nat.le_trans hs hn⟩

theorem Kin.refl (w : World) (v : Value) : Kin w v v := .inl rfl

theorem KeptUpto.below {base : Nat} {w w' : World} {v : Value} {n : Nat} (hb : Below w.heap.size w w') : KeptUpto base 5 w w' v n := fun u k ys h _ => h.kept (row := none) ⟨hb.os, hb.tape, hb.output, hb.size, fun k hk _ => hb.block k hk⟩ (by cases hv : u.ownBlock <;> simp)

theorem KeptUpto.refl (base : Nat) (e : TypeId) (w : World) (v : Value) (n : Nat) : KeptUpto base e w w v n := fun _ _ _ h _ => h

/-- append of any slice of bytes to what the call owns; who owns no more keeps it -/
theorem wpList_append_keep {P : Program} {w : World} {ops : Array Oper} {rest : List Oper} {o : Oper} {a : Act} {Q : Exit → Act → World → Prop} (hgd : o.guard = none) (s x : Operand) (t : TypeId)
    (ho : o.op = .call { callee := .builtin .append, args := #[s, x], argTypes := #[t, t] })
    (base : Nat) (e : TypeId) (i : TypeInfo) (ht : P.underlying t = some (.slice e)) (hi : P.info? e = some i) (hz : i.zero = some (.int .u8 0)) (hsize : i.size = 1) (hby : i.bytes = 1)
    (v : Value) (n : Nat) (xs : List Int) (hs : a.eval s = v) (hown : w.ownsRow base e 1 v n (bts xs)) (ao : Option Addr) (m c : Nat) (ys : List Int) (hx : a.eval x = .slice ao m c)
    (hr : Reads w ao m ys) (hnil : ao = none → m = 0 ∧ c = 0) (hn : n + m ≤ 10000000) (hbase : base ≤ w.heap.size)
    (h : ∀ v' w', w'.ownsRow base e 1 v' (n + m) (bts (xs ++ ys)) → w.grownBy w' v.ownBlock → KeptUpto base e w w' v n → Kin w v v' → wpList P ops Q rest (a.put o.dst v') w') : wpList P ops Q (o :: rest) a w := by
  refine wpList_plain hgd fun K hK' => ?_
  cases ao with
  | none =>
    obtain ⟨rfl, rfl⟩ := hnil rfl
    have hy : ys = [] := List.eq_nil_of_length_eq_zero hr.1
    subst hy
    have hrun := run_append_owned_none (P := P) w base t o.type e i 1 ht hi v n (bts xs) hown
    unfold Oper.wp
    simp [execOp, ho, resolve, invoke, builtin, hs, hx, hrun, Result.andThen]
    exact hK' _ _ (by simpa using h v w (by simpa using hown) ⟨rfl, rfl, rfl, Nat.le_refl _, fun _ _ _ => rfl⟩ (KeptUpto.refl _ _ _ _ _) (.inl rfl))
  | some ad =>
    have hc : ∀ j u, (bts ys)[j]? = some u → w.cell? (ad.add j) = some u := by
      intro j u hj
      have hjl := (List.getElem?_eq_some_iff.1 hj).1
      rw [bts_length, hr.1] at hjl
      obtain ⟨ad', h1, h2⟩ := hr.2 (by omega)
      obtain rfl := Option.some.inj h1
      exact h2 j u hj
    obtain ⟨v', w', hrun, h2, h3, h4, h5⟩ := run_append_keep (P := P) w base t o.type e i ht hi hz hsize hby v n (bts xs) hown ad m c (bts ys) (by rw [bts_length, hr.1]) hc (bts_one _) hn hbase
    unfold Oper.wp
    simp [execOp, ho, resolve, invoke, builtin, hs, hx, hrun, Result.andThen]
    exact hK' _ _ (h v' w' (by rw [bts_append]; exact h2) h3 h4 h5)

end Go.Proofs.Ytlaafpfpoehonaa
