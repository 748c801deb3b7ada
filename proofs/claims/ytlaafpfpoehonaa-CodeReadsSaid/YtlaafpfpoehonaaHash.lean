/- P101: code.Hash: a sum's 32 bytes behind what a slice holds. The slice holds at most a million bytes. -/
import Derived.Test.YtlaafpfpoehonaaMany
import Derived.Deep.RegionLaw
namespace Go.Proofs.Ytlaafpfpoehonaa
open Go.RowKit Num
set_option linter.unusedVariables false
set_option linter.unusedSimpArgs false

/-- append of any slice of bytes to what the call owns, as a step of a region that draws its order -/
theorem step_append_reads {P : Program} {ops : Array Oper} {o : Oper} {a : Act} {w : World} {K : Act → World → Prop} {Q : Exit → Act → World → Prop} {E : Prop}
    (hg : o.guard = none) (s x : Operand) (t : TypeId) (ho : o.op = Op.call { callee := Callee.builtin Builtin.append, args := #[s, x], argTypes := #[t, t] })
    (base : Nat) (e : TypeId) (i : TypeInfo) (ht : P.underlying t = some (.slice e)) (hi : P.info? e = some i) (hz : i.zero = some (.int .u8 0)) (hsize : i.size = 1) (hby : i.bytes = 1)
    (v : Value) (n : Nat) (xs : List Int) (hs : a.eval s = v) (hown : w.ownsRow base e 1 v n (bts xs)) (ad : Addr) (m c : Nat) (ys : List Int) (hx : a.eval x = .slice (some ad) m c)
    (hr : Reads w (some ad) m ys) (hn : n + m ≤ 10000000) (hbase : base ≤ w.heap.size)
    (h : ∀ v' w', w'.ownsRow base e 1 v' (n + m) (bts (xs ++ ys)) → w.grownBy w' v.ownBlock → K (a.put o.dst v') w') :
    if Region.wanted o (yielded ops a.tmps) = true then Oper.wp P o a w K Q else E := by
  have hw : Region.wanted o (yielded ops a.tmps) = true := by simp [Region.wanted, hg]
  rw [if_pos hw]
  refine wp_append_own w s x t ho base e i (.int .u8 0) 1 1 ht hi hz hsize hby rfl (by decide) v n (bts xs) hs hown ad m c (bts ys) hx (by rw [bts_length, hr.1]; omega) ?_ (bts_one _) (by unfold maxLen; omega) (by omega) hbase ?_
  · intro j u hj
    have hjl := (List.getElem?_eq_some_iff.1 hj).1
    rw [bts_length, hr.1] at hjl
    obtain ⟨ad', h1, h2⟩ := hr.2 (by omega)
    obtain rfl := Option.some.inj h1
    exact h2 j u hj
  · intro v' w' h1 h2 _
    exact h v' w' (by rw [bts_append]; exact h1) h2

/-- a sum as a value -/
structure Sum (cs : Array Value) (hs : List Int) : Prop where
  cells : cs.toList = bts hs
  len : hs.length = 32
  bytes : ∀ c ∈ hs, Byte c

theorem Sum.boxed {cs : Array Value} {hs : List Int} (h : Sum cs hs) (w : World) (t : TypeId) : Reads (w.alloc (.cells cs t)) (some ⟨w.heap.size, 0, none⟩) 32 hs := by
  refine ⟨h.len, fun _ => ⟨_, rfl, fun j v hv => ?_⟩⟩
  rw [Addr.add_lit, Nat.zero_add, World.cell?_alloc_at _ _ _ _ rfl]
  have hc := h.cells
  show cs[j]? = some v
  rw [← hv, ← hc]
  simp

set_option maxRecDepth 100000 in
set_option maxHeartbeats 1000000 in
/-- P101: Hash -/
theorem hash_any (a : Option Addr) (n c : Nat) (xs hs : List Int) (cs : Array Value) (w : World) (hr : Reads w a n xs) (hn : n ≤ 1000000) (hh : Sum cs hs) :
    Calls Try.prog 17 #[.slice a n c, .agg cs] w fun e w' =>
      ∃ v, e = .returned v ∧ w'.ownsRow w.heap.size 5 1 v (n + 32) (bts (xs ++ hs)) ∧ Below w.heap.size w w' := by
  obtain ⟨i0, hi, hz0, hz1, hz2⟩ := info_parts Try.infoByte
  have HB := Lib.hid ((hh.boxed w 24).below ((Below.refl _ _).drew))
  have hb0 : Below w.heap.size w (w.alloc (.cells cs 24)).drew := ((Below.refl _ _).alloc (Nat.le_refl _) _).drew
  have HB0 := Lib.hid hb0
  have HR := Lib.hid (hr.below hb0)
  clear hr hh hb0
  go_enter Try.func17, Try.ntmps17
  go_wp2_with fail
  go_region_law (first
    | (refine step_append_reads rfl (.tmp 6) (.tmp 7) 22 rfl w.heap.size 5 i0 Try.underlying22 hi hz0 hz1 hz2 _ _ xs rfl HO.out _ 32 32 hs rfl HB2.out (by omega) HS.out ?_; intro v3 w3 ho3 hg3)
    | (go_simp; go_loud (refine (more_any a n c xs 32 _ HR.out hn (by omega) (by omega)).mono ?_); rintro e w2 ⟨v2, rfl, hf⟩; have HO := Lib.hid (hf.owns w.heap.size HB0.out.size); have HB2 := Lib.hid (HB.out.below hf.below); have HS := Lib.hid (Nat.le_trans HB0.out.size hf.below.size); have HF := Lib.hid hf.below; clear hf))
  have HB3 := Lib.hid (((HB0.out.trans (HF.out.mono HB0.out.size))).grown hg3 HS.out (fun k hk => (HO.out.lt k hk).1))
  have HO3 := Lib.hid ho3
  clear hg3 ho3
  go_wp2
  go_ret
  exact ⟨v3, rfl, HO3.out, HB3.out⟩
end Go.Proofs.Ytlaafpfpoehonaa
