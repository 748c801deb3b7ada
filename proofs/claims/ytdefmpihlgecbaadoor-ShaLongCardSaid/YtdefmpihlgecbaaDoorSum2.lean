/- The second SHA-256: its Sum is the document's. -/
import Derived.Test.YtdefmpihlgecbaaDoorWords
import Derived.Test.YtdefmpihlgecbaaDoorPadP
import Derived.Deep.AppendLies
namespace Go.Proofs.YtdefmpihlgecbaaDoor
open Go.RowKit Sha
set_option linter.unusedVariables false
set_option linter.unusedSimpArgs false

theorem rotc2 (x : W) (w : World) : Calls Tryd.prog 22 #[.int .u32 (x.toNat : Int), .int .u64 2] w fun e w' => e = .returned (.int .u32 ((rotr x 2).toNat : Int)) ∧ ∃ k, w' = w.drewN k := (rot_any x 2 w (by omega) (by omega)).mono fun e w' h => ⟨h.1, 0, h.2.symm⟩
theorem rotc6 (x : W) (w : World) : Calls Tryd.prog 22 #[.int .u32 (x.toNat : Int), .int .u64 6] w fun e w' => e = .returned (.int .u32 ((rotr x 6).toNat : Int)) ∧ ∃ k, w' = w.drewN k := (rot_any x 6 w (by omega) (by omega)).mono fun e w' h => ⟨h.1, 0, h.2.symm⟩
theorem rotc7 (x : W) (w : World) : Calls Tryd.prog 22 #[.int .u32 (x.toNat : Int), .int .u64 7] w fun e w' => e = .returned (.int .u32 ((rotr x 7).toNat : Int)) ∧ ∃ k, w' = w.drewN k := (rot_any x 7 w (by omega) (by omega)).mono fun e w' h => ⟨h.1, 0, h.2.symm⟩
theorem rotc11 (x : W) (w : World) : Calls Tryd.prog 22 #[.int .u32 (x.toNat : Int), .int .u64 11] w fun e w' => e = .returned (.int .u32 ((rotr x 11).toNat : Int)) ∧ ∃ k, w' = w.drewN k := (rot_any x 11 w (by omega) (by omega)).mono fun e w' h => ⟨h.1, 0, h.2.symm⟩
theorem rotc13 (x : W) (w : World) : Calls Tryd.prog 22 #[.int .u32 (x.toNat : Int), .int .u64 13] w fun e w' => e = .returned (.int .u32 ((rotr x 13).toNat : Int)) ∧ ∃ k, w' = w.drewN k := (rot_any x 13 w (by omega) (by omega)).mono fun e w' h => ⟨h.1, 0, h.2.symm⟩
theorem rotc17 (x : W) (w : World) : Calls Tryd.prog 22 #[.int .u32 (x.toNat : Int), .int .u64 17] w fun e w' => e = .returned (.int .u32 ((rotr x 17).toNat : Int)) ∧ ∃ k, w' = w.drewN k := (rot_any x 17 w (by omega) (by omega)).mono fun e w' h => ⟨h.1, 0, h.2.symm⟩
theorem rotc18 (x : W) (w : World) : Calls Tryd.prog 22 #[.int .u32 (x.toNat : Int), .int .u64 18] w fun e w' => e = .returned (.int .u32 ((rotr x 18).toNat : Int)) ∧ ∃ k, w' = w.drewN k := (rot_any x 18 w (by omega) (by omega)).mono fun e w' h => ⟨h.1, 0, h.2.symm⟩
theorem rotc19 (x : W) (w : World) : Calls Tryd.prog 22 #[.int .u32 (x.toNat : Int), .int .u64 19] w fun e w' => e = .returned (.int .u32 ((rotr x 19).toNat : Int)) ∧ ∃ k, w' = w.drewN k := (rot_any x 19 w (by omega) (by omega)).mono fun e w' h => ⟨h.1, 0, h.2.symm⟩
theorem rotc22 (x : W) (w : World) : Calls Tryd.prog 22 #[.int .u32 (x.toNat : Int), .int .u64 22] w fun e w' => e = .returned (.int .u32 ((rotr x 22).toNat : Int)) ∧ ∃ k, w' = w.drewN k := (rot_any x 22 w (by omega) (by omega)).mono fun e w' h => ⟨h.1, 0, h.2.symm⟩
theorem rotc25 (x : W) (w : World) : Calls Tryd.prog 22 #[.int .u32 (x.toNat : Int), .int .u64 25] w fun e w' => e = .returned (.int .u32 ((rotr x 25).toNat : Int)) ∧ ∃ k, w' = w.drewN k := (rot_any x 25 w (by omega) (by omega)).mono fun e w' h => ⟨h.1, 0, h.2.symm⟩

/-- the first k of the sums, what was there behind them -/
def half (s r : St) (k : Nat) : List W := (addS s r).list.take k ++ s.list.drop k
theorem half_at (s r : St) {k : Nat} (hk : k < 8) : (half s r k).getD k 0 = s.list.getD k 0 := by
  have h : k = 0 ∨ k = 1 ∨ k = 2 ∨ k = 3 ∨ k = 4 ∨ k = 5 ∨ k = 6 ∨ k = 7 := by omega
  rcases h with rfl | rfl | rfl | rfl | rfl | rfl | rfl | rfl <;> rfl
theorem half_put (s r : St) {k : Nat} (hk : k < 8) : (half s r k).set k (s.list.getD k 0 + r.list.getD k 0) = half s r (k + 1) := by
  have h : k = 0 ∨ k = 1 ∨ k = 2 ∨ k = 3 ∨ k = 4 ∨ k = 5 ∨ k = 6 ∨ k = 7 := by omega
  rcases h with rfl | rfl | rfl | rfl | rfl | rfl | rfl | rfl <;> rfl
theorem half_length (s r : St) {k : Nat} (hk : k ≤ 8) : (half s r k).length = 8 := by
  have h1 : (addS s r).list.length = 8 := rfl
  have h2 : s.list.length = 8 := rfl
  simp only [half, List.length_append, List.length_take, List.length_drop, h1, h2]
  omega
theorem out_next (s : St) {i : Nat} (hi : i < 8) : (out s).take (4 * (i + 1)) = (out s).take (4 * i) ++ Sha.bytes (s.list.getD i 0) := by
  have h : i = 0 ∨ i = 1 ∨ i = 2 ∨ i = 3 ∨ i = 4 ∨ i = 5 ∨ i = 6 ∨ i = 7 := by omega
  rcases h with rfl | rfl | rfl | rfl | rfl | rfl | rfl | rfl <;> rfl

theorem wrap_u8 (n : Int) : IntKind.u8.wrap n = n % 256 := by
  unfold IntKind.wrap
  simp [IntKind.bits, IntKind.signed]

theorem wrap_small {n : Int} (h0 : 0 ≤ n) (h1 : n < 1000) : IntKind.i64.wrap n = n := by
  unfold IntKind.wrap
  simp [IntKind.bits, IntKind.signed]
  omega

theorem sig1_val (x : W) : bits .xor .u32 (bits .xor .u32 ((rotr x 17).toNat : Int) ((rotr x 19).toNat : Int)) ((x.toNat : Int) / (1024 : Int)) = ((sig1 x).toNat : Int) := by
  have h : (x.toNat : Int) / (1024 : Int) = ((x >>> 10).toNat : Int) := shr_val x 10
  rw [h, bits_xor, bits_xor]
  rfl
theorem sig0_val (x : W) : bits .xor .u32 (bits .xor .u32 ((rotr x 7).toNat : Int) ((rotr x 18).toNat : Int)) ((x.toNat : Int) / (8 : Int)) = ((sig0 x).toNat : Int) := by
  have h : (x.toNat : Int) / (8 : Int) = ((x >>> 3).toNat : Int) := shr_val x 3
  rw [h, bits_xor, bits_xor]
  rfl
theorem big1_val (x : W) : bits .xor .u32 (bits .xor .u32 ((rotr x 6).toNat : Int) ((rotr x 11).toNat : Int)) ((rotr x 25).toNat : Int) = ((big1 x).toNat : Int) := by
  rw [bits_xor, bits_xor]
  rfl
theorem big0_val (x : W) : bits .xor .u32 (bits .xor .u32 ((rotr x 2).toNat : Int) ((rotr x 13).toNat : Int)) ((rotr x 22).toNat : Int) = ((big0 x).toNat : Int) := by
  rw [bits_xor, bits_xor]
  rfl
theorem ch_val (x y z : W) : bits .xor .u32 (bits .and .u32 (x.toNat : Int) (y.toNat : Int)) (bits .and .u32 (bits .xor .u32 IntKind.u32.max (x.toNat : Int)) (z.toNat : Int)) = ((ch x y z).toNat : Int) := by
  rw [not_val, bits_and, bits_and, bits_xor]
  rfl
theorem maj_val (x y z : W) : bits .xor .u32 (bits .xor .u32 (bits .and .u32 (x.toNat : Int) (y.toNat : Int)) (bits .and .u32 (x.toNat : Int) (z.toNat : Int))) (bits .and .u32 (y.toNat : Int) (z.toNat : Int)) = ((maj x y z).toNat : Int) := by
  rw [bits_and, bits_and, bits_and, bits_xor, bits_xor]
  rfl
theorem agg8 {p q : Int} {x y : W} (hp : p = (x.toNat : Int)) (hq : q = (y.toNat : Int)) (a b c e f g : W) :
    Value.agg #[.int .u32 p, .int .u32 (a.toNat : Int), .int .u32 (b.toNat : Int), .int .u32 (c.toNat : Int), .int .u32 q, .int .u32 (e.toNat : Int), .int .u32 (f.toNat : Int), .int .u32 (g.toNat : Int)] = Value.agg (us [x, a, b, c, y, e, f, g]).toArray := by
  subst hp; subst hq; rfl

theorem shl_small {c : Int} (h0 : 0 ≤ c) (h1 : c < 256) (n : Nat) (hn : c * 2 ^ n < 4294967296) (hp : 0 ≤ c * 2 ^ n) : c * 2 ^ n = ((by32 c <<< n).toNat : Int) := by
  have h := shl_val (by32 c) n
  rw [← by32_val ⟨h0, h1⟩] at h
  rw [← h, Int.emod_eq_of_lt hp hn]

theorem four_val {c0 c1 c2 c3 : Int} (l0 : 0 ≤ c0) (u0 : c0 < 256) (l1 : 0 ≤ c1) (u1 : c1 < 256) (l2 : 0 ≤ c2) (u2 : c2 < 256) (l3 : 0 ≤ c3) (u3 : c3 < 256) :
    bits .or .u32 (bits .or .u32 (bits .or .u32 (c0 * (16777216 : Int)) (c1 * (65536 : Int))) (c2 * (256 : Int))) c3 = ((four c0 c1 c2 c3).toNat : Int) := by
  have e0 : c0 * (16777216 : Int) = ((by32 c0 <<< 24).toNat : Int) := shl_small l0 u0 24 (by omega) (by omega)
  have e1 : c1 * (65536 : Int) = ((by32 c1 <<< 16).toNat : Int) := shl_small l1 u1 16 (by omega) (by omega)
  have e2 : c2 * (256 : Int) = ((by32 c2 <<< 8).toNat : Int) := shl_small l2 u2 8 (by omega) (by omega)
  have e3 : c3 = ((by32 c3).toNat : Int) := by32_val ⟨l3, u3⟩
  rw [e0, e1, e2, bits_or, bits_or]
  have e4 := bits_or (by32 c0 <<< 24 ||| by32 c1 <<< 16 ||| by32 c2 <<< 8) (by32 c3)
  rw [← e3] at e4
  rw [e4]
  rfl

theorem take_set_next {l : List W} {i : Nat} {x : W} (h : i < l.length) : (l.set i x).take (i + 1) = l.take i ++ [x] := by
  rw [List.take_add_one, List.take_set_of_le (Nat.le_refl _), List.getElem?_set_self h]
  rfl

def noughts8 : List W := List.replicate 8 0

theorem gap_le (n : Nat) : gap n < 64 := by unfold gap; omega
theorem gap_at (n : Nat) : (n + 1 + gap n) % 64 = 56 := by unfold gap; omega
theorem gap_only {n z : Nat} (hz : z ≤ gap n) (h : (n + 1 + z) % 64 = 56) : z = gap n := by unfold gap at *; omega
theorem pad_length (b : List Int) : (pad b).length = b.length + 1 + gap b.length + 8 := by simp [pad, lens]; omega
theorem pad_blocks (b : List Int) : (pad b).length = 64 * ((pad b).length / 64) := by
  have h := gap_at b.length
  rw [pad_length]
  omega

/-- the memory of a sum under way -/
structure Mem (w X : World) (g3 g4 g8 : Nat) (a : Option Addr) (n : Nat) (t : List Int) (sl ws : List W) : Prop where
  kr : Row X g3 48 kk
  sr : Row X g4 39 sl
  wr : Row X g8 48 ws
  len : ws.length = 64
  out : X.heap[w.heap.size]? = some (.cells noughts.toArray 24 (0, 0))
  rd : Reads X a n t
  below : Below w.heap.size w X
  o3 : w.heap.size < g3
  o4 : g3 < g4
  o8 : g4 < g8

section
variable {w X X' : World} {g3 g4 g8 : Nat} {a : Option Addr} {n : Nat} {t : List Int} {sl ws : List W}
theorem Mem.only (h : Mem w X g3 g4 g8 a n t sl ws) {r : Nat} (ho : Only r X X') (hr : g8 < r) (ha : 0 < n → ∀ ad, a = some ad → ad.block ≠ r) : Mem w X' g3 g4 g8 a n t sl ws := by
  have h3 := h.o3; have h4 := h.o4; have h8 := h.o8
  exact ⟨h.kr.only ho (by omega), h.sr.only ho (by omega), h.wr.only ho (by omega), h.len, (ho.block _ (Array.getElem?_eq_some_iff.1 h.out).1 (by simp; omega)).trans h.out, reads_only h.rd ho ha,
    h.below.trans (ho.below (by omega) h.below.size), h.o3, h.o4, h.o8⟩
theorem Mem.keep (h : Mem w X g3 g4 g8 a n t sl ws) (hb : Below X.heap.size X X') : Mem w X' g3 g4 g8 a n t sl ws :=
  ⟨h.kr.keep hb, h.sr.keep hb, h.wr.keep hb, h.len, (hb.block _ (Array.getElem?_eq_some_iff.1 h.out).1).trans h.out, h.rd.below hb, h.below.trans (hb.mono h.below.size), h.o3, h.o4, h.o8⟩
theorem Mem.putW (h : Mem w X g3 g4 g8 a n t sl ws) (i : Nat) (x : W) : Mem w (X.setCell ⟨g8, i, none⟩ (.int .u32 (x.toNat : Int))) g3 g4 g8 a n t sl (ws.set i x) ∧ Only g8 X (X.setCell ⟨g8, i, none⟩ (.int .u32 (x.toNat : Int))) := by
  obtain ⟨ho, hp⟩ := h.wr.put i x
  have h3 := h.o3; have h4 := h.o4; have h8 := h.o8
  exact ⟨⟨h.kr.only ho (by omega), h.sr.only ho (by omega), hp, by rw [List.length_set]; exact h.len, (ho.block _ (Array.getElem?_eq_some_iff.1 h.out).1 (by simp; omega)).trans h.out, reads_only h.rd ho (row_apart h.wr h.rd),
    h.below.trans (ho.below (by omega) h.below.size), h.o3, h.o4, h.o8⟩, ho⟩
theorem Mem.putS (h : Mem w X g3 g4 g8 a n t sl ws) (i : Nat) (x : W) : Mem w (X.setCell ⟨g4, i, none⟩ (.int .u32 (x.toNat : Int))) g3 g4 g8 a n t (sl.set i x) ws ∧ Only g4 X (X.setCell ⟨g4, i, none⟩ (.int .u32 (x.toNat : Int))) := by
  obtain ⟨ho, hp⟩ := h.sr.put i x
  have h3 := h.o3; have h4 := h.o4; have h8 := h.o8
  exact ⟨⟨h.kr.only ho (by omega), hp, h.wr.only ho (by omega), h.len, (ho.block _ (Array.getElem?_eq_some_iff.1 h.out).1 (by simp; omega)).trans h.out, reads_only h.rd ho (row_apart h.sr h.rd),
    h.below.trans (ho.below (by omega) h.below.size), h.o3, h.o4, h.o8⟩, ho⟩
end

set_option maxRecDepth 100000 in
set_option maxHeartbeats 16000000 in
theorem rsum_any (a0 : Option Addr) (len0 cap0 : Nat) (z0 : List Int) (w : World) (hr : Reads w a0 len0 z0) (hnil : a0 = none → len0 = 0 ∧ cap0 = 0) (hby : ∀ c ∈ z0, Byte c) (hn : len0 ≤ 100000) :
    Calls Tryd.prog 11 #[.slice a0 len0 cap0] w fun y w' => ∃ cs, y = .returned (.agg cs) ∧ Sum cs (sum z0) ∧ Below w.heap.size w w' := by
  obtain ⟨i0, hi, hz0, hz1, hz2⟩ := info_parts Tryd.infoByte
  have HBY := Lib.hid hby
  have HNIL := Lib.hid hnil
  have hb0 : Below w.heap.size w (w.alloc (.cells noughts.toArray 24)) := (Below.refl _ _).alloc (Nat.le_refl _) _
  have hn0 : (w.alloc (.cells noughts.toArray 24)).heap[w.heap.size]? = some (.cells noughts.toArray 24 (0, 0)) := heap_alloc_new w _
  have hs0 : (w.alloc (.cells noughts.toArray 24)).heap.size = w.heap.size + 1 := by simp
  obtain ⟨W0, hW⟩ : ∃ W0, W0 = w.alloc (.cells noughts.toArray 24) := ⟨_, rfl⟩
  rw [← hW] at hb0 hn0 hs0
  have HB0 := Lib.hid hb0
  have HN0 := Lib.hid hn0
  have HS0 := Lib.hid hs0
  have HR0 := Lib.hid (hr.below hb0)
  have HLEN := Lib.hid hr.1
  have HW := Lib.hid hW
  clear hr hnil hby hb0 hn0 hs0 hW
  go_enter Tryd.func11, Tryd.ntmps11
  go_upto_region 1 with (fail)
  rw [← noughts_eq, ← HW.out]
  go_wp2_with fail
  refine (words_any _).mono ?_
  rintro y w1 ⟨rfl, hb1⟩
  have hA1 : (w1.alloc (.cells (us noughts64).toArray 48)).heap[w1.heap.size]? = some (.cells (us noughts64).toArray 48 (0, 0)) := heap_alloc_new w1 _
  have HA1 := Lib.hid hA1
  have HB1 := Lib.hid hb1
  have HZ1 : Hid (w.heap.size < w1.heap.size) := by have := hb1.size; have := HS0.out; show _ < _; omega
  clear hA1 hb1
  go_upto_region 2 with (refine wpList_store_us rfl 48 (.tmp 3) (.tmp 23) rfl w1.heap.size kk rfl rfl info_u64 _ HA1.out rfl ?_; intro w2 hk2 ho2)
  have HBA : Hid (Below w1.heap.size w1 w2) := ((Below.refl _ _).alloc (Nat.le_refl _) (.cells (us noughts64).toArray 48)).trans (ho2.below (Nat.le_refl _) (by simp))
  have HK2 := Lib.hid hk2
  clear hk2 ho2
  have hA3 : (w2.alloc (.cells (us noughts8).toArray 39)).heap[w2.heap.size]? = some (.cells (us noughts8).toArray 39 (0, 0)) := heap_alloc_new w2 _
  have HA3 := Lib.hid hA3
  clear hA3
  go_upto_region 3 with (refine wpList_store_us rfl 39 (.tmp 4) (.tmp 24) rfl w2.heap.size first.list rfl rfl info_u8 _ HA3.out rfl ?_; intro w3 hs3 ho3)
  have HBB : Hid (Below w2.heap.size w2 w3) := ((Below.refl _ _).alloc (Nat.le_refl _) (.cells (us noughts8).toArray 39)).trans (ho3.below (Nat.le_refl _) (by simp))
  have HS3 := Lib.hid hs3
  have HK3 : Hid (Row w3 w1.heap.size 48 kk) := HK2.out.keep HBB.out
  have HB3 : Hid (Below w.heap.size w w3) := (HB0.out.trans (HB1.out.mono HB0.out.size)).trans ((HBA.out.trans (HBB.out.mono HBA.out.size)).mono (Nat.le_of_lt HZ1.out))
  have HO3 : Hid (w3.heap[w.heap.size]? = some (.cells noughts.toArray 24 (0, 0))) := by
    have h1 := HZ1.out
    have h2 := HBA.out.size
    show _ = _
    rw [HBB.out.block _ (by omega), HBA.out.block _ h1, HB1.out.block _ (by rw [HS0.out]; omega)]
    exact HN0.out
  have HL3 : Hid (w.heap.size < w1.heap.size ∧ w1.heap.size < w2.heap.size ∧ w2.heap.size < w3.heap.size) := ⟨HZ1.out, by have := HK2.out.lt; exact this, by have := HS3.out.lt; exact this⟩
  have HR3 : Hid (Reads w3 a0 len0 z0) := HR0.out.below ((HB1.out.trans (HBA.out.mono HB1.out.size)).trans (HBB.out.mono (Nat.le_trans HB1.out.size HBA.out.size)))
  clear hs3 ho3 HB0 HB1 HBA HBB HK2 HA1 HA3 HN0 HR0 HW HS0 HZ1
  obtain ⟨g3, hg3⟩ : ∃ g, g = w1.heap.size := ⟨_, rfl⟩
  obtain ⟨g4, hg4⟩ : ∃ g, g = w2.heap.size := ⟨_, rfl⟩
  rw [← hg3] at HK3
  rw [← hg4] at HS3
  rw [← hg3, ← hg4] at HL3 ⊢
  clear hg3 hg4
  have HM := Lib.hid (World.ownsRow_made (base := w3.heap.size) (e := 5) (size := 1) w3 #[] 0 (Nat.le_refl _) (by unfold maxLen; omega) rfl)
  have HRA : Hid (Reads (w3.alloc (.cells #[] 5)) a0 len0 z0) := HR3.out.below ((Below.refl _ _).alloc (Nat.le_refl _) _)
  go_upto_region 4 with (at_builtin; go_must (refine wpList_append_keep rfl _ _ 22 rfl w3.heap.size 5 i0 Tryd.underlying22 hi hz0 hz1 hz2 _ 0 [] rfl HM.out a0 len0 cap0 z0 rfl HRA.out (fun h => HNIL.out h) (by omega) (by simp) ?_; intro v4 w4 ho4 hg4 hk4 hn4; simp only [Nat.zero_add, List.nil_append] at ho4; have hb4 : Below w3.heap.size w3 w4 := ((Below.refl _ _).alloc (Nat.le_refl _) (.cells #[] 5)).grown hg4 (by simp) (fun k hk => (HM.out.lt k hk).1); have HO4 := Lib.hid (owns_later ho4 ((Below.refl _ _).alloc (Nat.le_refl _) (.cells #[.int .u8 128] 5))); have HB4 := Lib.hid hb4; have HR4 : Hid (Reads (w4.alloc (.cells #[.int .u8 128] 5)) (some ⟨w4.heap.size, 0, none⟩) 1 [128]) := ⟨rfl, fun _ => ⟨_, rfl, one_new w4 128⟩⟩; clear ho4 hg4 hk4 hn4 hb4))
  go_wp2_with (at_builtin; go_must (refine wpList_append_keep rfl _ _ 22 rfl w3.heap.size 5 i0 Tryd.underlying22 hi hz0 hz1 hz2 _ len0 z0 rfl HO4.out (some ⟨w4.heap.size, 0, none⟩) 1 1 [128] rfl HR4.out (fun h => by cases h) (by omega) (by have := HB4.out.size; simp; omega) ?_; intro v5 w5 ho5 hg5 hk5 hn5; have hb5 : Below w3.heap.size w3 w5 := (HB4.out.alloc HB4.out.size (.cells #[.int .u8 128] 5)).grown hg5 (by have := HB4.out.size; simp; omega) (fun k hk => (HO4.out.lt k hk).1); have HO5 := Lib.hid ho5; have HB5 := Lib.hid hb5; clear ho5 hg5 hk5 hn5 hb5))
  have hgl := gap_le len0
  obtain ⟨G, hG⟩ : ∃ G, G = gap len0 := ⟨_, rfl⟩
  rw [← hG] at hgl
  have HG := Lib.hid hG
  clear hG
  go_loopw [5] (fun v wr => ∃ (z n : Nat) (a : Option Addr) (c : Nat), z ≤ G ∧ n = len0 + 1 + z ∧ v = .slice a n c ∧ Hid (wr.ownsRow w3.heap.size 5 1 v n (bts (z0 ++ [128] ++ List.replicate z 0))) ∧ Hid (Below w3.heap.size w3 wr)) (fun v _ => match v with | .slice _ n _ => len0 + 100 - n | _ => 0)
  case atStart =>
    have h5 := HO5.out
    obtain ⟨a, c, rfl, -⟩ := owned_val h5
    exact ⟨0, len0 + 1, a, c, by omega, by omega, rfl, (show World.ownsRow _ _ _ _ _ _ _ by simpa using h5), HB5.out⟩
  case round =>
    clear HO5 HB5 HO4 HB4 HR4 HM HRA
    obtain ⟨z, n, a, c, hz, hnn, rfl, HO, HB⟩ := hrel
    have hnb : n ≤ 200000 := by omega
    by_cases h56 : n % 64 = 56
    · have hzG : z = G := gap_only (by rw [← HG.out]; exact hz) (by rw [← hnn]; exact h56) |>.trans HG.out.symm
      subst hzG
      have h56i : ((n : Int) % 64 == 56) = true := by simp; omega
      have h56j : ((n : Int).tmod 64 == 56) = true := by rw [Int.tmod_eq_emod_of_nonneg (by omega)]; exact h56i
      obtain ⟨P0, hP0⟩ : ∃ P0, P0 = z0 ++ [128] ++ List.replicate z 0 := ⟨_, rfl⟩
      rw [← hP0] at HO
      have HP0 := Lib.hid hP0
      have hpl : n + 8 = (pad z0).length := by rw [pad_length, HLEN.out, ← HG.out]; omega
      have HPL := Lib.hid hpl
      have hn64 : n % 64 = 56 := h56
      have hgd : ((n : Int) % 64 != 56) = false := by simp; omega
      clear hP0 hpl hnn h56
      go_wp2_with fail
      try simp only [hgd]
      clear hgd h56i h56j
      go_loopw [5, 7] (fun v i wr => ∃ (k m : Nat) (a : Option Addr) (c : Nat), k ≤ 8 ∧ m = n + k ∧ i = .int .i64 (7 - (k : Int)) ∧ v = .slice a m c ∧ Hid (wr.ownsRow w3.heap.size 5 1 v m (bts (P0 ++ (lens len0).take k))) ∧ Hid (Below w3.heap.size w3 wr)) (fun _ i _ => (intOf i + 1).toNat)
      case atStart => exact ⟨0, n, a, c, by omega, by omega, rfl, rfl, (show World.ownsRow _ _ _ _ _ _ _ by simpa using HO.out), HB.out⟩
      case round =>
        clear HO HB
        obtain ⟨k, m, a, c, hk, hm, rfl, rfl, HO, HB⟩ := hrel
        have HMM := Lib.hid hm
        have hmb : m ≤ 200010 := by omega
        clear hm
        by_cases hk8 : k < 8
        · have hk07 : k = 0 ∨ k = 1 ∨ k = 2 ∨ k = 3 ∨ k = 4 ∨ k = 5 ∨ k = 6 ∨ k = 7 := by omega
          rcases hk07 with rfl | rfl | rfl | rfl | rfl | rfl | rfl | rfl
          · as_aux_lemma =>
            have hlv : (lens len0).take 1 = (lens len0).take 0 ++ [(len0 : Int) * 8 / 72057594037927936] := by
              have e : (len0 : Int) * 8 / 72057594037927936 = ((len0 * 8 / 2 ^ 56 % 256 : Nat) : Int) := by omega
              rw [e]
              rfl
            have HLV := Lib.hid hlv
            clear hlv
            have HO6 := Lib.hid (owns_later HO.out ((Below.refl _ _).alloc (Nat.le_refl _) (.cells #[.int .u8 ((len0 : Int) * 8 / 72057594037927936)] 5)))
            have HR6 : Hid (Reads (wr.alloc (.cells #[.int .u8 ((len0 : Int) * 8 / 72057594037927936)] 5)) (some ⟨wr.heap.size, 0, none⟩) 1 [(len0 : Int) * 8 / 72057594037927936]) := ⟨rfl, fun _ => ⟨_, rfl, one_new wr _⟩⟩
            go_wp2_with (at_builtin; go_must (refine wpList_append_keep rfl _ _ 22 rfl w3.heap.size 5 i0 Tryd.underlying22 hi hz0 hz1 hz2 _ m _ rfl HO6.out (some ⟨wr.heap.size, 0, none⟩) 1 1 [(len0 : Int) * 8 / 72057594037927936] rfl HR6.out (fun h => by cases h) (by omega) (by have := HB.out.size; simp; omega) ?_; intro v5 w5 ho5 hg5 hk5 hn5; have hb5 : Below w3.heap.size w3 w5 := (HB.out.alloc HB.out.size (.cells #[.int .u8 ((len0 : Int) * 8 / 72057594037927936)] 5)).grown hg5 (by have := HB.out.size; simp; omega) (fun k hk => (HO6.out.lt k hk).1); have ho5' := ho5; obtain ⟨a5, c5, rfl, -⟩ := owned_val ho5'; have HO5 := Lib.hid ho5; have HB5 := Lib.hid hb5; clear ho5 ho5' hg5 hk5 hn5 hb5))
            go_roundw
            case rel => exact ⟨1, m + 1, a5, c5, by omega, by have := HMM.out; omega, by go_num, rfl, (show World.ownsRow _ _ _ _ _ _ _ by rw [HLV.out, ← List.append_assoc]; exact HO5.out), HB5.out⟩
            case measure => simp [intOf]
          · as_aux_lemma =>
            have hlv : (lens len0).take 2 = (lens len0).take 1 ++ [(len0 : Int) * 8 / 281474976710656] := by
              have e : (len0 : Int) * 8 / 281474976710656 = ((len0 * 8 / 2 ^ 48 % 256 : Nat) : Int) := by omega
              rw [e]
              rfl
            have HLV := Lib.hid hlv
            clear hlv
            have HO6 := Lib.hid (owns_later HO.out ((Below.refl _ _).alloc (Nat.le_refl _) (.cells #[.int .u8 ((len0 : Int) * 8 / 281474976710656)] 5)))
            have HR6 : Hid (Reads (wr.alloc (.cells #[.int .u8 ((len0 : Int) * 8 / 281474976710656)] 5)) (some ⟨wr.heap.size, 0, none⟩) 1 [(len0 : Int) * 8 / 281474976710656]) := ⟨rfl, fun _ => ⟨_, rfl, one_new wr _⟩⟩
            go_wp2_with (at_builtin; go_must (refine wpList_append_keep rfl _ _ 22 rfl w3.heap.size 5 i0 Tryd.underlying22 hi hz0 hz1 hz2 _ m _ rfl HO6.out (some ⟨wr.heap.size, 0, none⟩) 1 1 [(len0 : Int) * 8 / 281474976710656] rfl HR6.out (fun h => by cases h) (by omega) (by have := HB.out.size; simp; omega) ?_; intro v5 w5 ho5 hg5 hk5 hn5; have hb5 : Below w3.heap.size w3 w5 := (HB.out.alloc HB.out.size (.cells #[.int .u8 ((len0 : Int) * 8 / 281474976710656)] 5)).grown hg5 (by have := HB.out.size; simp; omega) (fun k hk => (HO6.out.lt k hk).1); have ho5' := ho5; obtain ⟨a5, c5, rfl, -⟩ := owned_val ho5'; have HO5 := Lib.hid ho5; have HB5 := Lib.hid hb5; clear ho5 ho5' hg5 hk5 hn5 hb5))
            go_roundw
            case rel => exact ⟨2, m + 1, a5, c5, by omega, by have := HMM.out; omega, by go_num, rfl, (show World.ownsRow _ _ _ _ _ _ _ by rw [HLV.out, ← List.append_assoc]; exact HO5.out), HB5.out⟩
            case measure => simp [intOf]
          · as_aux_lemma =>
            have hlv : (lens len0).take 3 = (lens len0).take 2 ++ [(len0 : Int) * 8 / 1099511627776] := by
              have e : (len0 : Int) * 8 / 1099511627776 = ((len0 * 8 / 2 ^ 40 % 256 : Nat) : Int) := by omega
              rw [e]
              rfl
            have HLV := Lib.hid hlv
            clear hlv
            have HO6 := Lib.hid (owns_later HO.out ((Below.refl _ _).alloc (Nat.le_refl _) (.cells #[.int .u8 ((len0 : Int) * 8 / 1099511627776)] 5)))
            have HR6 : Hid (Reads (wr.alloc (.cells #[.int .u8 ((len0 : Int) * 8 / 1099511627776)] 5)) (some ⟨wr.heap.size, 0, none⟩) 1 [(len0 : Int) * 8 / 1099511627776]) := ⟨rfl, fun _ => ⟨_, rfl, one_new wr _⟩⟩
            go_wp2_with (at_builtin; go_must (refine wpList_append_keep rfl _ _ 22 rfl w3.heap.size 5 i0 Tryd.underlying22 hi hz0 hz1 hz2 _ m _ rfl HO6.out (some ⟨wr.heap.size, 0, none⟩) 1 1 [(len0 : Int) * 8 / 1099511627776] rfl HR6.out (fun h => by cases h) (by omega) (by have := HB.out.size; simp; omega) ?_; intro v5 w5 ho5 hg5 hk5 hn5; have hb5 : Below w3.heap.size w3 w5 := (HB.out.alloc HB.out.size (.cells #[.int .u8 ((len0 : Int) * 8 / 1099511627776)] 5)).grown hg5 (by have := HB.out.size; simp; omega) (fun k hk => (HO6.out.lt k hk).1); have ho5' := ho5; obtain ⟨a5, c5, rfl, -⟩ := owned_val ho5'; have HO5 := Lib.hid ho5; have HB5 := Lib.hid hb5; clear ho5 ho5' hg5 hk5 hn5 hb5))
            go_roundw
            case rel => exact ⟨3, m + 1, a5, c5, by omega, by have := HMM.out; omega, by go_num, rfl, (show World.ownsRow _ _ _ _ _ _ _ by rw [HLV.out, ← List.append_assoc]; exact HO5.out), HB5.out⟩
            case measure => simp [intOf]
          · as_aux_lemma =>
            have hlv : (lens len0).take 4 = (lens len0).take 3 ++ [(len0 : Int) * 8 / 4294967296] := by
              have e : (len0 : Int) * 8 / 4294967296 = ((len0 * 8 / 2 ^ 32 % 256 : Nat) : Int) := by omega
              rw [e]
              rfl
            have HLV := Lib.hid hlv
            clear hlv
            have HO6 := Lib.hid (owns_later HO.out ((Below.refl _ _).alloc (Nat.le_refl _) (.cells #[.int .u8 ((len0 : Int) * 8 / 4294967296)] 5)))
            have HR6 : Hid (Reads (wr.alloc (.cells #[.int .u8 ((len0 : Int) * 8 / 4294967296)] 5)) (some ⟨wr.heap.size, 0, none⟩) 1 [(len0 : Int) * 8 / 4294967296]) := ⟨rfl, fun _ => ⟨_, rfl, one_new wr _⟩⟩
            go_wp2_with (at_builtin; go_must (refine wpList_append_keep rfl _ _ 22 rfl w3.heap.size 5 i0 Tryd.underlying22 hi hz0 hz1 hz2 _ m _ rfl HO6.out (some ⟨wr.heap.size, 0, none⟩) 1 1 [(len0 : Int) * 8 / 4294967296] rfl HR6.out (fun h => by cases h) (by omega) (by have := HB.out.size; simp; omega) ?_; intro v5 w5 ho5 hg5 hk5 hn5; have hb5 : Below w3.heap.size w3 w5 := (HB.out.alloc HB.out.size (.cells #[.int .u8 ((len0 : Int) * 8 / 4294967296)] 5)).grown hg5 (by have := HB.out.size; simp; omega) (fun k hk => (HO6.out.lt k hk).1); have ho5' := ho5; obtain ⟨a5, c5, rfl, -⟩ := owned_val ho5'; have HO5 := Lib.hid ho5; have HB5 := Lib.hid hb5; clear ho5 ho5' hg5 hk5 hn5 hb5))
            go_roundw
            case rel => exact ⟨4, m + 1, a5, c5, by omega, by have := HMM.out; omega, by go_num, rfl, (show World.ownsRow _ _ _ _ _ _ _ by rw [HLV.out, ← List.append_assoc]; exact HO5.out), HB5.out⟩
            case measure => simp [intOf]
          · as_aux_lemma =>
            have hlv : (lens len0).take 5 = (lens len0).take 4 ++ [(len0 : Int) * 8 / 16777216] := by
              have e : (len0 : Int) * 8 / 16777216 = ((len0 * 8 / 2 ^ 24 % 256 : Nat) : Int) := by omega
              rw [e]
              rfl
            have HLV := Lib.hid hlv
            clear hlv
            have HO6 := Lib.hid (owns_later HO.out ((Below.refl _ _).alloc (Nat.le_refl _) (.cells #[.int .u8 ((len0 : Int) * 8 / 16777216)] 5)))
            have HR6 : Hid (Reads (wr.alloc (.cells #[.int .u8 ((len0 : Int) * 8 / 16777216)] 5)) (some ⟨wr.heap.size, 0, none⟩) 1 [(len0 : Int) * 8 / 16777216]) := ⟨rfl, fun _ => ⟨_, rfl, one_new wr _⟩⟩
            go_wp2_with (at_builtin; go_must (refine wpList_append_keep rfl _ _ 22 rfl w3.heap.size 5 i0 Tryd.underlying22 hi hz0 hz1 hz2 _ m _ rfl HO6.out (some ⟨wr.heap.size, 0, none⟩) 1 1 [(len0 : Int) * 8 / 16777216] rfl HR6.out (fun h => by cases h) (by omega) (by have := HB.out.size; simp; omega) ?_; intro v5 w5 ho5 hg5 hk5 hn5; have hb5 : Below w3.heap.size w3 w5 := (HB.out.alloc HB.out.size (.cells #[.int .u8 ((len0 : Int) * 8 / 16777216)] 5)).grown hg5 (by have := HB.out.size; simp; omega) (fun k hk => (HO6.out.lt k hk).1); have ho5' := ho5; obtain ⟨a5, c5, rfl, -⟩ := owned_val ho5'; have HO5 := Lib.hid ho5; have HB5 := Lib.hid hb5; clear ho5 ho5' hg5 hk5 hn5 hb5))
            go_roundw
            case rel => exact ⟨5, m + 1, a5, c5, by omega, by have := HMM.out; omega, by go_num, rfl, (show World.ownsRow _ _ _ _ _ _ _ by rw [HLV.out, ← List.append_assoc]; exact HO5.out), HB5.out⟩
            case measure => simp [intOf]
          · as_aux_lemma =>
            have hlv : (lens len0).take 6 = (lens len0).take 5 ++ [(len0 : Int) * 8 / 65536] := by
              have e : (len0 : Int) * 8 / 65536 = ((len0 * 8 / 2 ^ 16 % 256 : Nat) : Int) := by omega
              rw [e]
              rfl
            have HLV := Lib.hid hlv
            clear hlv
            have HO6 := Lib.hid (owns_later HO.out ((Below.refl _ _).alloc (Nat.le_refl _) (.cells #[.int .u8 ((len0 : Int) * 8 / 65536)] 5)))
            have HR6 : Hid (Reads (wr.alloc (.cells #[.int .u8 ((len0 : Int) * 8 / 65536)] 5)) (some ⟨wr.heap.size, 0, none⟩) 1 [(len0 : Int) * 8 / 65536]) := ⟨rfl, fun _ => ⟨_, rfl, one_new wr _⟩⟩
            go_wp2_with (at_builtin; go_must (refine wpList_append_keep rfl _ _ 22 rfl w3.heap.size 5 i0 Tryd.underlying22 hi hz0 hz1 hz2 _ m _ rfl HO6.out (some ⟨wr.heap.size, 0, none⟩) 1 1 [(len0 : Int) * 8 / 65536] rfl HR6.out (fun h => by cases h) (by omega) (by have := HB.out.size; simp; omega) ?_; intro v5 w5 ho5 hg5 hk5 hn5; have hb5 : Below w3.heap.size w3 w5 := (HB.out.alloc HB.out.size (.cells #[.int .u8 ((len0 : Int) * 8 / 65536)] 5)).grown hg5 (by have := HB.out.size; simp; omega) (fun k hk => (HO6.out.lt k hk).1); have ho5' := ho5; obtain ⟨a5, c5, rfl, -⟩ := owned_val ho5'; have HO5 := Lib.hid ho5; have HB5 := Lib.hid hb5; clear ho5 ho5' hg5 hk5 hn5 hb5))
            go_roundw
            case rel => exact ⟨6, m + 1, a5, c5, by omega, by have := HMM.out; omega, by go_num, rfl, (show World.ownsRow _ _ _ _ _ _ _ by rw [HLV.out, ← List.append_assoc]; exact HO5.out), HB5.out⟩
            case measure => simp [intOf]
          · as_aux_lemma =>
            have hlv : (lens len0).take 7 = (lens len0).take 6 ++ [(len0 : Int) * 8 / 256 % 256] := by
              have e : (len0 : Int) * 8 / 256 % 256 = ((len0 * 8 / 2 ^ 8 % 256 : Nat) : Int) := by omega
              rw [e]
              rfl
            have HLV := Lib.hid hlv
            clear hlv
            have HO6 := Lib.hid (owns_later HO.out ((Below.refl _ _).alloc (Nat.le_refl _) (.cells #[.int .u8 ((len0 : Int) * 8 / 256 % 256)] 5)))
            have HR6 : Hid (Reads (wr.alloc (.cells #[.int .u8 ((len0 : Int) * 8 / 256 % 256)] 5)) (some ⟨wr.heap.size, 0, none⟩) 1 [(len0 : Int) * 8 / 256 % 256]) := ⟨rfl, fun _ => ⟨_, rfl, one_new wr _⟩⟩
            go_wp2_with (at_builtin; go_must (refine wpList_append_keep rfl _ _ 22 rfl w3.heap.size 5 i0 Tryd.underlying22 hi hz0 hz1 hz2 _ m _ rfl HO6.out (some ⟨wr.heap.size, 0, none⟩) 1 1 [(len0 : Int) * 8 / 256 % 256] rfl HR6.out (fun h => by cases h) (by omega) (by have := HB.out.size; simp; omega) ?_; intro v5 w5 ho5 hg5 hk5 hn5; have hb5 : Below w3.heap.size w3 w5 := (HB.out.alloc HB.out.size (.cells #[.int .u8 ((len0 : Int) * 8 / 256 % 256)] 5)).grown hg5 (by have := HB.out.size; simp; omega) (fun k hk => (HO6.out.lt k hk).1); have ho5' := ho5; obtain ⟨a5, c5, rfl, -⟩ := owned_val ho5'; have HO5 := Lib.hid ho5; have HB5 := Lib.hid hb5; clear ho5 ho5' hg5 hk5 hn5 hb5))
            go_roundw
            case rel => exact ⟨7, m + 1, a5, c5, by omega, by have := HMM.out; omega, by go_num, rfl, (show World.ownsRow _ _ _ _ _ _ _ by rw [HLV.out, ← List.append_assoc]; exact HO5.out), HB5.out⟩
            case measure => simp [intOf]
          · as_aux_lemma =>
            have hlv : (lens len0).take 8 = (lens len0).take 7 ++ [(len0 : Int) * 8 % 256] := by
              have e : (len0 : Int) * 8 % 256 = ((len0 * 8 % 256 : Nat) : Int) := by omega
              rw [e]
              rfl
            have HLV := Lib.hid hlv
            clear hlv
            have HO6 := Lib.hid (owns_later HO.out ((Below.refl _ _).alloc (Nat.le_refl _) (.cells #[.int .u8 ((len0 : Int) * 8 % 256)] 5)))
            have HR6 : Hid (Reads (wr.alloc (.cells #[.int .u8 ((len0 : Int) * 8 % 256)] 5)) (some ⟨wr.heap.size, 0, none⟩) 1 [(len0 : Int) * 8 % 256]) := ⟨rfl, fun _ => ⟨_, rfl, one_new wr _⟩⟩
            go_wp2_with (at_builtin; go_must (refine wpList_append_keep rfl _ _ 22 rfl w3.heap.size 5 i0 Tryd.underlying22 hi hz0 hz1 hz2 _ m _ rfl HO6.out (some ⟨wr.heap.size, 0, none⟩) 1 1 [(len0 : Int) * 8 % 256] rfl HR6.out (fun h => by cases h) (by omega) (by have := HB.out.size; simp; omega) ?_; intro v5 w5 ho5 hg5 hk5 hn5; have hb5 : Below w3.heap.size w3 w5 := (HB.out.alloc HB.out.size (.cells #[.int .u8 ((len0 : Int) * 8 % 256)] 5)).grown hg5 (by have := HB.out.size; simp; omega) (fun k hk => (HO6.out.lt k hk).1); have ho5' := ho5; obtain ⟨a5, c5, rfl, -⟩ := owned_val ho5'; have HO5 := Lib.hid ho5; have HB5 := Lib.hid hb5; clear ho5 ho5' hg5 hk5 hn5 hb5))
            go_roundw
            case rel => exact ⟨8, m + 1, a5, c5, by omega, by have := HMM.out; omega, by go_num, rfl, (show World.ownsRow _ _ _ _ _ _ _ by rw [HLV.out, ← List.append_assoc]; exact HO5.out), HB5.out⟩
            case measure => simp [intOf]
        · have hk8' : k = 8 := by omega
          have hmn : m = n + 8 := by have := HMM.out; omega
          have hm64 : 0 < m := by omega
          have hpe : P0 ++ (lens len0).take k = pad z0 := by
            rw [hk8', List.take_of_length_le (by rw [lens_length]; omega), HP0.out, ← HLEN.out]
            unfold pad
            rw [HLEN.out, ← HG.out]
          rw [hpe] at HO
          obtain ⟨gT, cT0, hv2, -⟩ := World.ownsRow.form HO.out hm64
          obtain ⟨rfl, -⟩ : a = some ⟨gT, 0, none⟩ ∧ c = cT0 := by simpa using hv2
          obtain ⟨aT, cT, hvT, hrT⟩ := owned_val HO.out
          obtain ⟨rfl, rfl⟩ : some (⟨gT, 0, none⟩ : Addr) = aT ∧ c = cT := by simpa using hvT
          have hmL : m = (pad z0).length := by rw [hmn]; exact HPL.out
          have hbl := pad_blocks z0
          obtain ⟨J, hJ⟩ : ∃ J, J = (pad z0).length / 64 := ⟨_, rfl⟩
          rw [← hJ, ← hmL] at hbl
          obtain ⟨t, ht⟩ : ∃ t, t = pad z0 := ⟨_, rfl⟩
          rw [← ht] at hrT
          have hJb : J ≤ 4000 := by omega
          have HA0 : Hid ((wr.alloc (.cells (us noughts64').toArray 48)).heap[wr.heap.size]? = some (.cells (us noughts64').toArray 48 (0, 0))) := heap_alloc_new wr _
          have hbA : Below wr.heap.size wr (wr.alloc (.cells (us noughts64').toArray 48)) := (Below.refl _ _).alloc (Nat.le_refl _) _
          have hb3 : Below w3.heap.size w3 (wr.alloc (.cells (us noughts64').toArray 48)) := HB.out.trans (hbA.mono HB.out.size)
          have HM : Hid (Mem w (wr.alloc (.cells (us noughts64').toArray 48)) g3 g4 wr.heap.size (some ⟨gT, 0, none⟩) m t first.list noughts64') := by
            have hl := HL3.out
            have hs := HB.out.size
            exact ⟨HK3.out.below hb3 (by omega), HS3.out.below hb3 (by omega), HA0.out, rfl, (hb3.block _ (by omega)).trans HO3.out, hrT.below hbA, HB3.out.trans (hb3.mono HB3.out.size), by omega, by omega, by omega⟩
          have HJ : Hid (m = 64 * J ∧ J = (pad z0).length / 64 ∧ t = pad z0) := ⟨hbl, hJ, ht⟩
          have HM4 := Lib.hid hJb
          have HTB : Hid (∀ c ∈ t, Byte c) := by rw [ht]; exact pad_byte HBY.out
          clear hk8' hmn hv2 hpe hvT hrT hmL hbl hJ ht hJb HA0 hbA hb3 HO HB HMM HK3 HS3 HO3 HL3 HB3 HP0 HPL HG HR3 HLEN hmb hn64 hz hnb hgl
          obtain ⟨g8, hg8⟩ : ∃ g, g = wr.heap.size := ⟨_, rfl⟩
          rw [← hg8] at HM
          go_upto_region 13 with (fail)
          rw [← n64_eq, ← hg8]
          generalize World.alloc wr _ = X at HM ⊢
          clear hg8
          clear hm64
          go_wp2_with fail
          go_loopw [9] (fun v X => ∃ (j : Nat) (ws : List W), j ≤ J ∧ v = .int .i64 (64 * (j : Int)) ∧ Hid (Mem w X g3 g4 g8 (some ⟨gT, 0, none⟩) m t (blocks t j).list ws)) (fun v _ => (64 * (J : Int) - intOf v).toNat)
          case atStart => exact ⟨0, _, by omega, rfl, HM⟩
          case round =>
            clear HM
            obtain ⟨j, ws0, hj, rfl, HM⟩ := hrel
            have hJ4 := HM4.out
            by_cases hjJ : j < J
            · have hgd : decide ((64 : Int) * (j : Int) < (m : Int)) = true := by have := HJ.out.1; simp; omega
              go_upto_region 16 with (fail)
              try simp only [hgd]
              clear hgd
              go_wp2_with fail
              go_loopw [10] (fun v X => ∃ (i : Nat) (ws : List W), i ≤ 16 ∧ v = .int .i64 (i : Int) ∧ Hid (Mem w X g3 g4 g8 (some ⟨gT, 0, none⟩) m t (blocks t j).list ws) ∧ Hid (ws.take i = sched t (64 * j) i)) (fun v _ => (16 - intOf v).toNat)
              case atStart => exact ⟨0, ws0, by omega, rfl, HM, rfl⟩
              case round =>
                clear HM
                obtain ⟨i, ws, hi, rfl, HM, HT⟩ := hrel
                by_cases hi16 : i < 16
                · as_aux_lemma =>
                  have hq : (64 : Int) * (j : Int) + 4 * (i : Int) = ((64 * j + 4 * i : Nat) : Int) := by omega
                  have hqm : 64 * j + 4 * i + 3 < m := by have := HJ.out.1; omega
                  obtain ⟨q, hqq⟩ : ∃ q, q = 64 * j + 4 * i := ⟨_, rfl⟩
                  rw [← hqq] at hq hqm
                  have hqb : q ≤ 300000 := by have := HJ.out.1; omega
                  have hb : ∀ p, p < m → ∃ c, c = t.getD p 0 ∧ 0 ≤ c ∧ c < 256 ∧ wr.cell? ⟨gT, p, none⟩ = some (.int .u8 c) := by
                    intro p hp
                    obtain ⟨ad', h1, h2⟩ := HM.out.rd.at hp
                    obtain rfl := Option.some.inj h1
                    rw [Addr.add_lit, Nat.zero_add] at h2
                    have hby : Byte (t.getD p 0) := HTB.out _ (by have := HM.out.rd.1; simp [List.getD, show p < t.length by omega])
                    exact ⟨_, rfl, hby.1, hby.2, h2⟩
                  obtain ⟨c0, e0, l0, u0, hc0⟩ := hb q (by omega)
                  obtain ⟨c1, e1, l1, u1, hc1⟩ := hb (q + 1) (by omega)
                  obtain ⟨c2, e2, l2, u2, hc2⟩ := hb (q + 2) (by omega)
                  obtain ⟨c3, e3, l3, u3', hc3⟩ := hb (q + 3) (by omega)
                  have HE : Hid (word t q = four c0 c1 c2 c3) := by rw [e0, e1, e2, e3]; rfl
                  have HQ := Lib.hid hqq
                  have hc4 := HM.out.wr.at (i := i) (by rw [HM.out.len]; omega)
                  obtain ⟨x4, hx4⟩ : ∃ x, x = ws.getD i 0 := ⟨_, rfl⟩
                  rw [← hx4] at hc4
                  have hf := HM.out.wr.free i
                  clear hb e0 e1 e2 e3 hqq hx4
                  have hgd : decide ((i : Int) < 16) = true := by simp; omega
                  go_upto_region 20 with (fail)
                  try simp only [hgd]
                  clear hgd
                  clear hq
                  refine quiet_then 31 1 (by kernel_rfl) (by kernel_rfl) ?_
                  simp only [List.take_succ_cons, List.take_zero]
                  repeat (go_big_quiet_step (fail))
                  refine wpQuiet_nil ?_
                  intro nq
                  have hc4' : (wr.drewN nq).cell? ⟨g8, i, none⟩ = some (.int .u32 (x4.toNat : Int)) := hc4
                  have hf' : (wr.drewN nq).frozen? ⟨g8, i, none⟩ = false := hf
                  refine anyS_one 31 (by kernel_rfl) rfl (fun K hK => ?_)
                  go_simp
                  rw [four_val l0 u0 l1 u1 l2 u2 l3 u3']
                  have HM1 : Hid (Mem w (wr.drewN nq) g3 g4 g8 (some ⟨gT, 0, none⟩) m t (blocks t j).list ws) := HM.out.keep (below_drewN (Below.refl _ _) nq)
                  have hp := HM1.out.putW i (four c0 c1 c2 c3)
                  have HP := Lib.hid hp.1
                  have HT1 : Hid ((ws.set i (four c0 c1 c2 c3)).take (i + 1) = sched t (64 * j) (i + 1)) := by
                    show _ = _
                    rw [take_set_next (by rw [HM.out.len]; omega), HT.out]
                    show _ = sched t (64 * j) i ++ [if i < 16 then word t (64 * j + 4 * i) else next (sched t (64 * j) i) i]
                    rw [if_pos hi16, ← HQ.out, HE.out]
                  clear hp hc0 hc1 hc2 hc3 hc4 hf hc4' hf' HM HM1
                  refine hK.out _ _ trivial ?_
                  clear hK K
                  generalize World.setCell _ _ _ = X3 at HP ⊢
                  refine anyS_done (by kernel_rfl) ?_ _
                  refine NoPanic.normal ?_
                  go_wp2_with fail
                  go_roundw
                  case rel => exact ⟨i + 1, _, by omega, by go_num, HP, HT1⟩
                  case measure => simp [intOf]; omega
                · have hi6 : i = 16 := by omega
                  rw [hi6] at HT
                  clear hi6
                  go_wp2_with fail
                  go_loopw [12] (fun v X => ∃ (i : Nat) (ws : List W), i ≤ 48 ∧ v = .int .i64 ((i : Int) + 16) ∧ Hid (Mem w X g3 g4 g8 (some ⟨gT, 0, none⟩) m t (blocks t j).list ws) ∧ Hid (ws.take (i + 16) = sched t (64 * j) (i + 16))) (fun v _ => (64 - intOf v).toNat)
                  case atStart => exact ⟨0, ws, by omega, rfl, HM, HT⟩
                  case round =>
                    clear HM HT hi hi16
                    obtain ⟨i, ws, hi, rfl, HM, HT⟩ := hrel
                    by_cases hi48 : i < 48
                    · as_aux_lemma =>
                      have hT := HT.out
                      have hlen := HM.out.len
                      have hat : ∀ q, q < i + 16 → ws.getD q 0 = (sched t (64 * j) (i + 16)).getD q 0 := fun q hq => by rw [← hT]; simp [List.getD, List.getElem?_take, hq]
                      have hc0 := HM.out.wr.at (i := i) (by omega)
                      have hc1 := HM.out.wr.at (i := i + 1) (by omega)
                      have hc2 := HM.out.wr.at (i := i + 9) (by omega)
                      have hc3 := HM.out.wr.at (i := i + 14) (by omega)
                      have hc4 := HM.out.wr.at (i := i + 16) (by omega)
                      have hf := HM.out.wr.free (i + 16)
                      have a0 := hat i (by omega)
                      have a1 := hat (i + 1) (by omega)
                      have a2 := hat (i + 9) (by omega)
                      have a3 := hat (i + 14) (by omega)
                      obtain ⟨x0, hx0⟩ : ∃ x, x = ws.getD i 0 := ⟨_, rfl⟩
                      obtain ⟨x1, hx1⟩ : ∃ x, x = ws.getD (i + 1) 0 := ⟨_, rfl⟩
                      obtain ⟨x2, hx2⟩ : ∃ x, x = ws.getD (i + 9) 0 := ⟨_, rfl⟩
                      obtain ⟨x3, hx3⟩ : ∃ x, x = ws.getD (i + 14) 0 := ⟨_, rfl⟩
                      obtain ⟨x4, hx4⟩ : ∃ x, x = ws.getD (i + 16) 0 := ⟨_, rfl⟩
                      rw [← hx0] at hc0 a0
                      rw [← hx1] at hc1 a1
                      rw [← hx2] at hc2 a2
                      rw [← hx3] at hc3 a3
                      rw [← hx4] at hc4
                      have HX0 := Lib.hid a0
                      have HX1 := Lib.hid a1
                      have HX2 := Lib.hid a2
                      have HX3 := Lib.hid a3
                      clear hx0 hx1 hx2 hx3 hx4 hat hT hlen a0 a1 a2 a3
                      have hgd : decide ((i : Int) + 16 < 64) = true := by simp; omega
                      go_upto_region 24 with (fail)
                      try simp only [hgd]
                      clear hgd
                      go_quiet (fail)
                      have HM0 : Hid (Mem w (wr.drewN nq) g3 g4 g8 (some ⟨gT, 0, none⟩) m t (blocks t j).list ws) := HM.out.keep (below_drewN (Below.refl _ _) nq)
                      have hc0' : (wr.drewN nq).cell? ⟨g8, i, none⟩ = some (.int .u32 (x0.toNat : Int)) := hc0
                      have hc2' : (wr.drewN nq).cell? ⟨g8, i + 9, none⟩ = some (.int .u32 (x2.toNat : Int)) := hc2
                      have hc4' : (wr.drewN nq).cell? ⟨g8, i + 16, none⟩ = some (.int .u32 (x4.toNat : Int)) := hc4
                      have hf' : (wr.drewN nq).frozen? ⟨g8, i + 16, none⟩ = false := hf
                      clear HM hc0 hc1 hc2 hc3 hc4 hf
                      generalize wr.drewN nq = X2 at HM0 hc0' hc2' hc4' hf' ⊢
                      clear nq wr
                      go_wp2_with fail
                      refine quiet_then 29 1 (by kernel_rfl) (by kernel_rfl) ?_
                      simp only [List.take_succ_cons, List.take_zero]
                      repeat (go_big_quiet_step (fail))
                      go_big_quiet_want
                      go_big_quiet_op
                      refine ⟨.int .u32 ((rotr x3 17).toNat : Int), fun q => ?_, ?_⟩
                      · exact (rot_any x3 17 (X2.drewN q) (by omega) (by omega)).mono fun e w' h => ⟨h.1, q, h.2.symm⟩
                      go_big_quiet_on
                      repeat (go_big_quiet_step (fail))
                      go_big_quiet_want
                      go_big_quiet_op
                      refine ⟨.int .u32 ((rotr x3 19).toNat : Int), fun q => ?_, ?_⟩
                      · exact (rot_any x3 19 (X2.drewN q) (by omega) (by omega)).mono fun e w' h => ⟨h.1, q, h.2.symm⟩
                      go_big_quiet_on
                      repeat (go_big_quiet_step (fail))
                      go_big_quiet_want
                      go_big_quiet_op
                      refine ⟨.int .u32 ((rotr x1 7).toNat : Int), fun q => ?_, ?_⟩
                      · exact (rot_any x1 7 (X2.drewN q) (by omega) (by omega)).mono fun e w' h => ⟨h.1, q, h.2.symm⟩
                      go_big_quiet_on
                      repeat (go_big_quiet_step (fail))
                      go_big_quiet_want
                      go_big_quiet_op
                      refine ⟨.int .u32 ((rotr x1 18).toNat : Int), fun q => ?_, ?_⟩
                      · exact (rot_any x1 18 (X2.drewN q) (by omega) (by omega)).mono fun e w' h => ⟨h.1, q, h.2.symm⟩
                      go_big_quiet_on
                      repeat (go_big_quiet_step (fail))
                      refine wpQuiet_nil ?_
                      intro nq
                      have hc4 : (X2.drewN nq).cell? ⟨g8, i + 16, none⟩ = some (.int .u32 (x4.toNat : Int)) := hc4'
                      have hf : (X2.drewN nq).frozen? ⟨g8, i + 16, none⟩ = false := hf'
                      refine anyS_one 29 (by kernel_rfl) rfl (fun K hK => ?_)
                      go_simp
                      rw [sig1_val, sig0_val, add4_val]
                      have HM1 : Hid (Mem w (X2.drewN nq) g3 g4 g8 (some ⟨gT, 0, none⟩) m t (blocks t j).list ws) := HM0.out.keep (below_drewN (Below.refl _ _) nq)
                      have hp := HM1.out.putW (i + 16) (sig1 x3 + x2 + sig0 x1 + x0)
                      have HP := Lib.hid hp.1
                      have HT1 : Hid ((ws.set (i + 16) (sig1 x3 + x2 + sig0 x1 + x0)).take (i + 1 + 16) = sched t (64 * j) (i + 1 + 16)) := by
                        show _ = _
                        rw [show i + 1 + 16 = (i + 16) + 1 by omega, take_set_next (by rw [HM1.out.len]; omega), HT.out]
                        show _ = sched t (64 * j) (i + 16) ++ [if i + 16 < 16 then word t (64 * j + 4 * (i + 16)) else next (sched t (64 * j) (i + 16)) (i + 16)]
                        rw [if_neg (by omega)]
                        unfold next
                        rw [HX0.out, HX1.out, HX2.out, HX3.out]
                        rfl
                      clear hp hc0' hc2' hc4 hf hc4' hf' HM0 HM1
                      refine hK.out _ _ trivial ?_
                      clear hK K
                      generalize World.setCell _ _ _ = X3 at HP ⊢
                      refine anyS_done (by kernel_rfl) ?_ _
                      refine NoPanic.normal ?_
                      go_wp2_with fail
                      go_roundw
                      case rel => exact ⟨i + 1, _, by omega, by go_num, HP, HT1⟩
                      case measure => simp [intOf]; omega
                    · have hi6 : i = 48 := by omega
                      rw [hi6] at HT
                      have hws : ws = sched t (64 * j) 64 := by
                        have h := HT.out
                        rw [List.take_of_length_le (by rw [HM.out.len]; omega)] at h
                        exact h
                      rw [hws] at HM
                      clear hi6 hws HT
                      obtain ⟨S, hS⟩ : ∃ S, S = sched t (64 * j) 64 := ⟨_, rfl⟩
                      rw [← hS] at HM
                      have HS := Lib.hid hS
                      obtain ⟨s, hs⟩ : ∃ s, s = blocks t j := ⟨_, rfl⟩
                      rw [← hs] at HM
                      have HSB := Lib.hid hs
                      clear hS hs
                      have HA0 : Hid ((wr.alloc (.cells (us noughts8').toArray 39)).heap[wr.heap.size]? = some (.cells (us noughts8').toArray 39 (0, 0))) := heap_alloc_new wr _
                      go_upto_region 27 with (first
                        | (refine wpList_load_us rfl 39 (.tmp 4) rfl g4 s.list rfl HM.out.sr 8 38 und_u8 info_u8 ?_)
                        | (refine wpList_store_us rfl 39 (.tmp 15) (.tmp 141) rfl wr.heap.size s.list rfl rfl info_u8 _ HA0.out rfl ?_; intro w6 hr6 ho6))
                      have hb6 : Below wr.heap.size wr w6 := ((Below.refl _ _).alloc (Nat.le_refl _) (.cells (us noughts8').toArray 39)).trans (ho6.below (Nat.le_refl _) (by simp))
                      have HM6 : Hid (Mem w w6 g3 g4 g8 (some ⟨gT, 0, none⟩) m t s.list S) := HM.out.keep hb6
                      have HR6 := Lib.hid hr6
                      have HGA : Hid (g8 < wr.heap.size ∧ gT ≠ wr.heap.size) := by
                        refine ⟨HM.out.wr.lt, ?_⟩
                        obtain ⟨ad', h1, h2⟩ := HM.out.rd.at (p := 0) (by have := HJ.out.1; omega)
                        obtain rfl := Option.some.inj h1
                        have h3 := World.block_lt_of_cell? wr _ h2
                        rw [Addr.add_lit, Nat.zero_add] at h3
                        have h4 : gT < wr.heap.size := h3
                        omega
                      clear hr6 ho6 hb6 HA0 HM hi hi48
                      obtain ⟨gA, hgA⟩ : ∃ g, g = wr.heap.size := ⟨_, rfl⟩
                      rw [← hgA] at HR6 HGA ⊢
                      clear hgA wr
                      go_wp2_with fail
                      go_loopw [16] (fun v X => ∃ (i : Nat) (r : St), i ≤ 64 ∧ v = .int .i64 (i : Int) ∧ Hid (r = rounds s S i) ∧ Hid (Mem w X g3 g4 g8 (some ⟨gT, 0, none⟩) m t s.list S) ∧ Hid (Row X gA 39 r.list)) (fun v _ => (64 - intOf v).toNat)
                      case atStart => exact ⟨0, s, by omega, rfl, rfl, HM6, HR6⟩
                      case round =>
                        clear HM6 HR6
                        obtain ⟨i, r, hi, rfl, HRR, HM, HR⟩ := hrel
                        by_cases hi64 : i < 64
                        · skip
                          obtain ⟨ra, rb, rc, rd, re, rf, rg, rh⟩ := r
                          have hc0 : wr.cell? ⟨gA, 0, none⟩ = some (.int .u32 (ra.toNat : Int)) := HR.out.at (i := 0) (show 0 < 8 by omega)
                          have hc1 : wr.cell? ⟨gA, 1, none⟩ = some (.int .u32 (rb.toNat : Int)) := HR.out.at (i := 1) (show 1 < 8 by omega)
                          have hc2 : wr.cell? ⟨gA, 2, none⟩ = some (.int .u32 (rc.toNat : Int)) := HR.out.at (i := 2) (show 2 < 8 by omega)
                          have hc3 : wr.cell? ⟨gA, 3, none⟩ = some (.int .u32 (rd.toNat : Int)) := HR.out.at (i := 3) (show 3 < 8 by omega)
                          have hc4 : wr.cell? ⟨gA, 4, none⟩ = some (.int .u32 (re.toNat : Int)) := HR.out.at (i := 4) (show 4 < 8 by omega)
                          have hc5 : wr.cell? ⟨gA, 5, none⟩ = some (.int .u32 (rf.toNat : Int)) := HR.out.at (i := 5) (show 5 < 8 by omega)
                          have hc6 : wr.cell? ⟨gA, 6, none⟩ = some (.int .u32 (rg.toNat : Int)) := HR.out.at (i := 6) (show 6 < 8 by omega)
                          have hc7 : wr.cell? ⟨gA, 7, none⟩ = some (.int .u32 (rh.toNat : Int)) := HR.out.at (i := 7) (show 7 < 8 by omega)
                          have hk : wr.cell? ⟨g3, i, none⟩ = some (.int .u32 ((kk.getD i 0).toNat : Int)) := HM.out.kr.at (i := i) hi64
                          have hw : wr.cell? ⟨g8, i, none⟩ = some (.int .u32 ((S.getD i 0).toNat : Int)) := HM.out.wr.at (i := i) (by rw [HM.out.len]; exact hi64)
                          obtain ⟨x, hx⟩ : ∃ x, x = S.getD i 0 := ⟨_, rfl⟩
                          obtain ⟨y, hy⟩ : ∃ y, y = kk.getD i 0 := ⟨_, rfl⟩
                          rw [← hx] at hw
                          rw [← hy] at hk
                          have HX := Lib.hid hx
                          have HY := Lib.hid hy
                          clear hx hy
                          have hgd : decide ((i : Int) < 64) = true := by simp; omega
                          have hsg : IntKind.u32.signed = false := rfl
                          go_upto_region 31 with (fail)
                          try simp only [hgd]
                          clear hgd
                          refine wp_region_quiet_lit (by kernel_rfl) (by kernel_rfl) ?_
                          repeat (go_big_quiet_step (fail))
                          go_big_quiet_want
                          go_big_quiet_op
                          refine ⟨.int .u32 ((rotr re 6).toNat : Int), fun q => ?_, ?_⟩
                          · exact (rot_any re 6 (wr.drewN q) (by omega) (by omega)).mono fun e w' h => ⟨h.1, q, h.2.symm⟩
                          go_big_quiet_on
                          repeat (go_big_quiet_step (fail))
                          go_big_quiet_want
                          go_big_quiet_op
                          refine ⟨.int .u32 ((rotr re 11).toNat : Int), fun q => ?_, ?_⟩
                          · exact (rot_any re 11 (wr.drewN q) (by omega) (by omega)).mono fun e w' h => ⟨h.1, q, h.2.symm⟩
                          go_big_quiet_on
                          repeat (go_big_quiet_step (fail))
                          go_big_quiet_want
                          go_big_quiet_op
                          refine ⟨.int .u32 ((rotr re 25).toNat : Int), fun q => ?_, ?_⟩
                          · exact (rot_any re 25 (wr.drewN q) (by omega) (by omega)).mono fun e w' h => ⟨h.1, q, h.2.symm⟩
                          go_big_quiet_on
                          repeat (go_big_quiet_step (fail))
                          refine wpQuiet_nil ?_
                          intro _ hw'
                          obtain ⟨nq, hw''⟩ := hw'
                          subst hw''
                          rw [big1_val, ch_val, add5_val]
                          have hd0 : (wr.drewN nq).cell? ⟨gA, 0, none⟩ = some (.int .u32 (ra.toNat : Int)) := hc0
                          have hd1 : (wr.drewN nq).cell? ⟨gA, 1, none⟩ = some (.int .u32 (rb.toNat : Int)) := hc1
                          have hd2 : (wr.drewN nq).cell? ⟨gA, 2, none⟩ = some (.int .u32 (rc.toNat : Int)) := hc2
                          have hd3 : (wr.drewN nq).cell? ⟨gA, 3, none⟩ = some (.int .u32 (rd.toNat : Int)) := hc3
                          have hd4 : (wr.drewN nq).cell? ⟨gA, 4, none⟩ = some (.int .u32 (re.toNat : Int)) := hc4
                          have hd5 : (wr.drewN nq).cell? ⟨gA, 5, none⟩ = some (.int .u32 (rf.toNat : Int)) := hc5
                          have hd6 : (wr.drewN nq).cell? ⟨gA, 6, none⟩ = some (.int .u32 (rg.toNat : Int)) := hc6
                          have HM1 : Hid (Mem w (wr.drewN nq) g3 g4 g8 (some ⟨gT, 0, none⟩) m t s.list S) := HM.out.keep (below_drewN (Below.refl _ _) nq)
                          have HR1 : Hid (Row (wr.drewN nq) gA 39 [ra, rb, rc, rd, re, rf, rg, rh]) := HR.out
                          clear hc0 hc1 hc2 hc3 hc4 hc5 hc6 hc7 hk hw HM HR
                          generalize wr.drewN nq = X4 at hd0 hd1 hd2 hd3 hd4 hd5 hd6 HM1 HR1 ⊢
                          clear nq wr
                          obtain ⟨one, hone⟩ : ∃ z, z = rh + big1 re + ch re rf rg + y + x := ⟨_, rfl⟩
                          rw [← hone]
                          have HONE := Lib.hid hone
                          clear hone
                          go_upto_region 32 with (fail)
                          refine wp_region_quiet_lit (by kernel_rfl) (by kernel_rfl) ?_
                          repeat (go_big_quiet_step (fail))
                          go_big_quiet_want
                          go_big_quiet_op
                          refine ⟨.int .u32 ((rotr ra 2).toNat : Int), fun q => ?_, ?_⟩
                          · exact (rot_any ra 2 (X4.drewN q) (by omega) (by omega)).mono fun e w' h => ⟨h.1, q, h.2.symm⟩
                          go_big_quiet_on
                          repeat (go_big_quiet_step (fail))
                          go_big_quiet_want
                          go_big_quiet_op
                          refine ⟨.int .u32 ((rotr ra 13).toNat : Int), fun q => ?_, ?_⟩
                          · exact (rot_any ra 13 (X4.drewN q) (by omega) (by omega)).mono fun e w' h => ⟨h.1, q, h.2.symm⟩
                          go_big_quiet_on
                          repeat (go_big_quiet_step (fail))
                          go_big_quiet_want
                          go_big_quiet_op
                          refine ⟨.int .u32 ((rotr ra 22).toNat : Int), fun q => ?_, ?_⟩
                          · exact (rot_any ra 22 (X4.drewN q) (by omega) (by omega)).mono fun e w' h => ⟨h.1, q, h.2.symm⟩
                          go_big_quiet_on
                          repeat (go_big_quiet_step (fail))
                          refine wpQuiet_nil ?_
                          intro _ hw'
                          obtain ⟨nq, hw''⟩ := hw'
                          subst hw''
                          rw [big0_val, maj_val, add_val]
                          have he0 : (X4.drewN nq).cell? ⟨gA, 0, none⟩ = some (.int .u32 (ra.toNat : Int)) := hd0
                          have he1 : (X4.drewN nq).cell? ⟨gA, 1, none⟩ = some (.int .u32 (rb.toNat : Int)) := hd1
                          have he2 : (X4.drewN nq).cell? ⟨gA, 2, none⟩ = some (.int .u32 (rc.toNat : Int)) := hd2
                          have he3 : (X4.drewN nq).cell? ⟨gA, 3, none⟩ = some (.int .u32 (rd.toNat : Int)) := hd3
                          have he4 : (X4.drewN nq).cell? ⟨gA, 4, none⟩ = some (.int .u32 (re.toNat : Int)) := hd4
                          have he5 : (X4.drewN nq).cell? ⟨gA, 5, none⟩ = some (.int .u32 (rf.toNat : Int)) := hd5
                          have he6 : (X4.drewN nq).cell? ⟨gA, 6, none⟩ = some (.int .u32 (rg.toNat : Int)) := hd6
                          have HM2 : Hid (Mem w (X4.drewN nq) g3 g4 g8 (some ⟨gT, 0, none⟩) m t s.list S) := HM1.out.keep (below_drewN (Below.refl _ _) nq)
                          have HR2 : Hid (Row (X4.drewN nq) gA 39 [ra, rb, rc, rd, re, rf, rg, rh]) := HR1.out
                          clear hd0 hd1 hd2 hd3 hd4 hd5 hd6 HM1 HR1
                          generalize X4.drewN nq = X5 at he0 he1 he2 he3 he4 he5 he6 HM2 HR2 ⊢
                          clear nq X4
                          obtain ⟨two, htwo⟩ : ∃ z, z = big0 ra + maj ra rb rc := ⟨_, rfl⟩
                          rw [← htwo]
                          have HTWO := Lib.hid htwo
                          clear htwo hsg
                          go_wp2_with (refine wpList_store_us rfl 39 (.tmp 15) (.tmp 226) rfl gA [one + two, ra, rb, rc, rd + one, re, rf, rg] rfl (agg8 (add_val one two) (add_val rd one) ra rb rc re rf rg) info_u8 _ HR2.out rfl ?_; intro w7 hr7 ho7; have HR7 := Lib.hid hr7; have HM7 : Hid (Mem w w7 g3 g4 g8 (some ⟨gT, 0, none⟩) m t s.list S) := HM2.out.only ho7 HGA.out.1 (fun _ ad h => by obtain rfl := Option.some.inj h; exact HGA.out.2); clear hr7 ho7)
                          go_roundw
                          case rel =>
                            refine ⟨i + 1, rnd ⟨ra, rb, rc, rd, re, rf, rg, rh⟩ y x, by omega, by go_num, ?_, HM7, ?_⟩
                            · show rnd _ y x = rounds s S (i + 1)
                              rw [HRR.out, HX.out, HY.out]
                              rfl
                            · have h := HR7.out
                              rw [HONE.out, HTWO.out] at h
                              exact h
                          case measure => simp [intOf]; omega
                        · have hi6 : i = 64 := by omega
                          rw [hi6] at HRR
                          clear hi6
                          go_wp2_with fail
                          go_loopw [20] (fun v X => ∃ (k : Nat), k ≤ 8 ∧ v = .int .i64 (k : Int) ∧ Hid (Mem w X g3 g4 g8 (some ⟨gT, 0, none⟩) m t (half s r k) S) ∧ Hid (Row X gA 39 r.list)) (fun v _ => (8 - intOf v).toNat)
                          case atStart => exact ⟨0, by omega, rfl, HM, HR⟩
                          case round =>
                            clear HM HR hi hi64
                            obtain ⟨k, hk, rfl, HM, HR⟩ := hrel
                            by_cases hk8 : k < 8
                            · skip
                              have hS8 : s.list.length = 8 := rfl
                              have hR8 : r.list.length = 8 := rfl
                              have hc0 := HM.out.sr.at (i := k) (by rw [half_length s r hk]; exact hk8)
                              rw [half_at s r hk8] at hc0
                              have hc1 := HR.out.at (i := k) (by rw [hR8]; exact hk8)
                              have hf := HM.out.sr.free k
                              obtain ⟨x, hx⟩ : ∃ x, x = s.list.getD k 0 := ⟨_, rfl⟩
                              obtain ⟨y, hy⟩ : ∃ y, y = r.list.getD k 0 := ⟨_, rfl⟩
                              rw [← hx] at hc0
                              rw [← hy] at hc1
                              have HPT : Hid ((half s r k).set k (x + y) = half s r (k + 1)) := by rw [hx, hy]; exact half_put s r hk8
                              clear hx hy hS8 hR8
                              have hgd : decide ((k : Int) < 8) = true := by simp; omega
                              go_upto_region 37 with (fail)
                              try simp only [hgd]
                              clear hgd
                              refine quiet_then 8 1 (by kernel_rfl) (by kernel_rfl) ?_
                              simp only [List.take_succ_cons, List.take_zero]
                              repeat (go_big_quiet_step (fail))
                              refine wpQuiet_nil ?_
                              intro nq
                              have hc0' : (wr.drewN nq).cell? ⟨g4, k, none⟩ = some (.int .u32 (x.toNat : Int)) := hc0
                              have hf' : (wr.drewN nq).frozen? ⟨g4, k, none⟩ = false := hf
                              refine anyS_one 8 (by kernel_rfl) rfl (fun K hK => ?_)
                              go_simp
                              rw [add_val]
                              have HM1 : Hid (Mem w (wr.drewN nq) g3 g4 g8 (some ⟨gT, 0, none⟩) m t (half s r k) S) := HM.out.keep (below_drewN (Below.refl _ _) nq)
                              have HR1 : Hid (Row (wr.drewN nq) gA 39 r.list) := HR.out
                              have hp := HM1.out.putS k (x + y)
                              rw [HPT.out] at hp
                              have HP := Lib.hid hp.1
                              have HR2 : Hid (Row ((wr.drewN nq).setCell ⟨g4, k, none⟩ (.int .u32 ((x + y).toNat : Int))) gA 39 r.list) := HR1.out.only hp.2 (by have h1 := HGA.out.1; have h2 := HM1.out.o8; omega)
                              clear hp hc0 hc1 hf hc0' hf' HM HM1 HR HR1
                              refine hK.out _ _ trivial ?_
                              clear hK K
                              generalize World.setCell _ _ _ = X3 at HP HR2 ⊢
                              refine anyS_done (by kernel_rfl) ?_ _
                              refine NoPanic.normal ?_
                              go_wp2_with fail
                              go_roundw
                              case rel => exact ⟨k + 1, by omega, by go_num, HP, HR2⟩
                              case measure => simp [intOf]; omega
                            · have hk6 : k = 8 := by omega
                              rw [hk6] at HM
                              have hbn : half s r 8 = (blocks t (j + 1)).list := by
                                show (addS s r).list ++ [] = (block t (64 * j) (blocks t j)).list
                                rw [List.append_nil, HRR.out, HS.out, ← HSB.out]
                                rfl
                              rw [hbn] at HM
                              clear hk6 hbn
                              go_wp2_with fail
                              go_roundw
                              case rel => exact ⟨j + 1, _, by omega, by go_num, HM⟩
                              case measure => simp [intOf]; omega
            · have hjj : j = J := by omega
              rw [hjj] at HM
              clear hjj
              obtain ⟨s, hs⟩ : ∃ s, s = blocks t J := ⟨_, rfl⟩
              rw [← hs] at HM
              have HSUM : Hid (out s = sum z0) := by
                show out s = out (blocks (pad z0) ((pad z0).length / 64))
                rw [hs, ← HJ.out.2.1, ← HJ.out.2.2]
              clear hs
              have hgd : decide ((64 : Int) * (j : Int) < (m : Int)) = false := by have := HJ.out.1; simp; omega
              go_upto_region 39 with (fail)
              clear hgd
              rw [← noughts_eq]
              have hbO : Below wr.heap.size wr (wr.alloc (.cells noughts.toArray 24)) := (Below.refl _ _).alloc (Nat.le_refl _) _
              have HO0 : Hid (OutRow (wr.alloc (.cells noughts.toArray 24)) wr.heap.size ((out s).take (4 * 0))) := by
                have h := heap_alloc_new wr (.cells noughts.toArray 24)
                rw [← cur_nil] at h
                exact h
              have HM0 := Lib.hid (HM.out.keep hbO)
              have HR0 := Lib.hid HM0.out.sr
              have HU0 := Lib.hid HM0.out.out
              have HB0 := Lib.hid HM0.out.below
              have HG9 : Hid (w.heap.size < g4 ∧ g4 < wr.heap.size) := ⟨by have h1 := HM.out.o3; have h2 := HM.out.o4; omega, HM.out.sr.lt⟩
              clear hbO HM HM0
              obtain ⟨gO, hgO⟩ : ∃ g, g = wr.heap.size := ⟨_, rfl⟩
              rw [← hgO] at HO0 HG9 ⊢
              generalize World.alloc wr _ = Y at HO0 HR0 HU0 HB0 ⊢
              clear hgO wr
              go_wp2_with fail
              go_loopw [22] (fun v X => ∃ (i : Nat), i ≤ 8 ∧ v = .int .i64 (i : Int) ∧ Hid (Row X g4 39 s.list) ∧ Hid (OutRow X gO ((out s).take (4 * i))) ∧ Hid (X.heap[w.heap.size]? = some (.cells noughts.toArray 24 (0, 0))) ∧ Hid (Below w.heap.size w X)) (fun v _ => (8 - intOf v).toNat)
              case atStart => exact ⟨0, by omega, rfl, HR0, HO0, HU0, HB0⟩
              case round =>
                clear HO0 HR0 HU0 HB0
                obtain ⟨i, hi, rfl, HR, HO, HU, HB⟩ := hrel
                by_cases hi8 : i < 8
                · as_aux_lemma =>
                  have hS8 : s.list.length = 8 := rfl
                  have hP0 : wr.drew.cell? ⟨g4, i, none⟩ = some (.int .u32 ((s.list.getD i 0).toNat : Int)) := HR.out.at (i := i) (by rw [hS8]; exact hi8)
                  have hnx := out_next s hi8
                  have hll : ((out s).take (4 * i)).length = 4 * i := by rw [List.length_take, out_length]; omega
                  obtain ⟨x, hx⟩ : ∃ x, x = s.list.getD i 0 := ⟨_, rfl⟩
                  rw [← hx] at hP0 hnx
                  obtain ⟨y0, hy0⟩ : ∃ b, b = (((x >>> 24).toNat % 256 : Nat) : Int) := ⟨_, rfl⟩
                  obtain ⟨y1, hy1⟩ : ∃ b, b = (((x >>> 16).toNat % 256 : Nat) : Int) := ⟨_, rfl⟩
                  obtain ⟨y2, hy2⟩ : ∃ b, b = (((x >>> 8).toNat % 256 : Nat) : Int) := ⟨_, rfl⟩
                  obtain ⟨y3, hy3⟩ : ∃ b, b = ((x.toNat % 256 : Nat) : Int) := ⟨_, rfl⟩
                  have hby : Sha.bytes x = [y0, y1, y2, y3] := by rw [hy0, hy1, hy2, hy3]; rfl
                  have hv0 : IntKind.u8.wrap ((x.toNat : Int) / (16777216 : Int)) = y0 := by rw [wrap_u8, hy0]; have := b0_val x; omega
                  have hv1 : IntKind.u8.wrap ((x.toNat : Int) / (65536 : Int)) = y1 := by rw [wrap_u8, hy1]; exact b1_val x
                  have hv2 : IntKind.u8.wrap ((x.toNat : Int) / (256 : Int)) = y2 := by rw [wrap_u8, hy2]; exact b2_val x
                  have hv3 : IntKind.u8.wrap (x.toNat : Int) = y3 := by rw [wrap_u8, hy3]; rfl
                  clear hy0 hy1 hy2 hy3
                  rw [hby] at hnx
                  obtain ⟨l0, hl0⟩ : ∃ l, l = (out s).take (4 * i) := ⟨_, rfl⟩
                  rw [← hl0] at hnx hll HO
                  have HNX := Lib.hid hnx
                  have HLL := Lib.hid hll
                  have HO0 : Hid (OutRow wr.drew gO l0) := HO.out
                  have HR0 : Hid (Row wr.drew g4 39 s.list) := HR.out
                  have HU0 : Hid (wr.drew.heap[w.heap.size]? = some (.cells noughts.toArray 24 (0, 0))) := HU.out
                  have HB0 : Hid (Below w.heap.size w wr.drew) := below_drewN HB.out 1
                  clear hS8 hnx hll hx hby hl0 HR HO HU HB
                  have hw40 : IntKind.i64.wrap (4 * (i : Int)) = 4 * (i : Int) := wrap_small (by omega) (by omega)
                  have hw41 : IntKind.i64.wrap (4 * (i : Int) + 1) = 4 * (i : Int) + 1 := wrap_small (by omega) (by omega)
                  have hw42 : IntKind.i64.wrap (4 * (i : Int) + 2) = 4 * (i : Int) + 2 := wrap_small (by omega) (by omega)
                  have hw43 : IntKind.i64.wrap (4 * (i : Int) + 3) = 4 * (i : Int) + 3 := wrap_small (by omega) (by omega)
                  have ht0 : (4 * (i : Int)).toNat = 4 * i := by omega
                  have ht1 : (4 * (i : Int) + 1).toNat = 4 * i + 1 := by omega
                  have ht2 : (4 * (i : Int) + 2).toNat = 4 * i + 2 := by omega
                  have ht3 : (4 * (i : Int) + 3).toNat = 4 * i + 3 := by omega
                  have hgd : decide ((i : Int) < 8) = true := by simp; omega
                  go_upto_region 42 with (fail)
                  try simp only [hgd]
                  clear hgd
                  refine anyS_start (by kernel_rfl) ?_
                  generalize World.drew wr = Yd at HO0 HR0 HU0 HB0 hP0 ⊢
                  clear wr
                  (refine anyS_free (i := 0) (v := ?_) rfl (by kernel_rfl) (by kernel_rfl) (by kernel_rfl) (fun _ _ _ h => h) (fun _ => by simp) (Or.inl ⟨by rfl, fun w' _ => ?_⟩) ?_; rotate_left; (· (simp [go_sem, hv0, hv1, hv2, hv3, hw40, hw41, hw42, hw43, ht0, ht1, ht2, ht3, ↓IntWalk.iteOmega]; try with_reducible rfl)))
                  try simp only [Act.put, List.setIfInBounds_toArray, List.set_cons_zero, List.set_cons_succ]
                  (refine anyS_free (i := 1) (v := ?_) rfl (by kernel_rfl) (by kernel_rfl) (by kernel_rfl) (fun _ _ _ h => h) (fun _ => by simp) (Or.inl ⟨by rfl, fun w' _ => ?_⟩) ?_; rotate_left; (· (simp [go_sem, hv0, hv1, hv2, hv3, hw40, hw41, hw42, hw43, ht0, ht1, ht2, ht3, ↓IntWalk.iteOmega]; try with_reducible rfl)))
                  try simp only [Act.put, List.setIfInBounds_toArray, List.set_cons_zero, List.set_cons_succ]
                  (refine anyS_free (i := 2) (v := ?_) rfl (by kernel_rfl) (by kernel_rfl) (by kernel_rfl) (fun _ _ _ h => h) (fun _ => by simp) (Or.inl ⟨by rfl, fun w' _ => ?_⟩) ?_; rotate_left; (· (simp [go_sem, hv0, hv1, hv2, hv3, hw40, hw41, hw42, hw43, ht0, ht1, ht2, ht3, ↓IntWalk.iteOmega]; try with_reducible rfl)))
                  try simp only [Act.put, List.setIfInBounds_toArray, List.set_cons_zero, List.set_cons_succ]
                  (refine anyS_free (i := 3) (v := ?_) rfl (by kernel_rfl) (by kernel_rfl) (by kernel_rfl) (fun _ _ _ h => h) (fun _ => by simp) (Or.inl ⟨by rfl, fun w' _ => ?_⟩) ?_; rotate_left; (· (simp [go_sem, hv0, hv1, hv2, hv3, hw40, hw41, hw42, hw43, ht0, ht1, ht2, ht3, ↓IntWalk.iteOmega]; try with_reducible rfl)))
                  try simp only [Act.put, List.setIfInBounds_toArray, List.set_cons_zero, List.set_cons_succ]
                  (refine anyS_free (i := 4) (v := ?_) rfl (by kernel_rfl) (by kernel_rfl) (by kernel_rfl) (fun _ _ _ h => h) (fun _ => by simp) (Or.inl ⟨by rfl, fun w' _ => ?_⟩) ?_; rotate_left; (· (simp [go_sem, hv0, hv1, hv2, hv3, hw40, hw41, hw42, hw43, ht0, ht1, ht2, ht3, ↓IntWalk.iteOmega]; try with_reducible rfl)))
                  try simp only [Act.put, List.setIfInBounds_toArray, List.set_cons_zero, List.set_cons_succ]
                  (refine anyS_free (i := 5) (v := ?_) rfl (by kernel_rfl) (by kernel_rfl) (by kernel_rfl) (fun _ _ _ h => h) (fun _ => by simp) (Or.inl ⟨by rfl, fun w' _ => ?_⟩) ?_; rotate_left; (· (simp [go_sem, hv0, hv1, hv2, hv3, hw40, hw41, hw42, hw43, ht0, ht1, ht2, ht3, ↓IntWalk.iteOmega]; try with_reducible rfl)))
                  try simp only [Act.put, List.setIfInBounds_toArray, List.set_cons_zero, List.set_cons_succ]
                  (refine anyS_free (i := 6) (v := ?_) rfl (by kernel_rfl) (by kernel_rfl) (by kernel_rfl) (fun _ _ _ h => h) (fun _ => by simp) (Or.inl ⟨by rfl, fun w' _ => ?_⟩) ?_; rotate_left; (· (simp [go_sem, hv0, hv1, hv2, hv3, hw40, hw41, hw42, hw43, ht0, ht1, ht2, ht3, ↓IntWalk.iteOmega]; try with_reducible rfl)))
                  try simp only [Act.put, List.setIfInBounds_toArray, List.set_cons_zero, List.set_cons_succ]
                  (refine anyS_free (i := 7) (v := ?_) rfl (by kernel_rfl) (by kernel_rfl) (by kernel_rfl) (fun _ _ _ h => h) (fun _ => by simp) (Or.inl ⟨by rfl, fun w' _ => ?_⟩) ?_; rotate_left; (· (simp [go_sem, hv0, hv1, hv2, hv3, hw40, hw41, hw42, hw43, ht0, ht1, ht2, ht3, ↓IntWalk.iteOmega]; try with_reducible rfl)))
                  try simp only [Act.put, List.setIfInBounds_toArray, List.set_cons_zero, List.set_cons_succ]
                  (refine anyS_free (i := 8) (v := ?_) rfl (by kernel_rfl) (by kernel_rfl) (by kernel_rfl) (fun _ _ _ h => h) (fun _ => by simp) (Or.inl ⟨by rfl, fun w' _ => ?_⟩) ?_; rotate_left; (· (simp [go_sem, hv0, hv1, hv2, hv3, hw40, hw41, hw42, hw43, ht0, ht1, ht2, ht3, ↓IntWalk.iteOmega]; try with_reducible rfl)))
                  try simp only [Act.put, List.setIfInBounds_toArray, List.set_cons_zero, List.set_cons_succ]
                  (refine anyS_free (i := 9) (v := ?_) rfl (by kernel_rfl) (by kernel_rfl) (by kernel_rfl) (fun _ _ _ h => h) (fun _ => by simp) (Or.inl ⟨by rfl, fun w' _ => ?_⟩) ?_; rotate_left; (· (simp [go_sem, hv0, hv1, hv2, hv3, hw40, hw41, hw42, hw43, ht0, ht1, ht2, ht3, ↓IntWalk.iteOmega]; try with_reducible rfl)))
                  try simp only [Act.put, List.setIfInBounds_toArray, List.set_cons_zero, List.set_cons_succ]
                  (refine anyS_free (i := 10) (v := ?_) rfl (by kernel_rfl) (by kernel_rfl) (by kernel_rfl) (fun _ _ _ h => h) (fun _ => by simp) (Or.inl ⟨by rfl, fun w' _ => ?_⟩) ?_; rotate_left; (· (simp [go_sem, hv0, hv1, hv2, hv3, hw40, hw41, hw42, hw43, ht0, ht1, ht2, ht3, ↓IntWalk.iteOmega]; try with_reducible rfl)))
                  try simp only [Act.put, List.setIfInBounds_toArray, List.set_cons_zero, List.set_cons_succ]
                  (refine anyS_free (i := 11) (v := ?_) rfl (by kernel_rfl) (by kernel_rfl) (by kernel_rfl) (fun _ _ _ h => h) (fun _ => by simp) (Or.inl ⟨by rfl, fun w' _ => ?_⟩) ?_; rotate_left; (· (simp [go_sem, hv0, hv1, hv2, hv3, hw40, hw41, hw42, hw43, ht0, ht1, ht2, ht3, ↓IntWalk.iteOmega]; try with_reducible rfl)))
                  try simp only [Act.put, List.setIfInBounds_toArray, List.set_cons_zero, List.set_cons_succ]
                  (refine anyS_free (i := 12) (v := ?_) rfl (by kernel_rfl) (by kernel_rfl) (by kernel_rfl) (fun _ _ _ h => h) (fun _ => by simp) (Or.inl ⟨by rfl, fun w' _ => ?_⟩) ?_; rotate_left; (· (simp [go_sem, hv0, hv1, hv2, hv3, hw40, hw41, hw42, hw43, ht0, ht1, ht2, ht3, ↓IntWalk.iteOmega]; try with_reducible rfl)))
                  try simp only [Act.put, List.setIfInBounds_toArray, List.set_cons_zero, List.set_cons_succ]
                  (refine anyS_takeNew (fun w' => w'.cell? ⟨g4, i, none⟩ = some (.int .u32 (x.toNat : Int))) [16, 17, 18, 19, 20, 21, 22, 23, 24, 25, 26, 27, 28, 29] (i := 13) (v := ?_) hP0 rfl (by kernel_rfl) (by kernel_rfl) (by kernel_rfl) (by kernel_rfl) (fun _ _ _ h => h) (fun _ _ => by simp_all) (Or.inl ⟨by rfl, fun w' hw' => ?_⟩) ?_; rotate_left; (· dsimp only at hw'; (simp [go_sem, hw', hv0, hv1, hv2, hv3, hw40, hw41, hw42, hw43, ht0, ht1, ht2, ht3, ↓IntWalk.iteOmega]; try with_reducible rfl)))
                  try simp only [Act.put, List.setIfInBounds_toArray, List.set_cons_zero, List.set_cons_succ]
                  (refine anyS_free (i := 14) (v := ?_) rfl (by kernel_rfl) (by kernel_rfl) (by kernel_rfl) (fun _ _ _ h => h) (fun _ => by simp) (Or.inl ⟨by rfl, fun w' _ => ?_⟩) ?_; rotate_left; (· (simp [go_sem, hv0, hv1, hv2, hv3, hw40, hw41, hw42, hw43, ht0, ht1, ht2, ht3, ↓IntWalk.iteOmega]; try with_reducible rfl)))
                  try simp only [Act.put, List.setIfInBounds_toArray, List.set_cons_zero, List.set_cons_succ]
                  (refine anyS_free (i := 15) (v := ?_) rfl (by kernel_rfl) (by kernel_rfl) (by kernel_rfl) (fun _ _ _ h => h) (fun _ => by simp) (Or.inl ⟨by rfl, fun w' _ => ?_⟩) ?_; rotate_left; (· (simp [go_sem, hv0, hv1, hv2, hv3, hw40, hw41, hw42, hw43, ht0, ht1, ht2, ht3, ↓IntWalk.iteOmega]; try with_reducible rfl)))
                  try simp only [Act.put, List.setIfInBounds_toArray, List.set_cons_zero, List.set_cons_succ]
                  (refine anyS_takeNew (fun w' => w'.cell? ⟨g4, i, none⟩ = some (.int .u32 (x.toNat : Int))) [21, 22, 23, 24, 25, 26, 27, 28, 29, 30, 31] (i := 16) (v := ?_) hP0 rfl (by kernel_rfl) (by kernel_rfl) (by kernel_rfl) (by kernel_rfl) (fun _ _ _ h => h) (fun _ _ => by simp_all) (Or.inl ⟨by rfl, fun w' hw' => ?_⟩) ?_; rotate_left; (· dsimp only at hw'; (simp [go_sem, hw', hv0, hv1, hv2, hv3, hw40, hw41, hw42, hw43, ht0, ht1, ht2, ht3, ↓IntWalk.iteOmega]; try with_reducible rfl)))
                  try simp only [Act.put, List.setIfInBounds_toArray, List.set_cons_zero, List.set_cons_succ]
                  (refine anyS_takeNew (fun w' => w'.cell? ⟨g4, i, none⟩ = some (.int .u32 (x.toNat : Int))) [21, 22, 23, 24, 25, 26, 27, 28, 29, 30, 31] (i := 17) (v := ?_) hP0 rfl (by kernel_rfl) (by kernel_rfl) (by kernel_rfl) (by kernel_rfl) (fun _ _ _ h => h) (fun _ _ => by simp_all) (Or.inl ⟨by rfl, fun w' hw' => ?_⟩) ?_; rotate_left; (· dsimp only at hw'; (simp [go_sem, hw', hv0, hv1, hv2, hv3, hw40, hw41, hw42, hw43, ht0, ht1, ht2, ht3, ↓IntWalk.iteOmega]; try with_reducible rfl)))
                  try simp only [Act.put, List.setIfInBounds_toArray, List.set_cons_zero, List.set_cons_succ]
                  (refine anyS_takeNew (fun w' => w'.cell? ⟨g4, i, none⟩ = some (.int .u32 (x.toNat : Int))) [21, 22, 23, 24, 25, 26, 27, 28, 29, 30, 31] (i := 18) (v := ?_) hP0 rfl (by kernel_rfl) (by kernel_rfl) (by kernel_rfl) (by kernel_rfl) (fun _ _ _ h => h) (fun _ _ => by simp_all) (Or.inl ⟨by rfl, fun w' hw' => ?_⟩) ?_; rotate_left; (· dsimp only at hw'; (simp [go_sem, hw', hv0, hv1, hv2, hv3, hw40, hw41, hw42, hw43, ht0, ht1, ht2, ht3, ↓IntWalk.iteOmega]; try with_reducible rfl)))
                  try simp only [Act.put, List.setIfInBounds_toArray, List.set_cons_zero, List.set_cons_succ]
                  (refine anyS_takeNew (fun w' => w'.cell? ⟨g4, i, none⟩ = some (.int .u32 (x.toNat : Int))) [21, 22, 23, 24, 25, 26, 27, 28, 29, 30, 31] (i := 19) (v := ?_) hP0 rfl (by kernel_rfl) (by kernel_rfl) (by kernel_rfl) (by kernel_rfl) (fun _ _ _ h => h) (fun _ _ => by simp_all) (Or.inl ⟨by rfl, fun w' hw' => ?_⟩) ?_; rotate_left; (· dsimp only at hw'; (simp [go_sem, hw', hv0, hv1, hv2, hv3, hw40, hw41, hw42, hw43, ht0, ht1, ht2, ht3, ↓IntWalk.iteOmega]; try with_reducible rfl)))
                  try simp only [Act.put, List.setIfInBounds_toArray, List.set_cons_zero, List.set_cons_succ]
                  (refine anyS_takeNew (fun w' => w'.cell? ⟨g4, i, none⟩ = some (.int .u32 (x.toNat : Int))) [21, 22, 23, 24, 25, 26, 27, 28, 29, 30, 31] (i := 20) (v := ?_) hP0 rfl (by kernel_rfl) (by kernel_rfl) (by kernel_rfl) (by kernel_rfl) (fun _ _ _ h => h) (fun _ _ => by simp_all) (Or.inl ⟨by rfl, fun w' hw' => ?_⟩) ?_; rotate_left; (· dsimp only at hw'; (simp [go_sem, hw', hv0, hv1, hv2, hv3, hw40, hw41, hw42, hw43, ht0, ht1, ht2, ht3, ↓IntWalk.iteOmega]; try with_reducible rfl)))
                  try simp only [Act.put, List.setIfInBounds_toArray, List.set_cons_zero, List.set_cons_succ]
                  (refine anyS_takeNew (fun w' => w'.cell? ⟨g4, i, none⟩ = some (.int .u32 (x.toNat : Int))) [26, 27, 28, 29, 30, 31, 32, 33] (i := 21) (v := ?_) hP0 rfl (by kernel_rfl) (by kernel_rfl) (by kernel_rfl) (by kernel_rfl) (fun _ _ _ h => h) (fun _ _ => by simp_all) (Or.inl ⟨by rfl, fun w' hw' => ?_⟩) ?_; rotate_left; (· dsimp only at hw'; (simp [go_sem, hw', hv0, hv1, hv2, hv3, hw40, hw41, hw42, hw43, ht0, ht1, ht2, ht3, ↓IntWalk.iteOmega]; try with_reducible rfl)))
                  try simp only [Act.put, List.setIfInBounds_toArray, List.set_cons_zero, List.set_cons_succ]
                  (refine anyS_takeNew (fun w' => w'.cell? ⟨g4, i, none⟩ = some (.int .u32 (x.toNat : Int))) [26, 27, 28, 29, 30, 31, 32, 33] (i := 22) (v := ?_) hP0 rfl (by kernel_rfl) (by kernel_rfl) (by kernel_rfl) (by kernel_rfl) (fun _ _ _ h => h) (fun _ _ => by simp_all) (Or.inl ⟨by rfl, fun w' hw' => ?_⟩) ?_; rotate_left; (· dsimp only at hw'; (simp [go_sem, hw', hv0, hv1, hv2, hv3, hw40, hw41, hw42, hw43, ht0, ht1, ht2, ht3, ↓IntWalk.iteOmega]; try with_reducible rfl)))
                  try simp only [Act.put, List.setIfInBounds_toArray, List.set_cons_zero, List.set_cons_succ]
                  (refine anyS_takeNew (fun w' => w'.cell? ⟨g4, i, none⟩ = some (.int .u32 (x.toNat : Int))) [26, 27, 28, 29, 30, 31, 32, 33] (i := 23) (v := ?_) hP0 rfl (by kernel_rfl) (by kernel_rfl) (by kernel_rfl) (by kernel_rfl) (fun _ _ _ h => h) (fun _ _ => by simp_all) (Or.inl ⟨by rfl, fun w' hw' => ?_⟩) ?_; rotate_left; (· dsimp only at hw'; (simp [go_sem, hw', hv0, hv1, hv2, hv3, hw40, hw41, hw42, hw43, ht0, ht1, ht2, ht3, ↓IntWalk.iteOmega]; try with_reducible rfl)))
                  try simp only [Act.put, List.setIfInBounds_toArray, List.set_cons_zero, List.set_cons_succ]
                  (refine anyS_takeNew (fun w' => w'.cell? ⟨g4, i, none⟩ = some (.int .u32 (x.toNat : Int))) [26, 27, 28, 29, 30, 31, 32, 33] (i := 24) (v := ?_) hP0 rfl (by kernel_rfl) (by kernel_rfl) (by kernel_rfl) (by kernel_rfl) (fun _ _ _ h => h) (fun _ _ => by simp_all) (Or.inl ⟨by rfl, fun w' hw' => ?_⟩) ?_; rotate_left; (· dsimp only at hw'; (simp [go_sem, hw', hv0, hv1, hv2, hv3, hw40, hw41, hw42, hw43, ht0, ht1, ht2, ht3, ↓IntWalk.iteOmega]; try with_reducible rfl)))
                  try simp only [Act.put, List.setIfInBounds_toArray, List.set_cons_zero, List.set_cons_succ]
                  (refine anyS_takeNew (fun w' => w'.cell? ⟨g4, i, none⟩ = some (.int .u32 (x.toNat : Int))) [26, 27, 28, 29, 30, 31, 32, 33] (i := 25) (v := ?_) hP0 rfl (by kernel_rfl) (by kernel_rfl) (by kernel_rfl) (by kernel_rfl) (fun _ _ _ h => h) (fun _ _ => by simp_all) (Or.inl ⟨by rfl, fun w' hw' => ?_⟩) ?_; rotate_left; (· dsimp only at hw'; (simp [go_sem, hw', hv0, hv1, hv2, hv3, hw40, hw41, hw42, hw43, ht0, ht1, ht2, ht3, ↓IntWalk.iteOmega]; try with_reducible rfl)))
                  try simp only [Act.put, List.setIfInBounds_toArray, List.set_cons_zero, List.set_cons_succ]
                  (refine anyS_takeNew (fun w' => w'.cell? ⟨g4, i, none⟩ = some (.int .u32 (x.toNat : Int))) [30, 31, 32, 33, 34, 35] (i := 26) (v := ?_) hP0 rfl (by kernel_rfl) (by kernel_rfl) (by kernel_rfl) (by kernel_rfl) (fun _ _ _ h => h) (fun _ _ => by simp_all) (Or.inl ⟨by rfl, fun w' hw' => ?_⟩) ?_; rotate_left; (· dsimp only at hw'; (simp [go_sem, hw', hv0, hv1, hv2, hv3, hw40, hw41, hw42, hw43, ht0, ht1, ht2, ht3, ↓IntWalk.iteOmega]; try with_reducible rfl)))
                  try simp only [Act.put, List.setIfInBounds_toArray, List.set_cons_zero, List.set_cons_succ]
                  (refine anyS_takeNew (fun w' => w'.cell? ⟨g4, i, none⟩ = some (.int .u32 (x.toNat : Int))) [30, 31, 32, 33, 34, 35] (i := 27) (v := ?_) hP0 rfl (by kernel_rfl) (by kernel_rfl) (by kernel_rfl) (by kernel_rfl) (fun _ _ _ h => h) (fun _ _ => by simp_all) (Or.inl ⟨by rfl, fun w' hw' => ?_⟩) ?_; rotate_left; (· dsimp only at hw'; (simp [go_sem, hw', hv0, hv1, hv2, hv3, hw40, hw41, hw42, hw43, ht0, ht1, ht2, ht3, ↓IntWalk.iteOmega]; try with_reducible rfl)))
                  try simp only [Act.put, List.setIfInBounds_toArray, List.set_cons_zero, List.set_cons_succ]
                  (refine anyS_takeNew (fun w' => w'.cell? ⟨g4, i, none⟩ = some (.int .u32 (x.toNat : Int))) [30, 31, 32, 33, 34, 35] (i := 28) (v := ?_) hP0 rfl (by kernel_rfl) (by kernel_rfl) (by kernel_rfl) (by kernel_rfl) (fun _ _ _ h => h) (fun _ _ => by simp_all) (Or.inl ⟨by rfl, fun w' hw' => ?_⟩) ?_; rotate_left; (· dsimp only at hw'; (simp [go_sem, hw', hv0, hv1, hv2, hv3, hw40, hw41, hw42, hw43, ht0, ht1, ht2, ht3, ↓IntWalk.iteOmega]; try with_reducible rfl)))
                  try simp only [Act.put, List.setIfInBounds_toArray, List.set_cons_zero, List.set_cons_succ]
                  (refine anyS_takeNew (fun w' => w'.cell? ⟨g4, i, none⟩ = some (.int .u32 (x.toNat : Int))) [30, 31, 32, 33, 34, 35] (i := 29) (v := ?_) hP0 rfl (by kernel_rfl) (by kernel_rfl) (by kernel_rfl) (by kernel_rfl) (fun _ _ _ h => h) (fun _ _ => by simp_all) (Or.inl ⟨by rfl, fun w' hw' => ?_⟩) ?_; rotate_left; (· dsimp only at hw'; (simp [go_sem, hw', hv0, hv1, hv2, hv3, hw40, hw41, hw42, hw43, ht0, ht1, ht2, ht3, ↓IntWalk.iteOmega]; try with_reducible rfl)))
                  try simp only [Act.put, List.setIfInBounds_toArray, List.set_cons_zero, List.set_cons_succ]
                  (refine anyS_takeNew (fun w' => w'.cell? ⟨g4, i, none⟩ = some (.int .u32 (x.toNat : Int))) [] (i := 30) (v := ?_) hP0 rfl (by kernel_rfl) (by kernel_rfl) (by kernel_rfl) (by kernel_rfl) (fun _ _ _ h => h) (fun _ _ => by simp_all) (Or.inl ⟨by rfl, fun w' hw' => ?_⟩) ?_; rotate_left; (· dsimp only at hw'; (simp [go_sem, hw', hv0, hv1, hv2, hv3, hw40, hw41, hw42, hw43, ht0, ht1, ht2, ht3, ↓IntWalk.iteOmega]; try with_reducible rfl)))
                  try simp only [Act.put, List.setIfInBounds_toArray, List.set_cons_zero, List.set_cons_succ]
                  have hoc : (Yd).cell? ⟨gO, 4 * i, none⟩ = some (.int .u8 0) := HO0.out.at (k := 4 * i) (by simp [HLL.out]) (by omega)
                  have hof : (Yd).frozen? ⟨gO, 4 * i, none⟩ = false := HO0.out.free _
                  refine anyS_one 31 (by kernel_rfl) rfl (fun K hK => ?_)
                  go_simp
                  have hp := HO0.out.put (k := 4 * i) (by simp [HLL.out]) (by omega) y0
                  have HO1 : Hid (OutRow _ gO (l0 ++ [y0])) := hp.2
                  have hP1 := hp.1.cell hP0 (by have := HG9.out; show g4 ≠ gO; omega)
                  have HR1 : Hid (Row _ g4 39 s.list) := HR0.out.only hp.1 (by have := HG9.out; omega)
                  have HU1 : Hid (_ = _) := (hp.1.block w.heap.size (Array.getElem?_eq_some_iff.1 HU0.out).1 (by have := HG9.out; simp; omega)).trans HU0.out
                  have HB1 : Hid (Below w.heap.size w _) := Below.step HB0.out hp.1 (by have := HG9.out; omega) (Nat.le_refl _)
                  clear hp hoc hof HO0 HR0 HU0 HB0 hP0
                  refine hK.out _ _ (by simpa using hP1) ?_
                  clear hK K
                  generalize World.setCell _ _ _ = Y0 at HO1 HR1 HU1 HB1 hP1 ⊢
                  try simp only [Act.put, List.setIfInBounds_toArray, List.set_cons_zero, List.set_cons_succ]
                  (refine anyS_takeNew (fun w' => w'.cell? ⟨g4, i, none⟩ = some (.int .u32 (x.toNat : Int))) [] (i := 32) (v := ?_) hP1 rfl (by kernel_rfl) (by kernel_rfl) (by kernel_rfl) (by kernel_rfl) (fun _ _ _ h => h) (fun _ _ => by simp_all) (Or.inl ⟨by rfl, fun w' hw' => ?_⟩) ?_; rotate_left; (· dsimp only at hw'; (simp [go_sem, hw', hv0, hv1, hv2, hv3, hw40, hw41, hw42, hw43, ht0, ht1, ht2, ht3, ↓IntWalk.iteOmega]; try with_reducible rfl)))
                  try simp only [Act.put, List.setIfInBounds_toArray, List.set_cons_zero, List.set_cons_succ]
                  have hoc : (Y0).cell? ⟨gO, 4 * i + 1, none⟩ = some (.int .u8 0) := HO1.out.at (k := 4 * i + 1) (by simp [HLL.out]) (by omega)
                  have hof : (Y0).frozen? ⟨gO, 4 * i + 1, none⟩ = false := HO1.out.free _
                  refine anyS_one 33 (by kernel_rfl) rfl (fun K hK => ?_)
                  go_simp
                  have hp := HO1.out.put (k := 4 * i + 1) (by simp [HLL.out]) (by omega) y1
                  have HO2 : Hid (OutRow _ gO (l0 ++ [y0] ++ [y1])) := hp.2
                  have hP2 := hp.1.cell hP1 (by have := HG9.out; show g4 ≠ gO; omega)
                  have HR2 : Hid (Row _ g4 39 s.list) := HR1.out.only hp.1 (by have := HG9.out; omega)
                  have HU2 : Hid (_ = _) := (hp.1.block w.heap.size (Array.getElem?_eq_some_iff.1 HU1.out).1 (by have := HG9.out; simp; omega)).trans HU1.out
                  have HB2 : Hid (Below w.heap.size w _) := Below.step HB1.out hp.1 (by have := HG9.out; omega) (Nat.le_refl _)
                  clear hp hoc hof HO1 HR1 HU1 HB1 hP1
                  refine hK.out _ _ (by simpa using hP2) ?_
                  clear hK K
                  generalize World.setCell _ _ _ = Y1 at HO2 HR2 HU2 HB2 hP2 ⊢
                  try simp only [Act.put, List.setIfInBounds_toArray, List.set_cons_zero, List.set_cons_succ]
                  (refine anyS_takeNew (fun w' => w'.cell? ⟨g4, i, none⟩ = some (.int .u32 (x.toNat : Int))) [] (i := 34) (v := ?_) hP2 rfl (by kernel_rfl) (by kernel_rfl) (by kernel_rfl) (by kernel_rfl) (fun _ _ _ h => h) (fun _ _ => by simp_all) (Or.inl ⟨by rfl, fun w' hw' => ?_⟩) ?_; rotate_left; (· dsimp only at hw'; (simp [go_sem, hw', hv0, hv1, hv2, hv3, hw40, hw41, hw42, hw43, ht0, ht1, ht2, ht3, ↓IntWalk.iteOmega]; try with_reducible rfl)))
                  try simp only [Act.put, List.setIfInBounds_toArray, List.set_cons_zero, List.set_cons_succ]
                  have hoc : (Y1).cell? ⟨gO, 4 * i + 2, none⟩ = some (.int .u8 0) := HO2.out.at (k := 4 * i + 2) (by simp [HLL.out]) (by omega)
                  have hof : (Y1).frozen? ⟨gO, 4 * i + 2, none⟩ = false := HO2.out.free _
                  refine anyS_one 35 (by kernel_rfl) rfl (fun K hK => ?_)
                  go_simp
                  have hp := HO2.out.put (k := 4 * i + 2) (by simp [HLL.out]) (by omega) y2
                  have HO3 : Hid (OutRow _ gO (l0 ++ [y0] ++ [y1] ++ [y2])) := hp.2
                  have hP3 := hp.1.cell hP2 (by have := HG9.out; show g4 ≠ gO; omega)
                  have HR3 : Hid (Row _ g4 39 s.list) := HR2.out.only hp.1 (by have := HG9.out; omega)
                  have HU3 : Hid (_ = _) := (hp.1.block w.heap.size (Array.getElem?_eq_some_iff.1 HU2.out).1 (by have := HG9.out; simp; omega)).trans HU2.out
                  have HB3 : Hid (Below w.heap.size w _) := Below.step HB2.out hp.1 (by have := HG9.out; omega) (Nat.le_refl _)
                  clear hp hoc hof HO2 HR2 HU2 HB2 hP2
                  refine hK.out _ _ (by simpa using hP3) ?_
                  clear hK K
                  generalize World.setCell _ _ _ = Y2 at HO3 HR3 HU3 HB3 hP3 ⊢
                  try simp only [Act.put, List.setIfInBounds_toArray, List.set_cons_zero, List.set_cons_succ]
                  (refine anyS_takeNew (fun w' => w'.cell? ⟨g4, i, none⟩ = some (.int .u32 (x.toNat : Int))) [] (i := 36) (v := ?_) hP3 rfl (by kernel_rfl) (by kernel_rfl) (by kernel_rfl) (by kernel_rfl) (fun _ _ _ h => h) (fun _ _ => by simp_all) (Or.inl ⟨by rfl, fun w' hw' => ?_⟩) ?_; rotate_left; (· dsimp only at hw'; (simp [go_sem, hw', hv0, hv1, hv2, hv3, hw40, hw41, hw42, hw43, ht0, ht1, ht2, ht3, ↓IntWalk.iteOmega]; try with_reducible rfl)))
                  try simp only [Act.put, List.setIfInBounds_toArray, List.set_cons_zero, List.set_cons_succ]
                  have hoc : (Y2).cell? ⟨gO, 4 * i + 3, none⟩ = some (.int .u8 0) := HO3.out.at (k := 4 * i + 3) (by simp [HLL.out]) (by omega)
                  have hof : (Y2).frozen? ⟨gO, 4 * i + 3, none⟩ = false := HO3.out.free _
                  refine anyS_one 37 (by kernel_rfl) rfl (fun K hK => ?_)
                  go_simp
                  have hp := HO3.out.put (k := 4 * i + 3) (by simp [HLL.out]) (by omega) y3
                  have HO4 : Hid (OutRow _ gO (l0 ++ [y0] ++ [y1] ++ [y2] ++ [y3])) := hp.2
                  have hP4 := hp.1.cell hP3 (by have := HG9.out; show g4 ≠ gO; omega)
                  have HR4 : Hid (Row _ g4 39 s.list) := HR3.out.only hp.1 (by have := HG9.out; omega)
                  have HU4 : Hid (_ = _) := (hp.1.block w.heap.size (Array.getElem?_eq_some_iff.1 HU3.out).1 (by have := HG9.out; simp; omega)).trans HU3.out
                  have HB4 : Hid (Below w.heap.size w _) := Below.step HB3.out hp.1 (by have := HG9.out; omega) (Nat.le_refl _)
                  clear hp hoc hof HO3 HR3 HU3 HB3 hP3
                  refine hK.out _ _ (by simp) ?_
                  clear hK K
                  generalize World.setCell _ _ _ = Y3 at HO4 HR4 HU4 HB4 hP4 ⊢
                  try simp only [Act.put, List.setIfInBounds_toArray, List.set_cons_zero, List.set_cons_succ]
                  refine anyS_done (by kernel_rfl) ?_ _
                  refine NoPanic.normal ?_
                  go_wp2_with fail
                  go_roundw
                  case rel => exact ⟨i + 1, by omega, by go_num, HR4, (show OutRow _ _ _ by have h := HO4.out; rw [HNX.out]; simpa using h), HU4, HB4⟩
                  case measure => simp [intOf]; omega
                · have hi9 : i = 8 := by omega
                  rw [hi9, List.take_of_length_le (by rw [out_length]; omega)] at HO
                  clear hi9
                  have HOS := Lib.hid (out_sum s)
                  go_wp2_with (first
                    | (refine wpList_load_row rfl 24 (.tmp 21) rfl gO rfl 24 (cur (out s)) (0, 0) _ HO.out Tryd.underlying24 rfl (sum_info HOS.out) ?_)
                    | (refine wpList_store_row rfl 24 (.tmp 2) (.tmp 277) rfl w.heap.size (cur (out s)) rfl rfl 24 _ HU.out (sum_info HOS.out) (by rw [sum_size HOS.out]; rfl) (sum_one HOS.out) ?_))
                  have hrow := setRow_heap wr w.heap.size _ (cur (out s)) _ _ HU.out
                  refine bodyPost_ret (v := .agg (cur (out s))) (results_cell_row (P := Tryd.prog) rfl _ _ w.heap.size 24 _ (0, 0) _ rfl hrow Tryd.underlying24 rfl (sum_info HOS.out)) rfl ⟨cur (out s), rfl, ?_, below_setRow HB.out (Nat.le_refl _) _⟩
                  rw [← HSUM.out]
                  exact HOS.out
    · as_aux_lemma =>
      have hzl : z < G := by
        rcases Nat.lt_or_ge z G with h | h
        · exact h
        · exfalso
          have h1 := gap_at len0
          rw [← HG.out] at h1
          have : z = G := by omega
          subst this
          rw [hnn] at h56
          exact h56 h1
      have h56i : ((n : Int) % 64 == 56) = false := by simp; omega
      have h56j : ((n : Int).tmod 64 == 56) = false := by rw [Int.tmod_eq_emod_of_nonneg (by omega)]; exact h56i
      have HO6 := Lib.hid (owns_later HO.out ((Below.refl _ _).alloc (Nat.le_refl _) (.cells #[.int .u8 0] 5)))
      have HR6 : Hid (Reads (wr.alloc (.cells #[.int .u8 0] 5)) (some ⟨wr.heap.size, 0, none⟩) 1 [0]) := ⟨rfl, fun _ => ⟨_, rfl, one_new wr 0⟩⟩
      have HNN := Lib.hid hnn
      clear hnn h56
      go_wp2_with (at_builtin; go_must (refine wpList_append_keep rfl _ _ 22 rfl w3.heap.size 5 i0 Tryd.underlying22 hi hz0 hz1 hz2 _ n _ rfl HO6.out (some ⟨wr.heap.size, 0, none⟩) 1 1 [0] rfl HR6.out (fun h => by cases h) (by omega) (by have := HB.out.size; simp; omega) ?_; intro v5 w5 ho5 hg5 hk5 hn5; have hb5 : Below w3.heap.size w3 w5 := (HB.out.alloc HB.out.size (.cells #[.int .u8 0] 5)).grown hg5 (by have := HB.out.size; simp; omega) (fun k hk => (HO6.out.lt k hk).1); have ho5' := ho5; obtain ⟨a5, c5, rfl, -⟩ := owned_val ho5'; have HO5 := Lib.hid ho5; have HB5 := Lib.hid hb5; clear ho5 ho5' hg5 hk5 hn5 hb5))
      have hle : n ≤ len0 + 64 := by have := HNN.out; omega
      go_roundw
      case rel => exact ⟨z + 1, n + 1, a5, c5, by omega, by have := HNN.out; omega, rfl, (show World.ownsRow _ _ _ _ _ _ _ by have h := HO5.out; rw [List.append_assoc, ← List.replicate_succ'] at h; exact h), HB5.out⟩
      case measure => simp; omega

end Go.Proofs.YtdefmpihlgecbaaDoor
