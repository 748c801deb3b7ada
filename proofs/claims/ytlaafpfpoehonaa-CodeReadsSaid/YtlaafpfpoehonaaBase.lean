/- What a slice of bytes holds, and the laws on make and copy that the walks of package code use. No condition. -/
import Derived.Test.YtlaafpfpoehonaaRows
import Derived.WalkKit
import Derived.WalkLawsBesides
import Derived.WalkSpells
import Derived.Laws.CopyOwn
import Derived.Laws.BitsAllLaws
import Derived.Lib.Hide
namespace Go.Proofs.Ytlaafpfpoehonaa
open Go.RowKit

/-- bytes as cells -/
def bts (xs : List Int) : List Value := xs.map (Value.int .u8)
theorem bts_length (xs : List Int) : (bts xs).length = xs.length := by simp [bts]
theorem bts_append (xs ys : List Int) : bts (xs ++ ys) = bts xs ++ bts ys := by simp [bts]
theorem bts_one (xs : List Int) : ∀ v ∈ bts xs, v.oneCell' = true := ints_oneCell _ _

/-- a slice value of n bytes at an address reads as a list -/
def Reads (w : World) (a : Option Addr) (n : Nat) (xs : List Int) : Prop :=
  xs.length = n ∧ (0 < n → ∃ ad, a = some ad ∧ ∀ j v, (bts xs)[j]? = some v → w.cell? (ad.add j) = some v)

theorem Reads.lift {w w' : World} {a : Option Addr} {n : Nat} {xs : List Int} (h : Reads w a n xs) (hb : Below w.heap.size w w') (hp : 0 < n) : ∃ ad, a = some ad ∧ ∀ j v, (bts xs)[j]? = some v → w'.cell? (ad.add j) = some v := by
  obtain ⟨ad, ha, hc⟩ := h.2 hp
  refine ⟨ad, ha, fun j v hv => ?_⟩
  have := hc j v hv
  rw [hb.cell (World.block_lt_of_cell? w _ this)]
  exact this

theorem Reads.below {w w' : World} {a : Option Addr} {n : Nat} {xs : List Int} (h : Reads w a n xs) (hb : Below w.heap.size w w') : Reads w' a n xs := ⟨h.1, h.lift hb⟩

/-- make with a length and a capacity -/
theorem wpList_make_any {P : Program} (w : World) {ops : Array Oper} {rest : List Oper} {o : Oper} {a : Act} {Q : Exit → Act → World → Prop}
    (hg : o.guard = none) (l c : Operand) (t : TypeId) (hop : o.op = Op.makeSlice t l c)
    (e : TypeId) (i : TypeInfo) (z : Value) (h1 : P.underlying t = some (.slice e)) (h2 : P.info? e = some i) (h3 : i.zero = some z) (h4 : i.size = 1) (h5 : i.bytes = 1)
    (kl kc : IntKind) (L C : Int) (n m : Nat) (hl : a.eval l = .int kl L) (hc : a.eval c = .int kc C) (hL : L = (n : Int)) (hC : C = (m : Int)) (hnm : n ≤ m) (b2 : m ≤ 281474976710656)
    (hK : ∀ w', w'.heap[w.heap.size]? = some (.cells (madeCells z.cells m).toList.toArray e (0, 0)) → w'.heap.size = w.heap.size + 1 → Below w.heap.size w w' →
      wpList P ops Q rest (a.put o.dst (.slice (some ⟨w.heap.size, 0, none⟩) n m)) w') :
    wpList P ops Q (o :: rest) a w := by
  refine wpList_plain hg fun K hK' => ?_
  subst hL
  subst hC
  have hrun := run_make (P := P) w t e i z h1 h2 h3 kl kc (n : Int) (m : Int) (by omega) (by omega) (by rw [h5]; omega) (by omega)
  simp only [Int.toNat_natCast, h4, Nat.mul_one] at hrun
  unfold Oper.wp
  simp [execOp, hop, hl, hc, hrun, Result.andThen]
  exact hK' _ _ (hK _ (by rw [heap_alloc_new]) (by simp) ((Below.refl _ _).alloc (Nat.le_refl _) _))

theorem Try.infoByte : (Try.prog.info? 5).map (fun i => (i.zero, i.size, i.bytes)) = some (some (.int .u8 0), 1, 1) := by kernel_rfl

theorem Try.sizeByte : (Try.prog.info? 5).map (·.size) = some 1 := by kernel_rfl

/-- what a copy leaves: its own row in a new block -/
structure Fresh (w w' : World) (v : Value) (n c : Nat) (xs : List Int) : Prop where
  val : v = .slice (some ⟨w.heap.size, 0, none⟩) n c
  len : xs.length = n
  le : n ≤ c
  small : c ≤ 281474976710656
  below : Below w.heap.size w w'
  row : ∃ cur : List Value, w'.heap[w.heap.size]? = some (.cells cur.toArray 5 (0, 0)) ∧ cur.length = c ∧ cur.take n = bts xs

theorem Fresh.owns {w w' : World} {v : Value} {n c : Nat} {xs : List Int} (h : Fresh w w' v n c xs) (B : Nat) (hB : B ≤ w.heap.size) : w'.ownsRow B 5 1 v n (bts xs) := by
  obtain ⟨cur, hr, hl, ht⟩ := h.row
  refine ⟨by rw [bts_length, h.len]; omega, .inr ⟨w.heap.size, c, cur.toArray, h.val, hB, hr, h.le, ?_, by simp [hl], by simpa using ht⟩⟩
  have := h.small; unfold maxLen; omega

set_option maxHeartbeats 400000 in
/-- P101: what a slice holds, copied, with room behind it -/
theorem more_any (a : Option Addr) (n c : Nat) (xs : List Int) (room : Int) (w : World) (hr : Reads w a n xs) (hn : n ≤ 1000000) (h0 : 0 ≤ room) (h1 : room ≤ 1000000) :
    Calls Try.prog 33 #[.slice a n c, .int .i64 room] w fun e w' => ∃ v, e = .returned v ∧ Fresh w w' v n (n + room.toNat) xs := by
  obtain ⟨i0, hi, hz0, hz1, hz2⟩ := info_parts Try.infoByte
  obtain ⟨m, rfl⟩ := Int.eq_ofNat_of_zero_le h0
  go_enter Try.func33, Try.ntmps33
  have hml : (madeCells (Value.int IntKind.u8 0).cells (n + m)).toList.length = n + m := by simp [size_madeCells]
  obtain ⟨cur, hcur⟩ : ∃ cur, cur = (madeCells (Value.int IntKind.u8 0).cells (n + m)).toList := ⟨_, rfl⟩
  rw [← hcur] at hml
  have HC := Lib.hid hcur
  clear hcur
  go_wp2_with (first | (at_make; refine wpList_make_any _ rfl _ _ 22 rfl 5 i0 _ Try.underlying22 hi hz0 hz1 hz2 _ _ _ _ n (n + m) rfl rfl (by omega) (by omega) (by omega) (by omega) ?_; intro w1 hg hs hb; rw [← HC.out] at hg) | (refine wpList_copy_splice rfl (.tmp 13) (.tmp 14) 22 22 rfl 5 Try.underlying22 Try.sizeByte _ _ n (n + m) n c rfl rfl w.heap.size 0 cur 5 hg (bts xs) (by rw [bts_length, hr.1]; exact (Nat.min_self n).symm) (fun hp => ⟨rfl, hr.lift hb (by rw [bts_length, hr.1] at hp; exact hp)⟩) (by rw [bts_length, hr.1]; omega) (bts_one xs) w.heap.size w hb (Nat.le_refl _) ?_; intro w2 HG hB2))
  go_ret
  have hx : (bts xs).length = n := by rw [bts_length, hr.1]
  refine ⟨_, rfl, rfl, hr.1, by omega, by omega, hB2, splice cur 0 (bts xs), HG.out, ?_, ?_⟩
  · rw [length_splice _ _ _ (by omega)]; simp [hml]
  · simp [splice, ← hx]
end Go.Proofs.Ytlaafpfpoehonaa
