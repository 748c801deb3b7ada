/- The chapter's Text, and the second writing of bytes and of sums. Bytes are at most a million. -/
import Derived.Test.YtlaafpfpoehonaaRefW
namespace Go.Proofs.Ytlaafpfpoehonaa
open Go.RowKit Num
set_option linter.unusedVariables false
set_option linter.unusedSimpArgs false

/-- a slice that could be read when block B was the next one -/
structure Old (w0 w : World) (a : Option Addr) (n c : Nat) (xs : List Int) : Prop where
  reads : Reads w0 a n xs
  nil : a = none → n = 0 ∧ c = 0
  below : Below w0.heap.size w0 w

theorem Old.now {w0 w : World} {a : Option Addr} {n c : Nat} {xs : List Int} (h : Old w0 w a n c xs) : Reads w a n xs := h.reads.below h.below
theorem Old.later {w0 w w' : World} {a : Option Addr} {n c : Nat} {xs : List Int} (h : Old w0 w a n c xs) (hb : Below w0.heap.size w w') : Old w0 w' a n c xs := ⟨h.reads, h.nil, h.below.trans hb⟩

/-- what the second writing leaves: the bytes behind, who owned goes on owning -/
def PutPost (B : Nat) (v : Value) (n : Nat) (xs ys : List Int) (w : World) (x : Ending) (w' : World) : Prop :=
  ∃ v', x = .returned v' ∧ w'.ownsRow B 5 1 v' (n + ys.length) (bts (xs ++ ys)) ∧ KeptUpto B 5 w w' v n ∧ Below B w w'

set_option maxRecDepth 100000 in
set_option maxHeartbeats 1000000 in
theorem reftext_any (w0 : World) (v : Value) (n : Nat) (xs : List Int) (a : Option Addr) (m c : Nat) (ys : List Int) (w : World) (hown : w.ownsRow w0.heap.size 5 1 v n (bts xs)) (hs : Old w0 w a m c ys) (hn : n ≤ 900000) (hm : m ≤ 900000) :
    Calls Try.prog 16 #[v, .slice a m c] w (PutPost w0.heap.size v n xs (enc (m : Int) ++ ys) w) := by
  obtain ⟨i0, hi, hz0, hz1, hz2⟩ := info_parts Try.infoByte
  have HO := Lib.hid hown
  have HS := Lib.hid hs
  clear hown hs
  go_enter Try.func16, Try.ntmps16
  go_wp2_with fail
  refine (refint_any w0.heap.size v n xs m _ HO.out HS.out.below.size (by omega) ⟨by omega, by omega⟩).mono ?_
  rintro e w1 ⟨v1, rfl, ho1, hk1, hkin1, hb1⟩
  have HO1 := Lib.hid ho1
  have HK1 := Lib.hid hk1
  have HKI := Lib.hid hkin1
  have HB1 := Lib.hid hb1
  have HR1 := Lib.hid (HS.out.later hb1).now
  have HZ1 := Lib.hid (HS.out.later hb1).below.size
  have HL := Lib.hid (enc_len (m : Int))
  clear ho1 hk1 hb1 hkin1
  go_wp2_with (at_builtin; go_must (refine wpList_append_keep rfl _ _ 22 rfl w0.heap.size 5 i0 Try.underlying22 hi hz0 hz1 hz2 v1 _ (xs ++ enc (m : Int)) rfl HO1.out a m c ys rfl HR1.out (fun h => HS.out.nil h) (by have := HL.out; omega) HZ1.out ?_; intro v2 w2 ho2 hg2 hk2 hn2))
  have HK2 := Lib.hid (HK1.out.step hk2 HKI.out (by omega))
  have HB2 := Lib.hid (HB1.out.grown hg2 HZ1.out (fun k hk => (HO1.out.lt k hk).1))
  have HO2 := Lib.hid ho2
  have HM : Hid (m = ys.length) := HS.out.reads.1.symm
  clear ho2 hg2 hk2 hn2
  go_wp2
  go_ret
  refine ⟨v2, rfl, ?_, HK2.out, HB2.out⟩
  have := HO2.out
  rw [List.append_assoc, Nat.add_assoc] at this
  rw [List.length_append, ← HM.out]
  exact this

set_option maxRecDepth 100000 in
set_option maxHeartbeats 1000000 in
theorem refhash_any (B : Nat) (v : Value) (n : Nat) (xs hs : List Int) (cs : Array Value) (w : World) (hown : w.ownsRow B 5 1 v n (bts xs)) (hB : B ≤ w.heap.size) (hn : n ≤ 900000) (hh : Sum cs hs) :
    Calls Try.prog 18 #[v, .agg cs] w (PutPost B v n xs hs w) := by
  obtain ⟨i0, hi, hz0, hz1, hz2⟩ := info_parts Try.infoByte
  have HO := Lib.hid hown
  have HR := Lib.hid (hh.boxed w 24)
  have HL : Hid (hs.length = 32) := hh.len
  clear hown hh
  go_enter Try.func18, Try.ntmps18
  go_wp2_with (at_builtin; go_must (refine wpList_append_keep rfl _ _ 22 rfl B 5 i0 Try.underlying22 hi hz0 hz1 hz2 v n xs rfl (HO.out.alloc _) _ 32 32 hs rfl HR.out (fun h => by cases h) (by omega) (by simp; omega) ?_; intro v2 w2 ho2 hg2 hk2 hn2))
  have HK2 := Lib.hid ((KeptUpto.below (base := B) (v := v) (n := n) ((Below.refl _ _).alloc (Nat.le_refl _) (.cells cs 24))).step hk2 (Kin.refl _ _) (Nat.le_refl _))
  have HB2 := Lib.hid (((Below.refl B w).alloc hB (.cells cs 24)).grown hg2 (by simp; omega) (fun k hk => (HO.out.lt k hk).1))
  have HO2 := Lib.hid ho2
  clear ho2 hg2 hk2 hn2
  go_wp2
  go_ret
  exact ⟨v2, rfl, by rw [HL.out]; exact HO2.out, HK2.out, HB2.out⟩

set_option maxRecDepth 100000 in
set_option maxHeartbeats 1000000 in
/-- P101: Text -/
theorem text_put (w0 : World) (a : Option Addr) (n c : Nat) (xs : List Int) (a2 : Option Addr) (m c2 : Nat) (ys : List Int) (w : World) (hr : Reads w a n xs) (hs : Old w0 w a2 m c2 ys) (hn : n ≤ 900000) (hm : m ≤ 900000) :
    Calls Try.prog 15 #[.slice a n c, .slice a2 m c2] w fun e w' =>
      ∃ v, e = .returned v ∧ w'.ownsRow w.heap.size 5 1 v (n + (enc (m : Int) ++ ys).length) (bts (xs ++ (enc (m : Int) ++ ys))) ∧ Below w.heap.size w w' := by
  obtain ⟨i0, hi, hz0, hz1, hz2⟩ := info_parts Try.infoByte
  have HR := Lib.hid hr
  have HS := Lib.hid hs
  have HI : Hid (I64 (m : Int)) := ⟨by omega, by omega⟩
  have HP := zig_pow HI.out
  have HZ0 := Lib.hid (zig_bd HI.out.1 HI.out.2).1
  clear hr hs
  go_enter Try.func15, Try.ntmps15
  go_wp2_with fail
  refine (more_any a n c xs (10 + (m : Int)) _ HR.out (by omega) (by omega) (by omega)).mono ?_
  rintro e w1 ⟨v1, rfl, hf⟩
  have HF := Lib.hid hf
  clear hf
  go_wp2_with fail
  refine (fold_any m _ HI.out).mono ?_
  rintro e w2 ⟨rfl, rfl⟩
  go_wp2_with fail
  refine (sevens_any w.heap.size v1 n xs (zig m) _ (HF.out.owns _ (Nat.le_refl _)) HF.out.below.size (by omega) HZ0.out HP).mono ?_
  rintro e w3 ⟨v3, rfl, hown, hb⟩
  rw [sev9] at hown
  have HO := Lib.hid hown
  have HB := Lib.hid (HF.out.below.trans hb)
  have HR3 := Lib.hid (HS.out.later ((HF.out.below.trans hb).mono HS.out.below.size)).now
  have HL := Lib.hid (enc_len (m : Int))
  have HE : Hid ((sev 9 (zig (m : Int))).length = (enc (m : Int)).length) := rfl
  clear hown hb
  go_wp2_with (at_builtin; go_must (refine wpList_append_reads rfl _ _ 22 rfl w.heap.size 5 i0 Try.underlying22 hi hz0 hz1 hz2 v3 _ (xs ++ enc (m : Int)) rfl HO.out a2 m c2 ys rfl HR3.out (fun h => HS.out.nil h) (by have := HL.out; omega) HB.out.size ?_; intro v4 w4 ho4 hg4))
  have HB4 := Lib.hid (HB.out.grown hg4 HB.out.size (fun k hk => (HO.out.lt k hk).1))
  have HO4 := Lib.hid ho4
  have HM : Hid (m = ys.length) := HS.out.reads.1.symm
  clear ho4 hg4
  go_wp2
  go_ret
  refine ⟨v4, rfl, ?_, HB4.out⟩
  have := HO4.out
  rw [List.append_assoc, Nat.add_assoc] at this
  rw [List.length_append, ← HM.out]
  exact this

end Go.Proofs.Ytlaafpfpoehonaa
