/- P102: the reader's bytes: how many, and they; or why not. -/
import Derived.Test.YtlaafpfpoehonaaNumber
namespace Go.Proofs.Ytlaafpfpoehonaa
open Go.RowKit Num
set_option linter.unusedVariables false
set_option linter.unusedSimpArgs false

/-- reading bytes: the error, the bytes, how many were taken -/
def txt (bs : List Int) : Int × List Int × Nat :=
  if (num 10 0 0 bs).1 ≠ 0 then ((num 10 0 0 bs).1, [], (num 10 0 0 bs).2.2)
  else if (num 10 0 0 bs).2.1 < 0 ∨ 65535 < (num 10 0 0 bs).2.1 then (4, [], (num 10 0 0 bs).2.2)
  else if (bs.drop (num 10 0 0 bs).2.2).length < (num 10 0 0 bs).2.1.toNat then (8, [], (num 10 0 0 bs).2.2)
  else (0, (bs.drop (num 10 0 0 bs).2.2).take (num 10 0 0 bs).2.1.toNat, (num 10 0 0 bs).2.2 + (num 10 0 0 bs).2.1.toNat)

def TextPost (r : Nat) (e : Int) (bs : List Int) (w : World) (x : Ending) (w' : World) : Prop :=
  ((txt bs).1 = 0 → ∃ a c, x = .returned (.slice a (txt bs).2.1.length c) ∧ Reads w' a (txt bs).2.1.length (txt bs).2.1) ∧ ((txt bs).1 ≠ 0 → Thrown x (txt bs).1) ∧
  Rd w' r e (bs.drop (txt bs).2.2) ∧ Only r w w'

theorem TextPost.bad {r : Nat} {e : Int} {bs : List Int} {w w' : World} {k : Nat} {d : Int} (h : txt bs = (d, [], k)) (hd : d ≠ 0) (hr : Rd w' r e (bs.drop k)) (ho : Only r w w') :
    TextPost r e bs w (.panicked [{ v := .iface 40 (.int .i64 d), recovered := false }]) w' := by
  unfold TextPost
  rw [h]
  exact ⟨fun h0 => absurd h0 hd, fun _ => rfl, hr, ho⟩

theorem TextPost.fin {r : Nat} {e : Int} {bs l : List Int} {w w' : World} {k n : Nat} {a : Option Addr} {c : Nat} (h : txt bs = (0, l, k)) (hn : l.length = n) (hl : Reads w' a n l) (hr : Rd w' r e (bs.drop k)) (ho : Only r w w') :
    TextPost r e bs w (.returned (.slice a n c)) w' := by
  unfold TextPost
  rw [h]
  subst hn
  exact ⟨fun _ => ⟨a, c, rfl, hl⟩, fun h0 => absurd rfl h0, hr, ho⟩

theorem reads_of {w : World} {g off n : Nat} {xs : List Int} (hn : n ≤ xs.length) (hc : ∀ i, i < n → w.cell? ⟨g, off + i, none⟩ = some (.int .u8 (xs.getD i 0))) : Reads w (some ⟨g, off, none⟩) n (xs.take n) := by
  refine ⟨by rw [List.length_take]; omega, fun _ => ⟨_, rfl, fun j v hv => ?_⟩⟩
  have hj : j < (bts (xs.take n)).length := (List.getElem?_eq_some_iff.1 hv).1
  rw [bts_length, List.length_take] at hj
  rw [Addr.add_lit, hc j (by omega), ← hv]
  simp [bts, List.getD, show j < n by omega, show j < xs.length by omega]

theorem Fresh.reads {w w' : World} {n c : Nat} {a : Option Addr} {xs : List Int} (h : Fresh w w' (.slice a n c) n c xs) : Reads w' a n xs := by
  obtain ⟨a', c', hv, hr⟩ := owned_val (h.owns w.heap.size (Nat.le_refl _))
  simp only [Value.slice.injEq] at hv
  rw [hv.1]
  exact hr

set_option maxRecDepth 100000 in
set_option maxHeartbeats 2000000 in
theorem text_any (r : Nat) (e : Int) (bs : List Int) (w : World) (h : Rd w r e bs) (hby : ∀ c ∈ bs, Byte c) :
    Calls Try.prog 38 #[.pointer (some ⟨r, 0, none⟩)] w (TextPost r e bs w) := by
  have H := Lib.hid h
  have HB := Lib.hid hby
  clear h hby
  obtain ⟨E, hE⟩ : ∃ E, E = (num 10 0 0 bs).1 := ⟨_, rfl⟩
  obtain ⟨V, hV⟩ : ∃ V, V = (num 10 0 0 bs).2.1 := ⟨_, rfl⟩
  obtain ⟨K, hK⟩ : ∃ K, K = (num 10 0 0 bs).2.2 := ⟨_, rfl⟩
  have T := Lib.hid (show txt bs = _ from rfl)
  have T2 : Hid (txt bs = if E ≠ 0 then (E, [], K) else if V < 0 ∨ 65535 < V then (4, [], K) else if (bs.drop K).length < V.toNat then (8, [], K) else (0, (bs.drop K).take V.toNat, K + V.toNat)) := by
    rw [hE, hV, hK]; rfl
  clear T
  have HE := Lib.hid hE
  have HV := Lib.hid hV
  have HK := Lib.hid hK
  clear hE hV hK
  go_enter Try.func38, Try.ntmps38
  go_wp2_with fail
  refine (number_any r e bs _ H.out HB.out).mono ?_
  rintro x w1 ⟨p1, p2, p3, p4⟩
  rw [← HE.out] at p1 p2
  rw [← HV.out] at p1
  rw [← HK.out] at p3
  have P3 := Lib.hid p3
  have P4 := Lib.hid p4
  clear p3 p4
  by_cases he : E = 0
  · obtain rfl := p1 he
    have T3 : Hid (txt bs = if V < 0 ∨ 65535 < V then (4, [], K) else if (bs.drop K).length < V.toNat then (8, [], K) else (0, (bs.drop K).take V.toNat, K + V.toNat)) := by
      have := T2.out; rw [if_neg (by simpa using he)] at this; exact this
    clear p1 p2 he T2
    by_cases hlo : V < 0
    · have HP := Lib.hid (TextPost.bad (by have := T3.out; rw [if_pos (.inl hlo)] at this; exact this) (by decide) P3.out P4.out)
      go_wp2
      exact ⟨rfl, HP.out⟩
    · by_cases hhi : 65535 < V
      · have HP := Lib.hid (TextPost.bad (by have := T3.out; rw [if_pos (.inr hhi)] at this; exact this) (by decide) P3.out P4.out)
        go_wp2
        exact ⟨rfl, HP.out⟩
      · obtain ⟨n, rfl⟩ := Int.eq_ofNat_of_zero_le (show 0 ≤ V by omega)
        have T4 : Hid (txt bs = if (bs.drop K).length < n then (8, [], K) else (0, (bs.drop K).take n, K + n)) := by
          have := T3.out; rw [if_neg (by omega)] at this; exact this
        clear T3
        by_cases hlen : (bs.drop K).length < n
        · have HP := Lib.hid (TextPost.bad (by have := T4.out; rw [if_pos hlen] at this; exact this) (by decide) P3.out P4.out)
          have HL := Lib.hid hlen
          clear hlen
          go_wp2_with fail
          refine (take_cut r n e (bs.drop K) _ P3.out HL.out (by omega)).mono ?_
          rintro x w2 ⟨hx, rfl⟩
          obtain rfl := hx
          go_wp2
          exact ⟨rfl, HP.out⟩
        · have HT : Hid (txt bs = (0, (bs.drop K).take n, K + n)) := by have := T4.out; rw [if_neg hlen] at this; exact this
          have HL : Hid (n ≤ (bs.drop K).length) := by show _ ≤ _; omega
          clear hlen T4
          go_wp2_with fail
          refine (take_ok r n e (bs.drop K) _ P3.out HL.out).mono ?_
          rintro x w2 ⟨g, off, c, rfl, hnc, hcell, hrd, honly⟩
          have hreads : Reads w2 (some ⟨g, off, none⟩) n ((bs.drop K).take n) := reads_of HL.out hcell
          have HR := Lib.hid hreads
          have HD := Lib.hid hrd
          have HO := Lib.hid (P4.out.trans honly)
          clear hcell hrd honly hreads
          go_wp2_with fail
          refine (more_any _ n c _ 0 _ HR.out (by omega) (by omega) (by omega)).mono ?_
          rintro x w3 ⟨v, rfl, hf⟩
          have HV := hf.val
          subst HV
          have HF := Lib.hid hf
          clear hf
          go_wp2
          go_ret
          have hd : bs.drop (K + n) = (bs.drop K).drop n := by rw [List.drop_drop]
          exact TextPost.fin HT.out HR.out.1 HF.out.reads (by rw [hd]; exact HD.out.keep HF.out.below) (HO.out.trans (.of_below HF.out.below))
  · obtain rfl := p2 he
    have HP := Lib.hid (TextPost.bad (by have := T2.out; rw [if_pos he] at this; exact this) he P3.out P4.out)
    clear p1 p2
    go_wp2
    exact ⟨rfl, HP.out⟩

end Go.Proofs.Ytlaafpfpoehonaa
