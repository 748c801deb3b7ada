/- P103: what was written, one behind the other, is read as it was; with a byte less it is cut: plain numbers and lists. -/
import Derived.Test.YtlaafpfpoehonaaFails
import Derived.Test.YtlaafpfpoehonaaNumB
import Derived.Test.YtlaafpfpoehonaaMany
namespace Go.Proofs.Ytlaafpfpoehonaa
open Go.RowKit Num
set_option linter.unusedVariables false

theorem sev_ne (f : Nat) (u : Int) : sev f u ≠ [] := by
  intro h
  have := (sev_len f u).1
  rw [h] at this
  simp at this

/-- a number that lacks its last byte is cut -/
theorem num_short : ∀ (f i : Nat) (u a : Int), i + f = 9 → 0 ≤ u → (f = 0 → u < 128) → (num (f + 1) i a (sev f u).dropLast).1 = 8 := by
  intro f
  induction f with
  | zero => intro i u a hi h0 h1; simp [sev, num]
  | succ f ih =>
    intro i u a hi h0 h1
    unfold sev
    by_cases hl : u < 128
    · rw [if_pos hl]; simp [num]
    · rw [if_neg hl, List.dropLast_cons_of_ne_nil (sev_ne _ _)]
      simp only [num]
      rw [if_neg (by omega), if_pos (by omega)]
      cases f with
      | zero => simp [sev, num]
      | succ f => exact ih (i + 1) (u / 128) _ (by omega) (by omega) (by intro h; omega)

theorem num_less {n : Int} (h : I64 n) : (num 10 0 0 (enc n).dropLast).1 = 8 := num_short 9 0 (zig n) 0 rfl (zig_bd h.1 h.2).1 (by omega)

theorem enc_ne (n : Int) : enc n ≠ [] := sev_ne _ _

theorem dropLast_app {xs ys : List Int} (h : ys ≠ []) : (xs ++ ys).dropLast = xs ++ ys.dropLast := by
  rw [List.dropLast_append]
  cases ys with
  | nil => exact absurd rfl h
  | cons y ys => simp

/-- what is left of a reader, of what was written, as it was (0), with a byte more (1), with a byte less (2) -/
def Lft (k : Nat) (rem bs : List Int) (e : Int) : Prop :=
  (k = 0 ∧ bs = rem ∧ e = 0) ∨ (k = 1 ∧ bs = rem ++ [7] ∧ e = 0) ∨ (k = 2 ∧ ((e = 0 ∧ rem ≠ [] ∧ bs = rem.dropLast) ∨ e = 8))

theorem lft_int {k : Nat} {n : Int} {rem bs : List Int} {e : Int} (hn : I64 n) (h : Lft k (enc n ++ rem) bs e) :
    Lft k rem (rdInt e bs).2.1 (rdInt e bs).1 ∧ (k ≠ 2 → (rdInt e bs).2.2 = n) := by
  have hx : ∀ l, rdInt 0 (enc n ++ l) = (0, l, n) := fun l => by
    unfold rdInt
    rw [num_enc n l hn.1 hn.2]
    simp
  rcases h with ⟨rfl, rfl, rfl⟩ | ⟨rfl, rfl, rfl⟩ | ⟨rfl, h⟩
  · rw [hx]; exact ⟨.inl ⟨rfl, rfl, rfl⟩, fun _ => rfl⟩
  · rw [List.append_assoc, hx]; exact ⟨.inr (.inl ⟨rfl, rfl, rfl⟩), fun _ => rfl⟩
  · refine ⟨.inr (.inr ⟨rfl, ?_⟩), fun h => absurd rfl h⟩
    rcases h with ⟨rfl, hne, rfl⟩ | rfl
    · by_cases hr : rem = []
      · subst hr
        refine .inr ?_
        rw [List.append_nil]
        unfold rdInt
        rw [if_neg (by simp), if_neg (by rw [num_less hn]; omega)]
        exact num_less hn
      · rw [dropLast_app hr, hx]
        exact .inl ⟨rfl, hr, rfl⟩
    · rw [rdInt_err (by omega)]; exact .inr rfl

theorem rdInt_sub (e : Int) (bs : List Int) : ∀ c ∈ (rdInt e bs).2.1, c ∈ bs := by
  intro c hc
  unfold rdInt at hc
  split at hc
  · exact hc
  · split at hc <;> exact List.mem_of_mem_drop hc

theorem rdText_sub (e : Int) (bs : List Int) : ∀ c ∈ (rdText e bs).2.1, c ∈ bs := by
  intro c hc
  unfold rdText at hc
  split at hc
  · exact hc
  · split at hc <;> exact List.mem_of_mem_drop hc

theorem rdHash_sub (e : Int) (bs : List Int) : ∀ c ∈ (rdHash e bs).2.1, c ∈ bs := by
  intro c hc
  unfold rdHash at hc
  split at hc
  · exact hc
  · split at hc
    · exact hc
    · exact List.mem_of_mem_drop hc

/-- a text as it is written -/
def tx (s : List Int) : List Int := enc (s.length : Int) ++ s

theorem len_i64 {s : List Int} (h : s.length ≤ 60000) : I64 (s.length : Int) := ⟨by omega, by omega⟩

theorem txt_tx {s : List Int} (h : s.length ≤ 60000) (l : List Int) : txt (tx s ++ l) = (0, s, (tx s).length) := by
  have hn := len_i64 h
  unfold txt tx
  rw [List.append_assoc, num_enc _ _ hn.1 hn.2]
  simp only [List.drop_left, Int.toNat_natCast, List.length_append]
  rw [if_neg (by simp), if_neg (by omega), if_neg (by omega), List.take_left]

theorem txt_less {s : List Int} (h : s.length ≤ 60000) : (txt (tx s).dropLast).1 = 8 := by
  have hn := len_i64 h
  unfold txt tx
  by_cases hs : s = []
  · subst hs
    have hz := num_less hn
    rw [List.append_nil]
    generalize enc (([] : List Int).length : Int) = E at hz ⊢
    rw [if_pos (by rw [hz]; omega)]
    exact hz
  · have hl : 0 < s.length := List.length_pos_iff.2 hs
    rw [dropLast_app hs, num_enc _ _ hn.1 hn.2]
    simp only [List.drop_left, Int.toNat_natCast, List.length_dropLast]
    rw [if_neg (by simp), if_neg (by omega), if_pos (by omega)]

theorem tx_ne (s : List Int) : tx s ≠ [] := by unfold tx; simp [enc_ne]

theorem lft_text {k : Nat} {s : List Int} {rem bs : List Int} {e : Int} (hs : s.length ≤ 60000) (h : Lft k (tx s ++ rem) bs e) :
    Lft k rem (rdText e bs).2.1 (rdText e bs).1 ∧ (k ≠ 2 → (rdText e bs).2.2 = s) := by
  have hx : ∀ l, rdText 0 (tx s ++ l) = (0, l, s) := fun l => by
    unfold rdText
    rw [txt_tx hs]
    simp
  have ht := txt_less hs
  have hnil : tx s ++ [] = tx s := List.append_nil _
  have hne2 := tx_ne s
  generalize tx s = T at *
  rcases h with ⟨rfl, rfl, rfl⟩ | ⟨rfl, rfl, rfl⟩ | ⟨rfl, h⟩
  · rw [hx]; exact ⟨.inl ⟨rfl, rfl, rfl⟩, fun _ => rfl⟩
  · rw [List.append_assoc, hx]; exact ⟨.inr (.inl ⟨rfl, rfl, rfl⟩), fun _ => rfl⟩
  · refine ⟨.inr (.inr ⟨rfl, ?_⟩), fun h => absurd rfl h⟩
    rcases h with ⟨rfl, hne, rfl⟩ | rfl
    · by_cases hr : rem = []
      · subst hr
        refine .inr ?_
        rw [hnil]
        unfold rdText
        rw [if_neg (by simp), if_neg (by rw [ht]; omega)]
        exact ht
      · rw [dropLast_app hr, hx]
        exact .inl ⟨rfl, hr, rfl⟩
    · rw [rdText_err (by omega)]; exact .inr rfl

theorem lft_hash {k : Nat} {hs : List Int} {rem bs : List Int} {e : Int} (hl : hs.length = 32) (h : Lft k (hs ++ rem) bs e) :
    Lft k rem (rdHash e bs).2.1 (rdHash e bs).1 ∧ (k ≠ 2 → (rdHash e bs).2.2 = hs) := by
  have hx : ∀ l, rdHash 0 (hs ++ l) = (0, l, hs) := fun l => by
    rw [rdHash, if_neg (by simp), if_neg (by simp; omega), List.drop_left' hl, List.take_left' hl]
  rcases h with ⟨rfl, rfl, rfl⟩ | ⟨rfl, rfl, rfl⟩ | ⟨rfl, h⟩
  · rw [hx]; exact ⟨.inl ⟨rfl, rfl, rfl⟩, fun _ => rfl⟩
  · rw [List.append_assoc, hx]; exact ⟨.inr (.inl ⟨rfl, rfl, rfl⟩), fun _ => rfl⟩
  · refine ⟨.inr (.inr ⟨rfl, ?_⟩), fun h => absurd rfl h⟩
    rcases h with ⟨rfl, hne, rfl⟩ | rfl
    · by_cases hr : rem = []
      · subst hr
        refine .inr ?_
        rw [List.append_nil, rdHash, if_neg (by simp), if_pos (by rw [List.length_dropLast]; omega)]
      · rw [dropLast_app hr, hx]
        exact .inl ⟨rfl, hr, rfl⟩
    · rw [rdHash_err (by omega)]; exact .inr rfl

/-- where nothing is left to ask: the end -/
theorem lft_end {k : Nat} {bs : List Int} {e : Int} (h : Lft k [] bs e) : endOf e bs = if k = 0 then 0 else if k = 1 then 9 else 8 := by
  rcases h with ⟨rfl, rfl, rfl⟩ | ⟨rfl, rfl, rfl⟩ | ⟨rfl, h⟩
  · rfl
  · rfl
  · rcases h with ⟨_, h, _⟩ | rfl
    · exact absurd rfl h
    · simp [endOf]

/-- some numbers from the m-th on, and some texts behind them -/
def numsFrom (l : List Int) (m : Nat) : List Int := ((l.drop m).map enc).flatten
def txsFrom (l : List (List Int)) (m : Nat) : List Int := ((l.drop m).map tx).flatten
def numsTo (l : List Int) (m : Nat) : List Int := ((l.take m).map enc).flatten
def txsTo (l : List (List Int)) (m : Nat) : List Int := ((l.take m).map tx).flatten

theorem numsFrom_succ (l : List Int) (m : Nat) (hm : m < l.length) : numsFrom l m = enc (l.getD m 0) ++ numsFrom l (m + 1) := by
  unfold numsFrom
  rw [List.drop_eq_getElem_cons hm, List.map_cons, List.flatten_cons]
  simp [List.getD, hm]
theorem txsFrom_succ (l : List (List Int)) (m : Nat) (hm : m < l.length) : txsFrom l m = tx (l.getD m []) ++ txsFrom l (m + 1) := by
  unfold txsFrom
  rw [List.drop_eq_getElem_cons hm, List.map_cons, List.flatten_cons]
  simp [List.getD, hm]
theorem numsTo_succ (l : List Int) (m : Nat) (hm : m < l.length) : numsTo l (m + 1) = numsTo l m ++ enc (l.getD m 0) := by
  unfold numsTo
  rw [List.take_succ_eq_append_getElem hm, List.map_append, List.flatten_append]
  simp [List.getD, hm]
theorem txsTo_succ (l : List (List Int)) (m : Nat) (hm : m < l.length) : txsTo l (m + 1) = txsTo l m ++ tx (l.getD m []) := by
  unfold txsTo
  rw [List.take_succ_eq_append_getElem hm, List.map_append, List.flatten_append]
  simp [List.getD, hm]
theorem numsTo_all (l : List Int) : numsTo l l.length = numsFrom l 0 := by simp [numsTo, numsFrom]
theorem txsTo_all (l : List (List Int)) : txsTo l l.length = txsFrom l 0 := by simp [txsTo, txsFrom]
theorem numsFrom_end (l : List Int) : numsFrom l l.length = [] := by simp [numsFrom]
theorem txsFrom_end (l : List (List Int)) : txsFrom l l.length = [] := by simp [txsFrom]

theorem numsTo_len (l : List Int) (m : Nat) : (numsTo l m).length ≤ 10 * m := by
  induction m with
  | zero => simp [numsTo]
  | succ m ih =>
    rcases Nat.lt_or_ge m l.length with h | h
    · rw [numsTo_succ l m h, List.length_append]
      have := (enc_len (l.getD m 0)).2
      omega
    · have e : numsTo l (m + 1) = numsTo l m := by unfold numsTo; rw [List.take_of_length_le (by omega), List.take_of_length_le h]
      rw [e]; omega

theorem tx_len (s : List Int) : (tx s).length ≤ 10 + s.length := by
  unfold tx; rw [List.length_append]
  have := (enc_len (s.length : Int)).2
  omega

theorem txsTo_len (l : List (List Int)) (m : Nat) (h : ∀ j, j < m → (l.getD j []).length ≤ 200) : (txsTo l m).length ≤ 210 * m := by
  induction m with
  | zero => simp [txsTo]
  | succ m ih =>
    have ih := ih (fun j hj => h j (by omega))
    rcases Nat.lt_or_ge m l.length with hm | hm
    · rw [txsTo_succ l m hm, List.length_append]
      have h1 := tx_len (l.getD m [])
      have h2 := h m (by omega)
      omega
    · have e : txsTo l (m + 1) = txsTo l m := by unfold txsTo; rw [List.take_of_length_le (by omega), List.take_of_length_le hm]
      rw [e]; omega

theorem numsFrom_bytes {l : List Int} (h : ∀ z ∈ l, I64 z) (m : Nat) : ∀ c ∈ numsFrom l m, Byte c := by
  intro c hc
  unfold numsFrom at hc
  obtain ⟨b, hb, hcb⟩ := List.mem_flatten.1 hc
  obtain ⟨z, hz, rfl⟩ := List.mem_map.1 hb
  exact enc_bytes (h z (List.mem_of_mem_drop hz)) c hcb

theorem txsFrom_bytes {l : List (List Int)} (h : ∀ s ∈ l, s.length ≤ 60000 ∧ ∀ c ∈ s, Byte c) (m : Nat) : ∀ c ∈ txsFrom l m, Byte c := by
  intro c hc
  unfold txsFrom at hc
  obtain ⟨b, hb, hcb⟩ := List.mem_flatten.1 hc
  obtain ⟨z, hz, rfl⟩ := List.mem_map.1 hb
  have hz := h z (List.mem_of_mem_drop hz)
  unfold tx at hcb
  rcases List.mem_append.1 hcb with h1 | h1
  · exact enc_bytes (len_i64 hz.1) c h1
  · exact hz.2 c h1

end Go.Proofs.Ytlaafpfpoehonaa
