/- P102, P103: what can be read as a number is written as it stood: the walk of CodeLoose. -/
import Derived.Test.YtlaafpfpoehonaaFails
import Derived.Test.YtlaafpfpoehonaaNumB
import Derived.Test.YtlaafpfpoehonaaShort
import Derived.Laws.BytesArg
import Derived.Deep.RegionWith
import Derived.BigQuiet
namespace Go.Proofs.Ytlaafpfpoehonaa
open Go.RowKit Num
set_option linter.unusedVariables false
set_option linter.unusedSimpArgs false

/-- bytes as a string -/
theorem conv_reads {w : World} {a : Option Addr} {n : Nat} {xs : List Int} (h : Reads w a n xs) (c : Nat) : (convert 22 9 (.slice a n c)).run Try.prog w = .ok (.string (strOfNums xs)) w := by
  rw [run_convert_bytes_string w 22 9 5 a n c Try.underlying22 Try.underlying5 Try.underlying9]
  cases a with
  | none =>
    have hn : n = 0 := by
      by_cases hp : 0 < n
      · obtain ⟨ad, h1, -⟩ := h.2 hp; cases h1
      · omega
    have hx : xs = [] := List.eq_nil_of_length_eq_zero (by rw [h.1, hn])
    subst hx
    simp [Conv.bytesToString, strOfNums]
    rfl
  | some ad =>
    have hl : (loadCells ad n).run Try.prog w = .ok (xs.map (Value.int .u8)).toArray w := by
      have := run_loadCells_list (P := Try.prog) w ad (bts xs) (fun j v hj => by
        have hp : 0 < n := by
          have := (List.getElem?_eq_some_iff.1 hj).1
          rw [bts_length, h.1] at this
          omega
        obtain ⟨ad', h1, h2⟩ := h.2 hp
        obtain rfl := Option.some.inj h1
        exact h2 j v hj)
      rw [bts_length, h.1] at this
      exact this
    rw [run_bytesToString w ad n c xs hl, foldl_push_bytes]
    simp [strOfNums, ByteArray.empty, ByteArray.emptyWithCapacity]
    rfl

theorem num_bd : ∀ (f i : Nat) (u : Int) (bs : List Int), i + (f + 1) = 10 → U64 u → u < 128 ^ i → (∀ c ∈ bs, Byte c) → (num (f + 1) i u bs).1 = 0 → ∃ x, U64 x ∧ (num (f + 1) i u bs).2.1 = zag x := by
  intro f
  induction f with
  | zero =>
    intro i u bs hi h0 hu hby h
    cases bs with
    | nil => simp [num] at h
    | cons c bs =>
      have hc := hby c (by simp)
      simp only [num] at h ⊢
      by_cases h1 : i = 9 ∧ 1 < c
      · rw [if_pos h1] at h; simp at h
      · have hb := bit_bd (by omega) h0.1 hu hc h1
        have h2 : ¬ 128 ≤ c := by have : i = 9 := (by omega); omega
        rw [if_neg h1, if_neg h2] at h ⊢
        by_cases h3 : c = 0 ∧ 0 < i
        · rw [if_pos h3] at h; simp at h
        · rw [if_neg h3] at h ⊢
          exact ⟨_, ⟨hb.2.2.2.2, hb.2.2.1⟩, rfl⟩
  | succ f ih =>
    intro i u bs hi h0 hu hby h
    cases bs with
    | nil => simp [num] at h
    | cons c bs =>
      have hc := hby c (by simp)
      have h1 : ¬ (i = 9 ∧ 1 < c) := by omega
      have hb := bit_bd (by omega) h0.1 hu hc h1
      rw [num, if_neg h1] at h ⊢
      by_cases h2 : 128 ≤ c
      · rw [if_pos h2] at h ⊢
        exact ih (i + 1) _ bs (by omega) ⟨hb.2.2.2.2, hb.2.2.1⟩ hb.2.2.2.1 (fun x hx => hby x (by simp [hx])) h
      · rw [if_neg h2] at h ⊢
        by_cases h3 : c = 0 ∧ 0 < i
        · rw [if_pos h3] at h; simp at h
        · rw [if_neg h3] at h ⊢
          exact ⟨_, ⟨hb.2.2.2.2, hb.2.2.1⟩, rfl⟩

theorem zag_i64 {x : Int} (h : U64 x) : I64 (zag x) := by
  obtain ⟨h0, h1⟩ := h
  unfold zag
  split <;> exact ⟨by omega, by omega⟩

/-- what is read is a number of 64 bits -/
theorem num_i64 {bs : List Int} (hby : ∀ c ∈ bs, Byte c) (h : (num 10 0 0 bs).1 = 0) : I64 (num 10 0 0 bs).2.1 := by
  obtain ⟨x, hx, e⟩ := num_bd 9 0 0 bs rfl ⟨by omega, by omega⟩ (by simp) hby h
  rw [e]; exact zag_i64 hx

theorem Reads.take {w : World} {a : Option Addr} {n k : Nat} {xs : List Int} (h : Reads w a n xs) (hk : k ≤ n) : Reads w a k (xs.take k) := by
  refine ⟨by rw [List.length_take, h.1]; omega, fun hp => ?_⟩
  obtain ⟨ad, h1, h2⟩ := h.2 (by omega)
  refine ⟨ad, h1, fun j v hj => h2 j v ?_⟩
  have hjl := (List.getElem?_eq_some_iff.1 hj).1
  rw [bts_length, List.length_take] at hjl
  have e : bts (xs.take k) = (bts xs).take k := by simp [bts, List.map_take]
  rw [e, List.getElem?_take, if_pos (by omega)] at hj
  exact hj

set_option maxRecDepth 100000 in
set_option maxHeartbeats 4000000 in
theorem loose_any (a0 : Option Addr) (len0 cap0 : Nat) (z0 : List Int) (w : World) (h0 : Came w a0 len0 cap0 z0) :
    Calls Try.prog 7 #[.slice a0 len0 cap0] w fun e w' => e = .returned (.bool true) ∧ Below w.heap.size w w' := by
  have H0 := Lib.hid h0
  have hz0 : z0.length = len0 := h0.reads.1
  have HL0 := Lib.hid hz0
  clear h0 hz0
  go_enter Try.func7, Try.ntmps7
  go_wp2_with fail
  refine (known_any _).mono ?_
  rintro e w1 ⟨rfl, hb1⟩
  have HB1 := Lib.hid hb1
  clear hb1
  by_cases hl : 20 < len0
  · go_wp2
    go_ret
    exact ⟨rfl, HB1.out⟩
  · go_wp2_with fail
    refine (new_any a0 len0 cap0 z0 _ (H0.out.reads.below HB1.out) (by omega)).mono ?_
    rintro e w2 ⟨r, rfl, hrd, hrr, hb⟩
    have HRD := Lib.hid hrd
    have HRR := Lib.hid (Nat.le_trans HB1.out.size hrr)
    have HB2 := Lib.hid (HB1.out.trans (hb.mono HB1.out.size))
    clear hrd hrr hb
    go_wp2_with fail
    refine (rint_any r 0 _ _ HRD.out H0.out.bytes).mono ?_
    rintro e w3 ⟨hx, hrd, ho⟩
    have HB3 := Lib.hid (Below.step HB2.out ho HRR.out (Nat.le_refl _))
    have HNE := Lib.hid (num_err 10 0 0 z0)
    by_cases hE : (num 10 0 0 z0).1 = 0
    · have e3 : rdInt 0 z0 = (0, z0.drop (num 10 0 0 z0).2.2, (num 10 0 0 z0).2.1) := by simp [rdInt, hE]
      rw [e3] at hx hrd
      have hbk := num_back H0.out.bytes hE
      have hi6 := num_i64 H0.out.bytes hE
      obtain ⟨v, hv⟩ : ∃ v, v = (num 10 0 0 z0).2.1 := ⟨_, rfl⟩
      obtain ⟨k, hk⟩ : ∃ k, k = (num 10 0 0 z0).2.2 := ⟨_, rfl⟩
      rw [← hv, ← hk] at hrd hbk
      rw [← hv] at hi6
      have HI := Lib.hid hi6
      rw [← hv] at hx
      subst hx
      have HRD3 := Lib.hid hrd
      have HBK := Lib.hid hbk
      clear hE e3 hv hk hrd ho hbk hi6
      go_wp2_with fail
      refine (end_any r 0 _ _ HRD3.out).mono ?_
      rintro e w4 ⟨rfl, rfl⟩
      by_cases hd : z0.drop k = []
      · have e5 : endOf 0 (z0.drop k) = 0 := by simp [endOf, hd]
        rw [e5]
        have he : enc v = z0 := by
          rw [HBK.out.1]
          exact List.take_of_length_le (List.drop_eq_nil_iff.1 hd)
        have HE := Lib.hid he
        have hcA := conv_reads ((H0.out.reads.below HB3.out).below (Below.refl _ _).drew) cap0
        clear e5 hd he
        go_wp2_with fail
        go_region_law (go_simp; (refine (int_nil v _ HI.out).mono ?_; rintro e w5 ⟨a5, c5, rfl, hr5, hb5⟩; have hcB := conv_reads ((H0.out.reads.below HB3.out).below (((Below.refl _ _).drew).trans hb5)) cap0; rw [HE.out] at hr5; have hcC := conv_reads hr5 c5; rw [HE.out]; have HB5 := Lib.hid (HB3.out.trans ((((Below.refl _ _).drew).trans hb5).mono HB3.out.size)); clear hr5 hb5))
        all_goals
          clear hcA hcB hcC
          go_wp2
          go_ret
          exact ⟨rfl, HB5.out⟩
      · have e5 : endOf 0 (z0.drop k) = 9 := by simp [endOf, hd]
        rw [e5]
        have hk : k < len0 := by
          have := HL0.out
          rcases Nat.lt_or_ge k len0 with h | h
          · exact h
          · exact absurd (List.drop_eq_nil_of_le (by omega)) hd
        have HE := Lib.hid HBK.out.1
        have HEL : Hid ((z0.take k).length = k) := by show _ = _; rw [List.length_take]; have := HL0.out; omega
        clear e5 hd
        go_wp2_with fail
        refine (int_nil v _ HI.out).mono ?_
        rintro e w5 ⟨a5, c5, rfl, hr5, hb5⟩
        rw [HE.out, HEL.out] at hr5
        rw [HE.out, HEL.out]
        have hcD : ∀ nq, (convert 22 9 (.slice a5 k c5)).run Try.prog (w5.drewN nq) = .ok (.string (strOfNums (z0.take k))) (w5.drewN nq) := fun nq => conv_reads (w := w5.drewN nq) (hr5.below (below_drewN (Below.refl _ _) nq)) c5
        have hcE : ∀ nq, (convert 22 9 (.slice a0 k cap0)).run Try.prog (w5.drewN nq) = .ok (.string (strOfNums (z0.take k))) (w5.drewN nq) := fun nq => conv_reads (w := w5.drewN nq) (((((H0.out.reads.below HB3.out).below hb5)).below (below_drewN (Below.refl _ _) nq)).take (by omega)) cap0
        have HB5 := Lib.hid (HB3.out.trans (hb5.mono HB3.out.size))
        have hkc : k ≤ cap0 := by have := H0.out.le; omega
        have hlt : decide ((k : Int) < (len0 : Int)) = true := by simp; omega
        clear hb5 hr5
        go_wp2_with fail
        go_quiet (fail)
        clear hcD hcE
        go_wp2
        go_ret
        exact ⟨rfl, below_drewN HB5.out nq⟩
    · have e3 : rdInt 0 z0 = ((num 10 0 0 z0).1, z0.drop (num 10 0 0 z0).2.2, 0) := by simp [rdInt, hE]
      rw [e3] at hx hrd
      subst hx
      have HN8 : Hid ((num 10 0 0 z0).1 = 8 → z0.length < 10) := fun h => num_cut 10 0 0 z0 rfl h
      obtain ⟨E, hEE⟩ : ∃ E, E = (num 10 0 0 z0).1 := ⟨_, rfl⟩
      rw [← hEE] at hrd hE HN8 HNE
      have HRD3 := Lib.hid hrd
      have e4 : endOf E (z0.drop (num 10 0 0 z0).2.2) = E := by rw [endOf, if_neg (fun h => hE h.1)]
      have HE4 := Lib.hid e4
      clear e3 hrd ho e4 hEE
      go_wp2_with fail
      refine (end_any r E _ _ HRD3.out).mono ?_
      rintro e w4 ⟨rfl, rfl⟩
      rw [HE4.out]
      rcases HNE.out with h | rfl | rfl
      · exact absurd h hE
      · have hl10 : len0 < 10 := by have := HN8.out rfl; have := HL0.out; omega
        have hd10 : decide ((len0 : Int) < 10) = true := by simp; omega
        clear hE
        go_wp2
        go_ret
        exact ⟨rfl, HB3.out⟩
      · clear hE
        go_wp2_with fail
        refine (end_any r 10 _ _ HRD3.out).mono ?_
        rintro e w4 ⟨rfl, rfl⟩
        rw [HE4.out]
        go_wp2
        go_ret
        exact ⟨rfl, HB3.out⟩

end Go.Proofs.Ytlaafpfpoehonaa
