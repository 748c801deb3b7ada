/- Programs of numbers. -/
import Derived.Test.YtdbnfafafhdolaaVLaw
namespace Go.Proofs.Ytdbnfafafhdolaa
open Go Go.RowKit
set_option linter.unusedVariables false
set_option linter.unusedSimpArgs false

/-- what belongs to a number's sign -/
def kOf (x : Int) : Int := x.tdiv 17
def pushK (x : Int) : Int := if 0 < kOf x % 3 then (kOf x).tdiv 3 % 70 - 4 else kOf x
/-- a number's signs -/
def codeOne (x : Int) : List Int := if x % 17 = 1 then 1 :: eight (pushK x) else if x % 17 = 13 then [13, kOf x % 40] else [x % 17]
/-- the signs of numbers, behind others, as long as there is room -/
def codeP : List Int → List Int → List Int
  | b, [] => b
  | b, x :: xs => if b.length < 50 then codeP (b ++ codeOne x) xs else b

theorem one_byte (x : Int) : ∀ c ∈ codeOne x, Byte c := by
  unfold codeOne
  intro c hc
  split at hc
  · rcases List.mem_cons.1 hc with rfl | hc
    · exact ⟨by omega, by omega⟩
    · exact eight_byte _ c hc
  · split at hc
    · simp only [List.mem_cons, List.not_mem_nil, or_false] at hc
      rcases hc with rfl | rfl <;> exact ⟨by omega, by omega⟩
    · simp only [List.mem_cons, List.not_mem_nil, or_false] at hc
      subst hc
      exact ⟨by omega, by omega⟩
theorem one_len (x : Int) : (codeOne x).length ≤ 9 := by
  unfold codeOne
  split
  · simp [eight]
  · split <;> simp
theorem code_next {b ns : List Int} {i : Nat} (hi : i < ns.length) (hb : b.length < 50) : codeP b (ns.drop i) = codeP (b ++ codeOne (ns.getD i 0)) (ns.drop (i + 1)) := by
  rw [List.drop_eq_getElem_cons hi]
  have e : ns.getD i 0 = ns[i] := by simp [List.getD, hi]
  rw [e]
  exact if_pos hb
theorem code_full {b ns : List Int} (hb : ¬ b.length < 50) : codeP b ns = b := by
  cases ns with
  | nil => rfl
  | cons x xs => unfold codeP; rw [if_neg hb]
theorem code_byte : ∀ (ns b : List Int), (∀ c ∈ b, Byte c) → ∀ c ∈ codeP b ns, Byte c := by
  intro ns
  induction ns with
  | nil => intro b hb; exact hb
  | cons x xs ih =>
    intro b hb
    unfold codeP
    split
    · refine ih _ (fun c hc => ?_)
      rcases List.mem_append.1 hc with hc | hc
      · exact hb c hc
      · exact one_byte x c hc
    · exact hb
theorem code_len : ∀ (ns b : List Int), b.length ≤ 58 → (codeP b ns).length ≤ 58 := by
  intro ns
  induction ns with
  | nil => intro b hb; exact hb
  | cons x xs ih =>
    intro b hb
    unfold codeP
    split
    · refine ih _ ?_
      have := one_len x
      rw [List.length_append]
      omega
    · exact hb

theorem tdiv_i64 {x : Int} (h : I64 x) (n : Nat) (hn : 1 < n) : I64 (x.tdiv (n : Int)) := by
  have h1 : (x.tdiv (n : Int)).natAbs = x.natAbs / n := by rw [Int.natAbs_tdiv, Int.natAbs_natCast]; rfl
  have h2 : x.natAbs / n ≤ x.natAbs / 2 := Nat.div_le_div_left hn (by omega)
  unfold I64 at *
  omega

set_option maxRecDepth 100000 in
set_option maxHeartbeats 8000000 in
theorem code_any {a : Option Addr} {n cap : Nat} {ns : List Int} {w : World} (hn : Nums w a n cap ns) :
    Calls Try.prog 15 #[.slice a n cap] w fun e w' => ∃ v, e = .returned v ∧ w'.ownsRow w.heap.size 5 1 v (codeP [] ns).length (bts (codeP [] ns)) ∧ Below w.heap.size w w' := by
  have hle := hn.le
  have hsm := hn.small
  unfold maxLen at hsm
  have HN := Lib.hid hn
  clear hn
  go_enter Try.func15, Try.ntmps15
  go_wp2_with fail
  go_loopw [3, 4] (fun b y X => ∃ (i L : Nat) (xs : List Int), i ≤ n ∧ y = .int .i64 (i : Int) ∧ L ≤ 58 ∧ Hid (xs.length = L) ∧ Hid (∀ c ∈ xs, Byte c) ∧ Hid (codeP xs (ns.drop i) = codeP [] ns) ∧ Hid (X.ownsRow w.heap.size 5 1 b L (bts xs)) ∧ Hid (Below w.heap.size w X)) (fun _ y _ => ((n : Int) - intOf y).toNat)
  case atStart => exact ⟨0, 0, [], by omega, rfl, by omega, rfl, (by simp : ∀ c ∈ ([] : List Int), Byte c), rfl, World.ownsRow_nil _ _ _ _, Below.refl _ _⟩
  case round =>
    obtain ⟨i, L, xs, hi, rfl, hx58, HL1, HBY, HEQ, HO, HB⟩ := hrel
    obtain ⟨ba, bc, rfl⟩ := own_slice HO.out
    by_cases hgo : i < n ∧ L < 50
    · obtain ⟨hin, hL50⟩ := hgo
      have hL50' : (L : Int) < 50 := by omega
      obtain ⟨ad, rfl, hcell0⟩ := HN.out.cell i hin
      have hcell2 : ∀ X, Below w.heap.size w X → X.cell? (ad.add i) = some (.int .i64 (ns.getD i 0)) := fun X hX => by rw [hX.cell (World.block_lt_of_cell? w _ hcell0)]; exact hcell0
      have hcell := hcell2 wr HB.out
      have hx := HN.out.at i hin
      have HNX0 : Hid (codeP (xs ++ codeOne (ns.getD i 0)) (ns.drop (i + 1)) = codeP [] ns) := by rw [← code_next (by rw [HN.out.sz]; exact hin) (by rw [HL1.out]; exact hL50)]; exact HEQ.out
      obtain ⟨x, hxe⟩ : ∃ x, x = ns.getD i 0 := ⟨_, rfl⟩
      rw [← hxe] at hcell hcell2 hx HNX0
      have HCELL := Lib.hid hcell2
      have HNX := HNX0
      clear HNX0 hxe HEQ hcell0 hcell2
      have HBY1 : Hid (∀ c ∈ xs ++ codeOne x, Byte c) := fun c hc => (List.mem_append.1 hc).elim (HBY.out c) (one_byte x c)
      have hq := tdiv_i64 hx 17 (by omega)
      have hq2 := tdiv_i64 hq 3 (by omega)
      simp only [Int.cast_ofNat_Int] at hq hq2
      have hx1 := hx.1
      have hx2 := hx.2
      have hq1 := hq.1
      have hq3 := hq.2
      have hq4 := hq2.1
      have hq5 := hq2.2
      have hs0 : 0 ≤ x % 17 := by omega
      have hs1 : x % 17 < 17 := by omega
      obtain ⟨s, hs⟩ : ∃ s, s = x % 17 := ⟨_, rfl⟩
      have hw1 := fun w => within_any x 17 w (by omega) (by omega)
      rw [← hs] at hs0 hs1 hw1
      have HW1 := Lib.hid hw1
      have HS := Lib.hid hs
      clear hw1 hs hx hq hq2
      go_wp2_with fail
      refine (HW1.out _).mono ?_
      rintro _ _ ⟨rfl, rfl⟩
      go_wp2_with (at_builtin; go_must (refine wpList_app1 rfl _ _ rfl w.heap.size _ L xs s wr rfl HO.out rfl rfl (by omega) HB.out.size ?_))
      intro v1 w1 ho1 hb1
      have HO1 := Lib.hid ho1
      have HB1 := Lib.hid (HB.out.trans hb1)
      have hcell1 := HCELL.out w1 HB1.out
      clear ho1 hb1 hcell HO HB
      by_cases h1 : s = 1
      · subst h1
        go_wp2_with fail
        generalize hqd : x.tdiv 17 = q at *
        refine (within_any q 3 w1 (by omega) (by omega)).mono ?_
        rintro _ _ ⟨rfl, rfl⟩
        have hr0 : 0 ≤ q % 3 := by omega
        have hr1 : q % 3 < 3 := by omega
        generalize hrd : q % 3 = r at *
        by_cases hr : 0 < r
        · go_wp2_with fail
          generalize hq3 : q.tdiv 3 = q3 at *
          refine (within_any q3 70 w1 (by omega) (by omega)).mono ?_
          rintro _ _ ⟨rfl, rfl⟩
          have ht0 : 0 ≤ q3 % 70 := by omega
          have ht1 : q3 % 70 < 70 := by omega
          have HONE : Hid (codeOne x = 1 :: eight (q3 % 70 - 4)) := by
            unfold codeOne pushK kOf
            rw [if_pos HS.out.symm, hqd, hrd, if_pos hr, hq3]
            exact Lib.hid rfl
          clear hq3 hrd hqd
          generalize htd : q3 % 70 = t at *
          clear htd
          go_wp2_with fail
          go_loopw [3, 7] (fun b y X => ∃ j : Nat, j ≤ 8 ∧ y = .int .i64 (7 - (j : Int)) ∧ Hid (X.ownsRow w.heap.size 5 1 b (L + 1 + j) (bts ((xs ++ [1]) ++ (eight (t - 4)).take j))) ∧ Hid (Below w.heap.size w X)) (fun _ y _ => (intOf y + 1).toNat)
          case atStart => exact ⟨0, by omega, rfl, by simpa using HO1, HB1⟩
          case round =>
            clear HO1 HB1
            obtain ⟨j, hj8, rfl, HO1, HB1⟩ := hrel
            by_cases hlt8 : j < 8
            · have hjj : j = 0 ∨ j = 1 ∨ j = 2 ∨ j = 3 ∨ j = 4 ∨ j = 5 ∨ j = 6 ∨ j = 7 := by omega
              rcases hjj with rfl | rfl | rfl | rfl | rfl | rfl | rfl | rfl
              · go_wp2_with (at_builtin; go_must (refine wpList_app1 rfl _ _ rfl w.heap.size _ (L + 1 + 0) _ (IntKind.u64.wrap (t - 4) / 72057594037927936 % 256) wr rfl HO1.out rfl rfl (by omega) HB1.out.size ?_))
                intro v2 w2 ho2 hb2
                have HO2 := Lib.hid ho2
                have HB2 := Lib.hid (HB1.out.trans hb2)
                clear ho2 hb2
                go_wp2_with fail
                try go_roundw
                case rel => exact ⟨1, by omega, by go_num, by have h := HO2; simpa [eight, byteAt, Nat.add_assoc] using h, HB2⟩
                case measure => simp [intOf]
              · go_wp2_with (at_builtin; go_must (refine wpList_app1 rfl _ _ rfl w.heap.size _ (L + 1 + 1) _ (IntKind.u64.wrap (t - 4) / 281474976710656 % 256) wr rfl HO1.out rfl rfl (by omega) HB1.out.size ?_))
                intro v2 w2 ho2 hb2
                have HO2 := Lib.hid ho2
                have HB2 := Lib.hid (HB1.out.trans hb2)
                clear ho2 hb2
                go_wp2_with fail
                try go_roundw
                case rel => exact ⟨2, by omega, by go_num, by have h := HO2; simpa [eight, byteAt, Nat.add_assoc] using h, HB2⟩
                case measure => simp [intOf]
              · go_wp2_with (at_builtin; go_must (refine wpList_app1 rfl _ _ rfl w.heap.size _ (L + 1 + 2) _ (IntKind.u64.wrap (t - 4) / 1099511627776 % 256) wr rfl HO1.out rfl rfl (by omega) HB1.out.size ?_))
                intro v2 w2 ho2 hb2
                have HO2 := Lib.hid ho2
                have HB2 := Lib.hid (HB1.out.trans hb2)
                clear ho2 hb2
                go_wp2_with fail
                try go_roundw
                case rel => exact ⟨3, by omega, by go_num, by have h := HO2; simpa [eight, byteAt, Nat.add_assoc] using h, HB2⟩
                case measure => simp [intOf]
              · go_wp2_with (at_builtin; go_must (refine wpList_app1 rfl _ _ rfl w.heap.size _ (L + 1 + 3) _ (IntKind.u64.wrap (t - 4) / 4294967296 % 256) wr rfl HO1.out rfl rfl (by omega) HB1.out.size ?_))
                intro v2 w2 ho2 hb2
                have HO2 := Lib.hid ho2
                have HB2 := Lib.hid (HB1.out.trans hb2)
                clear ho2 hb2
                go_wp2_with fail
                try go_roundw
                case rel => exact ⟨4, by omega, by go_num, by have h := HO2; simpa [eight, byteAt, Nat.add_assoc] using h, HB2⟩
                case measure => simp [intOf]
              · go_wp2_with (at_builtin; go_must (refine wpList_app1 rfl _ _ rfl w.heap.size _ (L + 1 + 4) _ (IntKind.u64.wrap (t - 4) / 16777216 % 256) wr rfl HO1.out rfl rfl (by omega) HB1.out.size ?_))
                intro v2 w2 ho2 hb2
                have HO2 := Lib.hid ho2
                have HB2 := Lib.hid (HB1.out.trans hb2)
                clear ho2 hb2
                go_wp2_with fail
                try go_roundw
                case rel => exact ⟨5, by omega, by go_num, by have h := HO2; simpa [eight, byteAt, Nat.add_assoc] using h, HB2⟩
                case measure => simp [intOf]
              · go_wp2_with (at_builtin; go_must (refine wpList_app1 rfl _ _ rfl w.heap.size _ (L + 1 + 5) _ (IntKind.u64.wrap (t - 4) / 65536 % 256) wr rfl HO1.out rfl rfl (by omega) HB1.out.size ?_))
                intro v2 w2 ho2 hb2
                have HO2 := Lib.hid ho2
                have HB2 := Lib.hid (HB1.out.trans hb2)
                clear ho2 hb2
                go_wp2_with fail
                try go_roundw
                case rel => exact ⟨6, by omega, by go_num, by have h := HO2; simpa [eight, byteAt, Nat.add_assoc] using h, HB2⟩
                case measure => simp [intOf]
              · go_wp2_with (at_builtin; go_must (refine wpList_app1 rfl _ _ rfl w.heap.size _ (L + 1 + 6) _ (IntKind.u64.wrap (t - 4) / 256 % 256) wr rfl HO1.out rfl rfl (by omega) HB1.out.size ?_))
                intro v2 w2 ho2 hb2
                have HO2 := Lib.hid ho2
                have HB2 := Lib.hid (HB1.out.trans hb2)
                clear ho2 hb2
                go_wp2_with fail
                try go_roundw
                case rel => exact ⟨7, by omega, by go_num, by have h := HO2; simpa [eight, byteAt, Nat.add_assoc] using h, HB2⟩
                case measure => simp [intOf]
              · go_wp2_with (at_builtin; go_must (refine wpList_app1 rfl _ _ rfl w.heap.size _ (L + 1 + 7) _ (IntKind.u64.wrap (t - 4) % 256) wr rfl HO1.out rfl rfl (by omega) HB1.out.size ?_))
                intro v2 w2 ho2 hb2
                have HO2 := Lib.hid ho2
                have HB2 := Lib.hid (HB1.out.trans hb2)
                clear ho2 hb2
                go_wp2_with fail
                try go_roundw
                case rel => exact ⟨8, by omega, by go_num, by have h := HO2; simpa [eight, byteAt, Nat.add_assoc] using h, HB2⟩
                case measure => simp [intOf]
            · have hj9 : j = 8 := by omega
              subst hj9
              go_wp2_with fail
              try go_roundw
              case rel => exact ⟨i + 1, L + 9, xs ++ codeOne x, by omega, by go_num, by omega, (by rw [HONE.out, List.length_append, HL1.out]; rfl : (xs ++ codeOne x).length = L + 9), HBY1, HNX, by rw [HONE.out]; have h := HO1; simpa [eight, Nat.add_assoc] using h, HB1⟩
              case measure => simp [intOf]; omega
        · have HONE : Hid (codeOne x = 1 :: eight q) := by
            unfold codeOne pushK kOf
            rw [if_pos HS.out.symm, hqd, hrd, if_neg hr]
            exact Lib.hid rfl
          clear hrd hqd
          go_wp2_with fail
          go_loopw [3, 7] (fun b y X => ∃ j : Nat, j ≤ 8 ∧ y = .int .i64 (7 - (j : Int)) ∧ Hid (X.ownsRow w.heap.size 5 1 b (L + 1 + j) (bts ((xs ++ [1]) ++ (eight q).take j))) ∧ Hid (Below w.heap.size w X)) (fun _ y _ => (intOf y + 1).toNat)
          case atStart => exact ⟨0, by omega, rfl, by simpa using HO1, HB1⟩
          case round =>
            clear HO1 HB1
            obtain ⟨j, hj8, rfl, HO1, HB1⟩ := hrel
            by_cases hlt8 : j < 8
            · have hjj : j = 0 ∨ j = 1 ∨ j = 2 ∨ j = 3 ∨ j = 4 ∨ j = 5 ∨ j = 6 ∨ j = 7 := by omega
              rcases hjj with rfl | rfl | rfl | rfl | rfl | rfl | rfl | rfl
              · go_wp2_with (at_builtin; go_must (refine wpList_app1 rfl _ _ rfl w.heap.size _ (L + 1 + 0) _ (IntKind.u64.wrap q / 72057594037927936 % 256) wr rfl HO1.out rfl rfl (by omega) HB1.out.size ?_))
                intro v2 w2 ho2 hb2
                have HO2 := Lib.hid ho2
                have HB2 := Lib.hid (HB1.out.trans hb2)
                clear ho2 hb2
                go_wp2_with fail
                try go_roundw
                case rel => exact ⟨1, by omega, by go_num, by have h := HO2; simpa [eight, byteAt, Nat.add_assoc] using h, HB2⟩
                case measure => simp [intOf]
              · go_wp2_with (at_builtin; go_must (refine wpList_app1 rfl _ _ rfl w.heap.size _ (L + 1 + 1) _ (IntKind.u64.wrap q / 281474976710656 % 256) wr rfl HO1.out rfl rfl (by omega) HB1.out.size ?_))
                intro v2 w2 ho2 hb2
                have HO2 := Lib.hid ho2
                have HB2 := Lib.hid (HB1.out.trans hb2)
                clear ho2 hb2
                go_wp2_with fail
                try go_roundw
                case rel => exact ⟨2, by omega, by go_num, by have h := HO2; simpa [eight, byteAt, Nat.add_assoc] using h, HB2⟩
                case measure => simp [intOf]
              · go_wp2_with (at_builtin; go_must (refine wpList_app1 rfl _ _ rfl w.heap.size _ (L + 1 + 2) _ (IntKind.u64.wrap q / 1099511627776 % 256) wr rfl HO1.out rfl rfl (by omega) HB1.out.size ?_))
                intro v2 w2 ho2 hb2
                have HO2 := Lib.hid ho2
                have HB2 := Lib.hid (HB1.out.trans hb2)
                clear ho2 hb2
                go_wp2_with fail
                try go_roundw
                case rel => exact ⟨3, by omega, by go_num, by have h := HO2; simpa [eight, byteAt, Nat.add_assoc] using h, HB2⟩
                case measure => simp [intOf]
              · go_wp2_with (at_builtin; go_must (refine wpList_app1 rfl _ _ rfl w.heap.size _ (L + 1 + 3) _ (IntKind.u64.wrap q / 4294967296 % 256) wr rfl HO1.out rfl rfl (by omega) HB1.out.size ?_))
                intro v2 w2 ho2 hb2
                have HO2 := Lib.hid ho2
                have HB2 := Lib.hid (HB1.out.trans hb2)
                clear ho2 hb2
                go_wp2_with fail
                try go_roundw
                case rel => exact ⟨4, by omega, by go_num, by have h := HO2; simpa [eight, byteAt, Nat.add_assoc] using h, HB2⟩
                case measure => simp [intOf]
              · go_wp2_with (at_builtin; go_must (refine wpList_app1 rfl _ _ rfl w.heap.size _ (L + 1 + 4) _ (IntKind.u64.wrap q / 16777216 % 256) wr rfl HO1.out rfl rfl (by omega) HB1.out.size ?_))
                intro v2 w2 ho2 hb2
                have HO2 := Lib.hid ho2
                have HB2 := Lib.hid (HB1.out.trans hb2)
                clear ho2 hb2
                go_wp2_with fail
                try go_roundw
                case rel => exact ⟨5, by omega, by go_num, by have h := HO2; simpa [eight, byteAt, Nat.add_assoc] using h, HB2⟩
                case measure => simp [intOf]
              · go_wp2_with (at_builtin; go_must (refine wpList_app1 rfl _ _ rfl w.heap.size _ (L + 1 + 5) _ (IntKind.u64.wrap q / 65536 % 256) wr rfl HO1.out rfl rfl (by omega) HB1.out.size ?_))
                intro v2 w2 ho2 hb2
                have HO2 := Lib.hid ho2
                have HB2 := Lib.hid (HB1.out.trans hb2)
                clear ho2 hb2
                go_wp2_with fail
                try go_roundw
                case rel => exact ⟨6, by omega, by go_num, by have h := HO2; simpa [eight, byteAt, Nat.add_assoc] using h, HB2⟩
                case measure => simp [intOf]
              · go_wp2_with (at_builtin; go_must (refine wpList_app1 rfl _ _ rfl w.heap.size _ (L + 1 + 6) _ (IntKind.u64.wrap q / 256 % 256) wr rfl HO1.out rfl rfl (by omega) HB1.out.size ?_))
                intro v2 w2 ho2 hb2
                have HO2 := Lib.hid ho2
                have HB2 := Lib.hid (HB1.out.trans hb2)
                clear ho2 hb2
                go_wp2_with fail
                try go_roundw
                case rel => exact ⟨7, by omega, by go_num, by have h := HO2; simpa [eight, byteAt, Nat.add_assoc] using h, HB2⟩
                case measure => simp [intOf]
              · go_wp2_with (at_builtin; go_must (refine wpList_app1 rfl _ _ rfl w.heap.size _ (L + 1 + 7) _ (IntKind.u64.wrap q % 256) wr rfl HO1.out rfl rfl (by omega) HB1.out.size ?_))
                intro v2 w2 ho2 hb2
                have HO2 := Lib.hid ho2
                have HB2 := Lib.hid (HB1.out.trans hb2)
                clear ho2 hb2
                go_wp2_with fail
                try go_roundw
                case rel => exact ⟨8, by omega, by go_num, by have h := HO2; simpa [eight, byteAt, Nat.add_assoc] using h, HB2⟩
                case measure => simp [intOf]
            · have hj9 : j = 8 := by omega
              subst hj9
              go_wp2_with fail
              try go_roundw
              case rel => exact ⟨i + 1, L + 9, xs ++ codeOne x, by omega, by go_num, by omega, (by rw [HONE.out, List.length_append, HL1.out]; rfl : (xs ++ codeOne x).length = L + 9), HBY1, HNX, by rw [HONE.out]; have h := HO1; simpa [eight, Nat.add_assoc] using h, HB1⟩
              case measure => simp [intOf]; omega
      · by_cases h13 : s = 13
        · subst h13
          go_wp2_with fail
          generalize hqd : x.tdiv 17 = q at *
          refine (within_any q 40 w1 (by omega) (by omega)).mono ?_
          rintro _ _ ⟨rfl, rfl⟩
          have hr0 : 0 ≤ q % 40 := by omega
          have hr1 : q % 40 < 40 := by omega
          have HONE : Hid (codeOne x = [13, q % 40]) := by
            unfold codeOne kOf
            rw [if_neg (by rw [← HS.out]; omega), if_pos HS.out.symm, hqd]
            exact Lib.hid rfl
          clear hqd
          generalize hrd : q % 40 = r at *
          clear hrd
          go_wp2_with (at_builtin; go_must (refine wpList_app1 rfl _ _ rfl w.heap.size _ (L + 1) _ r w1 rfl HO1.out rfl rfl (by omega) HB1.out.size ?_))
          intro v2 w2 ho2 hb2
          have HO2 := Lib.hid ho2
          have HB2 := Lib.hid (HB1.out.trans hb2)
          clear ho2 hb2
          go_wp2_with fail
          try go_roundw
          case rel => exact ⟨i + 1, L + 2, xs ++ codeOne x, by omega, by go_num, by omega, (by rw [HONE.out, List.length_append, HL1.out]; rfl : (xs ++ codeOne x).length = L + 2), HBY1, HNX, by rw [HONE.out]; have h := HO2; simpa [Nat.add_assoc] using h, HB2⟩
          case measure => simp [intOf]; omega
        · have HONE : Hid (codeOne x = [s]) := by
            unfold codeOne
            rw [if_neg (by rw [← HS.out]; exact h1), if_neg (by rw [← HS.out]; exact h13), HS.out]
            exact Lib.hid rfl
          go_wp2_with fail
          try go_roundw
          case rel => exact ⟨i + 1, L + 1, xs ++ codeOne x, by omega, by go_num, by omega, (by rw [HONE.out, List.length_append, HL1.out]; rfl : (xs ++ codeOne x).length = L + 1), HBY1, HNX, by rw [HONE.out]; exact HO1, HB1⟩
          case measure => simp [intOf]; omega
    · by_cases hin : i < n
      · have hL50 : ¬ L < 50 := fun h => hgo ⟨hin, h⟩
        have hL51 : ¬ ((L : Int) < 50) := by omega
        have e : codeP [] ns = xs := by rw [← HEQ.out]; exact code_full (by rw [HL1.out]; exact hL50)
        have HE := Lib.hid e
        clear e
        go_wp2_with fail
        go_ret
        refine ⟨_, rfl, ?_, HB.out⟩
        rw [HE.out, HL1.out]
        exact HO.out
      · have hin2 : i = n := by omega
        have e : codeP [] ns = xs := by rw [← HEQ.out, List.drop_eq_nil_of_le (by rw [HN.out.sz]; omega)]; rfl
        have HE := Lib.hid e
        clear e
        subst hin2
        go_wp2_with fail
        go_ret
        refine ⟨_, rfl, ?_, HB.out⟩
        rw [HE.out, HL1.out]
        exact HO.out
end Go.Proofs.Ytdbnfafafhdolaa
