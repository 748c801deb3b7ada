/- What the statements share: known, within, a number's bytes, programs of numbers. -/
import Derived.Test.YtdbnfafafhdolaaVRun
namespace Go.Proofs.Ytdbnfafafhdolaa
open Go Go.RowKit
set_option linter.unusedVariables false
set_option linter.unusedSimpArgs false

theorem tmod_bd (k n : Int) (hn : 1 ≤ n) : -n < k.tmod n ∧ k.tmod n < n := by
  have h1 := Int.tmod_lt_of_pos k (show 0 < n by omega)
  have h2 := Int.lt_tmod_of_pos k (show 0 < n by omega)
  omega

theorem mod_of_tmod (k n : Int) (hn : 1 ≤ n) : k % n = if k.tmod n < 0 then k.tmod n + n else k.tmod n := by
  have hb := tmod_bd k n hn
  have hd := Int.mul_tdiv_add_tmod k n
  have e : k % n = k.tmod n % n := by
    conv => lhs; rw [← hd]
    rw [Int.add_comm, Int.add_mul_emod_self_left]
  rw [e]
  split
  · rw [← Int.add_emod_right, Int.emod_eq_of_lt (by omega) (by omega)]
  · rw [Int.emod_eq_of_lt (by omega) (by omega)]

set_option maxHeartbeats 400000 in
theorem within_any (k n : Int) (w : World) (h1 : 1 ≤ n) (h2 : n ≤ 1099511627776) :
    Calls Try.prog 18 #[.int .i64 k, .int .i64 n] w fun e w' => e = .returned (.int .i64 (k % n)) ∧ w = w' := by
  have hb := tmod_bd k n h1
  have hm := Lib.hid (mod_of_tmod k n h1)
  by_cases h : k.tmod n < 0
  · go_enter Try.func18, Try.ntmps18
    go_wp2
    go_ret
    exact ⟨ret_i64' (by rw [hm.out, if_pos h]), rfl⟩
  · by_cases hk : 0 ≤ k
    · have hge : 0 ≤ k % n := Int.emod_nonneg _ (by omega)
      have hlt : k % n < n := Int.emod_lt_of_pos _ (by omega)
      go_enter Try.func18, Try.ntmps18
      go_wp2
      go_ret
      exact ⟨rfl, rfl⟩
    · go_enter Try.func18, Try.ntmps18
      go_wp2
      go_ret
      exact ⟨ret_i64' (by rw [hm.out, if_neg (by omega)]), rfl⟩

/-- bytes in a block made just now -/
theorem came_new (w : World) (xs : List Int) (hb : ∀ c ∈ xs, Byte c) (hl : xs.length ≤ 1000) : Came (w.alloc (Obj.cells (bts xs).toArray 5)) (some ⟨w.heap.size, 0, none⟩) xs.length xs.length xs := by
  refine ⟨⟨rfl, fun _ => ⟨_, rfl, fun j v hv => ?_⟩⟩, Nat.le_refl _, by unfold maxLen; omega, (fun h => by cases h), hb⟩
  rw [Addr.add_lit, Nat.zero_add]
  simp only [World.cell?, heap_alloc_new]
  simpa using hv

theorem known_any (w : World) : Calls Try.prog 14 #[] w fun e w' => e = .returned (.bool true) ∧ Below w.heap.size w w' := by
  have hk : Hid (runP [11, 12, 2] 3 4 9 = (7, 4, 0)) := (by decide +kernel : runP [11, 12, 2] 3 4 9 = (7, 4, 0))
  have hc : Hid (Came (w.alloc (Obj.cells #[.int .u8 11, .int .u8 12, .int .u8 2] 5)) (some ⟨w.heap.size, 0, none⟩) 3 3 [11, 12, 2]) := came_new w [11, 12, 2] (by simp [Byte]) (by decide)
  go_enter Try.func14, Try.ntmps14
  go_wp2_with fail
  refine (run_any hc.out 3 4 9 ⟨by decide, by decide⟩ ⟨by decide, by decide⟩ ⟨by decide, by decide⟩).mono ?_
  rintro _ w1 ⟨rfl, hb⟩
  rw [hk.out]
  have HB : Hid (Below w.heap.size w w1) := ((Below.refl _ _).alloc (Nat.le_refl _) _).trans (hb.mono (by simp))
  clear hb hc hk
  go_wp2_with fail
  go_ret
  exact ⟨rfl, HB.out⟩

/-- a byte of a number: p is 256 to the number of those below it -/
def byteAt (k p : Int) : Int := IntKind.u64.wrap k / p % 256
/-- its eight bytes, the highest first -/
def eight (k : Int) : List Int := [byteAt k 72057594037927936, byteAt k 281474976710656, byteAt k 1099511627776, byteAt k 4294967296, byteAt k 16777216, byteAt k 65536, byteAt k 256, byteAt k 1]

theorem byteAt_byte (k p : Int) : Byte (byteAt k p) := by unfold byteAt Byte; omega
theorem eight_byte (k : Int) : ∀ c ∈ eight k, Byte c := by
  intro c hc
  simp only [eight, List.mem_cons, List.not_mem_nil, or_false] at hc
  rcases hc with rfl | rfl | rfl | rfl | rfl | rfl | rfl | rfl <;> exact byteAt_byte _ _

/-- append of one byte that was made just now to what the call owns -/
theorem wpList_app1 {w : World} {ops : Array Oper} {rest : List Oper} {o : Oper} {a : Act} {Q : Exit → Act → World → Prop} (hgd : o.guard = none) (s x : Operand)
    (ho : o.op = .call { callee := .builtin .append, args := #[s, x], argTypes := #[22, 22] })
    (B : Nat) (v : Value) (n : Nat) (xs : List Int) (z : Int) (wb : World) (hs : a.eval s = v) (hown : wb.ownsRow B 5 1 v n (bts xs)) (hw : w = wb.alloc (Obj.cells #[Value.int .u8 z] 5)) (hx : a.eval x = .slice (some ⟨wb.heap.size, 0, none⟩) 1 1)
    (hn : n ≤ 1000000) (hB : B ≤ wb.heap.size)
    (h : ∀ v' w', w'.ownsRow B 5 1 v' (n + 1) (bts (xs ++ [z])) → Below B wb w' → wpList Try.prog ops Q rest (a.put o.dst v') w') : wpList Try.prog ops Q (o :: rest) a w := by
  subst hw
  obtain ⟨i0, hi, hz0, hz1, hz2⟩ := info_parts Try.infoByte
  have hb0 := (Below.refl B wb).alloc hB (Obj.cells #[Value.int .u8 z] 5)
  refine wpList_append_own _ hgd s x 22 ho B 5 i0 (.int .u8 0) 1 1 Try.underlying22 hi hz0 hz1 hz2 rfl (by decide) v n _ hs (hown.alloc _) ⟨wb.heap.size, 0, none⟩ 1 1 (bts [z]) hx rfl (one_new wb z) (bts_one _) (by unfold maxLen; omega) (by omega) (by simp; omega) ?_
  intro v' w' ho' hg' _
  rw [← bts_append] at ho'
  exact h v' w' ho' (hb0.grown hg' (by simp; omega) (fun k hk => (hown.lt k hk).1))

set_option maxRecDepth 100000 in
set_option maxHeartbeats 4000000 in
theorem push_any (B : Nat) (v : Value) (n : Nat) (xs : List Int) (k : Int) (w : World) (hown : w.ownsRow B 5 1 v n (bts xs)) (hB : B ≤ w.heap.size) (hn : n ≤ 1000) :
    Calls Try.prog 23 #[v, .int .i64 k] w fun e w' => ∃ v', e = .returned v' ∧ w'.ownsRow B 5 1 v' (n + 9) (bts (xs ++ 1 :: eight k)) ∧ Below B w w' := by
  have HO := Lib.hid hown
  clear hown
  go_enter Try.func23, Try.ntmps23
  go_wp2_with (at_builtin; go_must (refine wpList_app1 rfl _ _ rfl B v n xs 1 w rfl HO.out rfl rfl (by omega) hB ?_))
  intro v1 w1 ho1 hb1
  have HO1 := Lib.hid ho1
  have HB1 := Lib.hid hb1
  clear ho1 hb1 HO
  go_wp2_with fail
  go_loopw [0, 5] (fun x y X => ∃ i : Nat, i ≤ 8 ∧ y = .int .i64 (7 - (i : Int)) ∧ Hid (X.ownsRow B 5 1 x (n + 1 + i) (bts ((xs ++ [1]) ++ (eight k).take i))) ∧ Hid (Below B w X)) (fun _ y _ => (intOf y + 1).toNat)
  case atStart => exact ⟨0, by omega, rfl, by simpa using HO1, HB1⟩
  case round =>
    clear HO1 HB1
    obtain ⟨i, hi8, rfl, HO, HL⟩ := hrel
    by_cases hlt : i < 8
    · have hii : i = 0 ∨ i = 1 ∨ i = 2 ∨ i = 3 ∨ i = 4 ∨ i = 5 ∨ i = 6 ∨ i = 7 := by omega
      rcases hii with rfl | rfl | rfl | rfl | rfl | rfl | rfl | rfl
      · go_wp2_with (at_builtin; go_must (refine wpList_app1 rfl _ _ rfl B _ (n + 1 + 0) _ (IntKind.u64.wrap k / 72057594037927936 % 256) wr rfl HO.out rfl rfl (by omega) (by have := HL.out.size; omega) ?_))
        intro v2 w2 ho2 hb2
        have HO2 := Lib.hid ho2
        have HL2 := Lib.hid (HL.out.trans hb2)
        clear ho2 hb2
        go_wp2_with fail
        try go_roundw
        case rel => exact ⟨1, by omega, by go_num, by have h := HO2; simpa [eight, byteAt, Nat.add_assoc] using h, HL2⟩
        case measure => simp [intOf]
      · go_wp2_with (at_builtin; go_must (refine wpList_app1 rfl _ _ rfl B _ (n + 1 + 1) _ (IntKind.u64.wrap k / 281474976710656 % 256) wr rfl HO.out rfl rfl (by omega) (by have := HL.out.size; omega) ?_))
        intro v2 w2 ho2 hb2
        have HO2 := Lib.hid ho2
        have HL2 := Lib.hid (HL.out.trans hb2)
        clear ho2 hb2
        go_wp2_with fail
        try go_roundw
        case rel => exact ⟨2, by omega, by go_num, by have h := HO2; simpa [eight, byteAt, Nat.add_assoc] using h, HL2⟩
        case measure => simp [intOf]
      · go_wp2_with (at_builtin; go_must (refine wpList_app1 rfl _ _ rfl B _ (n + 1 + 2) _ (IntKind.u64.wrap k / 1099511627776 % 256) wr rfl HO.out rfl rfl (by omega) (by have := HL.out.size; omega) ?_))
        intro v2 w2 ho2 hb2
        have HO2 := Lib.hid ho2
        have HL2 := Lib.hid (HL.out.trans hb2)
        clear ho2 hb2
        go_wp2_with fail
        try go_roundw
        case rel => exact ⟨3, by omega, by go_num, by have h := HO2; simpa [eight, byteAt, Nat.add_assoc] using h, HL2⟩
        case measure => simp [intOf]
      · go_wp2_with (at_builtin; go_must (refine wpList_app1 rfl _ _ rfl B _ (n + 1 + 3) _ (IntKind.u64.wrap k / 4294967296 % 256) wr rfl HO.out rfl rfl (by omega) (by have := HL.out.size; omega) ?_))
        intro v2 w2 ho2 hb2
        have HO2 := Lib.hid ho2
        have HL2 := Lib.hid (HL.out.trans hb2)
        clear ho2 hb2
        go_wp2_with fail
        try go_roundw
        case rel => exact ⟨4, by omega, by go_num, by have h := HO2; simpa [eight, byteAt, Nat.add_assoc] using h, HL2⟩
        case measure => simp [intOf]
      · go_wp2_with (at_builtin; go_must (refine wpList_app1 rfl _ _ rfl B _ (n + 1 + 4) _ (IntKind.u64.wrap k / 16777216 % 256) wr rfl HO.out rfl rfl (by omega) (by have := HL.out.size; omega) ?_))
        intro v2 w2 ho2 hb2
        have HO2 := Lib.hid ho2
        have HL2 := Lib.hid (HL.out.trans hb2)
        clear ho2 hb2
        go_wp2_with fail
        try go_roundw
        case rel => exact ⟨5, by omega, by go_num, by have h := HO2; simpa [eight, byteAt, Nat.add_assoc] using h, HL2⟩
        case measure => simp [intOf]
      · go_wp2_with (at_builtin; go_must (refine wpList_app1 rfl _ _ rfl B _ (n + 1 + 5) _ (IntKind.u64.wrap k / 65536 % 256) wr rfl HO.out rfl rfl (by omega) (by have := HL.out.size; omega) ?_))
        intro v2 w2 ho2 hb2
        have HO2 := Lib.hid ho2
        have HL2 := Lib.hid (HL.out.trans hb2)
        clear ho2 hb2
        go_wp2_with fail
        try go_roundw
        case rel => exact ⟨6, by omega, by go_num, by have h := HO2; simpa [eight, byteAt, Nat.add_assoc] using h, HL2⟩
        case measure => simp [intOf]
      · go_wp2_with (at_builtin; go_must (refine wpList_app1 rfl _ _ rfl B _ (n + 1 + 6) _ (IntKind.u64.wrap k / 256 % 256) wr rfl HO.out rfl rfl (by omega) (by have := HL.out.size; omega) ?_))
        intro v2 w2 ho2 hb2
        have HO2 := Lib.hid ho2
        have HL2 := Lib.hid (HL.out.trans hb2)
        clear ho2 hb2
        go_wp2_with fail
        try go_roundw
        case rel => exact ⟨7, by omega, by go_num, by have h := HO2; simpa [eight, byteAt, Nat.add_assoc] using h, HL2⟩
        case measure => simp [intOf]
      · go_wp2_with (at_builtin; go_must (refine wpList_app1 rfl _ _ rfl B _ (n + 1 + 7) _ (IntKind.u64.wrap k % 256) wr rfl HO.out rfl rfl (by omega) (by have := HL.out.size; omega) ?_))
        intro v2 w2 ho2 hb2
        have HO2 := Lib.hid ho2
        have HL2 := Lib.hid (HL.out.trans hb2)
        clear ho2 hb2
        go_wp2_with fail
        try go_roundw
        case rel => exact ⟨8, by omega, by go_num, by have h := HO2; simpa [eight, byteAt, Nat.add_assoc] using h, HL2⟩
        case measure => simp [intOf]
    · have hi2 : i = 8 := by omega
      subst hi2
      go_wp2_with fail
      go_ret
      refine ⟨_, rfl, ?_, HL.out⟩
      have h := HO.out
      rw [List.append_assoc] at h
      exact h
end Go.Proofs.Ytdbnfafafhdolaa
