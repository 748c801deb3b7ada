/- The document's Step: some signs. -/
import Derived.Test.YtdbnfafafhdolaaRSB
namespace Go.Proofs.Ytdbnfafafhdolaa
open Go Go.RowKit
set_option linter.unusedVariables false
set_option linter.unusedSimpArgs false

set_option maxRecDepth 100000 in
set_option maxHeartbeats 4000000 in
theorem rstep_3 {c : List Int} {arg data : Int} {pc : Nat} {stk : List Int} {G : Int} {a b : Int} {ca sa : Option Addr} {n D cc sc : Nat} {w : World} (hn : n = c.length) (hd : (D + 2) = stk.length) (hc : Came w ca n cc c) (hs : Nums w sa (D + 2) sc stk) (hnil : sa = none → (D + 2) = 0 ∧ sc = 0) (hF : Fit c arg data ⟨pc, stk, G, false, 0⟩) (hG : 1 ≤ G) (hlt : pc < n) (hsg : c.getD pc 0 = 3) (hroom : (D + 2) - 2 + 1 ≤ 16) (hva : stk.getD D 0 = a) (hvb : stk.getD (D + 1) 0 = b) :
    Calls Try.prog 20 #[.agg (mcl (.slice ca n cc) (.slice sa (D + 2) sc) arg data ⟨pc, stk, G, false, 0⟩)] w (RPost w n c arg data (stepP c arg data ⟨pc, stk, G, false, 0⟩)) := by
  have HC := Lib.hid hc
  have HS := Lib.hid hs
  have HF := Lib.hid hF
  have HN := Lib.hid hn
  have HD := Lib.hid hd
  have hlen : n ≤ 100 := by have := hF.len; omega
  have hstk : (D + 2) ≤ 16 := by have := hF.stk; have h2 : (D + 2) = stk.length := hd; show (D + 2) ≤ 16; have h3 : stk.length ≤ 16 := this; omega
  have hpn : pc ≤ n := by have h3 : pc ≤ c.length := hF.pc; omega
  have hg200 : G ≤ 200 := hF.gas.2
  clear hc hs hF hn hd
  have hlt' : (pc : Int) < (n : Int) := by omega
  have hne' : ((pc : Int) == (n : Int)) = false := by simp; omega
  have HSG := Lib.hid hsg
  clear hsg
  have hneeds : ∀ w, Calls Try.prog 31 #[.int .u8 3] w fun e w' => e = .returned (.int .i64 2) ∧ w = w' := fun w => needs_any 3 w ⟨by decide, by decide⟩
  have hputs : ∀ w, Calls Try.prog 32 #[.int .u8 3] w fun e w' => e = .returned (.int .i64 1) ∧ w = w' := fun w => puts_any 3 w ⟨by decide, by decide⟩
  have HVA := Lib.hid hva
  have HVB := Lib.hid hvb
  clear hva hvb
  have ib : I64 b := by rw [← HVB.out]; exact getD_i64 HF.out.nums _
  have ia : I64 a := by rw [← HVA.out]; exact getD_i64 HF.out.nums _
  have ib1 := ib.1
  have ib2 := ib.2
  have ia1 := ia.1
  have ia2 := ia.2
  obtain ⟨r, hr⟩ : ∃ r, r = (pairP 3 a b).1 := ⟨_, rfl⟩
  obtain ⟨e, he⟩ : ∃ e, e = (pairP 3 a b).2 := ⟨_, rfl⟩
  have htwo : ∀ w, Calls Try.prog 33 #[.int .u8 3, .int .i64 a, .int .i64 b] w fun x w' => x = .returned (.tuple #[.int .i64 r, .int .i64 e]) ∧ ∃ k, w' = w.drewN k := fun w => by rw [hr, he]; exact two_any 3 a b w ia ib ⟨by decide, by decide⟩
  have HR := Lib.hid hr
  have HE := Lib.hid he
  clear hr he
  obtain ⟨i0, hi, hz0, hz1, hz2⟩ := info_parts Try.infoByte
  go_enter Try.func20, Try.ntmps20
  go_upto_region 1 with (fail)
  have hbg := Bgn.start w (mcl (.slice ca n cc) (.slice sa (D + 2) sc) arg data ⟨pc, stk, G, false, 0⟩)
  have HBG := Lib.hid hbg
  clear hbg
  generalize hX0 : (w.alloc _).alloc _ = X0
  have G00 : Hid (Bgn w (mcl (.slice ca n cc) (.slice sa (D + 2) sc) arg data ⟨pc, stk, G, false, 0⟩) X0) := by rw [← hX0]; exact HBG
  clear HBG hX0
  go_cut [] from 12 to 22 (fun wx => ∃ a1 k1 a2 k2, Hid (One w n (D + 2) c stk (mcl (.slice a1 n k1) (.slice a2 (D + 2) k2) arg data ⟨pc, stk, G, false, 0⟩) (.slice a1 n k1) (.slice a2 (D + 2) k2) wx))
  case first =>
    refine anyS_start (by kernel_rfl) ?_
    have G0 := Lib.hid (G00.out.later (Below.refl _ _).drew)
    clear G00
    generalize World.drew X0 = V0 at *
    have hcs0 : Hid (TwoAt w.heap.size (.slice ca n cc) (.slice sa (D + 2) sc) V0) := ⟨mcl_cell G0.out.r1 rfl, mcl_cell G0.out.r1 rfl⟩
    (refine anyS_free (i := 1) (v := ?_) rfl (by kernel_rfl) (by kernel_rfl) (by kernel_rfl) (fun _ _ _ h => h) (fun _ => by simp) (Or.inl ⟨by rfl, fun w' _ => ?_⟩) ?_; rotate_left; (· go_simp; try with_reducible rfl))
    try simp only [Act.put, List.setIfInBounds_toArray, List.set_cons_zero, List.set_cons_succ]
    (refine anyS_free (i := 5) (v := ?_) rfl (by kernel_rfl) (by kernel_rfl) (by kernel_rfl) (fun _ _ _ h => h) (fun _ => by simp) (Or.inl ⟨by rfl, fun w' _ => ?_⟩) ?_; rotate_left; (· go_simp; try with_reducible rfl))
    try simp only [Act.put, List.setIfInBounds_toArray, List.set_cons_zero, List.set_cons_succ]
    (refine anyS_takeNew (i := 6) (v := .slice sa (D + 2) sc) (fun w' => TwoAt w.heap.size (.slice ca n cc) (.slice sa (D + 2) sc) w') [0, 2, 3, 4] hcs0.out rfl (by kernel_rfl) (by kernel_rfl) (by kernel_rfl) (by kernel_rfl) (fun _ _ _ h => h) (fun _ hcs => by repeat' (first | exact trivial | exact fun _ => hcs | refine ⟨?_, ?_⟩)) (Or.inl ⟨by rfl, fun w' hw' => ?_⟩) ?_; (· have c0 := hw'.l; have c4 := hw'.r; go_simp))
    try simp only [Act.put, List.setIfInBounds_toArray, List.set_cons_zero, List.set_cons_succ]
    (refine anyS_takeNew (i := 2) (v := .slice ca n cc) (fun w' => TwoAt w.heap.size (.slice ca n cc) (.slice sa (D + 2) sc) w') [0, 4] hcs0.out rfl (by kernel_rfl) (by kernel_rfl) (by kernel_rfl) (by kernel_rfl) (fun _ _ _ h => h) (fun _ hcs => by repeat' (first | exact trivial | exact fun _ => hcs | refine ⟨?_, ?_⟩)) (Or.inl ⟨by rfl, fun w' hw' => ?_⟩) ?_; (· have c0 := hw'.l; have c4 := hw'.r; go_simp))
    try simp only [Act.put, List.setIfInBounds_toArray, List.set_cons_zero, List.set_cons_succ]
    clear hcs0
    refine anyS_two 0 4 (by kernel_rfl) rfl rfl (fun K' hK' => ?_) (fun K' hK' => ?_)
    · go_simp
      have M12_1 := Lib.hid (World.ownsRow_made (base := w.heap.size + 2) (e := 5) (size := 1) V0 #[] 0 G0.out.s (by unfold maxLen; omega) rfl)
      have hbs : Hid (Below (w.heap.size + 2) V0 (V0.alloc (.cells #[] 5))) := (Below.refl _ _).alloc G0.out.s _
      have hbl : Hid (Below V0.heap.size V0 (V0.alloc (.cells #[] 5))) := (Below.refl _ _).alloc (Nat.le_refl _) _
      have G1 := Lib.hid (G0.out.later hbs.out)
      obtain ⟨V1, hV1⟩ : ∃ X, X = V0.alloc (.cells #[] 5) := ⟨_, rfl⟩
      rw [← hV1] at M12_1 G1 ⊢
      clear hbs hbl hV1
      have hcs : TwoAt w.heap.size (.slice ca n cc) (.slice sa (D + 2) sc) V1 := ⟨mcl_cell G1.out.r1 rfl, mcl_cell G1.out.r1 rfl⟩
      refine hK'.out _ _ (by repeat' (first | exact trivial | exact fun _ => hcs | refine ⟨?_, ?_⟩)) ?_
      clear hK' K' hcs
      try simp only [Act.put, List.setIfInBounds_toArray, List.set_cons_zero, List.set_cons_succ]
      refine anyS_two 3 4 (by kernel_rfl) rfl rfl (fun K' hK' => ?_) (fun K' hK' => ?_)
      · refine step_append_opt rfl (.tmp 12) (.tmp 14) 22 rfl (w.heap.size + 2) 5 i0 Try.underlying22 hi hz0 hz1 hz2 _ 0 [] rfl M12_1.out ca n cc c rfl (HC.out.below G1.out.b).reads (HC.out.below G1.out.b).nil (by omega) G1.out.s ?_
        intro v15 V2 ho hg
        rw [Nat.zero_add, List.nil_append] at ho
        have hbs : Hid (Below (w.heap.size + 2) V1 V2) := (Below.refl _ _).grown hg G1.out.s (fun k hk => (M12_1.out.lt k hk).1)
        have G2 := Lib.hid (G1.out.later hbs.out)
        obtain ⟨a15, k15, rfl⟩ := own_slice ho
        have M15_2 := Lib.hid ho
        clear ho hg hbs
        have hcs : TwoAt w.heap.size (.slice ca n cc) (.slice sa (D + 2) sc) V2 := ⟨mcl_cell G2.out.r1 rfl, mcl_cell G2.out.r1 rfl⟩
        refine hK'.out _ _ (by repeat' (first | exact trivial | exact fun _ => hcs | refine ⟨?_, ?_⟩)) ?_
        clear hK' K' hcs
        try simp only [Act.put, List.setIfInBounds_toArray, List.set_cons_zero, List.set_cons_succ]
        (refine anyS_free (i := 8) (v := ?_) rfl (by kernel_rfl) (by kernel_rfl) (by kernel_rfl) (fun _ _ _ h => h) (fun _ => by simp) (Or.inl ⟨by rfl, fun w' _ => ?_⟩) ?_; rotate_left; (· go_simp; try with_reducible rfl))
        try simp only [Act.put, List.setIfInBounds_toArray, List.set_cons_zero, List.set_cons_succ]
        refine anyS_one 4 (by kernel_rfl) rfl (fun K' hK' => ?_)
        go_simp
        have M16_3 := Lib.hid (World.ownsRow_made (base := w.heap.size + 2) (e := 3) (size := 1) V2 #[] 0 G2.out.s (by unfold maxLen; omega) rfl)
        have hbs : Hid (Below (w.heap.size + 2) V2 (V2.alloc (.cells #[] 3))) := (Below.refl _ _).alloc G2.out.s _
        have hbl : Hid (Below V2.heap.size V2 (V2.alloc (.cells #[] 3))) := (Below.refl _ _).alloc (Nat.le_refl _) _
        have G3 := Lib.hid (G2.out.later hbs.out)
        have M15_3 := Lib.hid (own_later M15_2.out hbl.out)
        obtain ⟨V3, hV3⟩ : ∃ X, X = V2.alloc (.cells #[] 3) := ⟨_, rfl⟩
        rw [← hV3] at M16_3 G3 M15_3 ⊢
        clear hbs hbl hV3
        have hcs : TwoAt w.heap.size (.slice ca n cc) (.slice sa (D + 2) sc) V3 := ⟨mcl_cell G3.out.r1 rfl, mcl_cell G3.out.r1 rfl⟩
        refine hK'.out _ _ (by repeat' (first | exact trivial | exact fun _ => hcs | refine ⟨?_, ?_⟩)) ?_
        clear hK' K' hcs
        try simp only [Act.put, List.setIfInBounds_toArray, List.set_cons_zero, List.set_cons_succ]
        refine anyS_one 7 (by kernel_rfl) rfl (fun K' hK' => ?_)
        refine step_nums_opt rfl (.tmp 16) (.tmp 18) rfl (w.heap.size + 2) _ 0 [] rfl M16_3.out sa (D + 2) sc stk rfl (HS.out.below G3.out.b) hnil (by omega) G3.out.s ?_
        intro v19 V4 ho hg
        rw [Nat.zero_add, List.nil_append] at ho
        have hbs : Hid (Below (w.heap.size + 2) V3 V4) := (Below.refl _ _).grown hg G3.out.s (fun k hk => (M16_3.out.lt k hk).1)
        have G4 := Lib.hid (G3.out.later hbs.out)
        have M15_4 := Lib.hid (M15_3.out.kept hg (own_apart M15_3.out M16_3.out (by decide)))
        obtain ⟨a19, k19, rfl⟩ := own_slice ho
        have M19_4 := Lib.hid ho
        clear ho hg hbs
        have hcs : TwoAt w.heap.size (.slice ca n cc) (.slice sa (D + 2) sc) V4 := ⟨mcl_cell G4.out.r1 rfl, mcl_cell G4.out.r1 rfl⟩
        refine hK'.out _ _ (by repeat' (first | exact trivial | exact fun _ => hcs | refine ⟨?_, ?_⟩)) ?_
        clear hK' K' hcs
        try simp only [Act.put, List.setIfInBounds_toArray, List.set_cons_zero, List.set_cons_succ]
        have h1 := only_setCell V4 w.heap.size 0 _ _ (.slice a15 n k15) G4.out.r1
        have h2 := only_setCell _ w.heap.size 4 _ _ (.slice a19 (D + 2) k19) h1.2
        have c0' := mcl_cell (k := 0) G4.out.r1 rfl
        have f0' : V4.frozen? ⟨w.heap.size, 0, none⟩ = false := by simp [World.frozen?, G4.out.r1]
        have c4' : (V4.setCell ⟨w.heap.size, 0, none⟩ (.slice a15 n k15)).cell? ⟨w.heap.size, 4, none⟩ = some (.slice sa (D + 2) sc) := mcl_cell h1.2 rfl
        have f4' : (V4.setCell ⟨w.heap.size, 0, none⟩ (.slice a15 n k15)).frozen? ⟨w.heap.size, 4, none⟩ = false := by simp [World.frozen?, h1.2]
        have ho := h1.1.trans h2.1
        have hmac : One w n (D + 2) c stk (mcl (.slice a15 n k15) (.slice a19 (D + 2) k19) arg data ⟨pc, stk, G, false, 0⟩) (.slice a15 n k15) (.slice a19 (D + 2) k19) ((V4.setCell ⟨w.heap.size, 0, none⟩ (.slice a15 n k15)).setCell ⟨w.heap.size, 4, none⟩ (.slice a19 (D + 2) k19)) :=
          ⟨h2.2, (ho.block (w.heap.size + 1) (by have := G4.out.s; omega) (by simp)).trans G4.out.r2, own_only M15_4.out ho (own_not M15_4.out G4.out.r1 (by decide)), own_only M19_4.out ho (own_not M19_4.out G4.out.r1 (by decide)), G4.out.b.trans (ho.below (Nat.le_refl _) G4.out.b.size), Nat.le_trans G4.out.s ho.size⟩
        have HM := Lib.hid hmac
        clear ho hmac h2
        refine anyS_one 9 (by kernel_rfl) rfl (fun K' hK' => ?_)
        go_simp
        refine hK'.out _ _ (by repeat' (first | exact trivial | exact fun h => absurd h (by decide) | refine ⟨?_, ?_⟩)) ?_
        clear hK' K'
        try simp only [Act.put, List.setIfInBounds_toArray, List.set_cons_zero, List.set_cons_succ]
        (refine anyS_free (i := 10) (v := ?_) rfl (by kernel_rfl) (by kernel_rfl) (by kernel_rfl) (fun _ _ _ h => h) (fun _ => by simp) (Or.inl ⟨by rfl, fun w' _ => ?_⟩) ?_; rotate_left; (· go_simp; try with_reducible rfl))
        try simp only [Act.put, List.setIfInBounds_toArray, List.set_cons_zero, List.set_cons_succ]
        refine anyS_one 11 (by kernel_rfl) rfl (fun K' hK' => ?_)
        go_simp
        refine hK'.out _ _ (by repeat' (first | exact trivial | exact fun h => absurd h (by decide) | refine ⟨?_, ?_⟩)) ?_
        clear hK' K'
        try simp only [Act.put, List.setIfInBounds_toArray, List.set_cons_zero, List.set_cons_succ]
        refine anyS_done (by kernel_rfl) ?_ _
        refine NoPanic.normal ?_
        clear c0' f0' c4' f4' h1
        go_wp2_with fail
        go_meet
        case rel => exact ⟨_, _, _, _, HM⟩
      · go_simp
        have M16_5 := Lib.hid (World.ownsRow_made (base := w.heap.size + 2) (e := 3) (size := 1) V1 #[] 0 G1.out.s (by unfold maxLen; omega) rfl)
        have hbs : Hid (Below (w.heap.size + 2) V1 (V1.alloc (.cells #[] 3))) := (Below.refl _ _).alloc G1.out.s _
        have hbl : Hid (Below V1.heap.size V1 (V1.alloc (.cells #[] 3))) := (Below.refl _ _).alloc (Nat.le_refl _) _
        have G5 := Lib.hid (G1.out.later hbs.out)
        have M12_5 := Lib.hid (own_later M12_1.out hbl.out)
        obtain ⟨V5, hV5⟩ : ∃ X, X = V1.alloc (.cells #[] 3) := ⟨_, rfl⟩
        rw [← hV5] at M16_5 G5 M12_5 ⊢
        clear hbs hbl hV5
        have hcs : TwoAt w.heap.size (.slice ca n cc) (.slice sa (D + 2) sc) V5 := ⟨mcl_cell G5.out.r1 rfl, mcl_cell G5.out.r1 rfl⟩
        refine hK'.out _ _ (by repeat' (first | exact trivial | exact fun _ => hcs | refine ⟨?_, ?_⟩)) ?_
        clear hK' K' hcs
        try simp only [Act.put, List.setIfInBounds_toArray, List.set_cons_zero, List.set_cons_succ]
        refine anyS_one 3 (by kernel_rfl) rfl (fun K' hK' => ?_)
        refine step_append_opt rfl (.tmp 12) (.tmp 14) 22 rfl (w.heap.size + 2) 5 i0 Try.underlying22 hi hz0 hz1 hz2 _ 0 [] rfl M12_5.out ca n cc c rfl (HC.out.below G5.out.b).reads (HC.out.below G5.out.b).nil (by omega) G5.out.s ?_
        intro v15 V6 ho hg
        rw [Nat.zero_add, List.nil_append] at ho
        have hbs : Hid (Below (w.heap.size + 2) V5 V6) := (Below.refl _ _).grown hg G5.out.s (fun k hk => (M12_5.out.lt k hk).1)
        have G6 := Lib.hid (G5.out.later hbs.out)
        have M16_6 := Lib.hid (M16_5.out.kept hg (own_apart M16_5.out M12_5.out (by decide)))
        obtain ⟨a15, k15, rfl⟩ := own_slice ho
        have M15_6 := Lib.hid ho
        clear ho hg hbs
        have hcs : TwoAt w.heap.size (.slice ca n cc) (.slice sa (D + 2) sc) V6 := ⟨mcl_cell G6.out.r1 rfl, mcl_cell G6.out.r1 rfl⟩
        refine hK'.out _ _ (by repeat' (first | exact trivial | exact fun _ => hcs | refine ⟨?_, ?_⟩)) ?_
        clear hK' K' hcs
        try simp only [Act.put, List.setIfInBounds_toArray, List.set_cons_zero, List.set_cons_succ]
        (refine anyS_free (i := 8) (v := ?_) rfl (by kernel_rfl) (by kernel_rfl) (by kernel_rfl) (fun _ _ _ h => h) (fun _ => by simp) (Or.inl ⟨by rfl, fun w' _ => ?_⟩) ?_; rotate_left; (· go_simp; try with_reducible rfl))
        try simp only [Act.put, List.setIfInBounds_toArray, List.set_cons_zero, List.set_cons_succ]
        refine anyS_one 7 (by kernel_rfl) rfl (fun K' hK' => ?_)
        refine step_nums_opt rfl (.tmp 16) (.tmp 18) rfl (w.heap.size + 2) _ 0 [] rfl M16_6.out sa (D + 2) sc stk rfl (HS.out.below G6.out.b) hnil (by omega) G6.out.s ?_
        intro v19 V7 ho hg
        rw [Nat.zero_add, List.nil_append] at ho
        have hbs : Hid (Below (w.heap.size + 2) V6 V7) := (Below.refl _ _).grown hg G6.out.s (fun k hk => (M16_6.out.lt k hk).1)
        have G7 := Lib.hid (G6.out.later hbs.out)
        have M15_7 := Lib.hid (M15_6.out.kept hg (own_apart M15_6.out M16_6.out (by decide)))
        obtain ⟨a19, k19, rfl⟩ := own_slice ho
        have M19_7 := Lib.hid ho
        clear ho hg hbs
        have hcs : TwoAt w.heap.size (.slice ca n cc) (.slice sa (D + 2) sc) V7 := ⟨mcl_cell G7.out.r1 rfl, mcl_cell G7.out.r1 rfl⟩
        refine hK'.out _ _ (by repeat' (first | exact trivial | exact fun _ => hcs | refine ⟨?_, ?_⟩)) ?_
        clear hK' K' hcs
        try simp only [Act.put, List.setIfInBounds_toArray, List.set_cons_zero, List.set_cons_succ]
        have h1 := only_setCell V7 w.heap.size 0 _ _ (.slice a15 n k15) G7.out.r1
        have h2 := only_setCell _ w.heap.size 4 _ _ (.slice a19 (D + 2) k19) h1.2
        have c0' := mcl_cell (k := 0) G7.out.r1 rfl
        have f0' : V7.frozen? ⟨w.heap.size, 0, none⟩ = false := by simp [World.frozen?, G7.out.r1]
        have c4' : (V7.setCell ⟨w.heap.size, 0, none⟩ (.slice a15 n k15)).cell? ⟨w.heap.size, 4, none⟩ = some (.slice sa (D + 2) sc) := mcl_cell h1.2 rfl
        have f4' : (V7.setCell ⟨w.heap.size, 0, none⟩ (.slice a15 n k15)).frozen? ⟨w.heap.size, 4, none⟩ = false := by simp [World.frozen?, h1.2]
        have ho := h1.1.trans h2.1
        have hmac : One w n (D + 2) c stk (mcl (.slice a15 n k15) (.slice a19 (D + 2) k19) arg data ⟨pc, stk, G, false, 0⟩) (.slice a15 n k15) (.slice a19 (D + 2) k19) ((V7.setCell ⟨w.heap.size, 0, none⟩ (.slice a15 n k15)).setCell ⟨w.heap.size, 4, none⟩ (.slice a19 (D + 2) k19)) :=
          ⟨h2.2, (ho.block (w.heap.size + 1) (by have := G7.out.s; omega) (by simp)).trans G7.out.r2, own_only M15_7.out ho (own_not M15_7.out G7.out.r1 (by decide)), own_only M19_7.out ho (own_not M19_7.out G7.out.r1 (by decide)), G7.out.b.trans (ho.below (Nat.le_refl _) G7.out.b.size), Nat.le_trans G7.out.s ho.size⟩
        have HM := Lib.hid hmac
        clear ho hmac h2
        refine anyS_one 9 (by kernel_rfl) rfl (fun K' hK' => ?_)
        go_simp
        refine hK'.out _ _ (by repeat' (first | exact trivial | exact fun h => absurd h (by decide) | refine ⟨?_, ?_⟩)) ?_
        clear hK' K'
        try simp only [Act.put, List.setIfInBounds_toArray, List.set_cons_zero, List.set_cons_succ]
        (refine anyS_free (i := 10) (v := ?_) rfl (by kernel_rfl) (by kernel_rfl) (by kernel_rfl) (fun _ _ _ h => h) (fun _ => by simp) (Or.inl ⟨by rfl, fun w' _ => ?_⟩) ?_; rotate_left; (· go_simp; try with_reducible rfl))
        try simp only [Act.put, List.setIfInBounds_toArray, List.set_cons_zero, List.set_cons_succ]
        refine anyS_one 11 (by kernel_rfl) rfl (fun K' hK' => ?_)
        go_simp
        refine hK'.out _ _ (by repeat' (first | exact trivial | exact fun h => absurd h (by decide) | refine ⟨?_, ?_⟩)) ?_
        clear hK' K'
        try simp only [Act.put, List.setIfInBounds_toArray, List.set_cons_zero, List.set_cons_succ]
        refine anyS_done (by kernel_rfl) ?_ _
        refine NoPanic.normal ?_
        clear c0' f0' c4' f4' h1
        go_wp2_with fail
        go_meet
        case rel => exact ⟨_, _, _, _, HM⟩
    · go_simp
      have M16_8 := Lib.hid (World.ownsRow_made (base := w.heap.size + 2) (e := 3) (size := 1) V0 #[] 0 G0.out.s (by unfold maxLen; omega) rfl)
      have hbs : Hid (Below (w.heap.size + 2) V0 (V0.alloc (.cells #[] 3))) := (Below.refl _ _).alloc G0.out.s _
      have hbl : Hid (Below V0.heap.size V0 (V0.alloc (.cells #[] 3))) := (Below.refl _ _).alloc (Nat.le_refl _) _
      have G8 := Lib.hid (G0.out.later hbs.out)
      obtain ⟨V8, hV8⟩ : ∃ X, X = V0.alloc (.cells #[] 3) := ⟨_, rfl⟩
      rw [← hV8] at M16_8 G8 ⊢
      clear hbs hbl hV8
      have hcs : TwoAt w.heap.size (.slice ca n cc) (.slice sa (D + 2) sc) V8 := ⟨mcl_cell G8.out.r1 rfl, mcl_cell G8.out.r1 rfl⟩
      refine hK'.out _ _ (by repeat' (first | exact trivial | exact fun _ => hcs | refine ⟨?_, ?_⟩)) ?_
      clear hK' K' hcs
      try simp only [Act.put, List.setIfInBounds_toArray, List.set_cons_zero, List.set_cons_succ]
      refine anyS_one 0 (by kernel_rfl) rfl (fun K' hK' => ?_)
      go_simp
      have M12_9 := Lib.hid (World.ownsRow_made (base := w.heap.size + 2) (e := 5) (size := 1) V8 #[] 0 G8.out.s (by unfold maxLen; omega) rfl)
      have hbs : Hid (Below (w.heap.size + 2) V8 (V8.alloc (.cells #[] 5))) := (Below.refl _ _).alloc G8.out.s _
      have hbl : Hid (Below V8.heap.size V8 (V8.alloc (.cells #[] 5))) := (Below.refl _ _).alloc (Nat.le_refl _) _
      have G9 := Lib.hid (G8.out.later hbs.out)
      have M16_9 := Lib.hid (own_later M16_8.out hbl.out)
      obtain ⟨V9, hV9⟩ : ∃ X, X = V8.alloc (.cells #[] 5) := ⟨_, rfl⟩
      rw [← hV9] at M12_9 G9 M16_9 ⊢
      clear hbs hbl hV9
      have hcs : TwoAt w.heap.size (.slice ca n cc) (.slice sa (D + 2) sc) V9 := ⟨mcl_cell G9.out.r1 rfl, mcl_cell G9.out.r1 rfl⟩
      refine hK'.out _ _ (by repeat' (first | exact trivial | exact fun _ => hcs | refine ⟨?_, ?_⟩)) ?_
      clear hK' K' hcs
      try simp only [Act.put, List.setIfInBounds_toArray, List.set_cons_zero, List.set_cons_succ]
      refine anyS_one 3 (by kernel_rfl) rfl (fun K' hK' => ?_)
      refine step_append_opt rfl (.tmp 12) (.tmp 14) 22 rfl (w.heap.size + 2) 5 i0 Try.underlying22 hi hz0 hz1 hz2 _ 0 [] rfl M12_9.out ca n cc c rfl (HC.out.below G9.out.b).reads (HC.out.below G9.out.b).nil (by omega) G9.out.s ?_
      intro v15 V10 ho hg
      rw [Nat.zero_add, List.nil_append] at ho
      have hbs : Hid (Below (w.heap.size + 2) V9 V10) := (Below.refl _ _).grown hg G9.out.s (fun k hk => (M12_9.out.lt k hk).1)
      have G10 := Lib.hid (G9.out.later hbs.out)
      have M16_10 := Lib.hid (M16_9.out.kept hg (own_apart M16_9.out M12_9.out (by decide)))
      obtain ⟨a15, k15, rfl⟩ := own_slice ho
      have M15_10 := Lib.hid ho
      clear ho hg hbs
      have hcs : TwoAt w.heap.size (.slice ca n cc) (.slice sa (D + 2) sc) V10 := ⟨mcl_cell G10.out.r1 rfl, mcl_cell G10.out.r1 rfl⟩
      refine hK'.out _ _ (by repeat' (first | exact trivial | exact fun _ => hcs | refine ⟨?_, ?_⟩)) ?_
      clear hK' K' hcs
      try simp only [Act.put, List.setIfInBounds_toArray, List.set_cons_zero, List.set_cons_succ]
      (refine anyS_free (i := 8) (v := ?_) rfl (by kernel_rfl) (by kernel_rfl) (by kernel_rfl) (fun _ _ _ h => h) (fun _ => by simp) (Or.inl ⟨by rfl, fun w' _ => ?_⟩) ?_; rotate_left; (· go_simp; try with_reducible rfl))
      try simp only [Act.put, List.setIfInBounds_toArray, List.set_cons_zero, List.set_cons_succ]
      refine anyS_one 7 (by kernel_rfl) rfl (fun K' hK' => ?_)
      refine step_nums_opt rfl (.tmp 16) (.tmp 18) rfl (w.heap.size + 2) _ 0 [] rfl M16_10.out sa (D + 2) sc stk rfl (HS.out.below G10.out.b) hnil (by omega) G10.out.s ?_
      intro v19 V11 ho hg
      rw [Nat.zero_add, List.nil_append] at ho
      have hbs : Hid (Below (w.heap.size + 2) V10 V11) := (Below.refl _ _).grown hg G10.out.s (fun k hk => (M16_10.out.lt k hk).1)
      have G11 := Lib.hid (G10.out.later hbs.out)
      have M15_11 := Lib.hid (M15_10.out.kept hg (own_apart M15_10.out M16_10.out (by decide)))
      obtain ⟨a19, k19, rfl⟩ := own_slice ho
      have M19_11 := Lib.hid ho
      clear ho hg hbs
      have hcs : TwoAt w.heap.size (.slice ca n cc) (.slice sa (D + 2) sc) V11 := ⟨mcl_cell G11.out.r1 rfl, mcl_cell G11.out.r1 rfl⟩
      refine hK'.out _ _ (by repeat' (first | exact trivial | exact fun _ => hcs | refine ⟨?_, ?_⟩)) ?_
      clear hK' K' hcs
      try simp only [Act.put, List.setIfInBounds_toArray, List.set_cons_zero, List.set_cons_succ]
      have h1 := only_setCell V11 w.heap.size 0 _ _ (.slice a15 n k15) G11.out.r1
      have h2 := only_setCell _ w.heap.size 4 _ _ (.slice a19 (D + 2) k19) h1.2
      have c0' := mcl_cell (k := 0) G11.out.r1 rfl
      have f0' : V11.frozen? ⟨w.heap.size, 0, none⟩ = false := by simp [World.frozen?, G11.out.r1]
      have c4' : (V11.setCell ⟨w.heap.size, 0, none⟩ (.slice a15 n k15)).cell? ⟨w.heap.size, 4, none⟩ = some (.slice sa (D + 2) sc) := mcl_cell h1.2 rfl
      have f4' : (V11.setCell ⟨w.heap.size, 0, none⟩ (.slice a15 n k15)).frozen? ⟨w.heap.size, 4, none⟩ = false := by simp [World.frozen?, h1.2]
      have ho := h1.1.trans h2.1
      have hmac : One w n (D + 2) c stk (mcl (.slice a15 n k15) (.slice a19 (D + 2) k19) arg data ⟨pc, stk, G, false, 0⟩) (.slice a15 n k15) (.slice a19 (D + 2) k19) ((V11.setCell ⟨w.heap.size, 0, none⟩ (.slice a15 n k15)).setCell ⟨w.heap.size, 4, none⟩ (.slice a19 (D + 2) k19)) :=
        ⟨h2.2, (ho.block (w.heap.size + 1) (by have := G11.out.s; omega) (by simp)).trans G11.out.r2, own_only M15_11.out ho (own_not M15_11.out G11.out.r1 (by decide)), own_only M19_11.out ho (own_not M19_11.out G11.out.r1 (by decide)), G11.out.b.trans (ho.below (Nat.le_refl _) G11.out.b.size), Nat.le_trans G11.out.s ho.size⟩
      have HM := Lib.hid hmac
      clear ho hmac h2
      refine anyS_one 9 (by kernel_rfl) rfl (fun K' hK' => ?_)
      go_simp
      refine hK'.out _ _ (by repeat' (first | exact trivial | exact fun h => absurd h (by decide) | refine ⟨?_, ?_⟩)) ?_
      clear hK' K'
      try simp only [Act.put, List.setIfInBounds_toArray, List.set_cons_zero, List.set_cons_succ]
      (refine anyS_free (i := 10) (v := ?_) rfl (by kernel_rfl) (by kernel_rfl) (by kernel_rfl) (fun _ _ _ h => h) (fun _ => by simp) (Or.inl ⟨by rfl, fun w' _ => ?_⟩) ?_; rotate_left; (· go_simp; try with_reducible rfl))
      try simp only [Act.put, List.setIfInBounds_toArray, List.set_cons_zero, List.set_cons_succ]
      refine anyS_one 11 (by kernel_rfl) rfl (fun K' hK' => ?_)
      go_simp
      refine hK'.out _ _ (by repeat' (first | exact trivial | exact fun h => absurd h (by decide) | refine ⟨?_, ?_⟩)) ?_
      clear hK' K'
      try simp only [Act.put, List.setIfInBounds_toArray, List.set_cons_zero, List.set_cons_succ]
      refine anyS_done (by kernel_rfl) ?_ _
      refine NoPanic.normal ?_
      clear c0' f0' c4' f4' h1
      go_wp2_with fail
      go_meet
      case rel => exact ⟨_, _, _, _, HM⟩
  clear G00 hi hz0 hz1 hz2
  clear i0
  case rest =>
    obtain ⟨a1, k1, a2, k2, HO⟩ := hcut
    obtain ⟨ad, rfl, -⟩ := own_byte HO.out.code HF.out.bytes hlt
    obtain ⟨sg, rfl⟩ := own_place HO.out.stk (by omega)
    have hcap := own_cap HO.out.stk HF.out.nums
    unfold maxLen at hcap
    obtain ⟨hk2, hk2m⟩ := hcap
    have e6 : wc.cell? ⟨w.heap.size, 6, none⟩ = some (.bool false) := mcl_cell HO.out.a rfl
    have e5 : wc.cell? ⟨w.heap.size, 5, none⟩ = some (.int .i64 G) := mcl_cell HO.out.a rfl
    have e3 : wc.cell? ⟨w.heap.size, 3, none⟩ = some (.int .i64 (pc : Int)) := mcl_cell HO.out.a rfl
    have e0 : wc.cell? ⟨w.heap.size, 0, none⟩ = some (.slice (some ad) n k1) := mcl_cell HO.out.a rfl
    go_upto_region 9 with (fail)
    go_upto_region 10 with (first
      | (refine wpList_load_row rfl 37 (.tmp 1) rfl w.heap.size rfl 37 (mcl (.slice (some ad) n k1) (.slice (some ⟨sg, 0, none⟩) (D + 2) k2) arg data ⟨pc, stk, G, false, 0⟩) (0, 0) _ HO.out.a Try.underlying37 rfl size_ref ?_)
      | (refine store_agg rfl 37 (.tmp 3) (.tmp 44) rfl rfl wc.heap.size (mcl (.slice (some ad) n k1) (.slice (some ⟨sg, 0, none⟩) (D + 2) k2) arg data ⟨pc, stk, G, false, 0⟩) rfl rfl 37 _ (heap_alloc_new _ _) size_ref rfl (mcl_one _ _ _ _ _ _ _ _ _) ?_; intro Y hrow hon))
    have hbY : Below wc.heap.size wc Y := ((Below.refl _ _).alloc (Nat.le_refl _) _).trans (hon.below (Nat.le_refl _) (by simp))
    have D1 := Lib.hid (Prr.first HO.out hbY hrow)
    clear hrow hon hbY e0 e3 e5 e6 HO
    have x5 : Y.cell? ⟨wc.heap.size, 5, none⟩ = some (.int .i64 G) := mcl_cell D1.out.x rfl
    have f5 : Y.frozen? ⟨wc.heap.size, 5, none⟩ = false := by simp [World.frozen?, D1.out.x]
    go_upto_region 11 with (fail)
    clear x5 f5
    have hst := only_setCell Y wc.heap.size 5 _ _ (.int .i64 (G - 1)) D1.out.x
    have D2 : Hid (Prr w wc.heap.size n (D + 2) c stk (mcl (.slice (some ad) n k1) (.slice (some ⟨sg, 0, none⟩) (D + 2) k2) arg data ⟨pc, stk, G, false, 0⟩) (mcl (.slice (some ad) n k1) (.slice (some ⟨sg, 0, none⟩) (D + 2) k2) arg data ⟨pc, stk, G - 1, false, 0⟩) (.slice (some ad) n k1) (.slice (some ⟨sg, 0, none⟩) (D + 2) k2) (Y.setCell ⟨wc.heap.size, 5, none⟩ (.int .i64 (G - 1)))) := Lib.hid (D1.out.put hst.2 hst.1)
    obtain ⟨Z, hV2⟩ : ∃ X, X = Y.setCell ⟨wc.heap.size, 5, none⟩ (.int .i64 (G - 1)) := ⟨_, rfl⟩
    rw [← hV2] at D2 ⊢
    clear hst hV2 D1
    have z3 : Z.cell? ⟨w.heap.size, 3, none⟩ = some (.int .i64 (pc : Int)) := mcl_cell D2.out.o.a rfl
    have z0 : Z.cell? ⟨w.heap.size, 0, none⟩ = some (.slice (some ad) n k1) := mcl_cell D2.out.o.a rfl
    have x3 : Z.cell? ⟨wc.heap.size, 3, none⟩ = some (.int .i64 (pc : Int)) := mcl_cell D2.out.x rfl
    have f3 : Z.frozen? ⟨wc.heap.size, 3, none⟩ = false := by simp [World.frozen?, D2.out.x]
    have zb : Z.cell? (ad.add pc) = some (.int .u8 3) := byte_at D2.out.o.code HF.out.bytes hlt HSG.out
    go_upto_region 18 with (fail)
    clear x3 f3 z3 z0 zb
    have hst := only_setCell Z wc.heap.size 3 _ _ (.int .i64 ((pc : Int) + 1)) D2.out.x
    have D3 : Hid (Prr w wc.heap.size n (D + 2) c stk (mcl (.slice (some ad) n k1) (.slice (some ⟨sg, 0, none⟩) (D + 2) k2) arg data ⟨pc, stk, G, false, 0⟩) (mcl (.slice (some ad) n k1) (.slice (some ⟨sg, 0, none⟩) (D + 2) k2) arg data ⟨pc + 1, stk, G - 1, false, 0⟩) (.slice (some ad) n k1) (.slice (some ⟨sg, 0, none⟩) (D + 2) k2) (Z.setCell ⟨wc.heap.size, 3, none⟩ (.int .i64 ((pc : Int) + 1)))) := Lib.hid (D2.out.put hst.2 hst.1)
    obtain ⟨Z2, hV2⟩ : ∃ X, X = Z.setCell ⟨wc.heap.size, 3, none⟩ (.int .i64 ((pc : Int) + 1)) := ⟨_, rfl⟩
    rw [← hV2] at D3 ⊢
    clear hst hV2 D2
    have y0 : Z2.cell? ⟨w.heap.size, 0, none⟩ = some (.slice (some ad) n k1) := mcl_cell D3.out.o.a rfl
    have y3 : Z2.cell? ⟨w.heap.size, 3, none⟩ = some (.int .i64 (pc : Int)) := mcl_cell D3.out.o.a rfl
    have y4 : Z2.cell? ⟨w.heap.size, 4, none⟩ = some ((.slice (some ⟨sg, 0, none⟩) (D + 2) k2)) := mcl_cell D3.out.o.a rfl
    have y5 : Z2.cell? ⟨wc.heap.size, 3, none⟩ = some (.int .i64 ((pc : Int) + 1)) := mcl_cell D3.out.x rfl
    have y6 : Z2.cell? ⟨wc.heap.size, 4, none⟩ = some ((.slice (some ⟨sg, 0, none⟩) (D + 2) k2)) := mcl_cell D3.out.x rfl
    go_upto_region 30 with (fail)
    go_quiet (exact Calls.quiet_of_same ((hneeds _).mono fun _ _ h => ⟨h.1, h.2.symm⟩))
    have D5 := Lib.hid (D3.out.later (below_drewN (Below.refl _ _) nq))
    generalize World.drewN Z2 nq = V5 at *
    clear D3
    have v0 : V5.cell? ⟨w.heap.size, 0, none⟩ = some (.slice (some ad) n k1) := mcl_cell D5.out.o.a rfl
    have v1 : V5.cell? ⟨w.heap.size, 1, none⟩ = some (.int .i64 arg) := mcl_cell D5.out.o.a rfl
    have v2 : V5.cell? ⟨w.heap.size, 2, none⟩ = some (.int .i64 data) := mcl_cell D5.out.o.a rfl
    have v4 : V5.cell? ⟨w.heap.size, 4, none⟩ = some ((.slice (some ⟨sg, 0, none⟩) (D + 2) k2)) := mcl_cell D5.out.o.a rfl
    have u4 : V5.cell? ⟨wc.heap.size, 4, none⟩ = some ((.slice (some ⟨sg, 0, none⟩) (D + 2) k2)) := mcl_cell D5.out.x rfl
    have ya : V5.cell? ⟨sg, D, none⟩ = some (.int .i64 a) := num_in D5.out.o.stk HF.out.nums (p := D) (by omega) HVA.out
    have yb : V5.cell? ⟨sg, D + 1, none⟩ = some (.int .i64 b) := num_in D5.out.o.stk HF.out.nums (p := D + 1) (by omega) HVB.out
    have hsl : ∀ w, (Instr.sliceAt 23 (.slice (some ⟨sg, 0, none⟩) (D + 2) k2) none (some (.int .i64 (D : Int))) none).run Try.prog w = .ok (.slice (some ⟨sg, 0, none⟩) D k2) w := fun w => slice_to23 (some ⟨sg, 0, none⟩) (D + 2) k2 D (by omega) (D : Int) rfl w
    go_wp2_with fail
    refine (hputs _).mono ?_
    rintro _ _ ⟨rfl, rfl⟩
    go_wp2_with fail
    refine (hneeds _).mono ?_
    rintro _ _ ⟨rfl, rfl⟩
    go_wp2_with fail
    refine (hneeds _).mono ?_
    rintro _ _ ⟨rfl, rfl⟩
    go_upto_region 39 with (fail)
    have t0 : (tookOf stk 3).getD 0 0 = a := (took_at (k := 2) (i := 0) HD.out.symm (by decide)).trans HVA.out
    have t1 : (tookOf stk 3).getD 1 0 = b := (took_at (k := 2) (i := 1) HD.out.symm (by decide)).trans HVB.out
    go_wp2_with fail
    refine (htwo _).mono ?_
    rintro _ _ ⟨rfl, nq2, rfl⟩
    have D6 := Lib.hid (D5.out.later (below_drewN (Below.refl _ _) nq2))
    generalize World.drewN V5 nq2 = V6 at *
    clear D5
    by_cases he0 : e = 0
    · subst he0
      have HP : Hid (stepP c arg data ⟨pc, stk, G, false, 0⟩ = ⟨pc + 1, stk.take D ++ [r], G - 1, false, 0⟩) := by
        have htake : stk.length - takesP 3 = D := by show stk.length - 2 = D; rw [← HD.out]; omega
        have hout : outP 3 (saidOf c pc 3) (tookOf stk 3) arg data c.length = ([r], 0) := by
          show ([(pairP 3 ((tookOf stk 3).getD 0 0) ((tookOf stk 3).getD 1 0)).1], (pairP 3 ((tookOf stk 3).getD 0 0) ((tookOf stk 3).getD 1 0)).2) = _
          rw [t0, t1, ← HR.out, ← HE.out]
        have hh := step_does hG (by rw [← HN.out]; exact hlt) HSG.out (by decide) (by show pc + 1 + 0 ≤ c.length; rw [← HN.out]; omega) (by show 2 ≤ stk.length; rw [← HD.out]; omega) (by show stk.length - 2 + 1 ≤ 16; rw [← HD.out]; omega) hout rfl
        rw [htake] at hh
        exact Lib.hid hh
      go_upto_region 51 with (fail)
      go_upto_region 51 with (fail)
      have L1 := Lib.hid (Lst.of D6.out D (by omega))
      go_upto_region 69 with (at_builtin; go_must (refine wpList_appN rfl (.tmp 192) (.tmp 194) rfl (w.heap.size + 2) (.slice (some ⟨sg, 0, none⟩) D k2) (stk.take D).length (stk.take D) [r] V6 rfl L1.out.stk rfl rfl (Nat.le_trans (List.length_take_le _ _) (by omega)) (by simp) (Nat.le_trans L1.out.g (Nat.le_of_lt L1.out.lt)) ?_); intro v9 W9 ho9 hg9; have L2 := Lib.hid (L1.out.grew (ys := [r]) ((Below.refl _ _).alloc (Nat.le_refl _) _) ho9 hg9); obtain ⟨a9, k9, hv9⟩ := own_slice L2.out.stk; obtain ⟨l9, hl9⟩ : ∃ l, l = (stk.take D ++ [r]).length := ⟨_, rfl⟩; rw [← hl9] at hv9; subst hv9; clear ho9 hg9 L1 hl9)
      have o4 : W9.cell? ⟨wc.heap.size, 4, none⟩ = some (.slice (some ⟨sg, 0, none⟩) (D + 2) k2) := mcl_cell L2.out.x rfl
      have g4 : W9.frozen? ⟨wc.heap.size, 4, none⟩ = false := by simp [World.frozen?, L2.out.x]
      go_upto_region 70 with (fail)
      clear o4 g4
      have hst := only_setCell W9 wc.heap.size 4 _ _ (.slice a9 l9 k9) L2.out.x
      have HRX : Hid ((W9.setCell ⟨wc.heap.size, 4, none⟩ (.slice a9 l9 k9)).heap[wc.heap.size]? = some (.cells (mcl (.slice (some ad) n k1) (.slice a9 l9 k9) arg data ⟨pc + 1, stk, G - 1, false, 0⟩) 37 (0, 0))) := Lib.hid hst.2
      have HON := Lib.hid hst.1
      have HRR := Lib.hid (L2.out.r2 hst.1)
      obtain ⟨Wa, hWa⟩ : ∃ X, X = W9.setCell ⟨wc.heap.size, 4, none⟩ (.slice a9 l9 k9) := ⟨_, rfl⟩
      rw [← hWa] at HRX HON HRR ⊢
      clear hst hWa
      go_wp2_with (first
        | (refine wpList_load_row rfl 37 (.tmp 3) rfl wc.heap.size rfl 37 (mcl (.slice (some ad) n k1) (.slice a9 l9 k9) arg data ⟨pc + 1, stk, G - 1, false, 0⟩) (0, 0) _ HRX.out Try.underlying37 rfl size_ref ?_)
        | (refine store_agg rfl 37 (.tmp 2) (.tmp 255) rfl rfl (w.heap.size + 1) (mcl (.slice (some ad) n k1) (.slice a9 l9 k9) arg data ⟨pc + 1, stk, G - 1, false, 0⟩) rfl rfl 37 _ HRR.out size_ref rfl (mcl_one _ _ _ _ _ _ _ _ _) ?_; intro T hrow hon))
      refine bodyPost_ret (v := .agg (mcl (.slice (some ad) n k1) (.slice a9 l9 k9) arg data ⟨pc + 1, stk, G - 1, false, 0⟩)) (results_cell_row (P := Try.prog) rfl _ _ (w.heap.size + 1) 37 _ (0, 0) _ rfl hrow Try.underlying37 rfl size_ref) rfl ?_
      rw [HP.out]
      exact ⟨_, _, rfl, L2.out.done HON.out hon⟩
    · have HP : Hid (stepP c arg data ⟨pc, stk, G, false, 0⟩ = (Ms.spend ⟨pc, stk, G, false, 0⟩).halt e) := by
        refine Lib.hid (step_err hG (by rw [← HN.out]; exact hlt) HSG.out (by decide) (by show pc + 1 + 0 ≤ c.length; rw [← HN.out]; omega) (by show 2 ≤ stk.length; rw [← HD.out]; omega) (by show stk.length - 2 + 1 ≤ 16; rw [← HD.out]; omega) ?_ he0)
        show (pairP 3 ((tookOf stk 3).getD 0 0) ((tookOf stk 3).getD 1 0)).2 = e
        rw [t0, t1, ← HE.out]
      go_upto_region 50 with (fail)
      go_wp2_with (first
        | (refine wpList_load_row rfl 37 (.tmp 1) rfl w.heap.size rfl 37 (mcl (.slice (some ad) n k1) (.slice (some ⟨sg, 0, none⟩) (D + 2) k2) arg data ⟨pc, stk, G, false, 0⟩) (0, 0) _ D6.out.o.a Try.underlying37 rfl size_ref ?_))
      refine (fail_any (some ad) n k1 (some ⟨sg, 0, none⟩) (D + 2) k2 arg data ⟨pc, stk, G, false, 0⟩ e V6 ⟨hG, hg200⟩).mono ?_
      rintro _ U ⟨rfl, hbU⟩
      have DU := Lib.hid (D6.out.later hbU)
      clear hbU D6
      go_wp2_with (first
        | (refine store_agg rfl 37 (.tmp 2) (.tmp 191) rfl rfl (w.heap.size + 1) (mcl (.slice (some ad) n k1) (.slice (some ⟨sg, 0, none⟩) (D + 2) k2) arg data ((Ms.spend ⟨pc, stk, G, false, 0⟩).halt e)) rfl rfl 37 _ DU.out.o.r size_ref rfl (mcl_one _ _ _ _ _ _ _ _ _) ?_; intro T hrow hon))
      refine bodyPost_ret (v := .agg (mcl (.slice (some ad) n k1) (.slice (some ⟨sg, 0, none⟩) (D + 2) k2) arg data ((Ms.spend ⟨pc, stk, G, false, 0⟩).halt e))) (results_cell_row (P := Try.prog) rfl _ _ (w.heap.size + 1) 37 _ (0, 0) _ rfl hrow Try.underlying37 rfl size_ref) rfl ?_
      rw [HP.out]
      refine ⟨_, _, rfl, ?_⟩
      have h := DU.out.o.done hon
      refine ⟨h.1, ?_, h.2.2⟩
      show T.ownsRow _ _ _ _ stk.length (nts stk)
      rw [← HD.out]
      exact h.2.1


set_option maxRecDepth 100000 in
set_option maxHeartbeats 4000000 in
theorem rstep_4 {c : List Int} {arg data : Int} {pc : Nat} {stk : List Int} {G : Int} {a b : Int} {ca sa : Option Addr} {n D cc sc : Nat} {w : World} (hn : n = c.length) (hd : (D + 2) = stk.length) (hc : Came w ca n cc c) (hs : Nums w sa (D + 2) sc stk) (hnil : sa = none → (D + 2) = 0 ∧ sc = 0) (hF : Fit c arg data ⟨pc, stk, G, false, 0⟩) (hG : 1 ≤ G) (hlt : pc < n) (hsg : c.getD pc 0 = 4) (hroom : (D + 2) - 2 + 1 ≤ 16) (hva : stk.getD D 0 = a) (hvb : stk.getD (D + 1) 0 = b) :
    Calls Try.prog 20 #[.agg (mcl (.slice ca n cc) (.slice sa (D + 2) sc) arg data ⟨pc, stk, G, false, 0⟩)] w (RPost w n c arg data (stepP c arg data ⟨pc, stk, G, false, 0⟩)) := by
  have HC := Lib.hid hc
  have HS := Lib.hid hs
  have HF := Lib.hid hF
  have HN := Lib.hid hn
  have HD := Lib.hid hd
  have hlen : n ≤ 100 := by have := hF.len; omega
  have hstk : (D + 2) ≤ 16 := by have := hF.stk; have h2 : (D + 2) = stk.length := hd; show (D + 2) ≤ 16; have h3 : stk.length ≤ 16 := this; omega
  have hpn : pc ≤ n := by have h3 : pc ≤ c.length := hF.pc; omega
  have hg200 : G ≤ 200 := hF.gas.2
  clear hc hs hF hn hd
  have hlt' : (pc : Int) < (n : Int) := by omega
  have hne' : ((pc : Int) == (n : Int)) = false := by simp; omega
  have HSG := Lib.hid hsg
  clear hsg
  have hneeds : ∀ w, Calls Try.prog 31 #[.int .u8 4] w fun e w' => e = .returned (.int .i64 2) ∧ w = w' := fun w => needs_any 4 w ⟨by decide, by decide⟩
  have hputs : ∀ w, Calls Try.prog 32 #[.int .u8 4] w fun e w' => e = .returned (.int .i64 1) ∧ w = w' := fun w => puts_any 4 w ⟨by decide, by decide⟩
  have HVA := Lib.hid hva
  have HVB := Lib.hid hvb
  clear hva hvb
  have ib : I64 b := by rw [← HVB.out]; exact getD_i64 HF.out.nums _
  have ia : I64 a := by rw [← HVA.out]; exact getD_i64 HF.out.nums _
  have ib1 := ib.1
  have ib2 := ib.2
  have ia1 := ia.1
  have ia2 := ia.2
  obtain ⟨r, hr⟩ : ∃ r, r = (pairP 4 a b).1 := ⟨_, rfl⟩
  obtain ⟨e, he⟩ : ∃ e, e = (pairP 4 a b).2 := ⟨_, rfl⟩
  have htwo : ∀ w, Calls Try.prog 33 #[.int .u8 4, .int .i64 a, .int .i64 b] w fun x w' => x = .returned (.tuple #[.int .i64 r, .int .i64 e]) ∧ ∃ k, w' = w.drewN k := fun w => by rw [hr, he]; exact two_any 4 a b w ia ib ⟨by decide, by decide⟩
  have HR := Lib.hid hr
  have HE := Lib.hid he
  clear hr he
  obtain ⟨i0, hi, hz0, hz1, hz2⟩ := info_parts Try.infoByte
  go_enter Try.func20, Try.ntmps20
  go_upto_region 1 with (fail)
  have hbg := Bgn.start w (mcl (.slice ca n cc) (.slice sa (D + 2) sc) arg data ⟨pc, stk, G, false, 0⟩)
  have HBG := Lib.hid hbg
  clear hbg
  generalize hX0 : (w.alloc _).alloc _ = X0
  have G00 : Hid (Bgn w (mcl (.slice ca n cc) (.slice sa (D + 2) sc) arg data ⟨pc, stk, G, false, 0⟩) X0) := by rw [← hX0]; exact HBG
  clear HBG hX0
  go_cut [] from 12 to 22 (fun wx => ∃ a1 k1 a2 k2, Hid (One w n (D + 2) c stk (mcl (.slice a1 n k1) (.slice a2 (D + 2) k2) arg data ⟨pc, stk, G, false, 0⟩) (.slice a1 n k1) (.slice a2 (D + 2) k2) wx))
  case first =>
    refine anyS_start (by kernel_rfl) ?_
    have G0 := Lib.hid (G00.out.later (Below.refl _ _).drew)
    clear G00
    generalize World.drew X0 = V0 at *
    have hcs0 : Hid (TwoAt w.heap.size (.slice ca n cc) (.slice sa (D + 2) sc) V0) := ⟨mcl_cell G0.out.r1 rfl, mcl_cell G0.out.r1 rfl⟩
    (refine anyS_free (i := 1) (v := ?_) rfl (by kernel_rfl) (by kernel_rfl) (by kernel_rfl) (fun _ _ _ h => h) (fun _ => by simp) (Or.inl ⟨by rfl, fun w' _ => ?_⟩) ?_; rotate_left; (· go_simp; try with_reducible rfl))
    try simp only [Act.put, List.setIfInBounds_toArray, List.set_cons_zero, List.set_cons_succ]
    (refine anyS_free (i := 5) (v := ?_) rfl (by kernel_rfl) (by kernel_rfl) (by kernel_rfl) (fun _ _ _ h => h) (fun _ => by simp) (Or.inl ⟨by rfl, fun w' _ => ?_⟩) ?_; rotate_left; (· go_simp; try with_reducible rfl))
    try simp only [Act.put, List.setIfInBounds_toArray, List.set_cons_zero, List.set_cons_succ]
    (refine anyS_takeNew (i := 6) (v := .slice sa (D + 2) sc) (fun w' => TwoAt w.heap.size (.slice ca n cc) (.slice sa (D + 2) sc) w') [0, 2, 3, 4] hcs0.out rfl (by kernel_rfl) (by kernel_rfl) (by kernel_rfl) (by kernel_rfl) (fun _ _ _ h => h) (fun _ hcs => by repeat' (first | exact trivial | exact fun _ => hcs | refine ⟨?_, ?_⟩)) (Or.inl ⟨by rfl, fun w' hw' => ?_⟩) ?_; (· have c0 := hw'.l; have c4 := hw'.r; go_simp))
    try simp only [Act.put, List.setIfInBounds_toArray, List.set_cons_zero, List.set_cons_succ]
    (refine anyS_takeNew (i := 2) (v := .slice ca n cc) (fun w' => TwoAt w.heap.size (.slice ca n cc) (.slice sa (D + 2) sc) w') [0, 4] hcs0.out rfl (by kernel_rfl) (by kernel_rfl) (by kernel_rfl) (by kernel_rfl) (fun _ _ _ h => h) (fun _ hcs => by repeat' (first | exact trivial | exact fun _ => hcs | refine ⟨?_, ?_⟩)) (Or.inl ⟨by rfl, fun w' hw' => ?_⟩) ?_; (· have c0 := hw'.l; have c4 := hw'.r; go_simp))
    try simp only [Act.put, List.setIfInBounds_toArray, List.set_cons_zero, List.set_cons_succ]
    clear hcs0
    refine anyS_two 0 4 (by kernel_rfl) rfl rfl (fun K' hK' => ?_) (fun K' hK' => ?_)
    · go_simp
      have M12_1 := Lib.hid (World.ownsRow_made (base := w.heap.size + 2) (e := 5) (size := 1) V0 #[] 0 G0.out.s (by unfold maxLen; omega) rfl)
      have hbs : Hid (Below (w.heap.size + 2) V0 (V0.alloc (.cells #[] 5))) := (Below.refl _ _).alloc G0.out.s _
      have hbl : Hid (Below V0.heap.size V0 (V0.alloc (.cells #[] 5))) := (Below.refl _ _).alloc (Nat.le_refl _) _
      have G1 := Lib.hid (G0.out.later hbs.out)
      obtain ⟨V1, hV1⟩ : ∃ X, X = V0.alloc (.cells #[] 5) := ⟨_, rfl⟩
      rw [← hV1] at M12_1 G1 ⊢
      clear hbs hbl hV1
      have hcs : TwoAt w.heap.size (.slice ca n cc) (.slice sa (D + 2) sc) V1 := ⟨mcl_cell G1.out.r1 rfl, mcl_cell G1.out.r1 rfl⟩
      refine hK'.out _ _ (by repeat' (first | exact trivial | exact fun _ => hcs | refine ⟨?_, ?_⟩)) ?_
      clear hK' K' hcs
      try simp only [Act.put, List.setIfInBounds_toArray, List.set_cons_zero, List.set_cons_succ]
      refine anyS_two 3 4 (by kernel_rfl) rfl rfl (fun K' hK' => ?_) (fun K' hK' => ?_)
      · refine step_append_opt rfl (.tmp 12) (.tmp 14) 22 rfl (w.heap.size + 2) 5 i0 Try.underlying22 hi hz0 hz1 hz2 _ 0 [] rfl M12_1.out ca n cc c rfl (HC.out.below G1.out.b).reads (HC.out.below G1.out.b).nil (by omega) G1.out.s ?_
        intro v15 V2 ho hg
        rw [Nat.zero_add, List.nil_append] at ho
        have hbs : Hid (Below (w.heap.size + 2) V1 V2) := (Below.refl _ _).grown hg G1.out.s (fun k hk => (M12_1.out.lt k hk).1)
        have G2 := Lib.hid (G1.out.later hbs.out)
        obtain ⟨a15, k15, rfl⟩ := own_slice ho
        have M15_2 := Lib.hid ho
        clear ho hg hbs
        have hcs : TwoAt w.heap.size (.slice ca n cc) (.slice sa (D + 2) sc) V2 := ⟨mcl_cell G2.out.r1 rfl, mcl_cell G2.out.r1 rfl⟩
        refine hK'.out _ _ (by repeat' (first | exact trivial | exact fun _ => hcs | refine ⟨?_, ?_⟩)) ?_
        clear hK' K' hcs
        try simp only [Act.put, List.setIfInBounds_toArray, List.set_cons_zero, List.set_cons_succ]
        (refine anyS_free (i := 8) (v := ?_) rfl (by kernel_rfl) (by kernel_rfl) (by kernel_rfl) (fun _ _ _ h => h) (fun _ => by simp) (Or.inl ⟨by rfl, fun w' _ => ?_⟩) ?_; rotate_left; (· go_simp; try with_reducible rfl))
        try simp only [Act.put, List.setIfInBounds_toArray, List.set_cons_zero, List.set_cons_succ]
        refine anyS_one 4 (by kernel_rfl) rfl (fun K' hK' => ?_)
        go_simp
        have M16_3 := Lib.hid (World.ownsRow_made (base := w.heap.size + 2) (e := 3) (size := 1) V2 #[] 0 G2.out.s (by unfold maxLen; omega) rfl)
        have hbs : Hid (Below (w.heap.size + 2) V2 (V2.alloc (.cells #[] 3))) := (Below.refl _ _).alloc G2.out.s _
        have hbl : Hid (Below V2.heap.size V2 (V2.alloc (.cells #[] 3))) := (Below.refl _ _).alloc (Nat.le_refl _) _
        have G3 := Lib.hid (G2.out.later hbs.out)
        have M15_3 := Lib.hid (own_later M15_2.out hbl.out)
        obtain ⟨V3, hV3⟩ : ∃ X, X = V2.alloc (.cells #[] 3) := ⟨_, rfl⟩
        rw [← hV3] at M16_3 G3 M15_3 ⊢
        clear hbs hbl hV3
        have hcs : TwoAt w.heap.size (.slice ca n cc) (.slice sa (D + 2) sc) V3 := ⟨mcl_cell G3.out.r1 rfl, mcl_cell G3.out.r1 rfl⟩
        refine hK'.out _ _ (by repeat' (first | exact trivial | exact fun _ => hcs | refine ⟨?_, ?_⟩)) ?_
        clear hK' K' hcs
        try simp only [Act.put, List.setIfInBounds_toArray, List.set_cons_zero, List.set_cons_succ]
        refine anyS_one 7 (by kernel_rfl) rfl (fun K' hK' => ?_)
        refine step_nums_opt rfl (.tmp 16) (.tmp 18) rfl (w.heap.size + 2) _ 0 [] rfl M16_3.out sa (D + 2) sc stk rfl (HS.out.below G3.out.b) hnil (by omega) G3.out.s ?_
        intro v19 V4 ho hg
        rw [Nat.zero_add, List.nil_append] at ho
        have hbs : Hid (Below (w.heap.size + 2) V3 V4) := (Below.refl _ _).grown hg G3.out.s (fun k hk => (M16_3.out.lt k hk).1)
        have G4 := Lib.hid (G3.out.later hbs.out)
        have M15_4 := Lib.hid (M15_3.out.kept hg (own_apart M15_3.out M16_3.out (by decide)))
        obtain ⟨a19, k19, rfl⟩ := own_slice ho
        have M19_4 := Lib.hid ho
        clear ho hg hbs
        have hcs : TwoAt w.heap.size (.slice ca n cc) (.slice sa (D + 2) sc) V4 := ⟨mcl_cell G4.out.r1 rfl, mcl_cell G4.out.r1 rfl⟩
        refine hK'.out _ _ (by repeat' (first | exact trivial | exact fun _ => hcs | refine ⟨?_, ?_⟩)) ?_
        clear hK' K' hcs
        try simp only [Act.put, List.setIfInBounds_toArray, List.set_cons_zero, List.set_cons_succ]
        have h1 := only_setCell V4 w.heap.size 0 _ _ (.slice a15 n k15) G4.out.r1
        have h2 := only_setCell _ w.heap.size 4 _ _ (.slice a19 (D + 2) k19) h1.2
        have c0' := mcl_cell (k := 0) G4.out.r1 rfl
        have f0' : V4.frozen? ⟨w.heap.size, 0, none⟩ = false := by simp [World.frozen?, G4.out.r1]
        have c4' : (V4.setCell ⟨w.heap.size, 0, none⟩ (.slice a15 n k15)).cell? ⟨w.heap.size, 4, none⟩ = some (.slice sa (D + 2) sc) := mcl_cell h1.2 rfl
        have f4' : (V4.setCell ⟨w.heap.size, 0, none⟩ (.slice a15 n k15)).frozen? ⟨w.heap.size, 4, none⟩ = false := by simp [World.frozen?, h1.2]
        have ho := h1.1.trans h2.1
        have hmac : One w n (D + 2) c stk (mcl (.slice a15 n k15) (.slice a19 (D + 2) k19) arg data ⟨pc, stk, G, false, 0⟩) (.slice a15 n k15) (.slice a19 (D + 2) k19) ((V4.setCell ⟨w.heap.size, 0, none⟩ (.slice a15 n k15)).setCell ⟨w.heap.size, 4, none⟩ (.slice a19 (D + 2) k19)) :=
          ⟨h2.2, (ho.block (w.heap.size + 1) (by have := G4.out.s; omega) (by simp)).trans G4.out.r2, own_only M15_4.out ho (own_not M15_4.out G4.out.r1 (by decide)), own_only M19_4.out ho (own_not M19_4.out G4.out.r1 (by decide)), G4.out.b.trans (ho.below (Nat.le_refl _) G4.out.b.size), Nat.le_trans G4.out.s ho.size⟩
        have HM := Lib.hid hmac
        clear ho hmac h2
        refine anyS_one 9 (by kernel_rfl) rfl (fun K' hK' => ?_)
        go_simp
        refine hK'.out _ _ (by repeat' (first | exact trivial | exact fun h => absurd h (by decide) | refine ⟨?_, ?_⟩)) ?_
        clear hK' K'
        try simp only [Act.put, List.setIfInBounds_toArray, List.set_cons_zero, List.set_cons_succ]
        (refine anyS_free (i := 10) (v := ?_) rfl (by kernel_rfl) (by kernel_rfl) (by kernel_rfl) (fun _ _ _ h => h) (fun _ => by simp) (Or.inl ⟨by rfl, fun w' _ => ?_⟩) ?_; rotate_left; (· go_simp; try with_reducible rfl))
        try simp only [Act.put, List.setIfInBounds_toArray, List.set_cons_zero, List.set_cons_succ]
        refine anyS_one 11 (by kernel_rfl) rfl (fun K' hK' => ?_)
        go_simp
        refine hK'.out _ _ (by repeat' (first | exact trivial | exact fun h => absurd h (by decide) | refine ⟨?_, ?_⟩)) ?_
        clear hK' K'
        try simp only [Act.put, List.setIfInBounds_toArray, List.set_cons_zero, List.set_cons_succ]
        refine anyS_done (by kernel_rfl) ?_ _
        refine NoPanic.normal ?_
        clear c0' f0' c4' f4' h1
        go_wp2_with fail
        go_meet
        case rel => exact ⟨_, _, _, _, HM⟩
      · go_simp
        have M16_5 := Lib.hid (World.ownsRow_made (base := w.heap.size + 2) (e := 3) (size := 1) V1 #[] 0 G1.out.s (by unfold maxLen; omega) rfl)
        have hbs : Hid (Below (w.heap.size + 2) V1 (V1.alloc (.cells #[] 3))) := (Below.refl _ _).alloc G1.out.s _
        have hbl : Hid (Below V1.heap.size V1 (V1.alloc (.cells #[] 3))) := (Below.refl _ _).alloc (Nat.le_refl _) _
        have G5 := Lib.hid (G1.out.later hbs.out)
        have M12_5 := Lib.hid (own_later M12_1.out hbl.out)
        obtain ⟨V5, hV5⟩ : ∃ X, X = V1.alloc (.cells #[] 3) := ⟨_, rfl⟩
        rw [← hV5] at M16_5 G5 M12_5 ⊢
        clear hbs hbl hV5
        have hcs : TwoAt w.heap.size (.slice ca n cc) (.slice sa (D + 2) sc) V5 := ⟨mcl_cell G5.out.r1 rfl, mcl_cell G5.out.r1 rfl⟩
        refine hK'.out _ _ (by repeat' (first | exact trivial | exact fun _ => hcs | refine ⟨?_, ?_⟩)) ?_
        clear hK' K' hcs
        try simp only [Act.put, List.setIfInBounds_toArray, List.set_cons_zero, List.set_cons_succ]
        refine anyS_one 3 (by kernel_rfl) rfl (fun K' hK' => ?_)
        refine step_append_opt rfl (.tmp 12) (.tmp 14) 22 rfl (w.heap.size + 2) 5 i0 Try.underlying22 hi hz0 hz1 hz2 _ 0 [] rfl M12_5.out ca n cc c rfl (HC.out.below G5.out.b).reads (HC.out.below G5.out.b).nil (by omega) G5.out.s ?_
        intro v15 V6 ho hg
        rw [Nat.zero_add, List.nil_append] at ho
        have hbs : Hid (Below (w.heap.size + 2) V5 V6) := (Below.refl _ _).grown hg G5.out.s (fun k hk => (M12_5.out.lt k hk).1)
        have G6 := Lib.hid (G5.out.later hbs.out)
        have M16_6 := Lib.hid (M16_5.out.kept hg (own_apart M16_5.out M12_5.out (by decide)))
        obtain ⟨a15, k15, rfl⟩ := own_slice ho
        have M15_6 := Lib.hid ho
        clear ho hg hbs
        have hcs : TwoAt w.heap.size (.slice ca n cc) (.slice sa (D + 2) sc) V6 := ⟨mcl_cell G6.out.r1 rfl, mcl_cell G6.out.r1 rfl⟩
        refine hK'.out _ _ (by repeat' (first | exact trivial | exact fun _ => hcs | refine ⟨?_, ?_⟩)) ?_
        clear hK' K' hcs
        try simp only [Act.put, List.setIfInBounds_toArray, List.set_cons_zero, List.set_cons_succ]
        (refine anyS_free (i := 8) (v := ?_) rfl (by kernel_rfl) (by kernel_rfl) (by kernel_rfl) (fun _ _ _ h => h) (fun _ => by simp) (Or.inl ⟨by rfl, fun w' _ => ?_⟩) ?_; rotate_left; (· go_simp; try with_reducible rfl))
        try simp only [Act.put, List.setIfInBounds_toArray, List.set_cons_zero, List.set_cons_succ]
        refine anyS_one 7 (by kernel_rfl) rfl (fun K' hK' => ?_)
        refine step_nums_opt rfl (.tmp 16) (.tmp 18) rfl (w.heap.size + 2) _ 0 [] rfl M16_6.out sa (D + 2) sc stk rfl (HS.out.below G6.out.b) hnil (by omega) G6.out.s ?_
        intro v19 V7 ho hg
        rw [Nat.zero_add, List.nil_append] at ho
        have hbs : Hid (Below (w.heap.size + 2) V6 V7) := (Below.refl _ _).grown hg G6.out.s (fun k hk => (M16_6.out.lt k hk).1)
        have G7 := Lib.hid (G6.out.later hbs.out)
        have M15_7 := Lib.hid (M15_6.out.kept hg (own_apart M15_6.out M16_6.out (by decide)))
        obtain ⟨a19, k19, rfl⟩ := own_slice ho
        have M19_7 := Lib.hid ho
        clear ho hg hbs
        have hcs : TwoAt w.heap.size (.slice ca n cc) (.slice sa (D + 2) sc) V7 := ⟨mcl_cell G7.out.r1 rfl, mcl_cell G7.out.r1 rfl⟩
        refine hK'.out _ _ (by repeat' (first | exact trivial | exact fun _ => hcs | refine ⟨?_, ?_⟩)) ?_
        clear hK' K' hcs
        try simp only [Act.put, List.setIfInBounds_toArray, List.set_cons_zero, List.set_cons_succ]
        have h1 := only_setCell V7 w.heap.size 0 _ _ (.slice a15 n k15) G7.out.r1
        have h2 := only_setCell _ w.heap.size 4 _ _ (.slice a19 (D + 2) k19) h1.2
        have c0' := mcl_cell (k := 0) G7.out.r1 rfl
        have f0' : V7.frozen? ⟨w.heap.size, 0, none⟩ = false := by simp [World.frozen?, G7.out.r1]
        have c4' : (V7.setCell ⟨w.heap.size, 0, none⟩ (.slice a15 n k15)).cell? ⟨w.heap.size, 4, none⟩ = some (.slice sa (D + 2) sc) := mcl_cell h1.2 rfl
        have f4' : (V7.setCell ⟨w.heap.size, 0, none⟩ (.slice a15 n k15)).frozen? ⟨w.heap.size, 4, none⟩ = false := by simp [World.frozen?, h1.2]
        have ho := h1.1.trans h2.1
        have hmac : One w n (D + 2) c stk (mcl (.slice a15 n k15) (.slice a19 (D + 2) k19) arg data ⟨pc, stk, G, false, 0⟩) (.slice a15 n k15) (.slice a19 (D + 2) k19) ((V7.setCell ⟨w.heap.size, 0, none⟩ (.slice a15 n k15)).setCell ⟨w.heap.size, 4, none⟩ (.slice a19 (D + 2) k19)) :=
          ⟨h2.2, (ho.block (w.heap.size + 1) (by have := G7.out.s; omega) (by simp)).trans G7.out.r2, own_only M15_7.out ho (own_not M15_7.out G7.out.r1 (by decide)), own_only M19_7.out ho (own_not M19_7.out G7.out.r1 (by decide)), G7.out.b.trans (ho.below (Nat.le_refl _) G7.out.b.size), Nat.le_trans G7.out.s ho.size⟩
        have HM := Lib.hid hmac
        clear ho hmac h2
        refine anyS_one 9 (by kernel_rfl) rfl (fun K' hK' => ?_)
        go_simp
        refine hK'.out _ _ (by repeat' (first | exact trivial | exact fun h => absurd h (by decide) | refine ⟨?_, ?_⟩)) ?_
        clear hK' K'
        try simp only [Act.put, List.setIfInBounds_toArray, List.set_cons_zero, List.set_cons_succ]
        (refine anyS_free (i := 10) (v := ?_) rfl (by kernel_rfl) (by kernel_rfl) (by kernel_rfl) (fun _ _ _ h => h) (fun _ => by simp) (Or.inl ⟨by rfl, fun w' _ => ?_⟩) ?_; rotate_left; (· go_simp; try with_reducible rfl))
        try simp only [Act.put, List.setIfInBounds_toArray, List.set_cons_zero, List.set_cons_succ]
        refine anyS_one 11 (by kernel_rfl) rfl (fun K' hK' => ?_)
        go_simp
        refine hK'.out _ _ (by repeat' (first | exact trivial | exact fun h => absurd h (by decide) | refine ⟨?_, ?_⟩)) ?_
        clear hK' K'
        try simp only [Act.put, List.setIfInBounds_toArray, List.set_cons_zero, List.set_cons_succ]
        refine anyS_done (by kernel_rfl) ?_ _
        refine NoPanic.normal ?_
        clear c0' f0' c4' f4' h1
        go_wp2_with fail
        go_meet
        case rel => exact ⟨_, _, _, _, HM⟩
    · go_simp
      have M16_8 := Lib.hid (World.ownsRow_made (base := w.heap.size + 2) (e := 3) (size := 1) V0 #[] 0 G0.out.s (by unfold maxLen; omega) rfl)
      have hbs : Hid (Below (w.heap.size + 2) V0 (V0.alloc (.cells #[] 3))) := (Below.refl _ _).alloc G0.out.s _
      have hbl : Hid (Below V0.heap.size V0 (V0.alloc (.cells #[] 3))) := (Below.refl _ _).alloc (Nat.le_refl _) _
      have G8 := Lib.hid (G0.out.later hbs.out)
      obtain ⟨V8, hV8⟩ : ∃ X, X = V0.alloc (.cells #[] 3) := ⟨_, rfl⟩
      rw [← hV8] at M16_8 G8 ⊢
      clear hbs hbl hV8
      have hcs : TwoAt w.heap.size (.slice ca n cc) (.slice sa (D + 2) sc) V8 := ⟨mcl_cell G8.out.r1 rfl, mcl_cell G8.out.r1 rfl⟩
      refine hK'.out _ _ (by repeat' (first | exact trivial | exact fun _ => hcs | refine ⟨?_, ?_⟩)) ?_
      clear hK' K' hcs
      try simp only [Act.put, List.setIfInBounds_toArray, List.set_cons_zero, List.set_cons_succ]
      refine anyS_one 0 (by kernel_rfl) rfl (fun K' hK' => ?_)
      go_simp
      have M12_9 := Lib.hid (World.ownsRow_made (base := w.heap.size + 2) (e := 5) (size := 1) V8 #[] 0 G8.out.s (by unfold maxLen; omega) rfl)
      have hbs : Hid (Below (w.heap.size + 2) V8 (V8.alloc (.cells #[] 5))) := (Below.refl _ _).alloc G8.out.s _
      have hbl : Hid (Below V8.heap.size V8 (V8.alloc (.cells #[] 5))) := (Below.refl _ _).alloc (Nat.le_refl _) _
      have G9 := Lib.hid (G8.out.later hbs.out)
      have M16_9 := Lib.hid (own_later M16_8.out hbl.out)
      obtain ⟨V9, hV9⟩ : ∃ X, X = V8.alloc (.cells #[] 5) := ⟨_, rfl⟩
      rw [← hV9] at M12_9 G9 M16_9 ⊢
      clear hbs hbl hV9
      have hcs : TwoAt w.heap.size (.slice ca n cc) (.slice sa (D + 2) sc) V9 := ⟨mcl_cell G9.out.r1 rfl, mcl_cell G9.out.r1 rfl⟩
      refine hK'.out _ _ (by repeat' (first | exact trivial | exact fun _ => hcs | refine ⟨?_, ?_⟩)) ?_
      clear hK' K' hcs
      try simp only [Act.put, List.setIfInBounds_toArray, List.set_cons_zero, List.set_cons_succ]
      refine anyS_one 3 (by kernel_rfl) rfl (fun K' hK' => ?_)
      refine step_append_opt rfl (.tmp 12) (.tmp 14) 22 rfl (w.heap.size + 2) 5 i0 Try.underlying22 hi hz0 hz1 hz2 _ 0 [] rfl M12_9.out ca n cc c rfl (HC.out.below G9.out.b).reads (HC.out.below G9.out.b).nil (by omega) G9.out.s ?_
      intro v15 V10 ho hg
      rw [Nat.zero_add, List.nil_append] at ho
      have hbs : Hid (Below (w.heap.size + 2) V9 V10) := (Below.refl _ _).grown hg G9.out.s (fun k hk => (M12_9.out.lt k hk).1)
      have G10 := Lib.hid (G9.out.later hbs.out)
      have M16_10 := Lib.hid (M16_9.out.kept hg (own_apart M16_9.out M12_9.out (by decide)))
      obtain ⟨a15, k15, rfl⟩ := own_slice ho
      have M15_10 := Lib.hid ho
      clear ho hg hbs
      have hcs : TwoAt w.heap.size (.slice ca n cc) (.slice sa (D + 2) sc) V10 := ⟨mcl_cell G10.out.r1 rfl, mcl_cell G10.out.r1 rfl⟩
      refine hK'.out _ _ (by repeat' (first | exact trivial | exact fun _ => hcs | refine ⟨?_, ?_⟩)) ?_
      clear hK' K' hcs
      try simp only [Act.put, List.setIfInBounds_toArray, List.set_cons_zero, List.set_cons_succ]
      (refine anyS_free (i := 8) (v := ?_) rfl (by kernel_rfl) (by kernel_rfl) (by kernel_rfl) (fun _ _ _ h => h) (fun _ => by simp) (Or.inl ⟨by rfl, fun w' _ => ?_⟩) ?_; rotate_left; (· go_simp; try with_reducible rfl))
      try simp only [Act.put, List.setIfInBounds_toArray, List.set_cons_zero, List.set_cons_succ]
      refine anyS_one 7 (by kernel_rfl) rfl (fun K' hK' => ?_)
      refine step_nums_opt rfl (.tmp 16) (.tmp 18) rfl (w.heap.size + 2) _ 0 [] rfl M16_10.out sa (D + 2) sc stk rfl (HS.out.below G10.out.b) hnil (by omega) G10.out.s ?_
      intro v19 V11 ho hg
      rw [Nat.zero_add, List.nil_append] at ho
      have hbs : Hid (Below (w.heap.size + 2) V10 V11) := (Below.refl _ _).grown hg G10.out.s (fun k hk => (M16_10.out.lt k hk).1)
      have G11 := Lib.hid (G10.out.later hbs.out)
      have M15_11 := Lib.hid (M15_10.out.kept hg (own_apart M15_10.out M16_10.out (by decide)))
      obtain ⟨a19, k19, rfl⟩ := own_slice ho
      have M19_11 := Lib.hid ho
      clear ho hg hbs
      have hcs : TwoAt w.heap.size (.slice ca n cc) (.slice sa (D + 2) sc) V11 := ⟨mcl_cell G11.out.r1 rfl, mcl_cell G11.out.r1 rfl⟩
      refine hK'.out _ _ (by repeat' (first | exact trivial | exact fun _ => hcs | refine ⟨?_, ?_⟩)) ?_
      clear hK' K' hcs
      try simp only [Act.put, List.setIfInBounds_toArray, List.set_cons_zero, List.set_cons_succ]
      have h1 := only_setCell V11 w.heap.size 0 _ _ (.slice a15 n k15) G11.out.r1
      have h2 := only_setCell _ w.heap.size 4 _ _ (.slice a19 (D + 2) k19) h1.2
      have c0' := mcl_cell (k := 0) G11.out.r1 rfl
      have f0' : V11.frozen? ⟨w.heap.size, 0, none⟩ = false := by simp [World.frozen?, G11.out.r1]
      have c4' : (V11.setCell ⟨w.heap.size, 0, none⟩ (.slice a15 n k15)).cell? ⟨w.heap.size, 4, none⟩ = some (.slice sa (D + 2) sc) := mcl_cell h1.2 rfl
      have f4' : (V11.setCell ⟨w.heap.size, 0, none⟩ (.slice a15 n k15)).frozen? ⟨w.heap.size, 4, none⟩ = false := by simp [World.frozen?, h1.2]
      have ho := h1.1.trans h2.1
      have hmac : One w n (D + 2) c stk (mcl (.slice a15 n k15) (.slice a19 (D + 2) k19) arg data ⟨pc, stk, G, false, 0⟩) (.slice a15 n k15) (.slice a19 (D + 2) k19) ((V11.setCell ⟨w.heap.size, 0, none⟩ (.slice a15 n k15)).setCell ⟨w.heap.size, 4, none⟩ (.slice a19 (D + 2) k19)) :=
        ⟨h2.2, (ho.block (w.heap.size + 1) (by have := G11.out.s; omega) (by simp)).trans G11.out.r2, own_only M15_11.out ho (own_not M15_11.out G11.out.r1 (by decide)), own_only M19_11.out ho (own_not M19_11.out G11.out.r1 (by decide)), G11.out.b.trans (ho.below (Nat.le_refl _) G11.out.b.size), Nat.le_trans G11.out.s ho.size⟩
      have HM := Lib.hid hmac
      clear ho hmac h2
      refine anyS_one 9 (by kernel_rfl) rfl (fun K' hK' => ?_)
      go_simp
      refine hK'.out _ _ (by repeat' (first | exact trivial | exact fun h => absurd h (by decide) | refine ⟨?_, ?_⟩)) ?_
      clear hK' K'
      try simp only [Act.put, List.setIfInBounds_toArray, List.set_cons_zero, List.set_cons_succ]
      (refine anyS_free (i := 10) (v := ?_) rfl (by kernel_rfl) (by kernel_rfl) (by kernel_rfl) (fun _ _ _ h => h) (fun _ => by simp) (Or.inl ⟨by rfl, fun w' _ => ?_⟩) ?_; rotate_left; (· go_simp; try with_reducible rfl))
      try simp only [Act.put, List.setIfInBounds_toArray, List.set_cons_zero, List.set_cons_succ]
      refine anyS_one 11 (by kernel_rfl) rfl (fun K' hK' => ?_)
      go_simp
      refine hK'.out _ _ (by repeat' (first | exact trivial | exact fun h => absurd h (by decide) | refine ⟨?_, ?_⟩)) ?_
      clear hK' K'
      try simp only [Act.put, List.setIfInBounds_toArray, List.set_cons_zero, List.set_cons_succ]
      refine anyS_done (by kernel_rfl) ?_ _
      refine NoPanic.normal ?_
      clear c0' f0' c4' f4' h1
      go_wp2_with fail
      go_meet
      case rel => exact ⟨_, _, _, _, HM⟩
  clear G00 hi hz0 hz1 hz2
  clear i0
  case rest =>
    obtain ⟨a1, k1, a2, k2, HO⟩ := hcut
    obtain ⟨ad, rfl, -⟩ := own_byte HO.out.code HF.out.bytes hlt
    obtain ⟨sg, rfl⟩ := own_place HO.out.stk (by omega)
    have hcap := own_cap HO.out.stk HF.out.nums
    unfold maxLen at hcap
    obtain ⟨hk2, hk2m⟩ := hcap
    have e6 : wc.cell? ⟨w.heap.size, 6, none⟩ = some (.bool false) := mcl_cell HO.out.a rfl
    have e5 : wc.cell? ⟨w.heap.size, 5, none⟩ = some (.int .i64 G) := mcl_cell HO.out.a rfl
    have e3 : wc.cell? ⟨w.heap.size, 3, none⟩ = some (.int .i64 (pc : Int)) := mcl_cell HO.out.a rfl
    have e0 : wc.cell? ⟨w.heap.size, 0, none⟩ = some (.slice (some ad) n k1) := mcl_cell HO.out.a rfl
    go_upto_region 9 with (fail)
    go_upto_region 10 with (first
      | (refine wpList_load_row rfl 37 (.tmp 1) rfl w.heap.size rfl 37 (mcl (.slice (some ad) n k1) (.slice (some ⟨sg, 0, none⟩) (D + 2) k2) arg data ⟨pc, stk, G, false, 0⟩) (0, 0) _ HO.out.a Try.underlying37 rfl size_ref ?_)
      | (refine store_agg rfl 37 (.tmp 3) (.tmp 44) rfl rfl wc.heap.size (mcl (.slice (some ad) n k1) (.slice (some ⟨sg, 0, none⟩) (D + 2) k2) arg data ⟨pc, stk, G, false, 0⟩) rfl rfl 37 _ (heap_alloc_new _ _) size_ref rfl (mcl_one _ _ _ _ _ _ _ _ _) ?_; intro Y hrow hon))
    have hbY : Below wc.heap.size wc Y := ((Below.refl _ _).alloc (Nat.le_refl _) _).trans (hon.below (Nat.le_refl _) (by simp))
    have D1 := Lib.hid (Prr.first HO.out hbY hrow)
    clear hrow hon hbY e0 e3 e5 e6 HO
    have x5 : Y.cell? ⟨wc.heap.size, 5, none⟩ = some (.int .i64 G) := mcl_cell D1.out.x rfl
    have f5 : Y.frozen? ⟨wc.heap.size, 5, none⟩ = false := by simp [World.frozen?, D1.out.x]
    go_upto_region 11 with (fail)
    clear x5 f5
    have hst := only_setCell Y wc.heap.size 5 _ _ (.int .i64 (G - 1)) D1.out.x
    have D2 : Hid (Prr w wc.heap.size n (D + 2) c stk (mcl (.slice (some ad) n k1) (.slice (some ⟨sg, 0, none⟩) (D + 2) k2) arg data ⟨pc, stk, G, false, 0⟩) (mcl (.slice (some ad) n k1) (.slice (some ⟨sg, 0, none⟩) (D + 2) k2) arg data ⟨pc, stk, G - 1, false, 0⟩) (.slice (some ad) n k1) (.slice (some ⟨sg, 0, none⟩) (D + 2) k2) (Y.setCell ⟨wc.heap.size, 5, none⟩ (.int .i64 (G - 1)))) := Lib.hid (D1.out.put hst.2 hst.1)
    obtain ⟨Z, hV2⟩ : ∃ X, X = Y.setCell ⟨wc.heap.size, 5, none⟩ (.int .i64 (G - 1)) := ⟨_, rfl⟩
    rw [← hV2] at D2 ⊢
    clear hst hV2 D1
    have z3 : Z.cell? ⟨w.heap.size, 3, none⟩ = some (.int .i64 (pc : Int)) := mcl_cell D2.out.o.a rfl
    have z0 : Z.cell? ⟨w.heap.size, 0, none⟩ = some (.slice (some ad) n k1) := mcl_cell D2.out.o.a rfl
    have x3 : Z.cell? ⟨wc.heap.size, 3, none⟩ = some (.int .i64 (pc : Int)) := mcl_cell D2.out.x rfl
    have f3 : Z.frozen? ⟨wc.heap.size, 3, none⟩ = false := by simp [World.frozen?, D2.out.x]
    have zb : Z.cell? (ad.add pc) = some (.int .u8 4) := byte_at D2.out.o.code HF.out.bytes hlt HSG.out
    go_upto_region 18 with (fail)
    clear x3 f3 z3 z0 zb
    have hst := only_setCell Z wc.heap.size 3 _ _ (.int .i64 ((pc : Int) + 1)) D2.out.x
    have D3 : Hid (Prr w wc.heap.size n (D + 2) c stk (mcl (.slice (some ad) n k1) (.slice (some ⟨sg, 0, none⟩) (D + 2) k2) arg data ⟨pc, stk, G, false, 0⟩) (mcl (.slice (some ad) n k1) (.slice (some ⟨sg, 0, none⟩) (D + 2) k2) arg data ⟨pc + 1, stk, G - 1, false, 0⟩) (.slice (some ad) n k1) (.slice (some ⟨sg, 0, none⟩) (D + 2) k2) (Z.setCell ⟨wc.heap.size, 3, none⟩ (.int .i64 ((pc : Int) + 1)))) := Lib.hid (D2.out.put hst.2 hst.1)
    obtain ⟨Z2, hV2⟩ : ∃ X, X = Z.setCell ⟨wc.heap.size, 3, none⟩ (.int .i64 ((pc : Int) + 1)) := ⟨_, rfl⟩
    rw [← hV2] at D3 ⊢
    clear hst hV2 D2
    have y0 : Z2.cell? ⟨w.heap.size, 0, none⟩ = some (.slice (some ad) n k1) := mcl_cell D3.out.o.a rfl
    have y3 : Z2.cell? ⟨w.heap.size, 3, none⟩ = some (.int .i64 (pc : Int)) := mcl_cell D3.out.o.a rfl
    have y4 : Z2.cell? ⟨w.heap.size, 4, none⟩ = some ((.slice (some ⟨sg, 0, none⟩) (D + 2) k2)) := mcl_cell D3.out.o.a rfl
    have y5 : Z2.cell? ⟨wc.heap.size, 3, none⟩ = some (.int .i64 ((pc : Int) + 1)) := mcl_cell D3.out.x rfl
    have y6 : Z2.cell? ⟨wc.heap.size, 4, none⟩ = some ((.slice (some ⟨sg, 0, none⟩) (D + 2) k2)) := mcl_cell D3.out.x rfl
    go_upto_region 30 with (fail)
    go_quiet (exact Calls.quiet_of_same ((hneeds _).mono fun _ _ h => ⟨h.1, h.2.symm⟩))
    have D5 := Lib.hid (D3.out.later (below_drewN (Below.refl _ _) nq))
    generalize World.drewN Z2 nq = V5 at *
    clear D3
    have v0 : V5.cell? ⟨w.heap.size, 0, none⟩ = some (.slice (some ad) n k1) := mcl_cell D5.out.o.a rfl
    have v1 : V5.cell? ⟨w.heap.size, 1, none⟩ = some (.int .i64 arg) := mcl_cell D5.out.o.a rfl
    have v2 : V5.cell? ⟨w.heap.size, 2, none⟩ = some (.int .i64 data) := mcl_cell D5.out.o.a rfl
    have v4 : V5.cell? ⟨w.heap.size, 4, none⟩ = some ((.slice (some ⟨sg, 0, none⟩) (D + 2) k2)) := mcl_cell D5.out.o.a rfl
    have u4 : V5.cell? ⟨wc.heap.size, 4, none⟩ = some ((.slice (some ⟨sg, 0, none⟩) (D + 2) k2)) := mcl_cell D5.out.x rfl
    have ya : V5.cell? ⟨sg, D, none⟩ = some (.int .i64 a) := num_in D5.out.o.stk HF.out.nums (p := D) (by omega) HVA.out
    have yb : V5.cell? ⟨sg, D + 1, none⟩ = some (.int .i64 b) := num_in D5.out.o.stk HF.out.nums (p := D + 1) (by omega) HVB.out
    have hsl : ∀ w, (Instr.sliceAt 23 (.slice (some ⟨sg, 0, none⟩) (D + 2) k2) none (some (.int .i64 (D : Int))) none).run Try.prog w = .ok (.slice (some ⟨sg, 0, none⟩) D k2) w := fun w => slice_to23 (some ⟨sg, 0, none⟩) (D + 2) k2 D (by omega) (D : Int) rfl w
    go_wp2_with fail
    refine (hputs _).mono ?_
    rintro _ _ ⟨rfl, rfl⟩
    go_wp2_with fail
    refine (hneeds _).mono ?_
    rintro _ _ ⟨rfl, rfl⟩
    go_wp2_with fail
    refine (hneeds _).mono ?_
    rintro _ _ ⟨rfl, rfl⟩
    go_upto_region 39 with (fail)
    have t0 : (tookOf stk 4).getD 0 0 = a := (took_at (k := 2) (i := 0) HD.out.symm (by decide)).trans HVA.out
    have t1 : (tookOf stk 4).getD 1 0 = b := (took_at (k := 2) (i := 1) HD.out.symm (by decide)).trans HVB.out
    go_wp2_with fail
    refine (htwo _).mono ?_
    rintro _ _ ⟨rfl, nq2, rfl⟩
    have D6 := Lib.hid (D5.out.later (below_drewN (Below.refl _ _) nq2))
    generalize World.drewN V5 nq2 = V6 at *
    clear D5
    by_cases he0 : e = 0
    · subst he0
      have HP : Hid (stepP c arg data ⟨pc, stk, G, false, 0⟩ = ⟨pc + 1, stk.take D ++ [r], G - 1, false, 0⟩) := by
        have htake : stk.length - takesP 4 = D := by show stk.length - 2 = D; rw [← HD.out]; omega
        have hout : outP 4 (saidOf c pc 4) (tookOf stk 4) arg data c.length = ([r], 0) := by
          show ([(pairP 4 ((tookOf stk 4).getD 0 0) ((tookOf stk 4).getD 1 0)).1], (pairP 4 ((tookOf stk 4).getD 0 0) ((tookOf stk 4).getD 1 0)).2) = _
          rw [t0, t1, ← HR.out, ← HE.out]
        have hh := step_does hG (by rw [← HN.out]; exact hlt) HSG.out (by decide) (by show pc + 1 + 0 ≤ c.length; rw [← HN.out]; omega) (by show 2 ≤ stk.length; rw [← HD.out]; omega) (by show stk.length - 2 + 1 ≤ 16; rw [← HD.out]; omega) hout rfl
        rw [htake] at hh
        exact Lib.hid hh
      go_upto_region 51 with (fail)
      go_upto_region 51 with (fail)
      have L1 := Lib.hid (Lst.of D6.out D (by omega))
      go_upto_region 69 with (at_builtin; go_must (refine wpList_appN rfl (.tmp 192) (.tmp 194) rfl (w.heap.size + 2) (.slice (some ⟨sg, 0, none⟩) D k2) (stk.take D).length (stk.take D) [r] V6 rfl L1.out.stk rfl rfl (Nat.le_trans (List.length_take_le _ _) (by omega)) (by simp) (Nat.le_trans L1.out.g (Nat.le_of_lt L1.out.lt)) ?_); intro v9 W9 ho9 hg9; have L2 := Lib.hid (L1.out.grew (ys := [r]) ((Below.refl _ _).alloc (Nat.le_refl _) _) ho9 hg9); obtain ⟨a9, k9, hv9⟩ := own_slice L2.out.stk; obtain ⟨l9, hl9⟩ : ∃ l, l = (stk.take D ++ [r]).length := ⟨_, rfl⟩; rw [← hl9] at hv9; subst hv9; clear ho9 hg9 L1 hl9)
      have o4 : W9.cell? ⟨wc.heap.size, 4, none⟩ = some (.slice (some ⟨sg, 0, none⟩) (D + 2) k2) := mcl_cell L2.out.x rfl
      have g4 : W9.frozen? ⟨wc.heap.size, 4, none⟩ = false := by simp [World.frozen?, L2.out.x]
      go_upto_region 70 with (fail)
      clear o4 g4
      have hst := only_setCell W9 wc.heap.size 4 _ _ (.slice a9 l9 k9) L2.out.x
      have HRX : Hid ((W9.setCell ⟨wc.heap.size, 4, none⟩ (.slice a9 l9 k9)).heap[wc.heap.size]? = some (.cells (mcl (.slice (some ad) n k1) (.slice a9 l9 k9) arg data ⟨pc + 1, stk, G - 1, false, 0⟩) 37 (0, 0))) := Lib.hid hst.2
      have HON := Lib.hid hst.1
      have HRR := Lib.hid (L2.out.r2 hst.1)
      obtain ⟨Wa, hWa⟩ : ∃ X, X = W9.setCell ⟨wc.heap.size, 4, none⟩ (.slice a9 l9 k9) := ⟨_, rfl⟩
      rw [← hWa] at HRX HON HRR ⊢
      clear hst hWa
      go_wp2_with (first
        | (refine wpList_load_row rfl 37 (.tmp 3) rfl wc.heap.size rfl 37 (mcl (.slice (some ad) n k1) (.slice a9 l9 k9) arg data ⟨pc + 1, stk, G - 1, false, 0⟩) (0, 0) _ HRX.out Try.underlying37 rfl size_ref ?_)
        | (refine store_agg rfl 37 (.tmp 2) (.tmp 255) rfl rfl (w.heap.size + 1) (mcl (.slice (some ad) n k1) (.slice a9 l9 k9) arg data ⟨pc + 1, stk, G - 1, false, 0⟩) rfl rfl 37 _ HRR.out size_ref rfl (mcl_one _ _ _ _ _ _ _ _ _) ?_; intro T hrow hon))
      refine bodyPost_ret (v := .agg (mcl (.slice (some ad) n k1) (.slice a9 l9 k9) arg data ⟨pc + 1, stk, G - 1, false, 0⟩)) (results_cell_row (P := Try.prog) rfl _ _ (w.heap.size + 1) 37 _ (0, 0) _ rfl hrow Try.underlying37 rfl size_ref) rfl ?_
      rw [HP.out]
      exact ⟨_, _, rfl, L2.out.done HON.out hon⟩
    · have HP : Hid (stepP c arg data ⟨pc, stk, G, false, 0⟩ = (Ms.spend ⟨pc, stk, G, false, 0⟩).halt e) := by
        refine Lib.hid (step_err hG (by rw [← HN.out]; exact hlt) HSG.out (by decide) (by show pc + 1 + 0 ≤ c.length; rw [← HN.out]; omega) (by show 2 ≤ stk.length; rw [← HD.out]; omega) (by show stk.length - 2 + 1 ≤ 16; rw [← HD.out]; omega) ?_ he0)
        show (pairP 4 ((tookOf stk 4).getD 0 0) ((tookOf stk 4).getD 1 0)).2 = e
        rw [t0, t1, ← HE.out]
      go_upto_region 50 with (fail)
      go_wp2_with (first
        | (refine wpList_load_row rfl 37 (.tmp 1) rfl w.heap.size rfl 37 (mcl (.slice (some ad) n k1) (.slice (some ⟨sg, 0, none⟩) (D + 2) k2) arg data ⟨pc, stk, G, false, 0⟩) (0, 0) _ D6.out.o.a Try.underlying37 rfl size_ref ?_))
      refine (fail_any (some ad) n k1 (some ⟨sg, 0, none⟩) (D + 2) k2 arg data ⟨pc, stk, G, false, 0⟩ e V6 ⟨hG, hg200⟩).mono ?_
      rintro _ U ⟨rfl, hbU⟩
      have DU := Lib.hid (D6.out.later hbU)
      clear hbU D6
      go_wp2_with (first
        | (refine store_agg rfl 37 (.tmp 2) (.tmp 191) rfl rfl (w.heap.size + 1) (mcl (.slice (some ad) n k1) (.slice (some ⟨sg, 0, none⟩) (D + 2) k2) arg data ((Ms.spend ⟨pc, stk, G, false, 0⟩).halt e)) rfl rfl 37 _ DU.out.o.r size_ref rfl (mcl_one _ _ _ _ _ _ _ _ _) ?_; intro T hrow hon))
      refine bodyPost_ret (v := .agg (mcl (.slice (some ad) n k1) (.slice (some ⟨sg, 0, none⟩) (D + 2) k2) arg data ((Ms.spend ⟨pc, stk, G, false, 0⟩).halt e))) (results_cell_row (P := Try.prog) rfl _ _ (w.heap.size + 1) 37 _ (0, 0) _ rfl hrow Try.underlying37 rfl size_ref) rfl ?_
      rw [HP.out]
      refine ⟨_, _, rfl, ?_⟩
      have h := DU.out.o.done hon
      refine ⟨h.1, ?_, h.2.2⟩
      show T.ownsRow _ _ _ _ stk.length (nts stk)
      rw [← HD.out]
      exact h.2.1

end Go.Proofs.Ytdbnfafafhdolaa
