/- The document's Step: it stops, or a sign is none. -/
import Derived.Test.YtdbnfafafhdolaaRReg
namespace Go.Proofs.Ytdbnfafafhdolaa
open Go Go.RowKit
set_option linter.unusedVariables false
set_option linter.unusedSimpArgs false

theorem Try.sizeBool : (Try.prog.info? 4).map (·.size) = some 1 := by kernel_rfl
theorem byte_at {W : World} {B n : Nat} {c : List Int} {ad : Addr} {k : Nat} (h : W.ownsRow B 5 1 (.slice (some ad) n k) n (bts c)) (hb : ∀ x ∈ c, Byte x) {p : Nat} (hp : p < n) {s : Int} (hs : c.getD p 0 = s) : W.cell? (ad.add p) = some (.int .u8 s) := by
  obtain ⟨ad', e, hc⟩ := own_byte h hb hp
  cases e
  rw [hc, hs]
theorem num_at {W : World} {B d : Nat} {stk : List Int} {ad : Addr} {k : Nat} (h : W.ownsRow B 3 1 (.slice (some ad) d k) d (nts stk)) (hb : ∀ x ∈ stk, I64 x) {p : Nat} (hp : p < d) {s : Int} (hs : stk.getD p 0 = s) : W.cell? (ad.add p) = some (.int .i64 s) := by
  obtain ⟨ad', e, hc⟩ := own_num h hb hp
  cases e
  rw [hc, hs]

set_option maxRecDepth 100000 in
set_option maxHeartbeats 4000000 in
theorem rstep_end {c : List Int} {arg data : Int} {stk : List Int} {G : Int} {ca sa : Option Addr} {n d cc sc : Nat} {w : World} (hn : n = c.length) (hd : d = stk.length) (hc : Came w ca n cc c) (hs : Nums w sa d sc stk) (hnil : sa = none → d = 0 ∧ sc = 0) (hF : Fit c arg data ⟨n, stk, G, false, 0⟩) (hG : 1 ≤ G) :
    Calls Try.prog 20 #[.agg (mcl (.slice ca n cc) (.slice sa d sc) arg data ⟨n, stk, G, false, 0⟩)] w (RPost w n c arg data (stepP c arg data ⟨n, stk, G, false, 0⟩)) := by
  have HC := Lib.hid hc
  have HS := Lib.hid hs
  have HF := Lib.hid hF
  have HN := Lib.hid hn
  have HD := Lib.hid hd
  have hlen : n ≤ 100 := by have := hF.len; omega
  have hstk : d ≤ 16 := by have := hF.stk; have h2 : d = stk.length := hd; show d ≤ 16; have h3 : stk.length ≤ 16 := this; omega
  skip
  have hg200 : G ≤ 200 := hF.gas.2
  clear hc hs hF hn hd
  obtain ⟨i0, hi, hz0, hz1, hz2⟩ := info_parts Try.infoByte
  go_enter Try.func20, Try.ntmps20
  go_upto_region 1 with (fail)
  have hbg := Bgn.start w (mcl (.slice ca n cc) (.slice sa d sc) arg data ⟨n, stk, G, false, 0⟩)
  have HBG := Lib.hid hbg
  clear hbg
  generalize hX0 : (w.alloc _).alloc _ = X0
  have G00 : Hid (Bgn w (mcl (.slice ca n cc) (.slice sa d sc) arg data ⟨n, stk, G, false, 0⟩) X0) := by rw [← hX0]; exact HBG
  clear HBG hX0
  go_cut [] from 12 to 22 (fun wx => ∃ a1 k1 a2 k2, Hid (One w n d c stk (mcl (.slice a1 n k1) (.slice a2 d k2) arg data ⟨n, stk, G, false, 0⟩) (.slice a1 n k1) (.slice a2 d k2) wx))
  case first =>
    refine anyS_start (by kernel_rfl) ?_
    have G0 := Lib.hid (G00.out.later (Below.refl _ _).drew)
    clear G00
    generalize World.drew X0 = V0 at *
    have hcs0 : Hid (TwoAt w.heap.size (.slice ca n cc) (.slice sa d sc) V0) := ⟨mcl_cell G0.out.r1 rfl, mcl_cell G0.out.r1 rfl⟩
    (refine anyS_free (i := 1) (v := ?_) rfl (by kernel_rfl) (by kernel_rfl) (by kernel_rfl) (fun _ _ _ h => h) (fun _ => by simp) (Or.inl ⟨by rfl, fun w' _ => ?_⟩) ?_; rotate_left; (· go_simp; try with_reducible rfl))
    try simp only [Act.put, List.setIfInBounds_toArray, List.set_cons_zero, List.set_cons_succ]
    (refine anyS_free (i := 5) (v := ?_) rfl (by kernel_rfl) (by kernel_rfl) (by kernel_rfl) (fun _ _ _ h => h) (fun _ => by simp) (Or.inl ⟨by rfl, fun w' _ => ?_⟩) ?_; rotate_left; (· go_simp; try with_reducible rfl))
    try simp only [Act.put, List.setIfInBounds_toArray, List.set_cons_zero, List.set_cons_succ]
    (refine anyS_takeNew (i := 6) (v := .slice sa d sc) (fun w' => TwoAt w.heap.size (.slice ca n cc) (.slice sa d sc) w') [0, 2, 3, 4] hcs0.out rfl (by kernel_rfl) (by kernel_rfl) (by kernel_rfl) (by kernel_rfl) (fun _ _ _ h => h) (fun _ hcs => by repeat' (first | exact trivial | exact fun _ => hcs | refine ⟨?_, ?_⟩)) (Or.inl ⟨by rfl, fun w' hw' => ?_⟩) ?_; (· have c0 := hw'.l; have c4 := hw'.r; go_simp))
    try simp only [Act.put, List.setIfInBounds_toArray, List.set_cons_zero, List.set_cons_succ]
    (refine anyS_takeNew (i := 2) (v := .slice ca n cc) (fun w' => TwoAt w.heap.size (.slice ca n cc) (.slice sa d sc) w') [0, 4] hcs0.out rfl (by kernel_rfl) (by kernel_rfl) (by kernel_rfl) (by kernel_rfl) (fun _ _ _ h => h) (fun _ hcs => by repeat' (first | exact trivial | exact fun _ => hcs | refine ⟨?_, ?_⟩)) (Or.inl ⟨by rfl, fun w' hw' => ?_⟩) ?_; (· have c0 := hw'.l; have c4 := hw'.r; go_simp))
    try simp only [Act.put, List.setIfInBounds_toArray, List.set_cons_zero, List.set_cons_succ]
    clear hcs0
    refine anyS_two 0 4 (by kernel_rfl) rfl rfl (fun K' hK' => ?_) (fun K' hK' => ?_)
    · go_simp
      have M12_1 := Lib.hid (World.ownsRow_made (base := w.heap.size + 2) (e := 5) (size := 1) V0 #[] 0 G0.out.s (by unfold maxLen; omega) rfl)
      have hbs : Hid (Below (w.heap.size + 2) V0 (V0.alloc (.cells #[] 5))) := (Below.refl _ _).alloc G0.out.s _
      have hbl : Hid (Below V0.heap.size V0 (V0.alloc (.cells #[] 5))) := (Below.refl _ _).alloc (Nat.le_refl _) _
      have G1 := Lib.hid (G0.out.later hbs.out)
      obtain ⟨V1, hV1⟩ : ∃ X, X = V0.alloc (.cells #[] 5) := ⟨_, rfl⟩
      rw [← hV1] at M12_1 G1 ⊢
      clear hbs hbl hV1
      have hcs : TwoAt w.heap.size (.slice ca n cc) (.slice sa d sc) V1 := ⟨mcl_cell G1.out.r1 rfl, mcl_cell G1.out.r1 rfl⟩
      refine hK'.out _ _ (by repeat' (first | exact trivial | exact fun _ => hcs | refine ⟨?_, ?_⟩)) ?_
      clear hK' K' hcs
      try simp only [Act.put, List.setIfInBounds_toArray, List.set_cons_zero, List.set_cons_succ]
      refine anyS_two 3 4 (by kernel_rfl) rfl rfl (fun K' hK' => ?_) (fun K' hK' => ?_)
      · refine step_append_opt rfl (.tmp 12) (.tmp 14) 22 rfl (w.heap.size + 2) 5 i0 Try.underlying22 hi hz0 hz1 hz2 _ 0 [] rfl M12_1.out ca n cc c rfl (HC.out.below G1.out.b).reads (HC.out.below G1.out.b).nil (by omega) G1.out.s ?_
        intro v15 V2 ho hg
        rw [Nat.zero_add, List.nil_append] at ho
        have hbs : Hid (Below (w.heap.size + 2) V1 V2) := (Below.refl _ _).grown hg G1.out.s (fun k hk => (M12_1.out.lt k hk).1)
        have G2 := Lib.hid (G1.out.later hbs.out)
        obtain ⟨a15, k15, rfl⟩ := own_slice ho
        have M15_2 := Lib.hid ho
        clear ho hg hbs
        have hcs : TwoAt w.heap.size (.slice ca n cc) (.slice sa d sc) V2 := ⟨mcl_cell G2.out.r1 rfl, mcl_cell G2.out.r1 rfl⟩
        refine hK'.out _ _ (by repeat' (first | exact trivial | exact fun _ => hcs | refine ⟨?_, ?_⟩)) ?_
        clear hK' K' hcs
        try simp only [Act.put, List.setIfInBounds_toArray, List.set_cons_zero, List.set_cons_succ]
        (refine anyS_free (i := 8) (v := ?_) rfl (by kernel_rfl) (by kernel_rfl) (by kernel_rfl) (fun _ _ _ h => h) (fun _ => by simp) (Or.inl ⟨by rfl, fun w' _ => ?_⟩) ?_; rotate_left; (· go_simp; try with_reducible rfl))
        try simp only [Act.put, List.setIfInBounds_toArray, List.set_cons_zero, List.set_cons_succ]
        refine anyS_one 4 (by kernel_rfl) rfl (fun K' hK' => ?_)
        go_simp
        have M16_3 := Lib.hid (World.ownsRow_made (base := w.heap.size + 2) (e := 3) (size := 1) V2 #[] 0 G2.out.s (by unfold maxLen; omega) rfl)
        have hbs : Hid (Below (w.heap.size + 2) V2 (V2.alloc (.cells #[] 3))) := (Below.refl _ _).alloc G2.out.s _
        have hbl : Hid (Below V2.heap.size V2 (V2.alloc (.cells #[] 3))) := (Below.refl _ _).alloc (Nat.le_refl _) _
        have G3 := Lib.hid (G2.out.later hbs.out)
        have M15_3 := Lib.hid (own_later M15_2.out hbl.out)
        obtain ⟨V3, hV3⟩ : ∃ X, X = V2.alloc (.cells #[] 3) := ⟨_, rfl⟩
        rw [← hV3] at M16_3 G3 M15_3 ⊢
        clear hbs hbl hV3
        have hcs : TwoAt w.heap.size (.slice ca n cc) (.slice sa d sc) V3 := ⟨mcl_cell G3.out.r1 rfl, mcl_cell G3.out.r1 rfl⟩
        refine hK'.out _ _ (by repeat' (first | exact trivial | exact fun _ => hcs | refine ⟨?_, ?_⟩)) ?_
        clear hK' K' hcs
        try simp only [Act.put, List.setIfInBounds_toArray, List.set_cons_zero, List.set_cons_succ]
        refine anyS_one 7 (by kernel_rfl) rfl (fun K' hK' => ?_)
        refine step_nums_opt rfl (.tmp 16) (.tmp 18) rfl (w.heap.size + 2) _ 0 [] rfl M16_3.out sa d sc stk rfl (HS.out.below G3.out.b) hnil (by omega) G3.out.s ?_
        intro v19 V4 ho hg
        rw [Nat.zero_add, List.nil_append] at ho
        have hbs : Hid (Below (w.heap.size + 2) V3 V4) := (Below.refl _ _).grown hg G3.out.s (fun k hk => (M16_3.out.lt k hk).1)
        have G4 := Lib.hid (G3.out.later hbs.out)
        have M15_4 := Lib.hid (M15_3.out.kept hg (own_apart M15_3.out M16_3.out (by decide)))
        obtain ⟨a19, k19, rfl⟩ := own_slice ho
        have M19_4 := Lib.hid ho
        clear ho hg hbs
        have hcs : TwoAt w.heap.size (.slice ca n cc) (.slice sa d sc) V4 := ⟨mcl_cell G4.out.r1 rfl, mcl_cell G4.out.r1 rfl⟩
        refine hK'.out _ _ (by repeat' (first | exact trivial | exact fun _ => hcs | refine ⟨?_, ?_⟩)) ?_
        clear hK' K' hcs
        try simp only [Act.put, List.setIfInBounds_toArray, List.set_cons_zero, List.set_cons_succ]
        have h1 := only_setCell V4 w.heap.size 0 _ _ (.slice a15 n k15) G4.out.r1
        have h2 := only_setCell _ w.heap.size 4 _ _ (.slice a19 d k19) h1.2
        have c0' := mcl_cell (k := 0) G4.out.r1 rfl
        have f0' : V4.frozen? ⟨w.heap.size, 0, none⟩ = false := by simp [World.frozen?, G4.out.r1]
        have c4' : (V4.setCell ⟨w.heap.size, 0, none⟩ (.slice a15 n k15)).cell? ⟨w.heap.size, 4, none⟩ = some (.slice sa d sc) := mcl_cell h1.2 rfl
        have f4' : (V4.setCell ⟨w.heap.size, 0, none⟩ (.slice a15 n k15)).frozen? ⟨w.heap.size, 4, none⟩ = false := by simp [World.frozen?, h1.2]
        have ho := h1.1.trans h2.1
        have hmac : One w n d c stk (mcl (.slice a15 n k15) (.slice a19 d k19) arg data ⟨n, stk, G, false, 0⟩) (.slice a15 n k15) (.slice a19 d k19) ((V4.setCell ⟨w.heap.size, 0, none⟩ (.slice a15 n k15)).setCell ⟨w.heap.size, 4, none⟩ (.slice a19 d k19)) :=
          ⟨h2.2, (ho.block (w.heap.size + 1) (by have := G4.out.s; omega) (by simp)).trans G4.out.r2, own_only M15_4.out ho (own_not M15_4.out G4.out.r1 (by decide)), own_only M19_4.out ho (own_not M19_4.out G4.out.r1 (by decide)), G4.out.b.trans (ho.below (Nat.le_refl _) G4.out.b.size), Nat.le_trans G4.out.s ho.size⟩
        have HM := Lib.hid hmac
        clear ho hmac h2
        refine anyS_one 9 (by kernel_rfl) rfl (fun K' hK' => ?_)
        go_simp
        refine hK'.out _ _ (by repeat' (first | exact trivial | exact fun h => absurd h (by decide) | refine ⟨?_, ?_⟩)) ?_
        clear hK' K'
        try simp only [Act.put, List.setIfInBounds_toArray, List.set_cons_zero, List.set_cons_succ]
        (refine anyS_free (i := 10) (v := ?_) rfl (by kernel_rfl) (by kernel_rfl) (by kernel_rfl) (fun _ _ _ h => h) (fun _ => by simp) (Or.inl ⟨by rfl, fun w' _ => ?_⟩) ?_; rotate_left; (· go_simp; try with_reducible rfl))
        try simp only [Act.put, List.setIfInBounds_toArray, List.set_cons_zero, List.set_cons_succ]
        refine anyS_one 11 (by kernel_rfl) rfl (fun K' hK' => ?_)
        go_simp
        refine hK'.out _ _ (by repeat' (first | exact trivial | exact fun h => absurd h (by decide) | refine ⟨?_, ?_⟩)) ?_
        clear hK' K'
        try simp only [Act.put, List.setIfInBounds_toArray, List.set_cons_zero, List.set_cons_succ]
        refine anyS_done (by kernel_rfl) ?_ _
        refine NoPanic.normal ?_
        clear c0' f0' c4' f4' h1
        go_wp2_with fail
        go_meet
        case rel => exact ⟨_, _, _, _, HM⟩
      · go_simp
        have M16_5 := Lib.hid (World.ownsRow_made (base := w.heap.size + 2) (e := 3) (size := 1) V1 #[] 0 G1.out.s (by unfold maxLen; omega) rfl)
        have hbs : Hid (Below (w.heap.size + 2) V1 (V1.alloc (.cells #[] 3))) := (Below.refl _ _).alloc G1.out.s _
        have hbl : Hid (Below V1.heap.size V1 (V1.alloc (.cells #[] 3))) := (Below.refl _ _).alloc (Nat.le_refl _) _
        have G5 := Lib.hid (G1.out.later hbs.out)
        have M12_5 := Lib.hid (own_later M12_1.out hbl.out)
        obtain ⟨V5, hV5⟩ : ∃ X, X = V1.alloc (.cells #[] 3) := ⟨_, rfl⟩
        rw [← hV5] at M16_5 G5 M12_5 ⊢
        clear hbs hbl hV5
        have hcs : TwoAt w.heap.size (.slice ca n cc) (.slice sa d sc) V5 := ⟨mcl_cell G5.out.r1 rfl, mcl_cell G5.out.r1 rfl⟩
        refine hK'.out _ _ (by repeat' (first | exact trivial | exact fun _ => hcs | refine ⟨?_, ?_⟩)) ?_
        clear hK' K' hcs
        try simp only [Act.put, List.setIfInBounds_toArray, List.set_cons_zero, List.set_cons_succ]
        refine anyS_one 3 (by kernel_rfl) rfl (fun K' hK' => ?_)
        refine step_append_opt rfl (.tmp 12) (.tmp 14) 22 rfl (w.heap.size + 2) 5 i0 Try.underlying22 hi hz0 hz1 hz2 _ 0 [] rfl M12_5.out ca n cc c rfl (HC.out.below G5.out.b).reads (HC.out.below G5.out.b).nil (by omega) G5.out.s ?_
        intro v15 V6 ho hg
        rw [Nat.zero_add, List.nil_append] at ho
        have hbs : Hid (Below (w.heap.size + 2) V5 V6) := (Below.refl _ _).grown hg G5.out.s (fun k hk => (M12_5.out.lt k hk).1)
        have G6 := Lib.hid (G5.out.later hbs.out)
        have M16_6 := Lib.hid (M16_5.out.kept hg (own_apart M16_5.out M12_5.out (by decide)))
        obtain ⟨a15, k15, rfl⟩ := own_slice ho
        have M15_6 := Lib.hid ho
        clear ho hg hbs
        have hcs : TwoAt w.heap.size (.slice ca n cc) (.slice sa d sc) V6 := ⟨mcl_cell G6.out.r1 rfl, mcl_cell G6.out.r1 rfl⟩
        refine hK'.out _ _ (by repeat' (first | exact trivial | exact fun _ => hcs | refine ⟨?_, ?_⟩)) ?_
        clear hK' K' hcs
        try simp only [Act.put, List.setIfInBounds_toArray, List.set_cons_zero, List.set_cons_succ]
        (refine anyS_free (i := 8) (v := ?_) rfl (by kernel_rfl) (by kernel_rfl) (by kernel_rfl) (fun _ _ _ h => h) (fun _ => by simp) (Or.inl ⟨by rfl, fun w' _ => ?_⟩) ?_; rotate_left; (· go_simp; try with_reducible rfl))
        try simp only [Act.put, List.setIfInBounds_toArray, List.set_cons_zero, List.set_cons_succ]
        refine anyS_one 7 (by kernel_rfl) rfl (fun K' hK' => ?_)
        refine step_nums_opt rfl (.tmp 16) (.tmp 18) rfl (w.heap.size + 2) _ 0 [] rfl M16_6.out sa d sc stk rfl (HS.out.below G6.out.b) hnil (by omega) G6.out.s ?_
        intro v19 V7 ho hg
        rw [Nat.zero_add, List.nil_append] at ho
        have hbs : Hid (Below (w.heap.size + 2) V6 V7) := (Below.refl _ _).grown hg G6.out.s (fun k hk => (M16_6.out.lt k hk).1)
        have G7 := Lib.hid (G6.out.later hbs.out)
        have M15_7 := Lib.hid (M15_6.out.kept hg (own_apart M15_6.out M16_6.out (by decide)))
        obtain ⟨a19, k19, rfl⟩ := own_slice ho
        have M19_7 := Lib.hid ho
        clear ho hg hbs
        have hcs : TwoAt w.heap.size (.slice ca n cc) (.slice sa d sc) V7 := ⟨mcl_cell G7.out.r1 rfl, mcl_cell G7.out.r1 rfl⟩
        refine hK'.out _ _ (by repeat' (first | exact trivial | exact fun _ => hcs | refine ⟨?_, ?_⟩)) ?_
        clear hK' K' hcs
        try simp only [Act.put, List.setIfInBounds_toArray, List.set_cons_zero, List.set_cons_succ]
        have h1 := only_setCell V7 w.heap.size 0 _ _ (.slice a15 n k15) G7.out.r1
        have h2 := only_setCell _ w.heap.size 4 _ _ (.slice a19 d k19) h1.2
        have c0' := mcl_cell (k := 0) G7.out.r1 rfl
        have f0' : V7.frozen? ⟨w.heap.size, 0, none⟩ = false := by simp [World.frozen?, G7.out.r1]
        have c4' : (V7.setCell ⟨w.heap.size, 0, none⟩ (.slice a15 n k15)).cell? ⟨w.heap.size, 4, none⟩ = some (.slice sa d sc) := mcl_cell h1.2 rfl
        have f4' : (V7.setCell ⟨w.heap.size, 0, none⟩ (.slice a15 n k15)).frozen? ⟨w.heap.size, 4, none⟩ = false := by simp [World.frozen?, h1.2]
        have ho := h1.1.trans h2.1
        have hmac : One w n d c stk (mcl (.slice a15 n k15) (.slice a19 d k19) arg data ⟨n, stk, G, false, 0⟩) (.slice a15 n k15) (.slice a19 d k19) ((V7.setCell ⟨w.heap.size, 0, none⟩ (.slice a15 n k15)).setCell ⟨w.heap.size, 4, none⟩ (.slice a19 d k19)) :=
          ⟨h2.2, (ho.block (w.heap.size + 1) (by have := G7.out.s; omega) (by simp)).trans G7.out.r2, own_only M15_7.out ho (own_not M15_7.out G7.out.r1 (by decide)), own_only M19_7.out ho (own_not M19_7.out G7.out.r1 (by decide)), G7.out.b.trans (ho.below (Nat.le_refl _) G7.out.b.size), Nat.le_trans G7.out.s ho.size⟩
        have HM := Lib.hid hmac
        clear ho hmac h2
        refine anyS_one 9 (by kernel_rfl) rfl (fun K' hK' => ?_)
        go_simp
        refine hK'.out _ _ (by repeat' (first | exact trivial | exact fun h => absurd h (by decide) | refine ⟨?_, ?_⟩)) ?_
        clear hK' K'
        try simp only [Act.put, List.setIfInBounds_toArray, List.set_cons_zero, List.set_cons_succ]
        (refine anyS_free (i := 10) (v := ?_) rfl (by kernel_rfl) (by kernel_rfl) (by kernel_rfl) (fun _ _ _ h => h) (fun _ => by simp) (Or.inl ⟨by rfl, fun w' _ => ?_⟩) ?_; rotate_left; (· go_simp; try with_reducible rfl))
        try simp only [Act.put, List.setIfInBounds_toArray, List.set_cons_zero, List.set_cons_succ]
        refine anyS_one 11 (by kernel_rfl) rfl (fun K' hK' => ?_)
        go_simp
        refine hK'.out _ _ (by repeat' (first | exact trivial | exact fun h => absurd h (by decide) | refine ⟨?_, ?_⟩)) ?_
        clear hK' K'
        try simp only [Act.put, List.setIfInBounds_toArray, List.set_cons_zero, List.set_cons_succ]
        refine anyS_done (by kernel_rfl) ?_ _
        refine NoPanic.normal ?_
        clear c0' f0' c4' f4' h1
        go_wp2_with fail
        go_meet
        case rel => exact ⟨_, _, _, _, HM⟩
    · go_simp
      have M16_8 := Lib.hid (World.ownsRow_made (base := w.heap.size + 2) (e := 3) (size := 1) V0 #[] 0 G0.out.s (by unfold maxLen; omega) rfl)
      have hbs : Hid (Below (w.heap.size + 2) V0 (V0.alloc (.cells #[] 3))) := (Below.refl _ _).alloc G0.out.s _
      have hbl : Hid (Below V0.heap.size V0 (V0.alloc (.cells #[] 3))) := (Below.refl _ _).alloc (Nat.le_refl _) _
      have G8 := Lib.hid (G0.out.later hbs.out)
      obtain ⟨V8, hV8⟩ : ∃ X, X = V0.alloc (.cells #[] 3) := ⟨_, rfl⟩
      rw [← hV8] at M16_8 G8 ⊢
      clear hbs hbl hV8
      have hcs : TwoAt w.heap.size (.slice ca n cc) (.slice sa d sc) V8 := ⟨mcl_cell G8.out.r1 rfl, mcl_cell G8.out.r1 rfl⟩
      refine hK'.out _ _ (by repeat' (first | exact trivial | exact fun _ => hcs | refine ⟨?_, ?_⟩)) ?_
      clear hK' K' hcs
      try simp only [Act.put, List.setIfInBounds_toArray, List.set_cons_zero, List.set_cons_succ]
      refine anyS_one 0 (by kernel_rfl) rfl (fun K' hK' => ?_)
      go_simp
      have M12_9 := Lib.hid (World.ownsRow_made (base := w.heap.size + 2) (e := 5) (size := 1) V8 #[] 0 G8.out.s (by unfold maxLen; omega) rfl)
      have hbs : Hid (Below (w.heap.size + 2) V8 (V8.alloc (.cells #[] 5))) := (Below.refl _ _).alloc G8.out.s _
      have hbl : Hid (Below V8.heap.size V8 (V8.alloc (.cells #[] 5))) := (Below.refl _ _).alloc (Nat.le_refl _) _
      have G9 := Lib.hid (G8.out.later hbs.out)
      have M16_9 := Lib.hid (own_later M16_8.out hbl.out)
      obtain ⟨V9, hV9⟩ : ∃ X, X = V8.alloc (.cells #[] 5) := ⟨_, rfl⟩
      rw [← hV9] at M12_9 G9 M16_9 ⊢
      clear hbs hbl hV9
      have hcs : TwoAt w.heap.size (.slice ca n cc) (.slice sa d sc) V9 := ⟨mcl_cell G9.out.r1 rfl, mcl_cell G9.out.r1 rfl⟩
      refine hK'.out _ _ (by repeat' (first | exact trivial | exact fun _ => hcs | refine ⟨?_, ?_⟩)) ?_
      clear hK' K' hcs
      try simp only [Act.put, List.setIfInBounds_toArray, List.set_cons_zero, List.set_cons_succ]
      refine anyS_one 3 (by kernel_rfl) rfl (fun K' hK' => ?_)
      refine step_append_opt rfl (.tmp 12) (.tmp 14) 22 rfl (w.heap.size + 2) 5 i0 Try.underlying22 hi hz0 hz1 hz2 _ 0 [] rfl M12_9.out ca n cc c rfl (HC.out.below G9.out.b).reads (HC.out.below G9.out.b).nil (by omega) G9.out.s ?_
      intro v15 V10 ho hg
      rw [Nat.zero_add, List.nil_append] at ho
      have hbs : Hid (Below (w.heap.size + 2) V9 V10) := (Below.refl _ _).grown hg G9.out.s (fun k hk => (M12_9.out.lt k hk).1)
      have G10 := Lib.hid (G9.out.later hbs.out)
      have M16_10 := Lib.hid (M16_9.out.kept hg (own_apart M16_9.out M12_9.out (by decide)))
      obtain ⟨a15, k15, rfl⟩ := own_slice ho
      have M15_10 := Lib.hid ho
      clear ho hg hbs
      have hcs : TwoAt w.heap.size (.slice ca n cc) (.slice sa d sc) V10 := ⟨mcl_cell G10.out.r1 rfl, mcl_cell G10.out.r1 rfl⟩
      refine hK'.out _ _ (by repeat' (first | exact trivial | exact fun _ => hcs | refine ⟨?_, ?_⟩)) ?_
      clear hK' K' hcs
      try simp only [Act.put, List.setIfInBounds_toArray, List.set_cons_zero, List.set_cons_succ]
      (refine anyS_free (i := 8) (v := ?_) rfl (by kernel_rfl) (by kernel_rfl) (by kernel_rfl) (fun _ _ _ h => h) (fun _ => by simp) (Or.inl ⟨by rfl, fun w' _ => ?_⟩) ?_; rotate_left; (· go_simp; try with_reducible rfl))
      try simp only [Act.put, List.setIfInBounds_toArray, List.set_cons_zero, List.set_cons_succ]
      refine anyS_one 7 (by kernel_rfl) rfl (fun K' hK' => ?_)
      refine step_nums_opt rfl (.tmp 16) (.tmp 18) rfl (w.heap.size + 2) _ 0 [] rfl M16_10.out sa d sc stk rfl (HS.out.below G10.out.b) hnil (by omega) G10.out.s ?_
      intro v19 V11 ho hg
      rw [Nat.zero_add, List.nil_append] at ho
      have hbs : Hid (Below (w.heap.size + 2) V10 V11) := (Below.refl _ _).grown hg G10.out.s (fun k hk => (M16_10.out.lt k hk).1)
      have G11 := Lib.hid (G10.out.later hbs.out)
      have M15_11 := Lib.hid (M15_10.out.kept hg (own_apart M15_10.out M16_10.out (by decide)))
      obtain ⟨a19, k19, rfl⟩ := own_slice ho
      have M19_11 := Lib.hid ho
      clear ho hg hbs
      have hcs : TwoAt w.heap.size (.slice ca n cc) (.slice sa d sc) V11 := ⟨mcl_cell G11.out.r1 rfl, mcl_cell G11.out.r1 rfl⟩
      refine hK'.out _ _ (by repeat' (first | exact trivial | exact fun _ => hcs | refine ⟨?_, ?_⟩)) ?_
      clear hK' K' hcs
      try simp only [Act.put, List.setIfInBounds_toArray, List.set_cons_zero, List.set_cons_succ]
      have h1 := only_setCell V11 w.heap.size 0 _ _ (.slice a15 n k15) G11.out.r1
      have h2 := only_setCell _ w.heap.size 4 _ _ (.slice a19 d k19) h1.2
      have c0' := mcl_cell (k := 0) G11.out.r1 rfl
      have f0' : V11.frozen? ⟨w.heap.size, 0, none⟩ = false := by simp [World.frozen?, G11.out.r1]
      have c4' : (V11.setCell ⟨w.heap.size, 0, none⟩ (.slice a15 n k15)).cell? ⟨w.heap.size, 4, none⟩ = some (.slice sa d sc) := mcl_cell h1.2 rfl
      have f4' : (V11.setCell ⟨w.heap.size, 0, none⟩ (.slice a15 n k15)).frozen? ⟨w.heap.size, 4, none⟩ = false := by simp [World.frozen?, h1.2]
      have ho := h1.1.trans h2.1
      have hmac : One w n d c stk (mcl (.slice a15 n k15) (.slice a19 d k19) arg data ⟨n, stk, G, false, 0⟩) (.slice a15 n k15) (.slice a19 d k19) ((V11.setCell ⟨w.heap.size, 0, none⟩ (.slice a15 n k15)).setCell ⟨w.heap.size, 4, none⟩ (.slice a19 d k19)) :=
        ⟨h2.2, (ho.block (w.heap.size + 1) (by have := G11.out.s; omega) (by simp)).trans G11.out.r2, own_only M15_11.out ho (own_not M15_11.out G11.out.r1 (by decide)), own_only M19_11.out ho (own_not M19_11.out G11.out.r1 (by decide)), G11.out.b.trans (ho.below (Nat.le_refl _) G11.out.b.size), Nat.le_trans G11.out.s ho.size⟩
      have HM := Lib.hid hmac
      clear ho hmac h2
      refine anyS_one 9 (by kernel_rfl) rfl (fun K' hK' => ?_)
      go_simp
      refine hK'.out _ _ (by repeat' (first | exact trivial | exact fun h => absurd h (by decide) | refine ⟨?_, ?_⟩)) ?_
      clear hK' K'
      try simp only [Act.put, List.setIfInBounds_toArray, List.set_cons_zero, List.set_cons_succ]
      (refine anyS_free (i := 10) (v := ?_) rfl (by kernel_rfl) (by kernel_rfl) (by kernel_rfl) (fun _ _ _ h => h) (fun _ => by simp) (Or.inl ⟨by rfl, fun w' _ => ?_⟩) ?_; rotate_left; (· go_simp; try with_reducible rfl))
      try simp only [Act.put, List.setIfInBounds_toArray, List.set_cons_zero, List.set_cons_succ]
      refine anyS_one 11 (by kernel_rfl) rfl (fun K' hK' => ?_)
      go_simp
      refine hK'.out _ _ (by repeat' (first | exact trivial | exact fun h => absurd h (by decide) | refine ⟨?_, ?_⟩)) ?_
      clear hK' K'
      try simp only [Act.put, List.setIfInBounds_toArray, List.set_cons_zero, List.set_cons_succ]
      refine anyS_done (by kernel_rfl) ?_ _
      refine NoPanic.normal ?_
      clear c0' f0' c4' f4' h1
      go_wp2_with fail
      go_meet
      case rel => exact ⟨_, _, _, _, HM⟩
  clear G00 hi hz0 hz1 hz2
  clear i0
  case rest =>
    obtain ⟨a1, k1, a2, k2, HO⟩ := hcut
    have e6 : wc.cell? ⟨w.heap.size, 6, none⟩ = some (.bool false) := mcl_cell HO.out.a rfl
    have e5 : wc.cell? ⟨w.heap.size, 5, none⟩ = some (.int .i64 G) := mcl_cell HO.out.a rfl
    have e3 : wc.cell? ⟨w.heap.size, 3, none⟩ = some (.int .i64 (n : Int)) := mcl_cell HO.out.a rfl
    have e0 : wc.cell? ⟨w.heap.size, 0, none⟩ = some (.slice a1 n k1) := mcl_cell HO.out.a rfl
    go_upto_region 9 with (fail)
    go_upto_region 10 with (first
      | (refine wpList_load_row rfl 37 (.tmp 1) rfl w.heap.size rfl 37 (mcl (.slice a1 n k1) (.slice a2 d k2) arg data ⟨n, stk, G, false, 0⟩) (0, 0) _ HO.out.a Try.underlying37 rfl size_ref ?_)
      | (refine store_agg rfl 37 (.tmp 3) (.tmp 44) rfl rfl wc.heap.size (mcl (.slice a1 n k1) (.slice a2 d k2) arg data ⟨n, stk, G, false, 0⟩) rfl rfl 37 _ (heap_alloc_new _ _) size_ref rfl (mcl_one _ _ _ _ _ _ _ _ _) ?_; intro Y hrow hon))
    have hbY : Below wc.heap.size wc Y := ((Below.refl _ _).alloc (Nat.le_refl _) _).trans (hon.below (Nat.le_refl _) (by simp))
    have D1 := Lib.hid (Prr.first HO.out hbY hrow)
    clear hrow hon hbY e0 e3 e5 e6 HO
    have x5 : Y.cell? ⟨wc.heap.size, 5, none⟩ = some (.int .i64 G) := mcl_cell D1.out.x rfl
    have f5 : Y.frozen? ⟨wc.heap.size, 5, none⟩ = false := by simp [World.frozen?, D1.out.x]
    go_upto_region 11 with (fail)
    clear x5 f5
    have hst := only_setCell Y wc.heap.size 5 _ _ (.int .i64 (G - 1)) D1.out.x
    have D2 : Hid (Prr w wc.heap.size n d c stk (mcl (.slice a1 n k1) (.slice a2 d k2) arg data ⟨n, stk, G, false, 0⟩) (mcl (.slice a1 n k1) (.slice a2 d k2) arg data ⟨n, stk, G - 1, false, 0⟩) (.slice a1 n k1) (.slice a2 d k2) (Y.setCell ⟨wc.heap.size, 5, none⟩ (.int .i64 (G - 1)))) := Lib.hid (D1.out.put hst.2 hst.1)
    obtain ⟨Z, hV2⟩ : ∃ X, X = Y.setCell ⟨wc.heap.size, 5, none⟩ (.int .i64 (G - 1)) := ⟨_, rfl⟩
    rw [← hV2] at D2 ⊢
    clear hst hV2 D1
    have z3 : Z.cell? ⟨w.heap.size, 3, none⟩ = some (.int .i64 (n : Int)) := mcl_cell D2.out.o.a rfl
    have z0 : Z.cell? ⟨w.heap.size, 0, none⟩ = some (.slice a1 n k1) := mcl_cell D2.out.o.a rfl
    go_upto_region 12 with (fail)
    have x6 : Z.cell? ⟨wc.heap.size, 6, none⟩ = some (.bool false) := mcl_cell D2.out.x rfl
    have f6 : Z.frozen? ⟨wc.heap.size, 6, none⟩ = false := by simp [World.frozen?, D2.out.x]
    go_upto_region 13 with (fail)
    clear x6 f6
    have hst := only_setCell Z wc.heap.size 6 _ _ (.bool true) D2.out.x
    have D3 : Hid (Prr w wc.heap.size n d c stk (mcl (.slice a1 n k1) (.slice a2 d k2) arg data ⟨n, stk, G, false, 0⟩) (mcl (.slice a1 n k1) (.slice a2 d k2) arg data ⟨n, stk, G - 1, true, 0⟩) (.slice a1 n k1) (.slice a2 d k2) (Z.setCell ⟨wc.heap.size, 6, none⟩ (.bool true))) := Lib.hid (D2.out.put hst.2 hst.1)
    obtain ⟨A, hV2⟩ : ∃ X, X = Z.setCell ⟨wc.heap.size, 6, none⟩ (.bool true) := ⟨_, rfl⟩
    rw [← hV2] at D3 ⊢
    clear hst hV2 D2
    go_wp2_with (first
      | (refine wpList_load_row rfl 37 (.tmp 3) rfl wc.heap.size rfl 37 (mcl (.slice a1 n k1) (.slice a2 d k2) arg data ⟨n, stk, G - 1, true, 0⟩) (0, 0) _ D3.out.x Try.underlying37 rfl size_ref ?_)
      | (refine store_agg rfl 37 (.tmp 2) (.tmp 65) rfl rfl (w.heap.size + 1) (mcl (.slice a1 n k1) (.slice a2 d k2) arg data ⟨n, stk, G - 1, true, 0⟩) rfl rfl 37 _ D3.out.o.r size_ref rfl (mcl_one _ _ _ _ _ _ _ _ _) ?_; intro T hrow hon))
    refine bodyPost_ret (v := .agg (mcl (.slice a1 n k1) (.slice a2 d k2) arg data ⟨n, stk, G - 1, true, 0⟩)) (results_cell_row (P := Try.prog) rfl _ _ (w.heap.size + 1) 37 _ (0, 0) _ rfl hrow Try.underlying37 rfl size_ref) rfl ?_
    rw [stepP_end hG (.inl HN.out)]
    refine ⟨_, _, rfl, ?_⟩
    have h := D3.out.o.done hon
    refine ⟨h.1, ?_, h.2.2⟩
    show T.ownsRow _ _ _ _ stk.length (nts stk)
    rw [← HD.out]
    exact h.2.1


set_option maxRecDepth 100000 in
set_option maxHeartbeats 4000000 in
theorem rstep_stop {c : List Int} {arg data : Int} {pc : Nat} {stk : List Int} {G : Int} {ca sa : Option Addr} {n d cc sc : Nat} {w : World} (hn : n = c.length) (hd : d = stk.length) (hc : Came w ca n cc c) (hs : Nums w sa d sc stk) (hnil : sa = none → d = 0 ∧ sc = 0) (hF : Fit c arg data ⟨pc, stk, G, false, 0⟩) (hG : 1 ≤ G) (hlt : pc < n) (hsg : c.getD pc 0 = 0) :
    Calls Try.prog 20 #[.agg (mcl (.slice ca n cc) (.slice sa d sc) arg data ⟨pc, stk, G, false, 0⟩)] w (RPost w n c arg data (stepP c arg data ⟨pc, stk, G, false, 0⟩)) := by
  have HC := Lib.hid hc
  have HS := Lib.hid hs
  have HF := Lib.hid hF
  have HN := Lib.hid hn
  have HD := Lib.hid hd
  have hlen : n ≤ 100 := by have := hF.len; omega
  have hstk : d ≤ 16 := by have := hF.stk; have h2 : d = stk.length := hd; show d ≤ 16; have h3 : stk.length ≤ 16 := this; omega
  have hpn : pc ≤ n := by have h3 : pc ≤ c.length := hF.pc; omega
  have hg200 : G ≤ 200 := hF.gas.2
  clear hc hs hF hn hd
  have hlt' : (pc : Int) < (n : Int) := by omega
  have hne' : ((pc : Int) == (n : Int)) = false := by simp; omega
  have HSG := Lib.hid hsg
  clear hsg
  obtain ⟨i0, hi, hz0, hz1, hz2⟩ := info_parts Try.infoByte
  go_enter Try.func20, Try.ntmps20
  go_upto_region 1 with (fail)
  have hbg := Bgn.start w (mcl (.slice ca n cc) (.slice sa d sc) arg data ⟨pc, stk, G, false, 0⟩)
  have HBG := Lib.hid hbg
  clear hbg
  generalize hX0 : (w.alloc _).alloc _ = X0
  have G00 : Hid (Bgn w (mcl (.slice ca n cc) (.slice sa d sc) arg data ⟨pc, stk, G, false, 0⟩) X0) := by rw [← hX0]; exact HBG
  clear HBG hX0
  go_cut [] from 12 to 22 (fun wx => ∃ a1 k1 a2 k2, Hid (One w n d c stk (mcl (.slice a1 n k1) (.slice a2 d k2) arg data ⟨pc, stk, G, false, 0⟩) (.slice a1 n k1) (.slice a2 d k2) wx))
  case first =>
    refine anyS_start (by kernel_rfl) ?_
    have G0 := Lib.hid (G00.out.later (Below.refl _ _).drew)
    clear G00
    generalize World.drew X0 = V0 at *
    have hcs0 : Hid (TwoAt w.heap.size (.slice ca n cc) (.slice sa d sc) V0) := ⟨mcl_cell G0.out.r1 rfl, mcl_cell G0.out.r1 rfl⟩
    (refine anyS_free (i := 1) (v := ?_) rfl (by kernel_rfl) (by kernel_rfl) (by kernel_rfl) (fun _ _ _ h => h) (fun _ => by simp) (Or.inl ⟨by rfl, fun w' _ => ?_⟩) ?_; rotate_left; (· go_simp; try with_reducible rfl))
    try simp only [Act.put, List.setIfInBounds_toArray, List.set_cons_zero, List.set_cons_succ]
    (refine anyS_free (i := 5) (v := ?_) rfl (by kernel_rfl) (by kernel_rfl) (by kernel_rfl) (fun _ _ _ h => h) (fun _ => by simp) (Or.inl ⟨by rfl, fun w' _ => ?_⟩) ?_; rotate_left; (· go_simp; try with_reducible rfl))
    try simp only [Act.put, List.setIfInBounds_toArray, List.set_cons_zero, List.set_cons_succ]
    (refine anyS_takeNew (i := 6) (v := .slice sa d sc) (fun w' => TwoAt w.heap.size (.slice ca n cc) (.slice sa d sc) w') [0, 2, 3, 4] hcs0.out rfl (by kernel_rfl) (by kernel_rfl) (by kernel_rfl) (by kernel_rfl) (fun _ _ _ h => h) (fun _ hcs => by repeat' (first | exact trivial | exact fun _ => hcs | refine ⟨?_, ?_⟩)) (Or.inl ⟨by rfl, fun w' hw' => ?_⟩) ?_; (· have c0 := hw'.l; have c4 := hw'.r; go_simp))
    try simp only [Act.put, List.setIfInBounds_toArray, List.set_cons_zero, List.set_cons_succ]
    (refine anyS_takeNew (i := 2) (v := .slice ca n cc) (fun w' => TwoAt w.heap.size (.slice ca n cc) (.slice sa d sc) w') [0, 4] hcs0.out rfl (by kernel_rfl) (by kernel_rfl) (by kernel_rfl) (by kernel_rfl) (fun _ _ _ h => h) (fun _ hcs => by repeat' (first | exact trivial | exact fun _ => hcs | refine ⟨?_, ?_⟩)) (Or.inl ⟨by rfl, fun w' hw' => ?_⟩) ?_; (· have c0 := hw'.l; have c4 := hw'.r; go_simp))
    try simp only [Act.put, List.setIfInBounds_toArray, List.set_cons_zero, List.set_cons_succ]
    clear hcs0
    refine anyS_two 0 4 (by kernel_rfl) rfl rfl (fun K' hK' => ?_) (fun K' hK' => ?_)
    · go_simp
      have M12_1 := Lib.hid (World.ownsRow_made (base := w.heap.size + 2) (e := 5) (size := 1) V0 #[] 0 G0.out.s (by unfold maxLen; omega) rfl)
      have hbs : Hid (Below (w.heap.size + 2) V0 (V0.alloc (.cells #[] 5))) := (Below.refl _ _).alloc G0.out.s _
      have hbl : Hid (Below V0.heap.size V0 (V0.alloc (.cells #[] 5))) := (Below.refl _ _).alloc (Nat.le_refl _) _
      have G1 := Lib.hid (G0.out.later hbs.out)
      obtain ⟨V1, hV1⟩ : ∃ X, X = V0.alloc (.cells #[] 5) := ⟨_, rfl⟩
      rw [← hV1] at M12_1 G1 ⊢
      clear hbs hbl hV1
      have hcs : TwoAt w.heap.size (.slice ca n cc) (.slice sa d sc) V1 := ⟨mcl_cell G1.out.r1 rfl, mcl_cell G1.out.r1 rfl⟩
      refine hK'.out _ _ (by repeat' (first | exact trivial | exact fun _ => hcs | refine ⟨?_, ?_⟩)) ?_
      clear hK' K' hcs
      try simp only [Act.put, List.setIfInBounds_toArray, List.set_cons_zero, List.set_cons_succ]
      refine anyS_two 3 4 (by kernel_rfl) rfl rfl (fun K' hK' => ?_) (fun K' hK' => ?_)
      · refine step_append_opt rfl (.tmp 12) (.tmp 14) 22 rfl (w.heap.size + 2) 5 i0 Try.underlying22 hi hz0 hz1 hz2 _ 0 [] rfl M12_1.out ca n cc c rfl (HC.out.below G1.out.b).reads (HC.out.below G1.out.b).nil (by omega) G1.out.s ?_
        intro v15 V2 ho hg
        rw [Nat.zero_add, List.nil_append] at ho
        have hbs : Hid (Below (w.heap.size + 2) V1 V2) := (Below.refl _ _).grown hg G1.out.s (fun k hk => (M12_1.out.lt k hk).1)
        have G2 := Lib.hid (G1.out.later hbs.out)
        obtain ⟨a15, k15, rfl⟩ := own_slice ho
        have M15_2 := Lib.hid ho
        clear ho hg hbs
        have hcs : TwoAt w.heap.size (.slice ca n cc) (.slice sa d sc) V2 := ⟨mcl_cell G2.out.r1 rfl, mcl_cell G2.out.r1 rfl⟩
        refine hK'.out _ _ (by repeat' (first | exact trivial | exact fun _ => hcs | refine ⟨?_, ?_⟩)) ?_
        clear hK' K' hcs
        try simp only [Act.put, List.setIfInBounds_toArray, List.set_cons_zero, List.set_cons_succ]
        (refine anyS_free (i := 8) (v := ?_) rfl (by kernel_rfl) (by kernel_rfl) (by kernel_rfl) (fun _ _ _ h => h) (fun _ => by simp) (Or.inl ⟨by rfl, fun w' _ => ?_⟩) ?_; rotate_left; (· go_simp; try with_reducible rfl))
        try simp only [Act.put, List.setIfInBounds_toArray, List.set_cons_zero, List.set_cons_succ]
        refine anyS_one 4 (by kernel_rfl) rfl (fun K' hK' => ?_)
        go_simp
        have M16_3 := Lib.hid (World.ownsRow_made (base := w.heap.size + 2) (e := 3) (size := 1) V2 #[] 0 G2.out.s (by unfold maxLen; omega) rfl)
        have hbs : Hid (Below (w.heap.size + 2) V2 (V2.alloc (.cells #[] 3))) := (Below.refl _ _).alloc G2.out.s _
        have hbl : Hid (Below V2.heap.size V2 (V2.alloc (.cells #[] 3))) := (Below.refl _ _).alloc (Nat.le_refl _) _
        have G3 := Lib.hid (G2.out.later hbs.out)
        have M15_3 := Lib.hid (own_later M15_2.out hbl.out)
        obtain ⟨V3, hV3⟩ : ∃ X, X = V2.alloc (.cells #[] 3) := ⟨_, rfl⟩
        rw [← hV3] at M16_3 G3 M15_3 ⊢
        clear hbs hbl hV3
        have hcs : TwoAt w.heap.size (.slice ca n cc) (.slice sa d sc) V3 := ⟨mcl_cell G3.out.r1 rfl, mcl_cell G3.out.r1 rfl⟩
        refine hK'.out _ _ (by repeat' (first | exact trivial | exact fun _ => hcs | refine ⟨?_, ?_⟩)) ?_
        clear hK' K' hcs
        try simp only [Act.put, List.setIfInBounds_toArray, List.set_cons_zero, List.set_cons_succ]
        refine anyS_one 7 (by kernel_rfl) rfl (fun K' hK' => ?_)
        refine step_nums_opt rfl (.tmp 16) (.tmp 18) rfl (w.heap.size + 2) _ 0 [] rfl M16_3.out sa d sc stk rfl (HS.out.below G3.out.b) hnil (by omega) G3.out.s ?_
        intro v19 V4 ho hg
        rw [Nat.zero_add, List.nil_append] at ho
        have hbs : Hid (Below (w.heap.size + 2) V3 V4) := (Below.refl _ _).grown hg G3.out.s (fun k hk => (M16_3.out.lt k hk).1)
        have G4 := Lib.hid (G3.out.later hbs.out)
        have M15_4 := Lib.hid (M15_3.out.kept hg (own_apart M15_3.out M16_3.out (by decide)))
        obtain ⟨a19, k19, rfl⟩ := own_slice ho
        have M19_4 := Lib.hid ho
        clear ho hg hbs
        have hcs : TwoAt w.heap.size (.slice ca n cc) (.slice sa d sc) V4 := ⟨mcl_cell G4.out.r1 rfl, mcl_cell G4.out.r1 rfl⟩
        refine hK'.out _ _ (by repeat' (first | exact trivial | exact fun _ => hcs | refine ⟨?_, ?_⟩)) ?_
        clear hK' K' hcs
        try simp only [Act.put, List.setIfInBounds_toArray, List.set_cons_zero, List.set_cons_succ]
        have h1 := only_setCell V4 w.heap.size 0 _ _ (.slice a15 n k15) G4.out.r1
        have h2 := only_setCell _ w.heap.size 4 _ _ (.slice a19 d k19) h1.2
        have c0' := mcl_cell (k := 0) G4.out.r1 rfl
        have f0' : V4.frozen? ⟨w.heap.size, 0, none⟩ = false := by simp [World.frozen?, G4.out.r1]
        have c4' : (V4.setCell ⟨w.heap.size, 0, none⟩ (.slice a15 n k15)).cell? ⟨w.heap.size, 4, none⟩ = some (.slice sa d sc) := mcl_cell h1.2 rfl
        have f4' : (V4.setCell ⟨w.heap.size, 0, none⟩ (.slice a15 n k15)).frozen? ⟨w.heap.size, 4, none⟩ = false := by simp [World.frozen?, h1.2]
        have ho := h1.1.trans h2.1
        have hmac : One w n d c stk (mcl (.slice a15 n k15) (.slice a19 d k19) arg data ⟨pc, stk, G, false, 0⟩) (.slice a15 n k15) (.slice a19 d k19) ((V4.setCell ⟨w.heap.size, 0, none⟩ (.slice a15 n k15)).setCell ⟨w.heap.size, 4, none⟩ (.slice a19 d k19)) :=
          ⟨h2.2, (ho.block (w.heap.size + 1) (by have := G4.out.s; omega) (by simp)).trans G4.out.r2, own_only M15_4.out ho (own_not M15_4.out G4.out.r1 (by decide)), own_only M19_4.out ho (own_not M19_4.out G4.out.r1 (by decide)), G4.out.b.trans (ho.below (Nat.le_refl _) G4.out.b.size), Nat.le_trans G4.out.s ho.size⟩
        have HM := Lib.hid hmac
        clear ho hmac h2
        refine anyS_one 9 (by kernel_rfl) rfl (fun K' hK' => ?_)
        go_simp
        refine hK'.out _ _ (by repeat' (first | exact trivial | exact fun h => absurd h (by decide) | refine ⟨?_, ?_⟩)) ?_
        clear hK' K'
        try simp only [Act.put, List.setIfInBounds_toArray, List.set_cons_zero, List.set_cons_succ]
        (refine anyS_free (i := 10) (v := ?_) rfl (by kernel_rfl) (by kernel_rfl) (by kernel_rfl) (fun _ _ _ h => h) (fun _ => by simp) (Or.inl ⟨by rfl, fun w' _ => ?_⟩) ?_; rotate_left; (· go_simp; try with_reducible rfl))
        try simp only [Act.put, List.setIfInBounds_toArray, List.set_cons_zero, List.set_cons_succ]
        refine anyS_one 11 (by kernel_rfl) rfl (fun K' hK' => ?_)
        go_simp
        refine hK'.out _ _ (by repeat' (first | exact trivial | exact fun h => absurd h (by decide) | refine ⟨?_, ?_⟩)) ?_
        clear hK' K'
        try simp only [Act.put, List.setIfInBounds_toArray, List.set_cons_zero, List.set_cons_succ]
        refine anyS_done (by kernel_rfl) ?_ _
        refine NoPanic.normal ?_
        clear c0' f0' c4' f4' h1
        go_wp2_with fail
        go_meet
        case rel => exact ⟨_, _, _, _, HM⟩
      · go_simp
        have M16_5 := Lib.hid (World.ownsRow_made (base := w.heap.size + 2) (e := 3) (size := 1) V1 #[] 0 G1.out.s (by unfold maxLen; omega) rfl)
        have hbs : Hid (Below (w.heap.size + 2) V1 (V1.alloc (.cells #[] 3))) := (Below.refl _ _).alloc G1.out.s _
        have hbl : Hid (Below V1.heap.size V1 (V1.alloc (.cells #[] 3))) := (Below.refl _ _).alloc (Nat.le_refl _) _
        have G5 := Lib.hid (G1.out.later hbs.out)
        have M12_5 := Lib.hid (own_later M12_1.out hbl.out)
        obtain ⟨V5, hV5⟩ : ∃ X, X = V1.alloc (.cells #[] 3) := ⟨_, rfl⟩
        rw [← hV5] at M16_5 G5 M12_5 ⊢
        clear hbs hbl hV5
        have hcs : TwoAt w.heap.size (.slice ca n cc) (.slice sa d sc) V5 := ⟨mcl_cell G5.out.r1 rfl, mcl_cell G5.out.r1 rfl⟩
        refine hK'.out _ _ (by repeat' (first | exact trivial | exact fun _ => hcs | refine ⟨?_, ?_⟩)) ?_
        clear hK' K' hcs
        try simp only [Act.put, List.setIfInBounds_toArray, List.set_cons_zero, List.set_cons_succ]
        refine anyS_one 3 (by kernel_rfl) rfl (fun K' hK' => ?_)
        refine step_append_opt rfl (.tmp 12) (.tmp 14) 22 rfl (w.heap.size + 2) 5 i0 Try.underlying22 hi hz0 hz1 hz2 _ 0 [] rfl M12_5.out ca n cc c rfl (HC.out.below G5.out.b).reads (HC.out.below G5.out.b).nil (by omega) G5.out.s ?_
        intro v15 V6 ho hg
        rw [Nat.zero_add, List.nil_append] at ho
        have hbs : Hid (Below (w.heap.size + 2) V5 V6) := (Below.refl _ _).grown hg G5.out.s (fun k hk => (M12_5.out.lt k hk).1)
        have G6 := Lib.hid (G5.out.later hbs.out)
        have M16_6 := Lib.hid (M16_5.out.kept hg (own_apart M16_5.out M12_5.out (by decide)))
        obtain ⟨a15, k15, rfl⟩ := own_slice ho
        have M15_6 := Lib.hid ho
        clear ho hg hbs
        have hcs : TwoAt w.heap.size (.slice ca n cc) (.slice sa d sc) V6 := ⟨mcl_cell G6.out.r1 rfl, mcl_cell G6.out.r1 rfl⟩
        refine hK'.out _ _ (by repeat' (first | exact trivial | exact fun _ => hcs | refine ⟨?_, ?_⟩)) ?_
        clear hK' K' hcs
        try simp only [Act.put, List.setIfInBounds_toArray, List.set_cons_zero, List.set_cons_succ]
        (refine anyS_free (i := 8) (v := ?_) rfl (by kernel_rfl) (by kernel_rfl) (by kernel_rfl) (fun _ _ _ h => h) (fun _ => by simp) (Or.inl ⟨by rfl, fun w' _ => ?_⟩) ?_; rotate_left; (· go_simp; try with_reducible rfl))
        try simp only [Act.put, List.setIfInBounds_toArray, List.set_cons_zero, List.set_cons_succ]
        refine anyS_one 7 (by kernel_rfl) rfl (fun K' hK' => ?_)
        refine step_nums_opt rfl (.tmp 16) (.tmp 18) rfl (w.heap.size + 2) _ 0 [] rfl M16_6.out sa d sc stk rfl (HS.out.below G6.out.b) hnil (by omega) G6.out.s ?_
        intro v19 V7 ho hg
        rw [Nat.zero_add, List.nil_append] at ho
        have hbs : Hid (Below (w.heap.size + 2) V6 V7) := (Below.refl _ _).grown hg G6.out.s (fun k hk => (M16_6.out.lt k hk).1)
        have G7 := Lib.hid (G6.out.later hbs.out)
        have M15_7 := Lib.hid (M15_6.out.kept hg (own_apart M15_6.out M16_6.out (by decide)))
        obtain ⟨a19, k19, rfl⟩ := own_slice ho
        have M19_7 := Lib.hid ho
        clear ho hg hbs
        have hcs : TwoAt w.heap.size (.slice ca n cc) (.slice sa d sc) V7 := ⟨mcl_cell G7.out.r1 rfl, mcl_cell G7.out.r1 rfl⟩
        refine hK'.out _ _ (by repeat' (first | exact trivial | exact fun _ => hcs | refine ⟨?_, ?_⟩)) ?_
        clear hK' K' hcs
        try simp only [Act.put, List.setIfInBounds_toArray, List.set_cons_zero, List.set_cons_succ]
        have h1 := only_setCell V7 w.heap.size 0 _ _ (.slice a15 n k15) G7.out.r1
        have h2 := only_setCell _ w.heap.size 4 _ _ (.slice a19 d k19) h1.2
        have c0' := mcl_cell (k := 0) G7.out.r1 rfl
        have f0' : V7.frozen? ⟨w.heap.size, 0, none⟩ = false := by simp [World.frozen?, G7.out.r1]
        have c4' : (V7.setCell ⟨w.heap.size, 0, none⟩ (.slice a15 n k15)).cell? ⟨w.heap.size, 4, none⟩ = some (.slice sa d sc) := mcl_cell h1.2 rfl
        have f4' : (V7.setCell ⟨w.heap.size, 0, none⟩ (.slice a15 n k15)).frozen? ⟨w.heap.size, 4, none⟩ = false := by simp [World.frozen?, h1.2]
        have ho := h1.1.trans h2.1
        have hmac : One w n d c stk (mcl (.slice a15 n k15) (.slice a19 d k19) arg data ⟨pc, stk, G, false, 0⟩) (.slice a15 n k15) (.slice a19 d k19) ((V7.setCell ⟨w.heap.size, 0, none⟩ (.slice a15 n k15)).setCell ⟨w.heap.size, 4, none⟩ (.slice a19 d k19)) :=
          ⟨h2.2, (ho.block (w.heap.size + 1) (by have := G7.out.s; omega) (by simp)).trans G7.out.r2, own_only M15_7.out ho (own_not M15_7.out G7.out.r1 (by decide)), own_only M19_7.out ho (own_not M19_7.out G7.out.r1 (by decide)), G7.out.b.trans (ho.below (Nat.le_refl _) G7.out.b.size), Nat.le_trans G7.out.s ho.size⟩
        have HM := Lib.hid hmac
        clear ho hmac h2
        refine anyS_one 9 (by kernel_rfl) rfl (fun K' hK' => ?_)
        go_simp
        refine hK'.out _ _ (by repeat' (first | exact trivial | exact fun h => absurd h (by decide) | refine ⟨?_, ?_⟩)) ?_
        clear hK' K'
        try simp only [Act.put, List.setIfInBounds_toArray, List.set_cons_zero, List.set_cons_succ]
        (refine anyS_free (i := 10) (v := ?_) rfl (by kernel_rfl) (by kernel_rfl) (by kernel_rfl) (fun _ _ _ h => h) (fun _ => by simp) (Or.inl ⟨by rfl, fun w' _ => ?_⟩) ?_; rotate_left; (· go_simp; try with_reducible rfl))
        try simp only [Act.put, List.setIfInBounds_toArray, List.set_cons_zero, List.set_cons_succ]
        refine anyS_one 11 (by kernel_rfl) rfl (fun K' hK' => ?_)
        go_simp
        refine hK'.out _ _ (by repeat' (first | exact trivial | exact fun h => absurd h (by decide) | refine ⟨?_, ?_⟩)) ?_
        clear hK' K'
        try simp only [Act.put, List.setIfInBounds_toArray, List.set_cons_zero, List.set_cons_succ]
        refine anyS_done (by kernel_rfl) ?_ _
        refine NoPanic.normal ?_
        clear c0' f0' c4' f4' h1
        go_wp2_with fail
        go_meet
        case rel => exact ⟨_, _, _, _, HM⟩
    · go_simp
      have M16_8 := Lib.hid (World.ownsRow_made (base := w.heap.size + 2) (e := 3) (size := 1) V0 #[] 0 G0.out.s (by unfold maxLen; omega) rfl)
      have hbs : Hid (Below (w.heap.size + 2) V0 (V0.alloc (.cells #[] 3))) := (Below.refl _ _).alloc G0.out.s _
      have hbl : Hid (Below V0.heap.size V0 (V0.alloc (.cells #[] 3))) := (Below.refl _ _).alloc (Nat.le_refl _) _
      have G8 := Lib.hid (G0.out.later hbs.out)
      obtain ⟨V8, hV8⟩ : ∃ X, X = V0.alloc (.cells #[] 3) := ⟨_, rfl⟩
      rw [← hV8] at M16_8 G8 ⊢
      clear hbs hbl hV8
      have hcs : TwoAt w.heap.size (.slice ca n cc) (.slice sa d sc) V8 := ⟨mcl_cell G8.out.r1 rfl, mcl_cell G8.out.r1 rfl⟩
      refine hK'.out _ _ (by repeat' (first | exact trivial | exact fun _ => hcs | refine ⟨?_, ?_⟩)) ?_
      clear hK' K' hcs
      try simp only [Act.put, List.setIfInBounds_toArray, List.set_cons_zero, List.set_cons_succ]
      refine anyS_one 0 (by kernel_rfl) rfl (fun K' hK' => ?_)
      go_simp
      have M12_9 := Lib.hid (World.ownsRow_made (base := w.heap.size + 2) (e := 5) (size := 1) V8 #[] 0 G8.out.s (by unfold maxLen; omega) rfl)
      have hbs : Hid (Below (w.heap.size + 2) V8 (V8.alloc (.cells #[] 5))) := (Below.refl _ _).alloc G8.out.s _
      have hbl : Hid (Below V8.heap.size V8 (V8.alloc (.cells #[] 5))) := (Below.refl _ _).alloc (Nat.le_refl _) _
      have G9 := Lib.hid (G8.out.later hbs.out)
      have M16_9 := Lib.hid (own_later M16_8.out hbl.out)
      obtain ⟨V9, hV9⟩ : ∃ X, X = V8.alloc (.cells #[] 5) := ⟨_, rfl⟩
      rw [← hV9] at M12_9 G9 M16_9 ⊢
      clear hbs hbl hV9
      have hcs : TwoAt w.heap.size (.slice ca n cc) (.slice sa d sc) V9 := ⟨mcl_cell G9.out.r1 rfl, mcl_cell G9.out.r1 rfl⟩
      refine hK'.out _ _ (by repeat' (first | exact trivial | exact fun _ => hcs | refine ⟨?_, ?_⟩)) ?_
      clear hK' K' hcs
      try simp only [Act.put, List.setIfInBounds_toArray, List.set_cons_zero, List.set_cons_succ]
      refine anyS_one 3 (by kernel_rfl) rfl (fun K' hK' => ?_)
      refine step_append_opt rfl (.tmp 12) (.tmp 14) 22 rfl (w.heap.size + 2) 5 i0 Try.underlying22 hi hz0 hz1 hz2 _ 0 [] rfl M12_9.out ca n cc c rfl (HC.out.below G9.out.b).reads (HC.out.below G9.out.b).nil (by omega) G9.out.s ?_
      intro v15 V10 ho hg
      rw [Nat.zero_add, List.nil_append] at ho
      have hbs : Hid (Below (w.heap.size + 2) V9 V10) := (Below.refl _ _).grown hg G9.out.s (fun k hk => (M12_9.out.lt k hk).1)
      have G10 := Lib.hid (G9.out.later hbs.out)
      have M16_10 := Lib.hid (M16_9.out.kept hg (own_apart M16_9.out M12_9.out (by decide)))
      obtain ⟨a15, k15, rfl⟩ := own_slice ho
      have M15_10 := Lib.hid ho
      clear ho hg hbs
      have hcs : TwoAt w.heap.size (.slice ca n cc) (.slice sa d sc) V10 := ⟨mcl_cell G10.out.r1 rfl, mcl_cell G10.out.r1 rfl⟩
      refine hK'.out _ _ (by repeat' (first | exact trivial | exact fun _ => hcs | refine ⟨?_, ?_⟩)) ?_
      clear hK' K' hcs
      try simp only [Act.put, List.setIfInBounds_toArray, List.set_cons_zero, List.set_cons_succ]
      (refine anyS_free (i := 8) (v := ?_) rfl (by kernel_rfl) (by kernel_rfl) (by kernel_rfl) (fun _ _ _ h => h) (fun _ => by simp) (Or.inl ⟨by rfl, fun w' _ => ?_⟩) ?_; rotate_left; (· go_simp; try with_reducible rfl))
      try simp only [Act.put, List.setIfInBounds_toArray, List.set_cons_zero, List.set_cons_succ]
      refine anyS_one 7 (by kernel_rfl) rfl (fun K' hK' => ?_)
      refine step_nums_opt rfl (.tmp 16) (.tmp 18) rfl (w.heap.size + 2) _ 0 [] rfl M16_10.out sa d sc stk rfl (HS.out.below G10.out.b) hnil (by omega) G10.out.s ?_
      intro v19 V11 ho hg
      rw [Nat.zero_add, List.nil_append] at ho
      have hbs : Hid (Below (w.heap.size + 2) V10 V11) := (Below.refl _ _).grown hg G10.out.s (fun k hk => (M16_10.out.lt k hk).1)
      have G11 := Lib.hid (G10.out.later hbs.out)
      have M15_11 := Lib.hid (M15_10.out.kept hg (own_apart M15_10.out M16_10.out (by decide)))
      obtain ⟨a19, k19, rfl⟩ := own_slice ho
      have M19_11 := Lib.hid ho
      clear ho hg hbs
      have hcs : TwoAt w.heap.size (.slice ca n cc) (.slice sa d sc) V11 := ⟨mcl_cell G11.out.r1 rfl, mcl_cell G11.out.r1 rfl⟩
      refine hK'.out _ _ (by repeat' (first | exact trivial | exact fun _ => hcs | refine ⟨?_, ?_⟩)) ?_
      clear hK' K' hcs
      try simp only [Act.put, List.setIfInBounds_toArray, List.set_cons_zero, List.set_cons_succ]
      have h1 := only_setCell V11 w.heap.size 0 _ _ (.slice a15 n k15) G11.out.r1
      have h2 := only_setCell _ w.heap.size 4 _ _ (.slice a19 d k19) h1.2
      have c0' := mcl_cell (k := 0) G11.out.r1 rfl
      have f0' : V11.frozen? ⟨w.heap.size, 0, none⟩ = false := by simp [World.frozen?, G11.out.r1]
      have c4' : (V11.setCell ⟨w.heap.size, 0, none⟩ (.slice a15 n k15)).cell? ⟨w.heap.size, 4, none⟩ = some (.slice sa d sc) := mcl_cell h1.2 rfl
      have f4' : (V11.setCell ⟨w.heap.size, 0, none⟩ (.slice a15 n k15)).frozen? ⟨w.heap.size, 4, none⟩ = false := by simp [World.frozen?, h1.2]
      have ho := h1.1.trans h2.1
      have hmac : One w n d c stk (mcl (.slice a15 n k15) (.slice a19 d k19) arg data ⟨pc, stk, G, false, 0⟩) (.slice a15 n k15) (.slice a19 d k19) ((V11.setCell ⟨w.heap.size, 0, none⟩ (.slice a15 n k15)).setCell ⟨w.heap.size, 4, none⟩ (.slice a19 d k19)) :=
        ⟨h2.2, (ho.block (w.heap.size + 1) (by have := G11.out.s; omega) (by simp)).trans G11.out.r2, own_only M15_11.out ho (own_not M15_11.out G11.out.r1 (by decide)), own_only M19_11.out ho (own_not M19_11.out G11.out.r1 (by decide)), G11.out.b.trans (ho.below (Nat.le_refl _) G11.out.b.size), Nat.le_trans G11.out.s ho.size⟩
      have HM := Lib.hid hmac
      clear ho hmac h2
      refine anyS_one 9 (by kernel_rfl) rfl (fun K' hK' => ?_)
      go_simp
      refine hK'.out _ _ (by repeat' (first | exact trivial | exact fun h => absurd h (by decide) | refine ⟨?_, ?_⟩)) ?_
      clear hK' K'
      try simp only [Act.put, List.setIfInBounds_toArray, List.set_cons_zero, List.set_cons_succ]
      (refine anyS_free (i := 10) (v := ?_) rfl (by kernel_rfl) (by kernel_rfl) (by kernel_rfl) (fun _ _ _ h => h) (fun _ => by simp) (Or.inl ⟨by rfl, fun w' _ => ?_⟩) ?_; rotate_left; (· go_simp; try with_reducible rfl))
      try simp only [Act.put, List.setIfInBounds_toArray, List.set_cons_zero, List.set_cons_succ]
      refine anyS_one 11 (by kernel_rfl) rfl (fun K' hK' => ?_)
      go_simp
      refine hK'.out _ _ (by repeat' (first | exact trivial | exact fun h => absurd h (by decide) | refine ⟨?_, ?_⟩)) ?_
      clear hK' K'
      try simp only [Act.put, List.setIfInBounds_toArray, List.set_cons_zero, List.set_cons_succ]
      refine anyS_done (by kernel_rfl) ?_ _
      refine NoPanic.normal ?_
      clear c0' f0' c4' f4' h1
      go_wp2_with fail
      go_meet
      case rel => exact ⟨_, _, _, _, HM⟩
  clear G00 hi hz0 hz1 hz2
  clear i0
  case rest =>
    obtain ⟨a1, k1, a2, k2, HO⟩ := hcut
    obtain ⟨ad, rfl, -⟩ := own_byte HO.out.code HF.out.bytes hlt
    have e6 : wc.cell? ⟨w.heap.size, 6, none⟩ = some (.bool false) := mcl_cell HO.out.a rfl
    have e5 : wc.cell? ⟨w.heap.size, 5, none⟩ = some (.int .i64 G) := mcl_cell HO.out.a rfl
    have e3 : wc.cell? ⟨w.heap.size, 3, none⟩ = some (.int .i64 (pc : Int)) := mcl_cell HO.out.a rfl
    have e0 : wc.cell? ⟨w.heap.size, 0, none⟩ = some (.slice (some ad) n k1) := mcl_cell HO.out.a rfl
    go_upto_region 9 with (fail)
    go_upto_region 10 with (first
      | (refine wpList_load_row rfl 37 (.tmp 1) rfl w.heap.size rfl 37 (mcl (.slice (some ad) n k1) (.slice a2 d k2) arg data ⟨pc, stk, G, false, 0⟩) (0, 0) _ HO.out.a Try.underlying37 rfl size_ref ?_)
      | (refine store_agg rfl 37 (.tmp 3) (.tmp 44) rfl rfl wc.heap.size (mcl (.slice (some ad) n k1) (.slice a2 d k2) arg data ⟨pc, stk, G, false, 0⟩) rfl rfl 37 _ (heap_alloc_new _ _) size_ref rfl (mcl_one _ _ _ _ _ _ _ _ _) ?_; intro Y hrow hon))
    have hbY : Below wc.heap.size wc Y := ((Below.refl _ _).alloc (Nat.le_refl _) _).trans (hon.below (Nat.le_refl _) (by simp))
    have D1 := Lib.hid (Prr.first HO.out hbY hrow)
    clear hrow hon hbY e0 e3 e5 e6 HO
    have x5 : Y.cell? ⟨wc.heap.size, 5, none⟩ = some (.int .i64 G) := mcl_cell D1.out.x rfl
    have f5 : Y.frozen? ⟨wc.heap.size, 5, none⟩ = false := by simp [World.frozen?, D1.out.x]
    go_upto_region 11 with (fail)
    clear x5 f5
    have hst := only_setCell Y wc.heap.size 5 _ _ (.int .i64 (G - 1)) D1.out.x
    have D2 : Hid (Prr w wc.heap.size n d c stk (mcl (.slice (some ad) n k1) (.slice a2 d k2) arg data ⟨pc, stk, G, false, 0⟩) (mcl (.slice (some ad) n k1) (.slice a2 d k2) arg data ⟨pc, stk, G - 1, false, 0⟩) (.slice (some ad) n k1) (.slice a2 d k2) (Y.setCell ⟨wc.heap.size, 5, none⟩ (.int .i64 (G - 1)))) := Lib.hid (D1.out.put hst.2 hst.1)
    obtain ⟨Z, hV2⟩ : ∃ X, X = Y.setCell ⟨wc.heap.size, 5, none⟩ (.int .i64 (G - 1)) := ⟨_, rfl⟩
    rw [← hV2] at D2 ⊢
    clear hst hV2 D1
    have z3 : Z.cell? ⟨w.heap.size, 3, none⟩ = some (.int .i64 (pc : Int)) := mcl_cell D2.out.o.a rfl
    have z0 : Z.cell? ⟨w.heap.size, 0, none⟩ = some (.slice (some ad) n k1) := mcl_cell D2.out.o.a rfl
    have zb : Z.cell? (ad.add pc) = some (.int .u8 0) := byte_at D2.out.o.code HF.out.bytes hlt HSG.out
    go_upto_region 12 with (fail)
    have x6 : Z.cell? ⟨wc.heap.size, 6, none⟩ = some (.bool false) := mcl_cell D2.out.x rfl
    have f6 : Z.frozen? ⟨wc.heap.size, 6, none⟩ = false := by simp [World.frozen?, D2.out.x]
    go_upto_region 13 with (fail)
    clear x6 f6
    have hst := only_setCell Z wc.heap.size 6 _ _ (.bool true) D2.out.x
    have D3 : Hid (Prr w wc.heap.size n d c stk (mcl (.slice (some ad) n k1) (.slice a2 d k2) arg data ⟨pc, stk, G, false, 0⟩) (mcl (.slice (some ad) n k1) (.slice a2 d k2) arg data ⟨pc, stk, G - 1, true, 0⟩) (.slice (some ad) n k1) (.slice a2 d k2) (Z.setCell ⟨wc.heap.size, 6, none⟩ (.bool true))) := Lib.hid (D2.out.put hst.2 hst.1)
    obtain ⟨A, hV2⟩ : ∃ X, X = Z.setCell ⟨wc.heap.size, 6, none⟩ (.bool true) := ⟨_, rfl⟩
    rw [← hV2] at D3 ⊢
    clear hst hV2 D2
    go_wp2_with (first
      | (refine wpList_load_row rfl 37 (.tmp 3) rfl wc.heap.size rfl 37 (mcl (.slice (some ad) n k1) (.slice a2 d k2) arg data ⟨pc, stk, G - 1, true, 0⟩) (0, 0) _ D3.out.x Try.underlying37 rfl size_ref ?_)
      | (refine store_agg rfl 37 (.tmp 2) (.tmp 65) rfl rfl (w.heap.size + 1) (mcl (.slice (some ad) n k1) (.slice a2 d k2) arg data ⟨pc, stk, G - 1, true, 0⟩) rfl rfl 37 _ D3.out.o.r size_ref rfl (mcl_one _ _ _ _ _ _ _ _ _) ?_; intro T hrow hon))
    refine bodyPost_ret (v := .agg (mcl (.slice (some ad) n k1) (.slice a2 d k2) arg data ⟨pc, stk, G - 1, true, 0⟩)) (results_cell_row (P := Try.prog) rfl _ _ (w.heap.size + 1) 37 _ (0, 0) _ rfl hrow Try.underlying37 rfl size_ref) rfl ?_
    rw [stepP_end hG (.inr HSG.out)]
    refine ⟨_, _, rfl, ?_⟩
    have h := D3.out.o.done hon
    refine ⟨h.1, ?_, h.2.2⟩
    show T.ownsRow _ _ _ _ stk.length (nts stk)
    rw [← HD.out]
    exact h.2.1


set_option maxRecDepth 100000 in
set_option maxHeartbeats 4000000 in
theorem rstep_none {c : List Int} {arg data : Int} {pc : Nat} {stk : List Int} {G : Int} {s : Int} {ca sa : Option Addr} {n d cc sc : Nat} {w : World} (hn : n = c.length) (hd : d = stk.length) (hc : Came w ca n cc c) (hs : Nums w sa d sc stk) (hnil : sa = none → d = 0 ∧ sc = 0) (hF : Fit c arg data ⟨pc, stk, G, false, 0⟩) (hG : 1 ≤ G) (hlt : pc < n) (hsg : c.getD pc 0 = s) (h15 : 15 < s) (hby : s < 256) :
    Calls Try.prog 20 #[.agg (mcl (.slice ca n cc) (.slice sa d sc) arg data ⟨pc, stk, G, false, 0⟩)] w (RPost w n c arg data (stepP c arg data ⟨pc, stk, G, false, 0⟩)) := by
  have HC := Lib.hid hc
  have HS := Lib.hid hs
  have HF := Lib.hid hF
  have HN := Lib.hid hn
  have HD := Lib.hid hd
  have hlen : n ≤ 100 := by have := hF.len; omega
  have hstk : d ≤ 16 := by have := hF.stk; have h2 : d = stk.length := hd; show d ≤ 16; have h3 : stk.length ≤ 16 := this; omega
  have hpn : pc ≤ n := by have h3 : pc ≤ c.length := hF.pc; omega
  have hg200 : G ≤ 200 := hF.gas.2
  clear hc hs hF hn hd
  have hlt' : (pc : Int) < (n : Int) := by omega
  have hne' : ((pc : Int) == (n : Int)) = false := by simp; omega
  have hs0 : (s == 0) = false := by simp; omega
  have HSG := Lib.hid hsg
  clear hsg
  obtain ⟨i0, hi, hz0, hz1, hz2⟩ := info_parts Try.infoByte
  go_enter Try.func20, Try.ntmps20
  go_upto_region 1 with (fail)
  have hbg := Bgn.start w (mcl (.slice ca n cc) (.slice sa d sc) arg data ⟨pc, stk, G, false, 0⟩)
  have HBG := Lib.hid hbg
  clear hbg
  generalize hX0 : (w.alloc _).alloc _ = X0
  have G00 : Hid (Bgn w (mcl (.slice ca n cc) (.slice sa d sc) arg data ⟨pc, stk, G, false, 0⟩) X0) := by rw [← hX0]; exact HBG
  clear HBG hX0
  go_cut [] from 12 to 22 (fun wx => ∃ a1 k1 a2 k2, Hid (One w n d c stk (mcl (.slice a1 n k1) (.slice a2 d k2) arg data ⟨pc, stk, G, false, 0⟩) (.slice a1 n k1) (.slice a2 d k2) wx))
  case first =>
    refine anyS_start (by kernel_rfl) ?_
    have G0 := Lib.hid (G00.out.later (Below.refl _ _).drew)
    clear G00
    generalize World.drew X0 = V0 at *
    have hcs0 : Hid (TwoAt w.heap.size (.slice ca n cc) (.slice sa d sc) V0) := ⟨mcl_cell G0.out.r1 rfl, mcl_cell G0.out.r1 rfl⟩
    (refine anyS_free (i := 1) (v := ?_) rfl (by kernel_rfl) (by kernel_rfl) (by kernel_rfl) (fun _ _ _ h => h) (fun _ => by simp) (Or.inl ⟨by rfl, fun w' _ => ?_⟩) ?_; rotate_left; (· go_simp; try with_reducible rfl))
    try simp only [Act.put, List.setIfInBounds_toArray, List.set_cons_zero, List.set_cons_succ]
    (refine anyS_free (i := 5) (v := ?_) rfl (by kernel_rfl) (by kernel_rfl) (by kernel_rfl) (fun _ _ _ h => h) (fun _ => by simp) (Or.inl ⟨by rfl, fun w' _ => ?_⟩) ?_; rotate_left; (· go_simp; try with_reducible rfl))
    try simp only [Act.put, List.setIfInBounds_toArray, List.set_cons_zero, List.set_cons_succ]
    (refine anyS_takeNew (i := 6) (v := .slice sa d sc) (fun w' => TwoAt w.heap.size (.slice ca n cc) (.slice sa d sc) w') [0, 2, 3, 4] hcs0.out rfl (by kernel_rfl) (by kernel_rfl) (by kernel_rfl) (by kernel_rfl) (fun _ _ _ h => h) (fun _ hcs => by repeat' (first | exact trivial | exact fun _ => hcs | refine ⟨?_, ?_⟩)) (Or.inl ⟨by rfl, fun w' hw' => ?_⟩) ?_; (· have c0 := hw'.l; have c4 := hw'.r; go_simp))
    try simp only [Act.put, List.setIfInBounds_toArray, List.set_cons_zero, List.set_cons_succ]
    (refine anyS_takeNew (i := 2) (v := .slice ca n cc) (fun w' => TwoAt w.heap.size (.slice ca n cc) (.slice sa d sc) w') [0, 4] hcs0.out rfl (by kernel_rfl) (by kernel_rfl) (by kernel_rfl) (by kernel_rfl) (fun _ _ _ h => h) (fun _ hcs => by repeat' (first | exact trivial | exact fun _ => hcs | refine ⟨?_, ?_⟩)) (Or.inl ⟨by rfl, fun w' hw' => ?_⟩) ?_; (· have c0 := hw'.l; have c4 := hw'.r; go_simp))
    try simp only [Act.put, List.setIfInBounds_toArray, List.set_cons_zero, List.set_cons_succ]
    clear hcs0
    refine anyS_two 0 4 (by kernel_rfl) rfl rfl (fun K' hK' => ?_) (fun K' hK' => ?_)
    · go_simp
      have M12_1 := Lib.hid (World.ownsRow_made (base := w.heap.size + 2) (e := 5) (size := 1) V0 #[] 0 G0.out.s (by unfold maxLen; omega) rfl)
      have hbs : Hid (Below (w.heap.size + 2) V0 (V0.alloc (.cells #[] 5))) := (Below.refl _ _).alloc G0.out.s _
      have hbl : Hid (Below V0.heap.size V0 (V0.alloc (.cells #[] 5))) := (Below.refl _ _).alloc (Nat.le_refl _) _
      have G1 := Lib.hid (G0.out.later hbs.out)
      obtain ⟨V1, hV1⟩ : ∃ X, X = V0.alloc (.cells #[] 5) := ⟨_, rfl⟩
      rw [← hV1] at M12_1 G1 ⊢
      clear hbs hbl hV1
      have hcs : TwoAt w.heap.size (.slice ca n cc) (.slice sa d sc) V1 := ⟨mcl_cell G1.out.r1 rfl, mcl_cell G1.out.r1 rfl⟩
      refine hK'.out _ _ (by repeat' (first | exact trivial | exact fun _ => hcs | refine ⟨?_, ?_⟩)) ?_
      clear hK' K' hcs
      try simp only [Act.put, List.setIfInBounds_toArray, List.set_cons_zero, List.set_cons_succ]
      refine anyS_two 3 4 (by kernel_rfl) rfl rfl (fun K' hK' => ?_) (fun K' hK' => ?_)
      · refine step_append_opt rfl (.tmp 12) (.tmp 14) 22 rfl (w.heap.size + 2) 5 i0 Try.underlying22 hi hz0 hz1 hz2 _ 0 [] rfl M12_1.out ca n cc c rfl (HC.out.below G1.out.b).reads (HC.out.below G1.out.b).nil (by omega) G1.out.s ?_
        intro v15 V2 ho hg
        rw [Nat.zero_add, List.nil_append] at ho
        have hbs : Hid (Below (w.heap.size + 2) V1 V2) := (Below.refl _ _).grown hg G1.out.s (fun k hk => (M12_1.out.lt k hk).1)
        have G2 := Lib.hid (G1.out.later hbs.out)
        obtain ⟨a15, k15, rfl⟩ := own_slice ho
        have M15_2 := Lib.hid ho
        clear ho hg hbs
        have hcs : TwoAt w.heap.size (.slice ca n cc) (.slice sa d sc) V2 := ⟨mcl_cell G2.out.r1 rfl, mcl_cell G2.out.r1 rfl⟩
        refine hK'.out _ _ (by repeat' (first | exact trivial | exact fun _ => hcs | refine ⟨?_, ?_⟩)) ?_
        clear hK' K' hcs
        try simp only [Act.put, List.setIfInBounds_toArray, List.set_cons_zero, List.set_cons_succ]
        (refine anyS_free (i := 8) (v := ?_) rfl (by kernel_rfl) (by kernel_rfl) (by kernel_rfl) (fun _ _ _ h => h) (fun _ => by simp) (Or.inl ⟨by rfl, fun w' _ => ?_⟩) ?_; rotate_left; (· go_simp; try with_reducible rfl))
        try simp only [Act.put, List.setIfInBounds_toArray, List.set_cons_zero, List.set_cons_succ]
        refine anyS_one 4 (by kernel_rfl) rfl (fun K' hK' => ?_)
        go_simp
        have M16_3 := Lib.hid (World.ownsRow_made (base := w.heap.size + 2) (e := 3) (size := 1) V2 #[] 0 G2.out.s (by unfold maxLen; omega) rfl)
        have hbs : Hid (Below (w.heap.size + 2) V2 (V2.alloc (.cells #[] 3))) := (Below.refl _ _).alloc G2.out.s _
        have hbl : Hid (Below V2.heap.size V2 (V2.alloc (.cells #[] 3))) := (Below.refl _ _).alloc (Nat.le_refl _) _
        have G3 := Lib.hid (G2.out.later hbs.out)
        have M15_3 := Lib.hid (own_later M15_2.out hbl.out)
        obtain ⟨V3, hV3⟩ : ∃ X, X = V2.alloc (.cells #[] 3) := ⟨_, rfl⟩
        rw [← hV3] at M16_3 G3 M15_3 ⊢
        clear hbs hbl hV3
        have hcs : TwoAt w.heap.size (.slice ca n cc) (.slice sa d sc) V3 := ⟨mcl_cell G3.out.r1 rfl, mcl_cell G3.out.r1 rfl⟩
        refine hK'.out _ _ (by repeat' (first | exact trivial | exact fun _ => hcs | refine ⟨?_, ?_⟩)) ?_
        clear hK' K' hcs
        try simp only [Act.put, List.setIfInBounds_toArray, List.set_cons_zero, List.set_cons_succ]
        refine anyS_one 7 (by kernel_rfl) rfl (fun K' hK' => ?_)
        refine step_nums_opt rfl (.tmp 16) (.tmp 18) rfl (w.heap.size + 2) _ 0 [] rfl M16_3.out sa d sc stk rfl (HS.out.below G3.out.b) hnil (by omega) G3.out.s ?_
        intro v19 V4 ho hg
        rw [Nat.zero_add, List.nil_append] at ho
        have hbs : Hid (Below (w.heap.size + 2) V3 V4) := (Below.refl _ _).grown hg G3.out.s (fun k hk => (M16_3.out.lt k hk).1)
        have G4 := Lib.hid (G3.out.later hbs.out)
        have M15_4 := Lib.hid (M15_3.out.kept hg (own_apart M15_3.out M16_3.out (by decide)))
        obtain ⟨a19, k19, rfl⟩ := own_slice ho
        have M19_4 := Lib.hid ho
        clear ho hg hbs
        have hcs : TwoAt w.heap.size (.slice ca n cc) (.slice sa d sc) V4 := ⟨mcl_cell G4.out.r1 rfl, mcl_cell G4.out.r1 rfl⟩
        refine hK'.out _ _ (by repeat' (first | exact trivial | exact fun _ => hcs | refine ⟨?_, ?_⟩)) ?_
        clear hK' K' hcs
        try simp only [Act.put, List.setIfInBounds_toArray, List.set_cons_zero, List.set_cons_succ]
        have h1 := only_setCell V4 w.heap.size 0 _ _ (.slice a15 n k15) G4.out.r1
        have h2 := only_setCell _ w.heap.size 4 _ _ (.slice a19 d k19) h1.2
        have c0' := mcl_cell (k := 0) G4.out.r1 rfl
        have f0' : V4.frozen? ⟨w.heap.size, 0, none⟩ = false := by simp [World.frozen?, G4.out.r1]
        have c4' : (V4.setCell ⟨w.heap.size, 0, none⟩ (.slice a15 n k15)).cell? ⟨w.heap.size, 4, none⟩ = some (.slice sa d sc) := mcl_cell h1.2 rfl
        have f4' : (V4.setCell ⟨w.heap.size, 0, none⟩ (.slice a15 n k15)).frozen? ⟨w.heap.size, 4, none⟩ = false := by simp [World.frozen?, h1.2]
        have ho := h1.1.trans h2.1
        have hmac : One w n d c stk (mcl (.slice a15 n k15) (.slice a19 d k19) arg data ⟨pc, stk, G, false, 0⟩) (.slice a15 n k15) (.slice a19 d k19) ((V4.setCell ⟨w.heap.size, 0, none⟩ (.slice a15 n k15)).setCell ⟨w.heap.size, 4, none⟩ (.slice a19 d k19)) :=
          ⟨h2.2, (ho.block (w.heap.size + 1) (by have := G4.out.s; omega) (by simp)).trans G4.out.r2, own_only M15_4.out ho (own_not M15_4.out G4.out.r1 (by decide)), own_only M19_4.out ho (own_not M19_4.out G4.out.r1 (by decide)), G4.out.b.trans (ho.below (Nat.le_refl _) G4.out.b.size), Nat.le_trans G4.out.s ho.size⟩
        have HM := Lib.hid hmac
        clear ho hmac h2
        refine anyS_one 9 (by kernel_rfl) rfl (fun K' hK' => ?_)
        go_simp
        refine hK'.out _ _ (by repeat' (first | exact trivial | exact fun h => absurd h (by decide) | refine ⟨?_, ?_⟩)) ?_
        clear hK' K'
        try simp only [Act.put, List.setIfInBounds_toArray, List.set_cons_zero, List.set_cons_succ]
        (refine anyS_free (i := 10) (v := ?_) rfl (by kernel_rfl) (by kernel_rfl) (by kernel_rfl) (fun _ _ _ h => h) (fun _ => by simp) (Or.inl ⟨by rfl, fun w' _ => ?_⟩) ?_; rotate_left; (· go_simp; try with_reducible rfl))
        try simp only [Act.put, List.setIfInBounds_toArray, List.set_cons_zero, List.set_cons_succ]
        refine anyS_one 11 (by kernel_rfl) rfl (fun K' hK' => ?_)
        go_simp
        refine hK'.out _ _ (by repeat' (first | exact trivial | exact fun h => absurd h (by decide) | refine ⟨?_, ?_⟩)) ?_
        clear hK' K'
        try simp only [Act.put, List.setIfInBounds_toArray, List.set_cons_zero, List.set_cons_succ]
        refine anyS_done (by kernel_rfl) ?_ _
        refine NoPanic.normal ?_
        clear c0' f0' c4' f4' h1
        go_wp2_with fail
        go_meet
        case rel => exact ⟨_, _, _, _, HM⟩
      · go_simp
        have M16_5 := Lib.hid (World.ownsRow_made (base := w.heap.size + 2) (e := 3) (size := 1) V1 #[] 0 G1.out.s (by unfold maxLen; omega) rfl)
        have hbs : Hid (Below (w.heap.size + 2) V1 (V1.alloc (.cells #[] 3))) := (Below.refl _ _).alloc G1.out.s _
        have hbl : Hid (Below V1.heap.size V1 (V1.alloc (.cells #[] 3))) := (Below.refl _ _).alloc (Nat.le_refl _) _
        have G5 := Lib.hid (G1.out.later hbs.out)
        have M12_5 := Lib.hid (own_later M12_1.out hbl.out)
        obtain ⟨V5, hV5⟩ : ∃ X, X = V1.alloc (.cells #[] 3) := ⟨_, rfl⟩
        rw [← hV5] at M16_5 G5 M12_5 ⊢
        clear hbs hbl hV5
        have hcs : TwoAt w.heap.size (.slice ca n cc) (.slice sa d sc) V5 := ⟨mcl_cell G5.out.r1 rfl, mcl_cell G5.out.r1 rfl⟩
        refine hK'.out _ _ (by repeat' (first | exact trivial | exact fun _ => hcs | refine ⟨?_, ?_⟩)) ?_
        clear hK' K' hcs
        try simp only [Act.put, List.setIfInBounds_toArray, List.set_cons_zero, List.set_cons_succ]
        refine anyS_one 3 (by kernel_rfl) rfl (fun K' hK' => ?_)
        refine step_append_opt rfl (.tmp 12) (.tmp 14) 22 rfl (w.heap.size + 2) 5 i0 Try.underlying22 hi hz0 hz1 hz2 _ 0 [] rfl M12_5.out ca n cc c rfl (HC.out.below G5.out.b).reads (HC.out.below G5.out.b).nil (by omega) G5.out.s ?_
        intro v15 V6 ho hg
        rw [Nat.zero_add, List.nil_append] at ho
        have hbs : Hid (Below (w.heap.size + 2) V5 V6) := (Below.refl _ _).grown hg G5.out.s (fun k hk => (M12_5.out.lt k hk).1)
        have G6 := Lib.hid (G5.out.later hbs.out)
        have M16_6 := Lib.hid (M16_5.out.kept hg (own_apart M16_5.out M12_5.out (by decide)))
        obtain ⟨a15, k15, rfl⟩ := own_slice ho
        have M15_6 := Lib.hid ho
        clear ho hg hbs
        have hcs : TwoAt w.heap.size (.slice ca n cc) (.slice sa d sc) V6 := ⟨mcl_cell G6.out.r1 rfl, mcl_cell G6.out.r1 rfl⟩
        refine hK'.out _ _ (by repeat' (first | exact trivial | exact fun _ => hcs | refine ⟨?_, ?_⟩)) ?_
        clear hK' K' hcs
        try simp only [Act.put, List.setIfInBounds_toArray, List.set_cons_zero, List.set_cons_succ]
        (refine anyS_free (i := 8) (v := ?_) rfl (by kernel_rfl) (by kernel_rfl) (by kernel_rfl) (fun _ _ _ h => h) (fun _ => by simp) (Or.inl ⟨by rfl, fun w' _ => ?_⟩) ?_; rotate_left; (· go_simp; try with_reducible rfl))
        try simp only [Act.put, List.setIfInBounds_toArray, List.set_cons_zero, List.set_cons_succ]
        refine anyS_one 7 (by kernel_rfl) rfl (fun K' hK' => ?_)
        refine step_nums_opt rfl (.tmp 16) (.tmp 18) rfl (w.heap.size + 2) _ 0 [] rfl M16_6.out sa d sc stk rfl (HS.out.below G6.out.b) hnil (by omega) G6.out.s ?_
        intro v19 V7 ho hg
        rw [Nat.zero_add, List.nil_append] at ho
        have hbs : Hid (Below (w.heap.size + 2) V6 V7) := (Below.refl _ _).grown hg G6.out.s (fun k hk => (M16_6.out.lt k hk).1)
        have G7 := Lib.hid (G6.out.later hbs.out)
        have M15_7 := Lib.hid (M15_6.out.kept hg (own_apart M15_6.out M16_6.out (by decide)))
        obtain ⟨a19, k19, rfl⟩ := own_slice ho
        have M19_7 := Lib.hid ho
        clear ho hg hbs
        have hcs : TwoAt w.heap.size (.slice ca n cc) (.slice sa d sc) V7 := ⟨mcl_cell G7.out.r1 rfl, mcl_cell G7.out.r1 rfl⟩
        refine hK'.out _ _ (by repeat' (first | exact trivial | exact fun _ => hcs | refine ⟨?_, ?_⟩)) ?_
        clear hK' K' hcs
        try simp only [Act.put, List.setIfInBounds_toArray, List.set_cons_zero, List.set_cons_succ]
        have h1 := only_setCell V7 w.heap.size 0 _ _ (.slice a15 n k15) G7.out.r1
        have h2 := only_setCell _ w.heap.size 4 _ _ (.slice a19 d k19) h1.2
        have c0' := mcl_cell (k := 0) G7.out.r1 rfl
        have f0' : V7.frozen? ⟨w.heap.size, 0, none⟩ = false := by simp [World.frozen?, G7.out.r1]
        have c4' : (V7.setCell ⟨w.heap.size, 0, none⟩ (.slice a15 n k15)).cell? ⟨w.heap.size, 4, none⟩ = some (.slice sa d sc) := mcl_cell h1.2 rfl
        have f4' : (V7.setCell ⟨w.heap.size, 0, none⟩ (.slice a15 n k15)).frozen? ⟨w.heap.size, 4, none⟩ = false := by simp [World.frozen?, h1.2]
        have ho := h1.1.trans h2.1
        have hmac : One w n d c stk (mcl (.slice a15 n k15) (.slice a19 d k19) arg data ⟨pc, stk, G, false, 0⟩) (.slice a15 n k15) (.slice a19 d k19) ((V7.setCell ⟨w.heap.size, 0, none⟩ (.slice a15 n k15)).setCell ⟨w.heap.size, 4, none⟩ (.slice a19 d k19)) :=
          ⟨h2.2, (ho.block (w.heap.size + 1) (by have := G7.out.s; omega) (by simp)).trans G7.out.r2, own_only M15_7.out ho (own_not M15_7.out G7.out.r1 (by decide)), own_only M19_7.out ho (own_not M19_7.out G7.out.r1 (by decide)), G7.out.b.trans (ho.below (Nat.le_refl _) G7.out.b.size), Nat.le_trans G7.out.s ho.size⟩
        have HM := Lib.hid hmac
        clear ho hmac h2
        refine anyS_one 9 (by kernel_rfl) rfl (fun K' hK' => ?_)
        go_simp
        refine hK'.out _ _ (by repeat' (first | exact trivial | exact fun h => absurd h (by decide) | refine ⟨?_, ?_⟩)) ?_
        clear hK' K'
        try simp only [Act.put, List.setIfInBounds_toArray, List.set_cons_zero, List.set_cons_succ]
        (refine anyS_free (i := 10) (v := ?_) rfl (by kernel_rfl) (by kernel_rfl) (by kernel_rfl) (fun _ _ _ h => h) (fun _ => by simp) (Or.inl ⟨by rfl, fun w' _ => ?_⟩) ?_; rotate_left; (· go_simp; try with_reducible rfl))
        try simp only [Act.put, List.setIfInBounds_toArray, List.set_cons_zero, List.set_cons_succ]
        refine anyS_one 11 (by kernel_rfl) rfl (fun K' hK' => ?_)
        go_simp
        refine hK'.out _ _ (by repeat' (first | exact trivial | exact fun h => absurd h (by decide) | refine ⟨?_, ?_⟩)) ?_
        clear hK' K'
        try simp only [Act.put, List.setIfInBounds_toArray, List.set_cons_zero, List.set_cons_succ]
        refine anyS_done (by kernel_rfl) ?_ _
        refine NoPanic.normal ?_
        clear c0' f0' c4' f4' h1
        go_wp2_with fail
        go_meet
        case rel => exact ⟨_, _, _, _, HM⟩
    · go_simp
      have M16_8 := Lib.hid (World.ownsRow_made (base := w.heap.size + 2) (e := 3) (size := 1) V0 #[] 0 G0.out.s (by unfold maxLen; omega) rfl)
      have hbs : Hid (Below (w.heap.size + 2) V0 (V0.alloc (.cells #[] 3))) := (Below.refl _ _).alloc G0.out.s _
      have hbl : Hid (Below V0.heap.size V0 (V0.alloc (.cells #[] 3))) := (Below.refl _ _).alloc (Nat.le_refl _) _
      have G8 := Lib.hid (G0.out.later hbs.out)
      obtain ⟨V8, hV8⟩ : ∃ X, X = V0.alloc (.cells #[] 3) := ⟨_, rfl⟩
      rw [← hV8] at M16_8 G8 ⊢
      clear hbs hbl hV8
      have hcs : TwoAt w.heap.size (.slice ca n cc) (.slice sa d sc) V8 := ⟨mcl_cell G8.out.r1 rfl, mcl_cell G8.out.r1 rfl⟩
      refine hK'.out _ _ (by repeat' (first | exact trivial | exact fun _ => hcs | refine ⟨?_, ?_⟩)) ?_
      clear hK' K' hcs
      try simp only [Act.put, List.setIfInBounds_toArray, List.set_cons_zero, List.set_cons_succ]
      refine anyS_one 0 (by kernel_rfl) rfl (fun K' hK' => ?_)
      go_simp
      have M12_9 := Lib.hid (World.ownsRow_made (base := w.heap.size + 2) (e := 5) (size := 1) V8 #[] 0 G8.out.s (by unfold maxLen; omega) rfl)
      have hbs : Hid (Below (w.heap.size + 2) V8 (V8.alloc (.cells #[] 5))) := (Below.refl _ _).alloc G8.out.s _
      have hbl : Hid (Below V8.heap.size V8 (V8.alloc (.cells #[] 5))) := (Below.refl _ _).alloc (Nat.le_refl _) _
      have G9 := Lib.hid (G8.out.later hbs.out)
      have M16_9 := Lib.hid (own_later M16_8.out hbl.out)
      obtain ⟨V9, hV9⟩ : ∃ X, X = V8.alloc (.cells #[] 5) := ⟨_, rfl⟩
      rw [← hV9] at M12_9 G9 M16_9 ⊢
      clear hbs hbl hV9
      have hcs : TwoAt w.heap.size (.slice ca n cc) (.slice sa d sc) V9 := ⟨mcl_cell G9.out.r1 rfl, mcl_cell G9.out.r1 rfl⟩
      refine hK'.out _ _ (by repeat' (first | exact trivial | exact fun _ => hcs | refine ⟨?_, ?_⟩)) ?_
      clear hK' K' hcs
      try simp only [Act.put, List.setIfInBounds_toArray, List.set_cons_zero, List.set_cons_succ]
      refine anyS_one 3 (by kernel_rfl) rfl (fun K' hK' => ?_)
      refine step_append_opt rfl (.tmp 12) (.tmp 14) 22 rfl (w.heap.size + 2) 5 i0 Try.underlying22 hi hz0 hz1 hz2 _ 0 [] rfl M12_9.out ca n cc c rfl (HC.out.below G9.out.b).reads (HC.out.below G9.out.b).nil (by omega) G9.out.s ?_
      intro v15 V10 ho hg
      rw [Nat.zero_add, List.nil_append] at ho
      have hbs : Hid (Below (w.heap.size + 2) V9 V10) := (Below.refl _ _).grown hg G9.out.s (fun k hk => (M12_9.out.lt k hk).1)
      have G10 := Lib.hid (G9.out.later hbs.out)
      have M16_10 := Lib.hid (M16_9.out.kept hg (own_apart M16_9.out M12_9.out (by decide)))
      obtain ⟨a15, k15, rfl⟩ := own_slice ho
      have M15_10 := Lib.hid ho
      clear ho hg hbs
      have hcs : TwoAt w.heap.size (.slice ca n cc) (.slice sa d sc) V10 := ⟨mcl_cell G10.out.r1 rfl, mcl_cell G10.out.r1 rfl⟩
      refine hK'.out _ _ (by repeat' (first | exact trivial | exact fun _ => hcs | refine ⟨?_, ?_⟩)) ?_
      clear hK' K' hcs
      try simp only [Act.put, List.setIfInBounds_toArray, List.set_cons_zero, List.set_cons_succ]
      (refine anyS_free (i := 8) (v := ?_) rfl (by kernel_rfl) (by kernel_rfl) (by kernel_rfl) (fun _ _ _ h => h) (fun _ => by simp) (Or.inl ⟨by rfl, fun w' _ => ?_⟩) ?_; rotate_left; (· go_simp; try with_reducible rfl))
      try simp only [Act.put, List.setIfInBounds_toArray, List.set_cons_zero, List.set_cons_succ]
      refine anyS_one 7 (by kernel_rfl) rfl (fun K' hK' => ?_)
      refine step_nums_opt rfl (.tmp 16) (.tmp 18) rfl (w.heap.size + 2) _ 0 [] rfl M16_10.out sa d sc stk rfl (HS.out.below G10.out.b) hnil (by omega) G10.out.s ?_
      intro v19 V11 ho hg
      rw [Nat.zero_add, List.nil_append] at ho
      have hbs : Hid (Below (w.heap.size + 2) V10 V11) := (Below.refl _ _).grown hg G10.out.s (fun k hk => (M16_10.out.lt k hk).1)
      have G11 := Lib.hid (G10.out.later hbs.out)
      have M15_11 := Lib.hid (M15_10.out.kept hg (own_apart M15_10.out M16_10.out (by decide)))
      obtain ⟨a19, k19, rfl⟩ := own_slice ho
      have M19_11 := Lib.hid ho
      clear ho hg hbs
      have hcs : TwoAt w.heap.size (.slice ca n cc) (.slice sa d sc) V11 := ⟨mcl_cell G11.out.r1 rfl, mcl_cell G11.out.r1 rfl⟩
      refine hK'.out _ _ (by repeat' (first | exact trivial | exact fun _ => hcs | refine ⟨?_, ?_⟩)) ?_
      clear hK' K' hcs
      try simp only [Act.put, List.setIfInBounds_toArray, List.set_cons_zero, List.set_cons_succ]
      have h1 := only_setCell V11 w.heap.size 0 _ _ (.slice a15 n k15) G11.out.r1
      have h2 := only_setCell _ w.heap.size 4 _ _ (.slice a19 d k19) h1.2
      have c0' := mcl_cell (k := 0) G11.out.r1 rfl
      have f0' : V11.frozen? ⟨w.heap.size, 0, none⟩ = false := by simp [World.frozen?, G11.out.r1]
      have c4' : (V11.setCell ⟨w.heap.size, 0, none⟩ (.slice a15 n k15)).cell? ⟨w.heap.size, 4, none⟩ = some (.slice sa d sc) := mcl_cell h1.2 rfl
      have f4' : (V11.setCell ⟨w.heap.size, 0, none⟩ (.slice a15 n k15)).frozen? ⟨w.heap.size, 4, none⟩ = false := by simp [World.frozen?, h1.2]
      have ho := h1.1.trans h2.1
      have hmac : One w n d c stk (mcl (.slice a15 n k15) (.slice a19 d k19) arg data ⟨pc, stk, G, false, 0⟩) (.slice a15 n k15) (.slice a19 d k19) ((V11.setCell ⟨w.heap.size, 0, none⟩ (.slice a15 n k15)).setCell ⟨w.heap.size, 4, none⟩ (.slice a19 d k19)) :=
        ⟨h2.2, (ho.block (w.heap.size + 1) (by have := G11.out.s; omega) (by simp)).trans G11.out.r2, own_only M15_11.out ho (own_not M15_11.out G11.out.r1 (by decide)), own_only M19_11.out ho (own_not M19_11.out G11.out.r1 (by decide)), G11.out.b.trans (ho.below (Nat.le_refl _) G11.out.b.size), Nat.le_trans G11.out.s ho.size⟩
      have HM := Lib.hid hmac
      clear ho hmac h2
      refine anyS_one 9 (by kernel_rfl) rfl (fun K' hK' => ?_)
      go_simp
      refine hK'.out _ _ (by repeat' (first | exact trivial | exact fun h => absurd h (by decide) | refine ⟨?_, ?_⟩)) ?_
      clear hK' K'
      try simp only [Act.put, List.setIfInBounds_toArray, List.set_cons_zero, List.set_cons_succ]
      (refine anyS_free (i := 10) (v := ?_) rfl (by kernel_rfl) (by kernel_rfl) (by kernel_rfl) (fun _ _ _ h => h) (fun _ => by simp) (Or.inl ⟨by rfl, fun w' _ => ?_⟩) ?_; rotate_left; (· go_simp; try with_reducible rfl))
      try simp only [Act.put, List.setIfInBounds_toArray, List.set_cons_zero, List.set_cons_succ]
      refine anyS_one 11 (by kernel_rfl) rfl (fun K' hK' => ?_)
      go_simp
      refine hK'.out _ _ (by repeat' (first | exact trivial | exact fun h => absurd h (by decide) | refine ⟨?_, ?_⟩)) ?_
      clear hK' K'
      try simp only [Act.put, List.setIfInBounds_toArray, List.set_cons_zero, List.set_cons_succ]
      refine anyS_done (by kernel_rfl) ?_ _
      refine NoPanic.normal ?_
      clear c0' f0' c4' f4' h1
      go_wp2_with fail
      go_meet
      case rel => exact ⟨_, _, _, _, HM⟩
  clear G00 hi hz0 hz1 hz2
  clear i0
  case rest =>
    obtain ⟨a1, k1, a2, k2, HO⟩ := hcut
    obtain ⟨ad, rfl, -⟩ := own_byte HO.out.code HF.out.bytes hlt
    have e6 : wc.cell? ⟨w.heap.size, 6, none⟩ = some (.bool false) := mcl_cell HO.out.a rfl
    have e5 : wc.cell? ⟨w.heap.size, 5, none⟩ = some (.int .i64 G) := mcl_cell HO.out.a rfl
    have e3 : wc.cell? ⟨w.heap.size, 3, none⟩ = some (.int .i64 (pc : Int)) := mcl_cell HO.out.a rfl
    have e0 : wc.cell? ⟨w.heap.size, 0, none⟩ = some (.slice (some ad) n k1) := mcl_cell HO.out.a rfl
    go_upto_region 9 with (fail)
    go_upto_region 10 with (first
      | (refine wpList_load_row rfl 37 (.tmp 1) rfl w.heap.size rfl 37 (mcl (.slice (some ad) n k1) (.slice a2 d k2) arg data ⟨pc, stk, G, false, 0⟩) (0, 0) _ HO.out.a Try.underlying37 rfl size_ref ?_)
      | (refine store_agg rfl 37 (.tmp 3) (.tmp 44) rfl rfl wc.heap.size (mcl (.slice (some ad) n k1) (.slice a2 d k2) arg data ⟨pc, stk, G, false, 0⟩) rfl rfl 37 _ (heap_alloc_new _ _) size_ref rfl (mcl_one _ _ _ _ _ _ _ _ _) ?_; intro Y hrow hon))
    have hbY : Below wc.heap.size wc Y := ((Below.refl _ _).alloc (Nat.le_refl _) _).trans (hon.below (Nat.le_refl _) (by simp))
    have D1 := Lib.hid (Prr.first HO.out hbY hrow)
    clear hrow hon hbY e0 e3 e5 e6 HO
    have x5 : Y.cell? ⟨wc.heap.size, 5, none⟩ = some (.int .i64 G) := mcl_cell D1.out.x rfl
    have f5 : Y.frozen? ⟨wc.heap.size, 5, none⟩ = false := by simp [World.frozen?, D1.out.x]
    go_upto_region 11 with (fail)
    clear x5 f5
    have hst := only_setCell Y wc.heap.size 5 _ _ (.int .i64 (G - 1)) D1.out.x
    have D2 : Hid (Prr w wc.heap.size n d c stk (mcl (.slice (some ad) n k1) (.slice a2 d k2) arg data ⟨pc, stk, G, false, 0⟩) (mcl (.slice (some ad) n k1) (.slice a2 d k2) arg data ⟨pc, stk, G - 1, false, 0⟩) (.slice (some ad) n k1) (.slice a2 d k2) (Y.setCell ⟨wc.heap.size, 5, none⟩ (.int .i64 (G - 1)))) := Lib.hid (D1.out.put hst.2 hst.1)
    obtain ⟨Z, hV2⟩ : ∃ X, X = Y.setCell ⟨wc.heap.size, 5, none⟩ (.int .i64 (G - 1)) := ⟨_, rfl⟩
    rw [← hV2] at D2 ⊢
    clear hst hV2 D1
    have z3 : Z.cell? ⟨w.heap.size, 3, none⟩ = some (.int .i64 (pc : Int)) := mcl_cell D2.out.o.a rfl
    have z0 : Z.cell? ⟨w.heap.size, 0, none⟩ = some (.slice (some ad) n k1) := mcl_cell D2.out.o.a rfl
    have zb : Z.cell? (ad.add pc) = some (.int .u8 s) := byte_at D2.out.o.code HF.out.bytes hlt HSG.out
    have hp : stepP c arg data ⟨pc, stk, G, false, 0⟩ = (Ms.spend ⟨pc, stk, G, false, 0⟩).halt 10 := by
      refine stepP_bad hG (by rw [← HN.out]; exact hlt) (by rw [HSG.out]; omega) ?_ (by decide)
      have hlt2 := hlt
      rw [HN.out] at hlt2
      have h16 := hstk
      rw [HD.out] at h16
      have e : sgn c ⟨pc, stk, G - 1, false, 0⟩ = s := HSG.out
      unfold actE
      rw [e, tail_no h15, takes_no h15, puts_no h15, if_neg (by show ¬ c.length < pc + 1 + 0; omega), if_neg (by show ¬ (stk.length < 0 ∨ 16 < stk.length - 0 + 0); omega)]
      unfold outP
      repeat (rw [if_neg (by omega)])
    have HP := Lib.hid hp
    clear hp
    go_upto_region 16 with (fail)
    go_wp2_with (first
      | (refine wpList_load_row rfl 37 (.tmp 1) rfl w.heap.size rfl 37 (mcl (.slice (some ad) n k1) (.slice a2 d k2) arg data ⟨pc, stk, G, false, 0⟩) (0, 0) _ D2.out.o.a Try.underlying37 rfl size_ref ?_))
    refine (fail_any (some ad) n k1 a2 d k2 arg data ⟨pc, stk, G, false, 0⟩ 10 Z ⟨hG, hg200⟩).mono ?_
    rintro _ U ⟨rfl, hbU⟩
    have DU := Lib.hid (D2.out.later hbU)
    clear hbU D2
    go_wp2_with (first
      | (refine store_agg rfl 37 (.tmp 2) (.tmp 75) rfl rfl (w.heap.size + 1) (mcl (.slice (some ad) n k1) (.slice a2 d k2) arg data ((Ms.spend ⟨pc, stk, G, false, 0⟩).halt 10)) rfl rfl 37 _ DU.out.o.r size_ref rfl (mcl_one _ _ _ _ _ _ _ _ _) ?_; intro T hrow hon))
    refine bodyPost_ret (v := .agg (mcl (.slice (some ad) n k1) (.slice a2 d k2) arg data ((Ms.spend ⟨pc, stk, G, false, 0⟩).halt 10))) (results_cell_row (P := Try.prog) rfl _ _ (w.heap.size + 1) 37 _ (0, 0) _ rfl hrow Try.underlying37 rfl size_ref) rfl ?_
    rw [HP.out]
    refine ⟨_, _, rfl, ?_⟩
    have h := DU.out.o.done hon
    refine ⟨h.1, ?_, h.2.2⟩
    show T.ownsRow _ _ _ _ stk.length (nts stk)
    rw [← HD.out]
    exact h.2.1

end Go.Proofs.Ytdbnfafafhdolaa
