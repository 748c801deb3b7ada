/- A step of a machine on its way, in place. -/
import Derived.Test.YtdbnfafafhdolaaMakes2
import Derived.Test.YtdbnfafafhdolaaVSl
import Derived.BigQuiet
import Derived.Deep.QuietTactic
namespace Go.Proofs.Ytdbnfafafhdolaa
open Go Go.RowKit
set_option linter.unusedVariables false
set_option linter.unusedSimpArgs false

section
variable {B g : Nat} {c : List Int} {arg data : Int} {m : Ms} {cv sv : Value} {w : World}

theorem end_any (h : Mac 34 B g c arg data m cv sv w) (E : Int) :
    Calls Try.prog 34 #[.pointer (some ⟨g, 0, none⟩), .int .i64 E] w fun e w' => e = .returned (.tuple #[]) ∧ Mac 34 B g c arg data (m.halt E) cv sv w' ∧ Only g w w' := by
  have c6 := h.cells.2.2.2.2.2.2.1
  have f6 := h.free 6
  have h1 := h.put 6 (.bool true) { m with fin := true } rfl rfl
  have c7 := h1.1.cells.2.2.2.2.2.2.2
  have f7 := h1.1.free 7
  have h2 := h1.1.put 7 (.int .i64 E) (m.halt E) rfl rfl
  have H2 := Lib.hid h2.1
  have HO := Lib.hid (h1.2.trans h2.2)
  clear h h1 h2
  go_enter Try.func34, Try.ntmps34
  go_wp2_with fail
  go_end0
  exact ⟨rfl, H2.out, HO.out⟩

def ActPost (B g : Nat) (c : List Int) (arg data : Int) (m : Ms) (cv : Value) (w : World) (e : Ending) (w' : World) : Prop :=
  e = .returned (.int .i64 (actE c arg data m)) ∧ (∃ sv', Mac 34 B g c arg data (if actE c arg data m = 0 then actM c arg data m else m) cv sv' w') ∧ But g B w w'

theorem tail_le (s : Int) : tailP s ≤ 8 := by unfold tailP; (repeat' split) <;> omega
theorem takes_le (s : Int) : takesP s ≤ 2 := by unfold takesP; (repeat' split) <;> omega
theorem puts_le (s : Int) : putsP s ≤ 2 := by unfold putsP; (repeat' split) <;> omega
theorem num_i64 (xs : List Int) : I64 (numP xs) := by unfold numP wrap64; exact ⟨by omega, by omega⟩

theorem own_len (a : Option Addr) (n k c : Nat) : (Value.slice a n c).ownBlock = (Value.slice a k c).ownBlock := by cases a <;> rfl

theorem num_one {z : List Int} (hl : z.length = 1) (hb : ∀ y ∈ z, Byte y) : 0 ≤ numP z ∧ numP z < 256 := by
  match z, hl with
  | [y], _ =>
    have := hb y (by simp)
    unfold Byte at this
    simp only [numP, bigN, List.foldl, wrap64]
    omega

theorem box_cells {w : World} {q u : Nat} {p0 p1 : Int} {out : List Int} (hp : [p0, p1].take u = out) (hr : w.heap[q]? = some (Obj.cells #[.int .i64 p0, .int .i64 p1] 65 (0, 0))) :
    ∀ j x, (nts out)[j]? = some x → w.cell? ((⟨q, 0, none⟩ : Addr).add j) = some x := by
  intro j x hj
  rw [← hp] at hj
  have hl := (List.getElem?_eq_some_iff.1 hj).1
  rw [nts_length, List.length_take] at hl
  have e : nts ([p0, p1].take u) = (nts [p0, p1]).take u := by simp [nts, List.map_take]
  rw [e, List.getElem?_take, if_pos (by omega)] at hj
  rw [Addr.add_lit, Nat.zero_add]
  simp only [World.cell?, hr]
  rw [← hj]
  simp [nts]

set_option maxRecDepth 100000 in
set_option maxHeartbeats 4000000 in
theorem act_any (h : Mac 34 B g c arg data m cv sv w) (hF : Fit c arg data m) (hB : B ≤ w.heap.size) (hlt : m.pc < c.length) :
    Calls Try.prog 38 #[.pointer (some ⟨g, 0, none⟩)] w (ActPost B g c arg data m cv w) := by
  obtain ⟨ca, cc, rfl, hcc⟩ := own_came h.code hF.bytes
  obtain ⟨sa, sc, rfl, hsn⟩ := own_nums h.stk hF.nums
  obtain ⟨c0, c1, c2, c3, c4, c5, c6, c7⟩ := h.cells
  obtain ⟨ad, rfl, hat⟩ := hcc.reads.at hlt
  obtain ⟨s, hs⟩ : ∃ s, s = sgn c m := ⟨_, rfl⟩
  have hby : Byte s := by rw [hs]; exact getD_byte hF.bytes _
  have hat' : w.cell? (ad.add m.pc) = some (.int .u8 s) := by rw [hs]; exact hat
  have htl := tail_le s
  have htk := takes_le s
  have hpt := puts_le s
  have hasks := fun w => asks_any s w hby
  obtain ⟨T, hT⟩ : ∃ T, T = tailP s := ⟨_, rfl⟩
  obtain ⟨K, hK⟩ : ∃ K, K = takesP s := ⟨_, rfl⟩
  obtain ⟨U, hU⟩ : ∃ U, U = putsP s := ⟨_, rfl⟩
  rw [← hT] at htl hasks
  rw [← hK] at htk hasks
  rw [← hU] at hpt hasks
  have hlen := hF.len
  have hstk := hF.stk
  have hcle := hcc.le
  have hcsm := hcc.small
  have hsle := hsn.le
  have hssm := hsn.small
  unfold maxLen at hcsm hssm
  obtain ⟨n, hn⟩ : ∃ n, n = c.length := ⟨_, rfl⟩
  obtain ⟨d, hd⟩ : ∃ d, d = m.stk.length := ⟨_, rfl⟩
  obtain ⟨pc, hpc⟩ : ∃ pc, pc = m.pc := ⟨_, rfl⟩
  rw [← hn] at c0 hlen hcle hlt hcc
  rw [← hd] at c4 hstk hsle hsn
  rw [← hpc] at c3 hat' hlt
  have hby1 := hby.1
  have hby2 := hby.2
  have H := Lib.hid h
  have HF := Lib.hid hF
  have HS := Lib.hid hs
  have HT := Lib.hid hT
  have HK := Lib.hid hK
  have HU := Lib.hid hU
  have HN := Lib.hid hn
  have HD := Lib.hid hd
  have HP := Lib.hid hpc
  have HC := Lib.hid hcc
  have HSN := Lib.hid hsn
  have HA := Lib.hid hasks
  clear h hF hs hT hK hU hn hd hpc hcc hsn hasks c1 c2 c5 c6 c7 hat hby
  have hlt' : (pc : Int) < (n : Int) := by omega
  by_cases hcut : n < pc + 1 + T
  · have HE : Hid (actE c arg data m = 8) := by
      unfold actE
      rw [← HS.out, ← HT.out, ← HN.out, ← HP.out, if_pos hcut]
      exact Lib.hid rfl
    go_enter Try.func38, Try.ntmps38
    go_wp2_with fail
    go_quiet (fail)
    go_wp2_with fail
    refine (HA.out _).mono ?_
    rintro _ _ ⟨rfl, rfl⟩
    go_wp2_with fail
    go_quiet (fail)
    go_wp2_with fail
    go_ret
    unfold ActPost
    rw [HE.out]
    refine ⟨rfl, ⟨.slice sa m.stk.length sc, ?_⟩, ?_⟩
    · rw [if_neg (by omega)]
      exact H.out.drewN _
    · exact .of_below (below_drewN (Below.refl _ _) _)
  by_cases hst : d < K ∨ 16 < d - K + U
  · have HE : Hid (actE c arg data m = 15) := by
      unfold actE
      rw [← HS.out, ← HT.out, ← HN.out, ← HP.out, ← HD.out, ← HK.out, ← HU.out, if_neg hcut, if_pos hst]
      exact Lib.hid rfl
    by_cases hst1 : d < K
    · skip
      go_enter Try.func38, Try.ntmps38
      go_wp2_with fail
      go_quiet (fail)
      go_wp2_with fail
      refine (HA.out _).mono ?_
      rintro _ _ ⟨rfl, rfl⟩
      go_wp2_with fail
      go_quiet (fail)
      go_wp2_with fail
      go_ret
      unfold ActPost
      rw [HE.out]
      refine ⟨rfl, ⟨.slice sa m.stk.length sc, ?_⟩, ?_⟩
      · rw [if_neg (by omega)]
        exact H.out.drewN _
      · exact .of_below (below_drewN (Below.refl _ _) _)
    · have hst2 : 16 < (d : Int) - (K : Int) + (U : Int) := by omega
      have hst3 : ¬ ((d : Int) - (K : Int) < 0) := by omega
      go_enter Try.func38, Try.ntmps38
      go_wp2_with fail
      go_quiet (fail)
      go_wp2_with fail
      refine (HA.out _).mono ?_
      rintro _ _ ⟨rfl, rfl⟩
      go_wp2_with fail
      go_quiet (fail)
      go_wp2_with fail
      go_ret
      unfold ActPost
      rw [HE.out]
      refine ⟨rfl, ⟨.slice sa m.stk.length sc, ?_⟩, ?_⟩
      · rw [if_neg (by omega)]
        exact H.out.drewN _
      · exact .of_below (below_drewN (Below.refl _ _) _)
  have hst2 : ¬ (16 < (d : Int) - (K : Int) + (U : Int)) := by omega
  have hst3 : ¬ ((d : Int) - (K : Int) < 0) := by omega
  obtain ⟨L, hL⟩ : ∃ L, L = d - K := ⟨_, rfl⟩
  obtain ⟨z, hz⟩ : ∃ z, z = (c.drop (pc + 1)).take T := ⟨_, rfl⟩
  have hsl1 : ∀ w, (Instr.sliceAt 22 (.slice (some ad) n cc) (some (.int .i64 (IntKind.i64.wrap ((pc : Int) + 1)))) (some (.int .i64 ((pc : Int) + 1 + (T : Int)))) none).run Try.prog w = .ok (.slice (cutAt (some ad) cc (pc + 1)) T (cc - (pc + 1))) w := fun w => by
    have h := slice_mid22 (some ad) n cc (pc + 1) (pc + 1 + T) (by omega) (by omega) (IntKind.i64.wrap ((pc : Int) + 1)) ((pc : Int) + 1 + (T : Int)) (by rw [IntKind.wrap_i64]; omega) (by omega) w
    rwa [show pc + 1 + T - (pc + 1) = T by omega] at h
  have hsl2 : ∀ w, (Instr.sliceAt 23 (.slice sa d sc) (some (.int .i64 ((d : Int) - (K : Int)))) none none).run Try.prog w = .ok (.slice (cutAt sa sc L) K (sc - L)) w := fun w => by
    have h := slice_from23 sa d sc L (by omega) ((d : Int) - (K : Int)) (by omega) w
    rwa [show d - L = K by omega] at h
  have hnum : ∀ k, Calls Try.prog 40 #[.slice (cutAt (some ad) cc (pc + 1)) T (cc - (pc + 1))] (w.drewN k) fun e w' => e = .returned (.int .i64 (numP z)) ∧ w.drewN k = w' := fun k => by
    have h := came_sub (HC.out.below (below_drewN (Below.refl _ _) k)) (pc + 1) T (by omega)
    exact numvm_any _ T _ z _ (by rw [hz]; exact h.reads) (by rw [hz]; exact h.bytes) htl
  obtain ⟨a1, ha1⟩ : ∃ a, a = cutAt (some ad) cc (pc + 1) := ⟨_, rfl⟩
  obtain ⟨l1, hl1⟩ : ∃ l, l = cc - (pc + 1) := ⟨_, rfl⟩
  obtain ⟨a2, ha2⟩ : ∃ a, a = cutAt sa sc L := ⟨_, rfl⟩
  obtain ⟨l2, hl2⟩ : ∃ l, l = sc - L := ⟨_, rfl⟩
  obtain ⟨said, hsd⟩ : ∃ q, q = numP z := ⟨_, rfl⟩
  rw [← ha1, ← hl1] at hsl1 hnum
  rw [← ha2, ← hl2] at hsl2
  rw [← hsd] at hnum
  have HNUM := Lib.hid hnum
  have HSD := Lib.hid hsd
  have HZ := Lib.hid hz
  have HL := Lib.hid hL
  have HA2 := Lib.hid ha2
  have HL2 := Lib.hid hl2
  have HST := Lib.hid hst
  clear hnum hsd hz hL ha1 hl1 ha2 hl2 hst
  go_enter Try.func38, Try.ntmps38
  go_wp2_with fail
  go_quiet (fail)
  go_wp2_with fail
  refine (HA.out _).mono ?_
  rintro _ _ ⟨rfl, rfl⟩
  go_wp2_with fail
  go_quiet (fail)
  go_wp2_with fail
  refine wp_region_quiet_lit (by kernel_rfl) (by kernel_rfl) ?_
  iterate 10 (quiet_step (fail))
  refine wpQuiet_step (fun K hK => ?_)
  refine quiet_slice 22 (.tmp 61) (some (.tmp 66)) (some (.tmp 67)) rfl rfl _ hsl1 ?_
  go_simp
  refine hK _ ?_
  clear hK K
  quiet_step ((go_at_call 40; exact (HNUM.out _).mono fun e w' h => ⟨h.1, _, h.2.symm⟩))
  iterate 5 (quiet_step (fail))
  refine wpQuiet_step (fun K hK => ?_)
  refine quiet_slice 23 (.tmp 73) (some (.tmp 74)) none rfl rfl _ hsl2 ?_
  go_simp
  refine hK _ ?_
  clear hK K
  iterate 2 (quiet_step (fail))
  refine wpQuiet_nil ?_
  rintro _ ⟨nq, rfl⟩
  go_wp2_with fail
  have hbw : ∀ k, Below w.heap.size w (w.drewN k) := fun k => below_drewN (Below.refl _ _) k
  have hof := own_from (w := w) (B := B) (n := d) (cap := sc) (a := sa) (xs := m.stk) (by rw [HD.out]; exact H.out.stk) HF.out.nums L (by have := HL.out; omega)
  rw [← HA2.out, ← HL2.out, show d - L = K by have := HL.out; omega] at hof
  have htook : m.stk.drop L = tookP c m := by unfold tookP; rw [← HS.out, ← HK.out, ← HD.out, ← HL.out]
  rw [htook] at hof
  refine (makes_any ⟨hby1, hby2⟩ (H.out.later (hbw _)) HF.out (by rw [HSD.out]; exact num_i64 z) (hof.1.below (hbw _)) HK.out (fun h => hof.2 (by have := HL.out; omega))).mono ?_
  rintro _ w1 ⟨⟨p0, p1, rfl, hput⟩, hb1⟩
  obtain ⟨E, hE⟩ : ∃ E, E = (outP s said (tookP c m) arg data c.length).2 := ⟨_, rfl⟩
  obtain ⟨out, hout⟩ : ∃ o, o = (outP s said (tookP c m) arg data c.length).1 := ⟨_, rfl⟩
  rw [← hE, ← hout, ← HU.out] at hput
  rw [← hE]
  have hsd : saidP c m = said := by unfold saidP; rw [← HS.out, ← HP.out, ← HT.out, ← HZ.out, HSD.out]
  have hactE : actE c arg data m = E := by
    unfold actE
    rw [hsd, ← HS.out, ← HT.out, ← HN.out, ← HP.out, ← HD.out, ← HK.out, ← HU.out, if_neg hcut, if_neg HST.out, HN.out]
    exact hE.symm
  have HB1 := Lib.hid ((hbw _).trans (hb1.mono (hbw _).size))
  have HTK := Lib.hid hof
  have HPUT := Lib.hid hput
  have HAE := Lib.hid hactE
  have HE := Lib.hid hE
  have HO := Lib.hid hout
  have HSAID := Lib.hid hsd
  clear hbw hof htook hput hactE hE hout hsd hb1 c0 c3 c4 hat' hsl1 hsl2
  have H1 := Lib.hid (H.out.later HB1.out)
  by_cases hE0 : E = 0
  · subst hE0
    have HPT : Hid ([p0, p1].take U = out) := HPUT.out rfl
    clear HPUT
    have hsl3 : ∀ w, (Instr.sliceAt 23 (.slice sa d sc) none (some (.int .i64 ((d : Int) - (K : Int)))) none).run Try.prog w = .ok (.slice sa L sc) w := fun w => slice_to23 sa d sc L (by have := HL.out; omega) ((d : Int) - (K : Int)) (by have := HL.out; omega) w
    by_cases h13 : s = 13
    · subst h13
      have hK1 : K = 1 := HK.out
      have hT1 : T = 1 := HT.out
      subst hK1
      subst hT1
      obtain ⟨ad2, had2, ht0⟩ := HTK.out.1.cell 0 (by omega)
      have HA2' := Lib.hid had2
      subst had2
      simp only [Addr.add_zero'] at ht0
      obtain ⟨x, hx⟩ : ∃ x, x = (tookP c m).getD 0 0 := ⟨_, rfl⟩
      rw [← hx] at ht0
      go_upto_region 12 with (fail)
      have hbx := (Below.refl w1.heap.size w1).alloc (Nat.le_refl _) (Obj.cells #[.int .i64 p0, .int .i64 p1] 65)
      have hrow : Hid ((w1.alloc (Obj.cells #[.int .i64 p0, .int .i64 p1] 65)).heap[w1.heap.size]? = some (Obj.cells #[.int .i64 p0, .int .i64 p1] 65 (0, 0))) := heap_alloc_new _ _
      have HX := Lib.hid (H1.out.later hbx)
      have HBX := Lib.hid (HB1.out.trans (hbx.mono HB1.out.size))
      obtain ⟨q, hq⟩ : ∃ q, q = w1.heap.size := ⟨_, rfl⟩
      rw [← hq] at hrow ⊢
      clear hbx
      generalize w1.alloc (Obj.cells #[.int .i64 p0, .int .i64 p1] 65) = X at *
      clear H1 HB1 hq

      have ht0 : X.cell? ad2 = some (.int .i64 x) := by rw [HBX.out.cell (World.block_lt_of_cell? w _ ht0)]; exact ht0
      have HX0 := Lib.hid hx
      clear hx
      by_cases hx0 : x = 0
      · subst hx0
        have hz1 : z.length = 1 := by rw [HZ.out, List.length_take, List.length_drop, ← HN.out]; omega
        have hzb : ∀ y ∈ z, Byte y := by rw [HZ.out]; exact fun y hy => HF.out.bytes y (List.mem_of_mem_drop (List.mem_of_mem_take hy))
        have hsb := num_one hz1 hzb
        rw [← HSD.out] at hsb
        obtain ⟨V, hV⟩ : ∃ V, V = said.toNat := ⟨_, rfl⟩
        have hVi : said = (V : Int) := by omega
        have HSAID2 : Hid (saidP c m = (V : Int)) := by rw [← hVi]; exact HSAID.out
        have HO2 : Hid (out = (outP 13 (V : Int) (tookP c m) arg data c.length).1) := by rw [← hVi]; exact HO.out
        clear HSAID HO HSD HE hz1 hzb hsb hV HNUM
        subst hVi
        go_wp2_with fail
        refine anyS_start (by kernel_rfl) ?_
        have HY := Lib.hid HX.out.drew
        have HBY := Lib.hid HBX.out.drew
        have hrY : Hid (X.drew.heap[q]? = some (Obj.cells #[.int .i64 p0, .int .i64 p1] 65 (0, 0))) := hrow
        clear HX HBX hrow
        generalize World.drew X = Y at *
        obtain ⟨-, -, -, c3, c4, -⟩ := HY.out.cells
        rw [← HP.out] at c3
        rw [← HD.out] at c4
        (refine anyS_free (i := 0) (v := ?_) rfl (by kernel_rfl) (by kernel_rfl) (by kernel_rfl) (fun _ _ _ h => h) (fun _ => by simp) (Or.inl ⟨by rfl, fun w' _ => ?_⟩) ?_; rotate_left; (· go_simp; try with_reducible rfl))
        try simp only [Act.put, List.setIfInBounds_toArray, List.set_cons_zero, List.set_cons_succ]
        (refine anyS_free (i := 1) (v := ?_) rfl (by kernel_rfl) (by kernel_rfl) (by kernel_rfl) (fun _ _ _ h => h) (fun _ => by simp) (Or.inl ⟨by rfl, fun w' _ => ?_⟩) ?_; rotate_left; (· go_simp; try with_reducible rfl))
        try simp only [Act.put, List.setIfInBounds_toArray, List.set_cons_zero, List.set_cons_succ]
        (refine anyS_free (i := 2) (v := ?_) rfl (by kernel_rfl) (by kernel_rfl) (by kernel_rfl) (fun _ _ _ h => h) (fun _ => by simp) (Or.inl ⟨by rfl, fun w' _ => ?_⟩) ?_; rotate_left; (· go_simp; try with_reducible rfl))
        try simp only [Act.put, List.setIfInBounds_toArray, List.set_cons_zero, List.set_cons_succ]
        (refine anyS_free (i := 3) (v := ?_) rfl (by kernel_rfl) (by kernel_rfl) (by kernel_rfl) (fun _ _ _ h => h) (fun _ => by simp) (Or.inl ⟨by rfl, fun w' _ => ?_⟩) ?_; rotate_left; (· go_simp; try with_reducible rfl))
        try simp only [Act.put, List.setIfInBounds_toArray, List.set_cons_zero, List.set_cons_succ]
        (refine anyS_free (i := 4) (v := ?_) rfl (by kernel_rfl) (by kernel_rfl) (by kernel_rfl) (fun _ _ _ h => h) (fun _ => by simp) (Or.inl ⟨by rfl, fun w' _ => ?_⟩) ?_; rotate_left; (· go_simp; try with_reducible rfl))
        try simp only [Act.put, List.setIfInBounds_toArray, List.set_cons_zero, List.set_cons_succ]
        (refine anyS_free (i := 5) (v := ?_) rfl (by kernel_rfl) (by kernel_rfl) (by kernel_rfl) (fun _ _ _ h => h) (fun _ => by simp) (Or.inl ⟨by rfl, fun w' _ => ?_⟩) ?_; rotate_left; (· go_simp; try with_reducible rfl))
        try simp only [Act.put, List.setIfInBounds_toArray, List.set_cons_zero, List.set_cons_succ]
        (refine anyS_free (i := 7) (v := ?_) rfl (by kernel_rfl) (by kernel_rfl) (by kernel_rfl) (fun _ _ _ h => h) (fun _ => by simp) (Or.inl ⟨by rfl, fun w' _ => ?_⟩) ?_; rotate_left; (· go_simp; try with_reducible rfl))
        try simp only [Act.put, List.setIfInBounds_toArray, List.set_cons_zero, List.set_cons_succ]
        (refine anyS_free (i := 9) (v := ?_) rfl (by kernel_rfl) (by kernel_rfl) (by kernel_rfl) (fun _ _ _ h => h) (fun _ => by simp) (Or.inl ⟨by rfl, fun w' _ => ?_⟩) ?_; rotate_left; (· go_simp; try with_reducible rfl))
        try simp only [Act.put, List.setIfInBounds_toArray, List.set_cons_zero, List.set_cons_succ]
        (refine anyS_free (i := 10) (v := .slice (some ⟨q, 0, none⟩) U 2) rfl (by kernel_rfl) (by kernel_rfl) (by kernel_rfl) (fun _ _ _ h => h) (fun _ => by simp) (Or.inl ⟨by rfl, fun w' _ => slice_exec 65 (.tmp 11) none (some (.tmp 105)) rfl _ (slice_two q U hpt) w'⟩) ?_)
        try simp only [Act.put, List.setIfInBounds_toArray, List.set_cons_zero, List.set_cons_succ]
        refine anyS_one 6 (by kernel_rfl) rfl (fun K' hK' => ?_)
        go_simp
        refine hK'.out _ _ trivial ?_
        clear hK' K'
        try simp only [Act.put, List.setIfInBounds_toArray, List.set_cons_zero, List.set_cons_succ]
        (refine anyS_free (i := 8) (v := .slice sa L sc) rfl (by kernel_rfl) (by kernel_rfl) (by kernel_rfl) (fun _ _ _ h => h) (fun _ => by simp) (Or.inl ⟨by rfl, fun w' _ => slice_exec 23 (.tmp 102) none (some (.tmp 103)) rfl _ hsl3 w'⟩) ?_)
        try simp only [Act.put, List.setIfInBounds_toArray, List.set_cons_zero, List.set_cons_succ]
        refine anyS_one 11 (by kernel_rfl) rfl (fun K' hK' => ?_)
        have hfr := own_front (w := Y) (B := B) (n := d) (cap := sc) (a := sa) (xs := m.stk) (by rw [HD.out]; exact HY.out.stk) L (by have := HL.out; omega)
        have hlo : out.length = U := by rw [← HPT.out, List.length_take]; simp; omega
        have hll : (m.stk.take L).length = L := by rw [List.length_take]; have h1 := HD.out; have h2 := HL.out; omega
        refine step_append_nums rfl (.tmp 104) (.tmp 106) rfl B (.slice sa L sc) L (m.stk.take L) rfl hfr ⟨q, 0, none⟩ U 2 out rfl hlo (box_cells HPT.out hrY.out) (by have := HL.out; omega) (Nat.le_trans hB HBY.out.size) ?_
        intro v' w4 ho4 hg4
        obtain ⟨a5, c5, rfl⟩ := own_slice ho4
        rw [own_len sa L m.stk.length sc] at hg4
        obtain ⟨hr4, hc4⟩ := HY.out.grew (sv' := .slice a5 (L + U) c5) (st := m.stk.take L ++ out) (by rw [List.length_append, hll, hlo]; exact ho4) hg4
        have hb4 : Below B w w4 := (HBY.out.mono hB).grown hg4 (Nat.le_trans hB HBY.out.size) (fun k hk => by
          rcases HY.out.stk.2 with ⟨h0, -⟩ | ⟨k', cap', cur', h1, h2, -⟩
          · simp only [Value.slice.injEq] at h0
            obtain ⟨rfl, -, -⟩ := h0
            simp [Value.ownBlock] at hk
          · simp only [Value.slice.injEq] at h1
            obtain ⟨rfl, -, -⟩ := h1
            simp only [Value.ownBlock, Option.some.injEq] at hk
            omega)
        have hfin := Mac.finish (sv' := .slice a5 (L + U) c5) (st := m.stk.take L ++ out) hr4 HY.out.kind hc4 (by rw [List.length_append, hll, hlo]; exact ho4) V (V : Int) (rfl)
        have HFIN := Lib.hid hfin
        have HB4 := Lib.hid ((But.of_below (g := g) hb4).trans (.of_only hfin.2 (Nat.le_trans hB hb4.size)))
        have c3' : w4.cell? ⟨g, 3, none⟩ = some (.int .i64 (m.pc : Int)) := by simp [World.cell?, hr4, mcl]
        have f3' : w4.frozen? ⟨g, 3, none⟩ = false := by simp [World.frozen?, hr4]
        have hr5 := (only_setCell w4 g 3 _ _ (.int .i64 (V : Int)) hr4).2
        have c4' : (w4.setCell ⟨g, 3, none⟩ (.int .i64 (V : Int))).cell? ⟨g, 4, none⟩ = some (.slice sa m.stk.length sc) := by simp [World.cell?, hr5, mcl]
        have f4' : (w4.setCell ⟨g, 3, none⟩ (.int .i64 (V : Int))).frozen? ⟨g, 4, none⟩ = false := by simp [World.frozen?, hr5]
        clear hfin ho4 hg4 hr4 hc4 hb4 hfr c3 c4 hr5
        refine hK'.out _ _ trivial ?_
        clear hK' K'
        try simp only [Act.put, List.setIfInBounds_toArray, List.set_cons_zero, List.set_cons_succ]
        (refine anyS_free (i := 12) (v := ?_) rfl (by kernel_rfl) (by kernel_rfl) (by kernel_rfl) (fun _ _ _ h => h) (fun _ => by simp) (Or.inl ⟨by rfl, fun w' _ => ?_⟩) ?_; rotate_left; (· go_simp; try with_reducible rfl))
        try simp only [Act.put, List.setIfInBounds_toArray, List.set_cons_zero, List.set_cons_succ]
        (refine anyS_free (i := 13) (v := ?_) rfl (by kernel_rfl) (by kernel_rfl) (by kernel_rfl) (fun _ _ _ h => h) (fun _ => by simp) (Or.inl ⟨by rfl, fun w' _ => ?_⟩) ?_; rotate_left; (· go_simp; try with_reducible rfl))
        try simp only [Act.put, List.setIfInBounds_toArray, List.set_cons_zero, List.set_cons_succ]
        refine anyS_one 14 (by kernel_rfl) rfl (fun K' hK' => ?_)
        go_simp
        refine hK'.out _ _ trivial ?_
        clear hK' K'
        try simp only [Act.put, List.setIfInBounds_toArray, List.set_cons_zero, List.set_cons_succ]
        (refine anyS_free (i := 15) (v := ?_) rfl (by kernel_rfl) (by kernel_rfl) (by kernel_rfl) (fun _ _ _ h => h) (fun _ => by simp) (Or.inl ⟨by rfl, fun w' _ => ?_⟩) ?_; rotate_left; (· go_simp; try with_reducible rfl))
        try simp only [Act.put, List.setIfInBounds_toArray, List.set_cons_zero, List.set_cons_succ]
        (refine anyS_free (i := 16) (v := ?_) rfl (by kernel_rfl) (by kernel_rfl) (by kernel_rfl) (fun _ _ _ h => h) (fun _ => by simp) (Or.inl ⟨by rfl, fun w' _ => ?_⟩) ?_; rotate_left; (· go_simp; try with_reducible rfl))
        try simp only [Act.put, List.setIfInBounds_toArray, List.set_cons_zero, List.set_cons_succ]
        refine anyS_one 17 (by kernel_rfl) rfl (fun K' hK' => ?_)
        go_simp
        refine hK'.out _ _ trivial ?_
        clear hK' K'
        try simp only [Act.put, List.setIfInBounds_toArray, List.set_cons_zero, List.set_cons_succ]
        refine anyS_done (by kernel_rfl) ?_ _
        refine NoPanic.normal ?_
        go_wp2_with fail
        go_ret
        unfold ActPost
        rw [HAE.out]
        refine ⟨rfl, ⟨.slice a5 (L + U) c5, ?_⟩, HB4.out⟩
        rw [if_pos rfl]
        have ea : actM c arg data m = { m with pc := V, stk := m.stk.take L ++ out } := by
          unfold actM
          rw [← HS.out, ← HK.out, ← HD.out, ← HL.out, HSAID2.out, ← HO2.out]
          rw [if_pos ⟨rfl, HX0.out.symm⟩, Int.toNat_natCast]
        rw [ea]
        exact HFIN.out.1
      · obtain ⟨V, hV⟩ : ∃ V, V = pc + 1 + 1 := ⟨_, rfl⟩
        have HV := Lib.hid hV
        clear hV
        go_wp2_with fail
        refine anyS_start (by kernel_rfl) ?_
        have HY := Lib.hid HX.out.drew
        have HBY := Lib.hid HBX.out.drew
        have hrY : Hid (X.drew.heap[q]? = some (Obj.cells #[.int .i64 p0, .int .i64 p1] 65 (0, 0))) := hrow
        clear HX HBX hrow
        generalize World.drew X = Y at *
        obtain ⟨-, -, -, c3, c4, -⟩ := HY.out.cells
        rw [← HP.out] at c3
        rw [← HD.out] at c4
        (refine anyS_free (i := 0) (v := ?_) rfl (by kernel_rfl) (by kernel_rfl) (by kernel_rfl) (fun _ _ _ h => h) (fun _ => by simp) (Or.inl ⟨by rfl, fun w' _ => ?_⟩) ?_; rotate_left; (· go_simp; try with_reducible rfl))
        try simp only [Act.put, List.setIfInBounds_toArray, List.set_cons_zero, List.set_cons_succ]
        (refine anyS_free (i := 1) (v := ?_) rfl (by kernel_rfl) (by kernel_rfl) (by kernel_rfl) (fun _ _ _ h => h) (fun _ => by simp) (Or.inl ⟨by rfl, fun w' _ => ?_⟩) ?_; rotate_left; (· go_simp; try with_reducible rfl))
        try simp only [Act.put, List.setIfInBounds_toArray, List.set_cons_zero, List.set_cons_succ]
        (refine anyS_free (i := 2) (v := ?_) rfl (by kernel_rfl) (by kernel_rfl) (by kernel_rfl) (fun _ _ _ h => h) (fun _ => by simp) (Or.inl ⟨by rfl, fun w' _ => ?_⟩) ?_; rotate_left; (· go_simp; try with_reducible rfl))
        try simp only [Act.put, List.setIfInBounds_toArray, List.set_cons_zero, List.set_cons_succ]
        (refine anyS_free (i := 3) (v := ?_) rfl (by kernel_rfl) (by kernel_rfl) (by kernel_rfl) (fun _ _ _ h => h) (fun _ => by simp) (Or.inl ⟨by rfl, fun w' _ => ?_⟩) ?_; rotate_left; (· go_simp; try with_reducible rfl))
        try simp only [Act.put, List.setIfInBounds_toArray, List.set_cons_zero, List.set_cons_succ]
        (refine anyS_free (i := 4) (v := ?_) rfl (by kernel_rfl) (by kernel_rfl) (by kernel_rfl) (fun _ _ _ h => h) (fun _ => by simp) (Or.inl ⟨by rfl, fun w' _ => ?_⟩) ?_; rotate_left; (· go_simp; try with_reducible rfl))
        try simp only [Act.put, List.setIfInBounds_toArray, List.set_cons_zero, List.set_cons_succ]
        (refine anyS_free (i := 5) (v := ?_) rfl (by kernel_rfl) (by kernel_rfl) (by kernel_rfl) (fun _ _ _ h => h) (fun _ => by simp) (Or.inl ⟨by rfl, fun w' _ => ?_⟩) ?_; rotate_left; (· go_simp; try with_reducible rfl))
        try simp only [Act.put, List.setIfInBounds_toArray, List.set_cons_zero, List.set_cons_succ]
        (refine anyS_free (i := 7) (v := ?_) rfl (by kernel_rfl) (by kernel_rfl) (by kernel_rfl) (fun _ _ _ h => h) (fun _ => by simp) (Or.inl ⟨by rfl, fun w' _ => ?_⟩) ?_; rotate_left; (· go_simp; try with_reducible rfl))
        try simp only [Act.put, List.setIfInBounds_toArray, List.set_cons_zero, List.set_cons_succ]
        (refine anyS_free (i := 9) (v := ?_) rfl (by kernel_rfl) (by kernel_rfl) (by kernel_rfl) (fun _ _ _ h => h) (fun _ => by simp) (Or.inl ⟨by rfl, fun w' _ => ?_⟩) ?_; rotate_left; (· go_simp; try with_reducible rfl))
        try simp only [Act.put, List.setIfInBounds_toArray, List.set_cons_zero, List.set_cons_succ]
        (refine anyS_free (i := 10) (v := .slice (some ⟨q, 0, none⟩) U 2) rfl (by kernel_rfl) (by kernel_rfl) (by kernel_rfl) (fun _ _ _ h => h) (fun _ => by simp) (Or.inl ⟨by rfl, fun w' _ => slice_exec 65 (.tmp 11) none (some (.tmp 105)) rfl _ (slice_two q U hpt) w'⟩) ?_)
        try simp only [Act.put, List.setIfInBounds_toArray, List.set_cons_zero, List.set_cons_succ]
        refine anyS_one 6 (by kernel_rfl) rfl (fun K' hK' => ?_)
        go_simp
        refine hK'.out _ _ trivial ?_
        clear hK' K'
        try simp only [Act.put, List.setIfInBounds_toArray, List.set_cons_zero, List.set_cons_succ]
        (refine anyS_free (i := 8) (v := .slice sa L sc) rfl (by kernel_rfl) (by kernel_rfl) (by kernel_rfl) (fun _ _ _ h => h) (fun _ => by simp) (Or.inl ⟨by rfl, fun w' _ => slice_exec 23 (.tmp 102) none (some (.tmp 103)) rfl _ hsl3 w'⟩) ?_)
        try simp only [Act.put, List.setIfInBounds_toArray, List.set_cons_zero, List.set_cons_succ]
        refine anyS_one 11 (by kernel_rfl) rfl (fun K' hK' => ?_)
        have hfr := own_front (w := Y) (B := B) (n := d) (cap := sc) (a := sa) (xs := m.stk) (by rw [HD.out]; exact HY.out.stk) L (by have := HL.out; omega)
        have hlo : out.length = U := by rw [← HPT.out, List.length_take]; simp; omega
        have hll : (m.stk.take L).length = L := by rw [List.length_take]; have h1 := HD.out; have h2 := HL.out; omega
        refine step_append_nums rfl (.tmp 104) (.tmp 106) rfl B (.slice sa L sc) L (m.stk.take L) rfl hfr ⟨q, 0, none⟩ U 2 out rfl hlo (box_cells HPT.out hrY.out) (by have := HL.out; omega) (Nat.le_trans hB HBY.out.size) ?_
        intro v' w4 ho4 hg4
        obtain ⟨a5, c5, rfl⟩ := own_slice ho4
        rw [own_len sa L m.stk.length sc] at hg4
        obtain ⟨hr4, hc4⟩ := HY.out.grew (sv' := .slice a5 (L + U) c5) (st := m.stk.take L ++ out) (by rw [List.length_append, hll, hlo]; exact ho4) hg4
        have hb4 : Below B w w4 := (HBY.out.mono hB).grown hg4 (Nat.le_trans hB HBY.out.size) (fun k hk => by
          rcases HY.out.stk.2 with ⟨h0, -⟩ | ⟨k', cap', cur', h1, h2, -⟩
          · simp only [Value.slice.injEq] at h0
            obtain ⟨rfl, -, -⟩ := h0
            simp [Value.ownBlock] at hk
          · simp only [Value.slice.injEq] at h1
            obtain ⟨rfl, -, -⟩ := h1
            simp only [Value.ownBlock, Option.some.injEq] at hk
            omega)
        have hfin := Mac.finish (sv' := .slice a5 (L + U) c5) (st := m.stk.take L ++ out) hr4 HY.out.kind hc4 (by rw [List.length_append, hll, hlo]; exact ho4) V ((pc : Int) + 1 + 1) (by have := HV.out; omega)
        have HFIN := Lib.hid hfin
        have HB4 := Lib.hid ((But.of_below (g := g) hb4).trans (.of_only hfin.2 (Nat.le_trans hB hb4.size)))
        have c3' : w4.cell? ⟨g, 3, none⟩ = some (.int .i64 (m.pc : Int)) := by simp [World.cell?, hr4, mcl]
        have f3' : w4.frozen? ⟨g, 3, none⟩ = false := by simp [World.frozen?, hr4]
        have hr5 := (only_setCell w4 g 3 _ _ (.int .i64 ((pc : Int) + 1 + 1)) hr4).2
        have c4' : (w4.setCell ⟨g, 3, none⟩ (.int .i64 ((pc : Int) + 1 + 1))).cell? ⟨g, 4, none⟩ = some (.slice sa m.stk.length sc) := by simp [World.cell?, hr5, mcl]
        have f4' : (w4.setCell ⟨g, 3, none⟩ (.int .i64 ((pc : Int) + 1 + 1))).frozen? ⟨g, 4, none⟩ = false := by simp [World.frozen?, hr5]
        clear hfin ho4 hg4 hr4 hc4 hb4 hfr c3 c4 hr5
        refine hK'.out _ _ trivial ?_
        clear hK' K'
        try simp only [Act.put, List.setIfInBounds_toArray, List.set_cons_zero, List.set_cons_succ]
        (refine anyS_free (i := 12) (v := ?_) rfl (by kernel_rfl) (by kernel_rfl) (by kernel_rfl) (fun _ _ _ h => h) (fun _ => by simp) (Or.inl ⟨by rfl, fun w' _ => ?_⟩) ?_; rotate_left; (· go_simp; try with_reducible rfl))
        try simp only [Act.put, List.setIfInBounds_toArray, List.set_cons_zero, List.set_cons_succ]
        (refine anyS_free (i := 13) (v := ?_) rfl (by kernel_rfl) (by kernel_rfl) (by kernel_rfl) (fun _ _ _ h => h) (fun _ => by simp) (Or.inl ⟨by rfl, fun w' _ => ?_⟩) ?_; rotate_left; (· go_simp; try with_reducible rfl))
        try simp only [Act.put, List.setIfInBounds_toArray, List.set_cons_zero, List.set_cons_succ]
        refine anyS_one 14 (by kernel_rfl) rfl (fun K' hK' => ?_)
        go_simp
        refine hK'.out _ _ trivial ?_
        clear hK' K'
        try simp only [Act.put, List.setIfInBounds_toArray, List.set_cons_zero, List.set_cons_succ]
        (refine anyS_free (i := 15) (v := ?_) rfl (by kernel_rfl) (by kernel_rfl) (by kernel_rfl) (fun _ _ _ h => h) (fun _ => by simp) (Or.inl ⟨by rfl, fun w' _ => ?_⟩) ?_; rotate_left; (· go_simp; try with_reducible rfl))
        try simp only [Act.put, List.setIfInBounds_toArray, List.set_cons_zero, List.set_cons_succ]
        (refine anyS_free (i := 16) (v := ?_) rfl (by kernel_rfl) (by kernel_rfl) (by kernel_rfl) (fun _ _ _ h => h) (fun _ => by simp) (Or.inl ⟨by rfl, fun w' _ => ?_⟩) ?_; rotate_left; (· go_simp; try with_reducible rfl))
        try simp only [Act.put, List.setIfInBounds_toArray, List.set_cons_zero, List.set_cons_succ]
        refine anyS_one 17 (by kernel_rfl) rfl (fun K' hK' => ?_)
        go_simp
        refine hK'.out _ _ trivial ?_
        clear hK' K'
        try simp only [Act.put, List.setIfInBounds_toArray, List.set_cons_zero, List.set_cons_succ]
        refine anyS_done (by kernel_rfl) ?_ _
        refine NoPanic.normal ?_
        go_wp2_with fail
        go_ret
        unfold ActPost
        rw [HAE.out]
        refine ⟨rfl, ⟨.slice a5 (L + U) c5, ?_⟩, HB4.out⟩
        rw [if_pos rfl]
        have ea : actM c arg data m = { m with pc := V, stk := m.stk.take L ++ out } := by
          unfold actM
          rw [← HS.out, ← HK.out, ← HD.out, ← HL.out, HSAID.out, ← HO.out]
          rw [if_neg (fun h => hx0 (HX0.out.trans h.2)), ← HP.out, show tailP 13 = 1 from rfl, ← HV.out]
        rw [ea]
        exact HFIN.out.1
    · go_upto_region 12 with (fail)
      have hbx := (Below.refl w1.heap.size w1).alloc (Nat.le_refl _) (Obj.cells #[.int .i64 p0, .int .i64 p1] 65)
      have hrow : Hid ((w1.alloc (Obj.cells #[.int .i64 p0, .int .i64 p1] 65)).heap[w1.heap.size]? = some (Obj.cells #[.int .i64 p0, .int .i64 p1] 65 (0, 0))) := heap_alloc_new _ _
      have HX := Lib.hid (H1.out.later hbx)
      have HBX := Lib.hid (HB1.out.trans (hbx.mono HB1.out.size))
      obtain ⟨q, hq⟩ : ∃ q, q = w1.heap.size := ⟨_, rfl⟩
      rw [← hq] at hrow ⊢
      clear hbx
      generalize w1.alloc (Obj.cells #[.int .i64 p0, .int .i64 p1] 65) = X at *
      clear H1 HB1 hq
      obtain ⟨V, hV⟩ : ∃ V, V = pc + 1 + T := ⟨_, rfl⟩
      have hVi : (pc : Int) + 1 + (T : Int) = (V : Int) := by omega
      rw [hVi]
      have HV := Lib.hid hV
      clear hV hVi
      go_wp2_with fail
      refine anyS_start (by kernel_rfl) ?_
      have HY := Lib.hid HX.out.drew
      have HBY := Lib.hid HBX.out.drew
      have hrY : Hid (X.drew.heap[q]? = some (Obj.cells #[.int .i64 p0, .int .i64 p1] 65 (0, 0))) := hrow
      clear HX HBX hrow
      generalize World.drew X = Y at *
      obtain ⟨-, -, -, c3, c4, -⟩ := HY.out.cells
      rw [← HP.out] at c3
      rw [← HD.out] at c4
      (refine anyS_free (i := 0) (v := ?_) rfl (by kernel_rfl) (by kernel_rfl) (by kernel_rfl) (fun _ _ _ h => h) (fun _ => by simp) (Or.inl ⟨by rfl, fun w' _ => ?_⟩) ?_; rotate_left; (· go_simp; try with_reducible rfl))
      try simp only [Act.put, List.setIfInBounds_toArray, List.set_cons_zero, List.set_cons_succ]
      (refine anyS_free (i := 1) (v := ?_) rfl (by kernel_rfl) (by kernel_rfl) (by kernel_rfl) (fun _ _ _ h => h) (fun _ => by simp) (Or.inl ⟨by rfl, fun w' _ => ?_⟩) ?_; rotate_left; (· go_simp; try with_reducible rfl))
      try simp only [Act.put, List.setIfInBounds_toArray, List.set_cons_zero, List.set_cons_succ]
      (refine anyS_free (i := 2) (v := ?_) rfl (by kernel_rfl) (by kernel_rfl) (by kernel_rfl) (fun _ _ _ h => h) (fun _ => by simp) (Or.inl ⟨by rfl, fun w' _ => ?_⟩) ?_; rotate_left; (· go_simp; try with_reducible rfl))
      try simp only [Act.put, List.setIfInBounds_toArray, List.set_cons_zero, List.set_cons_succ]
      (refine anyS_free (i := 3) (v := ?_) rfl (by kernel_rfl) (by kernel_rfl) (by kernel_rfl) (fun _ _ _ h => h) (fun _ => by simp) (Or.inl ⟨by rfl, fun w' _ => ?_⟩) ?_; rotate_left; (· go_simp; try with_reducible rfl))
      try simp only [Act.put, List.setIfInBounds_toArray, List.set_cons_zero, List.set_cons_succ]
      (refine anyS_free (i := 4) (v := ?_) rfl (by kernel_rfl) (by kernel_rfl) (by kernel_rfl) (fun _ _ _ h => h) (fun _ => by simp) (Or.inl ⟨by rfl, fun w' _ => ?_⟩) ?_; rotate_left; (· go_simp; try with_reducible rfl))
      try simp only [Act.put, List.setIfInBounds_toArray, List.set_cons_zero, List.set_cons_succ]
      (refine anyS_free (i := 5) (v := ?_) rfl (by kernel_rfl) (by kernel_rfl) (by kernel_rfl) (fun _ _ _ h => h) (fun _ => by simp) (Or.inl ⟨by rfl, fun w' _ => ?_⟩) ?_; rotate_left; (· go_simp; try with_reducible rfl))
      try simp only [Act.put, List.setIfInBounds_toArray, List.set_cons_zero, List.set_cons_succ]
      (refine anyS_free (i := 7) (v := ?_) rfl (by kernel_rfl) (by kernel_rfl) (by kernel_rfl) (fun _ _ _ h => h) (fun _ => by simp) (Or.inl ⟨by rfl, fun w' _ => ?_⟩) ?_; rotate_left; (· go_simp; try with_reducible rfl))
      try simp only [Act.put, List.setIfInBounds_toArray, List.set_cons_zero, List.set_cons_succ]
      (refine anyS_free (i := 9) (v := ?_) rfl (by kernel_rfl) (by kernel_rfl) (by kernel_rfl) (fun _ _ _ h => h) (fun _ => by simp) (Or.inl ⟨by rfl, fun w' _ => ?_⟩) ?_; rotate_left; (· go_simp; try with_reducible rfl))
      try simp only [Act.put, List.setIfInBounds_toArray, List.set_cons_zero, List.set_cons_succ]
      (refine anyS_free (i := 10) (v := .slice (some ⟨q, 0, none⟩) U 2) rfl (by kernel_rfl) (by kernel_rfl) (by kernel_rfl) (fun _ _ _ h => h) (fun _ => by simp) (Or.inl ⟨by rfl, fun w' _ => slice_exec 65 (.tmp 11) none (some (.tmp 105)) rfl _ (slice_two q U hpt) w'⟩) ?_)
      try simp only [Act.put, List.setIfInBounds_toArray, List.set_cons_zero, List.set_cons_succ]
      refine anyS_one 6 (by kernel_rfl) rfl (fun K' hK' => ?_)
      go_simp
      refine hK'.out _ _ trivial ?_
      clear hK' K'
      try simp only [Act.put, List.setIfInBounds_toArray, List.set_cons_zero, List.set_cons_succ]
      (refine anyS_free (i := 8) (v := .slice sa L sc) rfl (by kernel_rfl) (by kernel_rfl) (by kernel_rfl) (fun _ _ _ h => h) (fun _ => by simp) (Or.inl ⟨by rfl, fun w' _ => slice_exec 23 (.tmp 102) none (some (.tmp 103)) rfl _ hsl3 w'⟩) ?_)
      try simp only [Act.put, List.setIfInBounds_toArray, List.set_cons_zero, List.set_cons_succ]
      refine anyS_one 11 (by kernel_rfl) rfl (fun K' hK' => ?_)
      have hfr := own_front (w := Y) (B := B) (n := d) (cap := sc) (a := sa) (xs := m.stk) (by rw [HD.out]; exact HY.out.stk) L (by have := HL.out; omega)
      have hlo : out.length = U := by rw [← HPT.out, List.length_take]; simp; omega
      have hll : (m.stk.take L).length = L := by rw [List.length_take]; have h1 := HD.out; have h2 := HL.out; omega
      refine step_append_nums rfl (.tmp 104) (.tmp 106) rfl B (.slice sa L sc) L (m.stk.take L) rfl hfr ⟨q, 0, none⟩ U 2 out rfl hlo (box_cells HPT.out hrY.out) (by have := HL.out; omega) (Nat.le_trans hB HBY.out.size) ?_
      intro v' w4 ho4 hg4
      obtain ⟨a5, c5, rfl⟩ := own_slice ho4
      rw [own_len sa L m.stk.length sc] at hg4
      obtain ⟨hr4, hc4⟩ := HY.out.grew (sv' := .slice a5 (L + U) c5) (st := m.stk.take L ++ out) (by rw [List.length_append, hll, hlo]; exact ho4) hg4
      have hb4 : Below B w w4 := (HBY.out.mono hB).grown hg4 (Nat.le_trans hB HBY.out.size) (fun k hk => by
        rcases HY.out.stk.2 with ⟨h0, -⟩ | ⟨k', cap', cur', h1, h2, -⟩
        · simp only [Value.slice.injEq] at h0
          obtain ⟨rfl, -, -⟩ := h0
          simp [Value.ownBlock] at hk
        · simp only [Value.slice.injEq] at h1
          obtain ⟨rfl, -, -⟩ := h1
          simp only [Value.ownBlock, Option.some.injEq] at hk
          omega)
      have hfin := Mac.finish (sv' := .slice a5 (L + U) c5) (st := m.stk.take L ++ out) hr4 HY.out.kind hc4 (by rw [List.length_append, hll, hlo]; exact ho4) V (V : Int) (rfl)
      have HFIN := Lib.hid hfin
      have HB4 := Lib.hid ((But.of_below (g := g) hb4).trans (.of_only hfin.2 (Nat.le_trans hB hb4.size)))
      have c3' : w4.cell? ⟨g, 3, none⟩ = some (.int .i64 (m.pc : Int)) := by simp [World.cell?, hr4, mcl]
      have f3' : w4.frozen? ⟨g, 3, none⟩ = false := by simp [World.frozen?, hr4]
      have hr5 := (only_setCell w4 g 3 _ _ (.int .i64 (V : Int)) hr4).2
      have c4' : (w4.setCell ⟨g, 3, none⟩ (.int .i64 (V : Int))).cell? ⟨g, 4, none⟩ = some (.slice sa m.stk.length sc) := by simp [World.cell?, hr5, mcl]
      have f4' : (w4.setCell ⟨g, 3, none⟩ (.int .i64 (V : Int))).frozen? ⟨g, 4, none⟩ = false := by simp [World.frozen?, hr5]
      clear hfin ho4 hg4 hr4 hc4 hb4 hfr c3 c4 hr5
      refine hK'.out _ _ trivial ?_
      clear hK' K'
      try simp only [Act.put, List.setIfInBounds_toArray, List.set_cons_zero, List.set_cons_succ]
      (refine anyS_free (i := 12) (v := ?_) rfl (by kernel_rfl) (by kernel_rfl) (by kernel_rfl) (fun _ _ _ h => h) (fun _ => by simp) (Or.inl ⟨by rfl, fun w' _ => ?_⟩) ?_; rotate_left; (· go_simp; try with_reducible rfl))
      try simp only [Act.put, List.setIfInBounds_toArray, List.set_cons_zero, List.set_cons_succ]
      (refine anyS_free (i := 13) (v := ?_) rfl (by kernel_rfl) (by kernel_rfl) (by kernel_rfl) (fun _ _ _ h => h) (fun _ => by simp) (Or.inl ⟨by rfl, fun w' _ => ?_⟩) ?_; rotate_left; (· go_simp; try with_reducible rfl))
      try simp only [Act.put, List.setIfInBounds_toArray, List.set_cons_zero, List.set_cons_succ]
      refine anyS_one 14 (by kernel_rfl) rfl (fun K' hK' => ?_)
      go_simp
      refine hK'.out _ _ trivial ?_
      clear hK' K'
      try simp only [Act.put, List.setIfInBounds_toArray, List.set_cons_zero, List.set_cons_succ]
      (refine anyS_free (i := 15) (v := ?_) rfl (by kernel_rfl) (by kernel_rfl) (by kernel_rfl) (fun _ _ _ h => h) (fun _ => by simp) (Or.inl ⟨by rfl, fun w' _ => ?_⟩) ?_; rotate_left; (· go_simp; try with_reducible rfl))
      try simp only [Act.put, List.setIfInBounds_toArray, List.set_cons_zero, List.set_cons_succ]
      (refine anyS_free (i := 16) (v := ?_) rfl (by kernel_rfl) (by kernel_rfl) (by kernel_rfl) (fun _ _ _ h => h) (fun _ => by simp) (Or.inl ⟨by rfl, fun w' _ => ?_⟩) ?_; rotate_left; (· go_simp; try with_reducible rfl))
      try simp only [Act.put, List.setIfInBounds_toArray, List.set_cons_zero, List.set_cons_succ]
      refine anyS_one 17 (by kernel_rfl) rfl (fun K' hK' => ?_)
      go_simp
      refine hK'.out _ _ trivial ?_
      clear hK' K'
      try simp only [Act.put, List.setIfInBounds_toArray, List.set_cons_zero, List.set_cons_succ]
      refine anyS_done (by kernel_rfl) ?_ _
      refine NoPanic.normal ?_
      go_wp2_with fail
      go_ret
      unfold ActPost
      rw [HAE.out]
      refine ⟨rfl, ⟨.slice a5 (L + U) c5, ?_⟩, HB4.out⟩
      rw [if_pos rfl]
      have ea : actM c arg data m = { m with pc := V, stk := m.stk.take L ++ out } := by
        unfold actM
        rw [← HS.out, ← HK.out, ← HD.out, ← HL.out, HSAID.out, ← HO.out]
        rw [if_neg (fun h => h13 h.1), ← HP.out, ← HT.out, ← HV.out]
      rw [ea]
      exact HFIN.out.1
  · go_wp2_with fail
    go_ret
    unfold ActPost
    rw [HAE.out]
    refine ⟨rfl, ⟨.slice sa m.stk.length sc, ?_⟩, ?_⟩
    · rw [if_neg hE0]
      exact H1.out.later ((Below.refl _ _).alloc (Nat.le_refl _) _)
    · exact .of_below ((HB1.out.mono hB).alloc (Nat.le_trans hB HB1.out.size) _)
end
end Go.Proofs.Ytdbnfafafhdolaa
