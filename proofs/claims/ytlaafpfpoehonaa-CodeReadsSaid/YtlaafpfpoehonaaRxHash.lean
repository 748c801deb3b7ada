/- P102: the chapter said a second time: its reader's Hash. -/
import Derived.Test.YtlaafpfpoehonaaRxText
import Derived.Test.YtlaafpfpoehonaaSums
namespace Go.Proofs.Ytlaafpfpoehonaa
open Go.RowKit Num
set_option linter.unusedVariables false
set_option linter.unusedSimpArgs false

/-- what the second reader's Hash leaves -/
def XHashPost (x : Nat) (a : Option Addr) (n c : Nat) (B : List Int) (P : Nat) (E : Int) (w : World) (y : Ending) (w' : World) : Prop :=
  ∃ P' cs, y = .returned (.agg cs) ∧ Sum cs (rdHash E (B.drop P)).2.2 ∧ Rx w' x a n c B P' (rdHash E (B.drop P)).1 ∧ ((rdHash E (B.drop P)).1 = 0 → B.drop P' = (rdHash E (B.drop P)).2.1) ∧ Only x w w'

theorem XHashPost.mk {x : Nat} {a : Option Addr} {n c : Nat} {B l t : List Int} {P P' : Nat} {E d : Int} {cs : Array Value} {w w' : World} (h : rdHash E (B.drop P) = (d, l, t)) (hs : Sum cs t) (hr : Rx w' x a n c B P' d) (hl : d = 0 → B.drop P' = l) (ho : Only x w w') :
    XHashPost x a n c B P E w (.returned (.agg cs)) w' := by
  unfold XHashPost
  rw [h]
  exact ⟨P', cs, rfl, hs, hr, hl, ho⟩

/-- the noughts, of which the first are already read -/
def cur (l : List Int) : Array Value := (splice noughts 0 (bts l)).toArray

theorem cur_nil : cur [] = noughts.toArray := by unfold cur splice; simp [bts]
theorem cur_size {l : List Int} (h : l.length ≤ 32) : (cur l).size = 32 := by
  unfold cur
  rw [List.size_toArray, length_splice _ _ _ (by rw [bts_length]; simp [noughts]; omega)]
  simp [noughts]
theorem cur_all {l : List Int} (h : l.length = 32) : cur l = (bts l).toArray := by unfold cur; rw [splice_all (by rw [bts_length]; exact h)]
theorem cur_put {l : List Int} {b : Int} (h : l.length < 32) : (cur l).setIfInBounds l.length (.int .u8 b) = cur (l ++ [b]) := by
  unfold cur splice
  simp only [List.take_zero, List.nil_append, Nat.zero_add, List.setIfInBounds_toArray, bts_append, bts_length, List.length_append]
  have hd : noughts.drop l.length = .int .u8 0 :: noughts.drop (l.length + 1) := by
    have hl : l.length < noughts.length := by simp [noughts]; omega
    rw [List.drop_eq_getElem_cons hl]
    congr 1
    unfold noughts
    exact List.getElem_replicate ..
  rw [hd, List.set_append_right _ _ (by rw [bts_length]; exact Nat.le_refl _), bts_length, Nat.sub_self]
  simp [bts]

theorem Rx.kept {w w' : World} {x : Nat} {a : Option Addr} {n c : Nat} {B : List Int} {P : Nat} {E : Int} {M : Nat} (h : Rx w x a n c B P E) (hb : Below M w w') (hx : x < M) : Rx w' x a n c B P E :=
  ⟨by rw [hb.block x hx]; exact h.row, ⟨h.reads.1, fun hp => by
      obtain ⟨ad, h1, h3⟩ := h.reads.2 hp
      refine ⟨ad, h1, fun j v hv => ?_⟩
      rw [hb.cell (by rw [add_block]; have := h.apart hp ad h1; omega)]
      exact h3 j v hv⟩, h.apart, h.le, h.small, h.room, h.most⟩

set_option maxRecDepth 100000 in
set_option maxHeartbeats 4000000 in
theorem xhash_any (x : Nat) (a : Option Addr) (n c : Nat) (B : List Int) (P : Nat) (E : Int) (w : World) (h : Rx w x a n c B P E) (hby : ∀ c ∈ B, Byte c) :
    Calls Try.prog 27 #[.pointer (some ⟨x, 0, none⟩)] w (XHashPost x a n c B P E w) := by
  have hlt := h.lt
  have hn := h.small
  have hc := h.room
  have hm := h.most
  unfold maxLen at hm
  have hle := h.le
  have hb := one_mk w
  obtain ⟨W, hW⟩ : ∃ W, W = w.alloc (.cells noughts.toArray 24) := ⟨_, rfl⟩
  rw [← hW] at hb
  have HW := Lib.hid hW
  have hrx := h.keep hb.1
  have HX := Lib.hid hrx
  have HBX := Lib.hid hb
  have HBY := Lib.hid hby
  have HLEN := Lib.hid h.reads.1
  obtain ⟨c0, c1, c2, f0, f1, f2⟩ := hrx.cells
  clear h hby hb hW hrx
  go_enter Try.func27, Try.ntmps27
  go_upto_region 1 with (fail)
  rw [← noughts_eq, ← HW.out]
  have HO0 := Lib.hid (Only.of_below (r := x) HBX.out.1)
  by_cases he : E = 0
  · subst he
    by_cases hp : n - P < 32
    · have k3 : decide ((n : Int) - (P : Int) < 32) = true := by simp; omega
      have HE : Hid (rdHash 0 (B.drop P) = (8, B.drop P, zeros)) := by
        show _ = _
        rw [rdHash, if_neg (by simp), if_pos (by rw [List.length_drop, HLEN.out]; exact hp)]
      go_wp2_with fail
      go_quiet (fail)
      go_upto_region 3 with (fail)
      have h8 := (HX.out.keep (below_drewN (Below.refl _ _) nq)).setErr 8
      have h3 : Rx ((W.drewN nq).setCell ⟨x, 2, none⟩ (.int .i64 8)) x a n c B P 8 ∧ Only x w ((W.drewN nq).setCell ⟨x, 2, none⟩ (.int .i64 8)) ∧ ((W.drewN nq).setCell ⟨x, 2, none⟩ (.int .i64 8)).heap[w.heap.size]? = some (.cells noughts.toArray 24 (0, 0)) ∧ ((W.drewN nq).setCell ⟨x, 2, none⟩ (.int .i64 8)).heap.size = w.heap.size + 1 := by
        refine ⟨h8.1, (only_drew HO0.out nq).trans h8.2, (h8.2.block _ (by have := HBX.out.2.1; show w.heap.size < W.heap.size; omega) (by simp; omega)).trans HBX.out.2.2, ?_⟩
        rw [setCell_eq_setRow _ x 2 _ _ (0, 0) _ (HX.out.keep (below_drewN (Below.refl _ _) nq)).row]
        exact (size_setRow _ _ _).trans HBX.out.2.1
      clear h8
      generalize World.setCell _ _ _ = W3 at *
      have HX3 := Lib.hid h3.1
      have HO3 := Lib.hid h3.2.1
      have HN3 := Lib.hid h3.2.2.1
      have hs3 := h3.2.2.2
      have HA3 : Hid ((W3.alloc (.cells noughts.toArray 24)).heap[w.heap.size + 1]? = some (.cells noughts.toArray 24 (0, 0))) := by show _ = _; rw [← hs3]; exact heap_alloc_new W3 _
      have HB3 : Hid (Below (w.heap.size + 1) W3 (W3.alloc (.cells noughts.toArray 24))) := (Below.refl _ _).alloc (by rw [hs3]; exact Nat.le_refl _) _
      have HI := Lib.hid (sum_info zeros_sum)
      clear h3 c0 c1 c2 f0 f1 f2 k3
      go_upto_region 4 with (refine wpList_store_sum rfl (.tmp 3) (.tmp 26) rfl (w.heap.size + 1) noughts.toArray zeros rfl rfl zeros_sum noughts.toArray HA3.out rfl ?_; intro W4 hg4 hb4)
      have hb34 : Below (w.heap.size + 1) W3 W4 := HB3.out.trans hb4
      have HG4 := Lib.hid hg4
      have HX4 := Lib.hid (HX3.out.kept hb34 (by omega))
      have HO4 := Lib.hid (HO3.out.still hb34 (by omega))
      have HN4 : Hid (W4.heap[w.heap.size]? = some (.cells noughts.toArray 24 (0, 0))) := (hb34.block _ (by omega)).trans HN3.out
      have HS4 : Hid (w.heap.size + 2 ≤ W4.heap.size) := (Array.getElem?_eq_some_iff.1 hg4).1
      clear hg4 hb4 hb34 hs3
      obtain ⟨c0, c1, c2, f0, f1, f2⟩ := HX4.out.cells
      go_wp2_with (first
        | (refine wpList_load_row rfl 24 (.tmp 3) rfl (w.heap.size + 1) rfl 24 noughts.toArray (0, 0) _ HG4.out Try.underlying24 rfl HI.out ?_)
        | (refine wpList_store_sum rfl (.tmp 2) (.tmp 32) rfl w.heap.size noughts.toArray zeros rfl rfl zeros_sum noughts.toArray HN4.out rfl ?_; intro W5 hg5 hb5))
      exact bodyPost_ret (v := .agg noughts.toArray) (results_cell_row (P := Try.prog) rfl _ _ w.heap.size 24 noughts.toArray (0, 0) _ rfl hg5 Try.underlying24 rfl HI.out) rfl (XHashPost.mk HE.out zeros_sum (HX4.out.kept hb5 hlt) (fun h => absurd h (by decide)) (HO4.out.still hb5 (Nat.le_refl _)))
    · have k3 : decide ((n : Int) - (P : Int) < 32) = false := by simp; omega
      have HE : Hid (rdHash 0 (B.drop P) = (0, (B.drop P).drop 32, (B.drop P).take 32)) := by
        show _ = _
        rw [rdHash, if_neg (by simp), if_neg (by rw [List.length_drop, HLEN.out]; exact hp)]
      go_wp2_with fail
      go_quiet (fail)
      go_upto_region 3 with (fail)
      have h3 : Rx (W.drewN nq) x a n c B P 0 ∧ Only x w (W.drewN nq) ∧ (W.drewN nq).heap[w.heap.size]? = some (.cells noughts.toArray 24 (0, 0)) ∧ (W.drewN nq).heap.size = w.heap.size + 1 := ⟨HX.out.keep (below_drewN (Below.refl _ _) nq), only_drew HO0.out nq, ((below_drewN (Below.refl W.heap.size W) nq).block _ (by have := HBX.out.2.1; omega)).trans HBX.out.2.2, HBX.out.2.1⟩
      generalize World.drewN W nq = W3 at *
      have HX3 := Lib.hid h3.1
      have HO3 := Lib.hid h3.2.1
      have HN3 := Lib.hid h3.2.2.1
      have hs3 := h3.2.2.2
      have HA3 : Hid ((W3.alloc (.cells noughts.toArray 24)).heap[w.heap.size + 1]? = some (.cells noughts.toArray 24 (0, 0))) := by show _ = _; rw [← hs3]; exact heap_alloc_new W3 _
      have HB3 : Hid (Below (w.heap.size + 1) W3 (W3.alloc (.cells noughts.toArray 24))) := (Below.refl _ _).alloc (by rw [hs3]; exact Nat.le_refl _) _
      have HI := Lib.hid (sum_info zeros_sum)
      clear h3 c0 c1 c2 f0 f1 f2 k3
      go_upto_region 4 with (refine wpList_store_sum rfl (.tmp 3) (.tmp 26) rfl (w.heap.size + 1) noughts.toArray zeros rfl rfl zeros_sum noughts.toArray HA3.out rfl ?_; intro W4 hg4 hb4)
      have hb34 : Below (w.heap.size + 1) W3 W4 := HB3.out.trans hb4
      have HG4 := Lib.hid hg4
      have HX4 := Lib.hid (HX3.out.kept hb34 (by omega))
      have HO4 := Lib.hid (HO3.out.still hb34 (by omega))
      have HN4 : Hid (W4.heap[w.heap.size]? = some (.cells noughts.toArray 24 (0, 0))) := (hb34.block _ (by omega)).trans HN3.out
      have HS4 : Hid (w.heap.size + 2 ≤ W4.heap.size) := (Array.getElem?_eq_some_iff.1 hg4).1
      clear hg4 hb4 hb34 hs3
      obtain ⟨c0, c1, c2, f0, f1, f2⟩ := HX4.out.cells
      go_wp2_with fail
      go_loopw [4] (fun i wr => ∃ k : Nat, k ≤ 32 ∧ i = .int .i64 (k : Int) ∧ Hid (wr.heap[w.heap.size + 1]? = some (.cells (cur ((B.drop P).take k)) 24 (0, 0))) ∧ Hid (wr.heap[w.heap.size]? = some (.cells noughts.toArray 24 (0, 0))) ∧ Hid (Rx wr x a n c B P 0) ∧ Hid (Only x w wr)) (fun i _ => 32 - (intOf i).toNat)
      case atStart => exact ⟨0, by omega, rfl, (show _ = _ by rw [List.take_zero, cur_nil]; exact HG4.out), HN4.out, HX4.out, HO4.out⟩
      case round =>
        clear c0 c1 c2 f0 f1 f2
        obtain ⟨k, hk, rfl, hg, hn0, hrx, ho⟩ := hrel
        obtain ⟨c0, c1, c2, f0, f1, f2⟩ := hrx.out.cells
        by_cases hk32 : k < 32
        · obtain ⟨p, hpp⟩ : ∃ p, p = P + k := ⟨_, rfl⟩
          have hpi : (P : Int) + (k : Int) = (p : Int) := by omega
          have hpn : p < n := by omega
          have hwr : IntKind.i64.wrap (p : Int) = (p : Int) := by rw [IntKind.wrap_i64]; omega
          obtain ⟨ad, had, hcell⟩ := hrx.out.reads.at hpn
          subst had
          have hlk : ((B.drop P).take k).length = k := by rw [List.length_take, List.length_drop, HLEN.out]; omega
          have hput := cur_put (l := (B.drop P).take k) (b := B.getD p 0) (by rw [hlk]; exact hk32)
          have htk : (B.drop P).take k ++ [B.getD p 0] = (B.drop P).take (k + 1) := by
            have hkl : k < (B.drop P).length := by rw [List.length_drop, HLEN.out]; omega
            rw [List.take_succ_eq_append_getElem hkl]
            have hpl : P + k < B.length := by rw [HLEN.out]; omega
            simp [List.getD, hpl, hpp]
          rw [hlk, htk] at hput
          obtain ⟨b, hb⟩ : ∃ b, b = B.getD p 0 := ⟨_, rfl⟩
          rw [← hb] at hput hcell
          have hsz := cur_size (l := (B.drop P).take k) (by rw [hlk]; omega)
          have HPUT := Lib.hid hput
          have hold : ∃ u, wr.drew.cell? ⟨w.heap.size + 1, k, none⟩ = some u := by
            refine ⟨(cur ((B.drop P).take k))[k]'(by rw [hsz]; exact hk32), ?_⟩
            show wr.cell? _ = _
            simp [World.cell?, hg.out, hsz, hk32]
          obtain ⟨u, hu⟩ := hold
          have hfz : wr.drew.frozen? ⟨w.heap.size + 1, k, none⟩ = false := by
            show wr.frozen? _ = _
            simp [World.frozen?, hg.out]
          have hst := only_setCell wr (w.heap.size + 1) k _ _ (.int .u8 b) hg.out
          rw [HPUT.out] at hst
          have HST := Lib.hid hst
          have HLT1 : Hid (w.heap.size + 1 < wr.heap.size) := (Array.getElem?_eq_some_iff.1 hg.out).1
          have hR : wr.drew.cell? ⟨x, 0, none⟩ = some (.slice (some ad) n c) ∧ wr.drew.cell? ⟨x, 1, none⟩ = some (.int .i64 (P : Int)) ∧ wr.drew.cell? (ad.add p) = some (.int .u8 b) := ⟨c0, c1, hcell⟩
          clear hpp hput htk hlk hst hsz hb hcell c0 c1 c2 f0 f1 f2
          go_wp2_with fail
          refine anyS_start (by kernel_rfl) ?_
          (refine anyS_free (i := 0) (v := ?_) rfl (by kernel_rfl) (by kernel_rfl) (by kernel_rfl) (fun _ _ _ h => h) (fun _ => by simp) (Or.inl ⟨by rfl, fun w' _ => ?_⟩) ?_; rotate_left; (· go_simp; try with_reducible rfl))
          try simp only [Act.put, List.setIfInBounds_toArray, List.set_cons_zero, List.set_cons_succ]
          (refine anyS_free (i := 1) (v := ?_) rfl (by kernel_rfl) (by kernel_rfl) (by kernel_rfl) (fun _ _ _ h => h) (fun _ => by simp) (Or.inl ⟨by rfl, fun w' _ => ?_⟩) ?_; rotate_left; (· go_simp; try with_reducible rfl))
          try simp only [Act.put, List.setIfInBounds_toArray, List.set_cons_zero, List.set_cons_succ]
          (refine anyS_free (i := 2) (v := ?_) rfl (by kernel_rfl) (by kernel_rfl) (by kernel_rfl) (fun _ _ _ h => h) (fun _ => by simp) (Or.inl ⟨by rfl, fun w' _ => ?_⟩) ?_; rotate_left; (· go_simp; try with_reducible rfl))
          try simp only [Act.put, List.setIfInBounds_toArray, List.set_cons_zero, List.set_cons_succ]
          (refine anyS_free (i := 3) (v := ?_) rfl (by kernel_rfl) (by kernel_rfl) (by kernel_rfl) (fun _ _ _ h => h) (fun _ => by simp) (Or.inl ⟨by rfl, fun w' _ => ?_⟩) ?_; rotate_left; (· go_simp; try with_reducible rfl))
          try simp only [Act.put, List.setIfInBounds_toArray, List.set_cons_zero, List.set_cons_succ]
          (refine anyS_free (i := 5) (v := ?_) rfl (by kernel_rfl) (by kernel_rfl) (by kernel_rfl) (fun _ _ _ h => h) (fun _ => by simp) (Or.inl ⟨by rfl, fun w' _ => ?_⟩) ?_; rotate_left; (· go_simp; try with_reducible rfl))
          try simp only [Act.put, List.setIfInBounds_toArray, List.set_cons_zero, List.set_cons_succ]
          (refine anyS_free (i := 6) (v := ?_) rfl (by kernel_rfl) (by kernel_rfl) (by kernel_rfl) (fun _ _ _ h => h) (fun _ => by simp) (Or.inl ⟨by rfl, fun w' _ => ?_⟩) ?_; rotate_left; (· go_simp; try with_reducible rfl))
          try simp only [Act.put, List.setIfInBounds_toArray, List.set_cons_zero, List.set_cons_succ]
          (refine anyS_free (i := 7) (v := ?_) rfl (by kernel_rfl) (by kernel_rfl) (by kernel_rfl) (fun _ _ _ h => h) (fun _ => by simp) (Or.inl ⟨by rfl, fun w' _ => ?_⟩) ?_; rotate_left; (· go_simp; try with_reducible rfl))
          try simp only [Act.put, List.setIfInBounds_toArray, List.set_cons_zero, List.set_cons_succ]
          (refine anyS_free (i := 9) (v := ?_) rfl (by kernel_rfl) (by kernel_rfl) (by kernel_rfl) (fun _ _ _ h => h) (fun _ => by simp) (Or.inl ⟨by rfl, fun w' _ => ?_⟩) ?_; rotate_left; (· go_simp; try with_reducible rfl))
          try simp only [Act.put, List.setIfInBounds_toArray, List.set_cons_zero, List.set_cons_succ]
          (refine anyS_takeNew (fun w' => w'.cell? ⟨x, 0, none⟩ = some (.slice (some ad) n c) ∧ w'.cell? ⟨x, 1, none⟩ = some (.int .i64 (P : Int)) ∧ w'.cell? (ad.add p) = some (.int .u8 b)) [4] (i := 8) (v := ?_) hR rfl (by kernel_rfl) (by kernel_rfl) (by kernel_rfl) (by kernel_rfl) (fun _ _ _ h => h) (fun _ _ => by simp_all) (Or.inl ⟨by rfl, fun w' hw' => ?_⟩) ?_; rotate_left; (· (obtain ⟨q0, q1, q2⟩ := hw'; go_simp; try with_reducible rfl)))
          try simp only [Act.put, List.setIfInBounds_toArray, List.set_cons_zero, List.set_cons_succ]
          (refine anyS_free (i := 10) (v := ?_) rfl (by kernel_rfl) (by kernel_rfl) (by kernel_rfl) (fun _ _ _ h => h) (fun _ => by simp) (Or.inl ⟨by rfl, fun w' _ => ?_⟩) ?_; rotate_left; (· go_simp; try with_reducible rfl))
          try simp only [Act.put, List.setIfInBounds_toArray, List.set_cons_zero, List.set_cons_succ]
          (refine anyS_takeNew (fun w' => w'.cell? ⟨x, 0, none⟩ = some (.slice (some ad) n c) ∧ w'.cell? ⟨x, 1, none⟩ = some (.int .i64 (P : Int)) ∧ w'.cell? (ad.add p) = some (.int .u8 b)) [] (i := 4) (v := ?_) hR rfl (by kernel_rfl) (by kernel_rfl) (by kernel_rfl) (by kernel_rfl) (fun _ _ _ h => h) (fun _ _ => by simp_all) (Or.inl ⟨by rfl, fun w' hw' => ?_⟩) ?_; rotate_left; (· (obtain ⟨q0, q1, q2⟩ := hw'; go_simp; try with_reducible rfl)))
          try simp only [Act.put, List.setIfInBounds_toArray, List.set_cons_zero, List.set_cons_succ]
          (refine anyS_free (i := 11) (v := ?_) rfl (by kernel_rfl) (by kernel_rfl) (by kernel_rfl) (fun _ _ _ h => h) (fun _ => by simp) (Or.inl ⟨by rfl, fun w' _ => ?_⟩) ?_; rotate_left; (· go_simp; try with_reducible rfl))
          try simp only [Act.put, List.setIfInBounds_toArray, List.set_cons_zero, List.set_cons_succ]
          (refine anyS_takeNew (fun w' => w'.cell? ⟨x, 0, none⟩ = some (.slice (some ad) n c) ∧ w'.cell? ⟨x, 1, none⟩ = some (.int .i64 (P : Int)) ∧ w'.cell? (ad.add p) = some (.int .u8 b)) [] (i := 12) (v := ?_) hR rfl (by kernel_rfl) (by kernel_rfl) (by kernel_rfl) (by kernel_rfl) (fun _ _ _ h => h) (fun _ _ => by simp_all) (Or.inl ⟨by rfl, fun w' hw' => ?_⟩) ?_; rotate_left; (· (obtain ⟨q0, q1, q2⟩ := hw'; go_simp; try with_reducible rfl)))
          try simp only [Act.put, List.setIfInBounds_toArray, List.set_cons_zero, List.set_cons_succ]
          (refine anyS_free (i := 13) (v := ?_) rfl (by kernel_rfl) (by kernel_rfl) (by kernel_rfl) (fun _ _ _ h => h) (fun _ => by simp) (Or.inl ⟨by rfl, fun w' _ => ?_⟩) ?_; rotate_left; (· go_simp; try with_reducible rfl))
          try simp only [Act.put, List.setIfInBounds_toArray, List.set_cons_zero, List.set_cons_succ]
          refine anyS_one 14 (by kernel_rfl) rfl (fun K hK => ?_)
          go_simp
          skip
          refine hK.out _ _ (by simp) ?_
          clear hK K
          try simp only [Act.put, List.setIfInBounds_toArray, List.set_cons_zero, List.set_cons_succ]
          refine anyS_done (by kernel_rfl) ?_ _
          refine NoPanic.normal ?_
          have hbb : Below (w.heap.size + 1) wr (wr.setCell ⟨w.heap.size + 1, k, none⟩ (.int .u8 b)) := HST.out.1.below (Nat.le_refl _) (Nat.le_of_lt HLT1.out)
          have hbc : Below (w.heap.size + 1) wr (wr.setCell ⟨w.heap.size + 1, k, none⟩ (.int .u8 b)).drew := hbb.drew
          have hG : Hid ((wr.setCell ⟨w.heap.size + 1, k, none⟩ (.int .u8 b)).drew.heap[w.heap.size + 1]? = some (.cells (cur ((B.drop P).take (k + 1))) 24 (0, 0))) := HST.out.2
          generalize World.setCell wr _ _ = W7 at *
          have HX7 := Lib.hid (hrx.out.kept hbc (by omega))
          have HO7 := Lib.hid (ho.out.still hbc (by omega))
          have HN7 : Hid (W7.drew.heap[w.heap.size]? = some (.cells noughts.toArray 24 (0, 0))) := (hbc.block _ (by omega)).trans hn0.out
          clear hbb hbc hR hu hfz HST
          go_wp2_with fail
          go_roundw
          case rel => exact ⟨k + 1, by omega, by go_num, hG.out, HN7.out, HX7.out, HO7.out⟩
          case measure => simp [intOf]; omega
        · obtain rfl : k = 32 := by omega
          have hlk : ((B.drop P).take 32).length = 32 := by rw [List.length_take, List.length_drop, HLEN.out]; omega
          have hg' : wr.heap[w.heap.size + 1]? = some (.cells (bts ((B.drop P).take 32)).toArray 24 (0, 0)) := by rw [← cur_all hlk]; exact hg.out
          have hsum : Sum (bts ((B.drop P).take 32)).toArray ((B.drop P).take 32) := ⟨by simp, hlk, fun c hc => HBY.out c (List.mem_of_mem_drop (List.mem_of_mem_take hc))⟩
          obtain ⟨cs, hcs⟩ : ∃ cs, cs = (bts ((B.drop P).take 32)).toArray := ⟨_, rfl⟩
          rw [← hcs] at hg' hsum
          have HSU := Lib.hid hsum
          have HI2 := Lib.hid (sum_info hsum)
          have hps : P + 32 ≤ n := by omega
          go_upto_region 11 with (fail)
          have h6 : Rx (wr.setCell ⟨x, 1, none⟩ (.int .i64 ((P : Int) + 32))) x a n c B (P + 32) 0 ∧ Only x wr (wr.setCell ⟨x, 1, none⟩ (.int .i64 ((P : Int) + 32))) := hrx.out.setPos (P + 32) hps
          generalize World.setCell _ _ _ = W6 at *
          have HG6 : Hid (W6.heap[w.heap.size + 1]? = some (.cells cs 24 (0, 0))) := (h6.2.block _ (Array.getElem?_eq_some_iff.1 hg').1 (by simp; omega)).trans hg'
          have HN6 : Hid (W6.heap[w.heap.size]? = some (.cells noughts.toArray 24 (0, 0))) := (h6.2.block _ (by have := (Array.getElem?_eq_some_iff.1 hg').1; omega) (by simp; omega)).trans hn0.out
          have HX6 := Lib.hid h6.1
          have HO6 := Lib.hid (ho.out.trans h6.2)
          clear h6 hg' hsum hcs c0 c1 c2 f0 f1 f2
          go_wp2_with (first
            | (refine wpList_load_row rfl 24 (.tmp 3) rfl (w.heap.size + 1) rfl 24 cs (0, 0) _ HG6.out Try.underlying24 rfl HI2.out ?_)
            | (refine wpList_store_sum rfl (.tmp 2) (.tmp 59) rfl w.heap.size cs _ rfl rfl HSU.out noughts.toArray HN6.out rfl ?_; intro W8 hg8 hb8))
          exact bodyPost_ret (v := .agg cs) (results_cell_row (P := Try.prog) rfl _ _ w.heap.size 24 cs (0, 0) _ rfl hg8 Try.underlying24 rfl HI2.out) rfl (XHashPost.mk HE.out HSU.out (HX6.out.kept hb8 hlt) (fun _ => by rw [List.drop_drop]) (HO6.out.still hb8 (Nat.le_refl _)))
  · have he2 : (E == 0) = false := by simpa using he
    have hed : decide (E = 0) = false := by simpa using he
    have HE := Lib.hid (rdHash_err he (B.drop P))
    have HNE := Lib.hid he
    clear he
    go_wp2_with fail
    go_quiet (fail)
    go_upto_region 3 with (fail)
    have h3 : Rx (W.drewN nq) x a n c B P E ∧ Only x w (W.drewN nq) ∧ (W.drewN nq).heap[w.heap.size]? = some (.cells noughts.toArray 24 (0, 0)) ∧ (W.drewN nq).heap.size = w.heap.size + 1 := ⟨HX.out.keep (below_drewN (Below.refl _ _) nq), only_drew HO0.out nq, ((below_drewN (Below.refl W.heap.size W) nq).block _ (by have := HBX.out.2.1; omega)).trans HBX.out.2.2, HBX.out.2.1⟩
    generalize World.drewN W nq = W3 at *
    have HX3 := Lib.hid h3.1
    have HO3 := Lib.hid h3.2.1
    have HN3 := Lib.hid h3.2.2.1
    have hs3 := h3.2.2.2
    have HA3 : Hid ((W3.alloc (.cells noughts.toArray 24)).heap[w.heap.size + 1]? = some (.cells noughts.toArray 24 (0, 0))) := by show _ = _; rw [← hs3]; exact heap_alloc_new W3 _
    have HB3 : Hid (Below (w.heap.size + 1) W3 (W3.alloc (.cells noughts.toArray 24))) := (Below.refl _ _).alloc (by rw [hs3]; exact Nat.le_refl _) _
    have HI := Lib.hid (sum_info zeros_sum)
    clear h3 c0 c1 c2 f0 f1 f2
    go_upto_region 4 with (refine wpList_store_sum rfl (.tmp 3) (.tmp 26) rfl (w.heap.size + 1) noughts.toArray zeros rfl rfl zeros_sum noughts.toArray HA3.out rfl ?_; intro W4 hg4 hb4)
    have hb34 : Below (w.heap.size + 1) W3 W4 := HB3.out.trans hb4
    have HG4 := Lib.hid hg4
    have HX4 := Lib.hid (HX3.out.kept hb34 (by omega))
    have HO4 := Lib.hid (HO3.out.still hb34 (by omega))
    have HN4 : Hid (W4.heap[w.heap.size]? = some (.cells noughts.toArray 24 (0, 0))) := (hb34.block _ (by omega)).trans HN3.out
    have HS4 : Hid (w.heap.size + 2 ≤ W4.heap.size) := (Array.getElem?_eq_some_iff.1 hg4).1
    clear hg4 hb4 hb34 hs3
    obtain ⟨c0, c1, c2, f0, f1, f2⟩ := HX4.out.cells
    go_wp2_with (first
      | (refine wpList_load_row rfl 24 (.tmp 3) rfl (w.heap.size + 1) rfl 24 noughts.toArray (0, 0) _ HG4.out Try.underlying24 rfl HI.out ?_)
      | (refine wpList_store_sum rfl (.tmp 2) (.tmp 32) rfl w.heap.size noughts.toArray zeros rfl rfl zeros_sum noughts.toArray HN4.out rfl ?_; intro W5 hg5 hb5))
    exact bodyPost_ret (v := .agg noughts.toArray) (results_cell_row (P := Try.prog) rfl _ _ w.heap.size 24 noughts.toArray (0, 0) _ rfl hg5 Try.underlying24 rfl HI.out) rfl (XHashPost.mk HE.out zeros_sum (HX4.out.kept hb5 hlt) (fun h => absurd h HNE.out) (HO4.out.still hb5 (Nat.le_refl _)))

end Go.Proofs.Ytlaafpfpoehonaa
