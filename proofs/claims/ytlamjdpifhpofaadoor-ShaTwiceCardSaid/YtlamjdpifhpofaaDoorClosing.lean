/- The program's closing: what stands behind the whole blocks. -/
import Derived.Test.YtlamjdpifhpofaaDoorCut
import Derived.Deep.MidRow
namespace Go.Proofs.YtlamjdpifhpofaaDoor
open Go.RowKit Sha
set_option linter.unusedVariables false
set_option linter.unusedSimpArgs false

def zeros128 : List Int := List.replicate 128 0
theorem zeros128_length : zeros128.length = 128 := by simp [zeros128]

theorem zero_ends (w : World) : (zeroValue 38).run Tryd.prog w = .ok (.agg (bts zeros128).toArray) w := by kernel_rfl

/-- bytes in a block of their own -/
def BRow (w : World) (g : Nat) (T : TypeId) (l : List Int) : Prop := w.heap[g]? = some (.cells (bts l).toArray T (0, 0))

section
variable {w w' : World} {g : Nat} {T : TypeId} {l : List Int}
theorem BRow.lt (h : BRow w g T l) : g < w.heap.size := (Array.getElem?_eq_some_iff.1 h).1
theorem BRow.at (h : BRow w g T l) {i : Nat} (hi : i < l.length) : w.cell? ⟨g, i, none⟩ = some (.int .u8 (l.getD i 0)) := by
  unfold BRow at h
  simp [World.cell?, h, bts, List.getD, hi]
theorem BRow.free (h : BRow w g T l) (i : Nat) : w.frozen? ⟨g, i, none⟩ = false := by
  unfold BRow at h
  simp [World.frozen?, h]
theorem BRow.only {r : Nat} (h : BRow w g T l) (ho : Only r w w') (hne : g ≠ r) : BRow w' g T l := by
  unfold BRow
  rw [ho.block g h.lt (by simpa using hne)]
  exact h
theorem BRow.keep (h : BRow w g T l) (hb : Below w.heap.size w w') : BRow w' g T l := by
  unfold BRow
  rw [hb.block g h.lt]
  exact h
theorem BRow.put (h : BRow w g T l) (i : Nat) (x : Int) : Only g w (w.setCell ⟨g, i, none⟩ (.int .u8 x)) ∧ BRow (w.setCell ⟨g, i, none⟩ (.int .u8 x)) g T (l.set i x) := by
  have h0 := only_setCell w g i _ _ (.int .u8 x) h
  refine ⟨h0.1, ?_⟩
  unfold BRow
  rw [h0.2]
  simp [bts, List.map_set]
end

theorem BRow.puts {g : Nat} {T : TypeId} : ∀ (xs : List Int) (o : Nat) (w : World) (l : List Int), BRow w g T l → o + xs.length ≤ l.length →
    Only g w (w.setCells g o (bts xs)) ∧ BRow (w.setCells g o (bts xs)) g T (l.take o ++ xs ++ l.drop (o + xs.length))
  | [], o, w, l, h, _ => ⟨.refl _ _, by simpa [bts, World.setCells] using h⟩
  | x :: xs, o, w, l, h, hl => by
    simp only [List.length_cons] at hl
    have hp := h.put o x
    have hi := BRow.puts xs (o + 1) _ _ hp.2 (by rw [List.length_set]; omega)
    refine ⟨hp.1.trans hi.1, ?_⟩
    have e : (l.set o x).take (o + 1) ++ xs ++ (l.set o x).drop (o + 1 + xs.length) = l.take o ++ (x :: xs) ++ l.drop (o + (xs.length + 1)) := by
      rw [List.take_add_one, List.take_set_of_le (by omega), List.drop_set_of_lt (by omega), List.getElem?_set_self (by omega)]
      simp [show o + 1 + xs.length = o + (xs.length + 1) by omega]
    rw [e] at hi
    exact hi.2

/-- what closes: the rest, a bit, noughts, the number of bits, noughts up to two blocks -/
def tail (rest : List Int) (n : Nat) : List Int := rest ++ [128] ++ List.replicate (gap rest.length) 0 ++ lens n
def ends (rest : List Int) (n : Nat) : List Int := tail rest n ++ List.replicate (128 - (tail rest n).length) 0

theorem info_e : (Tryd.prog.info? 38).map (·.size) = some 128 := by kernel_rfl
theorem und_e : Tryd.prog.underlying 38 = some (.array 2 36) := by kernel_rfl

theorem front_set {z : List Int} (h : z.length < 64) : (front z ++ List.replicate 64 0).set z.length 128 = z ++ [128] ++ List.replicate (127 - z.length) 0 := by
  unfold front
  rw [List.take_of_length_le (by omega), List.append_assoc, ← List.replicate_append_replicate.symm, List.set_append_right _ _ (Nat.le_refl _), Nat.sub_self]
  rw [show 64 - z.length + 64 = (127 - z.length) + 1 by omega, List.replicate_succ]
  simp

set_option maxRecDepth 100000 in
set_option maxHeartbeats 16000000 in
theorem closing_any (a0 : Option Addr) (len0 cap0 : Nat) (z0 : List Int) (n : Nat) (w : World) (hr : Reads w a0 len0 z0) (hl : len0 < 64) (hn : n ≤ 281474976710656) :
    Calls Tryd.prog 9 #[.slice a0 len0 cap0, .int .i64 (n : Int)] w fun e w' => e = .returned (.agg (bts (ends z0 n)).toArray) ∧ Below w.heap.size w w' := by
  obtain ⟨X, hX⟩ : ∃ X, X = w.alloc (.cells (bts zeros128).toArray 38) := ⟨_, rfl⟩
  have HD : Hid (BRow X w.heap.size 38 zeros128) := by rw [hX]; exact heap_alloc_new w _
  have HL : Hid (Below w.heap.size w X) := by rw [hX]; exact (Below.refl _ _).alloc (Nat.le_refl _) _
  have HR : Hid (Reads X a0 len0 z0) := hr.below HL.out
  have HZL := Lib.hid hr.1
  have hz := zero_ends
  have HX := Lib.hid hX
  clear hX hr
  go_enter Tryd.func9, Tryd.ntmps9
  go_upto_region 1 with (fail)
  rw [← HX.out]
  clear hz
  go_wp2_with fail
  refine (cut_any a0 len0 cap0 z0 X HR.out).mono ?_
  rintro _ X1 ⟨rfl, hb1⟩
  have HD1 : Hid (BRow X1 w.heap.size 38 zeros128) := HD.out.keep hb1
  have HL1 : Hid (Below w.heap.size w X1) := HL.out.trans (hb1.mono HL.out.size)
  clear hb1 HD HL HR HX X
  have HTH : Hid (X1.there w.heap.size 0 (bts (front z0)).toArray.size) := by
    intro j hj
    rw [List.size_toArray, bts_length, front_length] at hj
    rw [Nat.zero_add]
    exact ⟨by rw [HD1.out.at (by rw [zeros128_length]; omega)]; rfl, HD1.out.free j⟩
  have HS : Hid ((Tryd.prog.info? 36).map (·.size) = some (bts (front z0)).toArray.size) := by rw [List.size_toArray, bts_length, front_length]; exact info_k
  have hp2 := HD1.out.puts (front z0) 0 _ _ (by rw [front_length, zeros128_length]; omega)
  rw [List.take_zero, List.nil_append, front_length, Nat.zero_add] at hp2
  have HD2 : Hid (BRow (X1.setCells w.heap.size 0 (bts (front z0))) w.heap.size 38 (front z0 ++ List.replicate 64 0)) := hp2.2
  have HP2 := Lib.hid hp2.1
  clear hp2
  go_upto_region 2 with (refine wpList_store_mid rfl 36 (.tmp 10) (.tmp 9) rfl w.heap.size 0 (bts (front z0)).toArray rfl rfl HTH.out HS.out (bts_all _) ?_; rw [List.toList_toArray])
  have HL2 : Hid (Below w.heap.size w (X1.setCells w.heap.size 0 (bts (front z0)))) := Below.step HL1.out HP2.out (Nat.le_refl _) (Nat.le_refl _)
  generalize World.setCells _ _ _ _ = X2 at HD2 HL2 ⊢
  clear HP2 HTH HS HD1 HL1 X1
  have hcl : X2.cell? ⟨w.heap.size, len0, none⟩ = some (.int .u8 ((front z0 ++ List.replicate 64 0).getD len0 0)) := HD2.out.at (by simp [front_length]; omega)
  have hfl := HD2.out.free len0
  obtain ⟨c, hcc⟩ : ∃ c, c = (front z0 ++ List.replicate 64 0).getD len0 0 := ⟨_, rfl⟩
  rw [← hcc] at hcl
  clear hcc
  go_upto_region 3 with (fail)
  have hp := HD2.out.put len0 128
  have hse := front_set (z := z0) (by rw [HZL.out]; exact hl)
  rw [HZL.out] at hse
  rw [hse] at hp
  rw [← HZL.out] at hp
  have HL3 : Hid (Below w.heap.size w (X2.setCell ⟨w.heap.size, len0, none⟩ (.int .u8 128))) := Below.step HL2.out (by have h := hp.1; rw [HZL.out] at h; exact h) (Nat.le_refl _) (Nat.le_refl _)
  have HD3 : Hid (BRow (X2.setCell ⟨w.heap.size, len0, none⟩ (.int .u8 128)) w.heap.size 38 (z0 ++ [128] ++ List.replicate (127 - z0.length) 0)) := by have h := hp.2; rw [HZL.out] at h ⊢; exact h
  clear hp hse hcl hfl HD2 HL2
  generalize World.setCell _ _ _ = X3 at HD3 HL3 ⊢
  have HD2 := HD3
  have HL2 := HL3
  clear HD3 HL3 X2
  obtain ⟨gE, hgE⟩ : ∃ g, g = w.heap.size := ⟨_, rfl⟩
  rw [← hgE] at HD2 ⊢
  have HGE := Lib.hid hgE
  clear hgE
  by_cases h56 : len0 < 56
  · have hM : z0 ++ [128] ++ List.replicate (127 - z0.length) 0 = (z0 ++ [128] ++ List.replicate (55 - z0.length) 0) ++ [(0 : Int), (0 : Int), (0 : Int), (0 : Int), (0 : Int), (0 : Int), (0 : Int), (0 : Int)] ++ List.replicate 64 0 := by
      have hz := HZL.out
      rw [show 127 - z0.length = (55 - z0.length) + (8 + 64) by omega, ← List.replicate_append_replicate, ← List.replicate_append_replicate]
      simp [List.replicate]
    have hE : ends z0 n = (z0 ++ [128] ++ List.replicate (55 - z0.length) 0) ++ lens n ++ List.replicate 64 0 := by
      have hz := HZL.out
      have hg : gap z0.length = 55 - z0.length := by unfold gap; omega
      unfold ends tail
      have ht : (z0 ++ [128] ++ List.replicate (gap z0.length) 0 ++ lens n).length = 64 := by rw [hg]; simp [lens]; omega
      rw [ht, hg]
      try rfl
    rw [hM] at HD2
    have HE := Lib.hid hE
    have HHL : Hid ((z0 ++ [128] ++ List.replicate (55 - z0.length) 0).length = 56) := by show _ = _; have hz := HZL.out; simp; omega
    obtain ⟨H, hH⟩ : ∃ H, H = z0 ++ [128] ++ List.replicate (55 - z0.length) 0 := ⟨_, rfl⟩
    obtain ⟨T, hT⟩ : ∃ T : List Int, T = List.replicate 64 0 := ⟨_, rfl⟩
    have HTL : Hid (T.length = 64) := by show _ = _; rw [hT]; simp
    rw [← hH] at HHL HE HD2
    rw [← hT] at HE HD2
    clear hH hT hM hE
    have hdec : decide (56 ≤ (len0 : Int)) = false := by simp; omega
    go_upto_region 8 with (fail)
    try simp only [hdec]
    clear hdec
    go_loopw [23] (fun v X => ∃ (k : Nat), k ≤ 8 ∧ v = .int .i64 (k : Int) ∧ Hid (BRow X gE 38 (H ++ (List.replicate (8 - k) (0 : Int) ++ (lens n).drop (8 - k)) ++ T)) ∧ Hid (Below w.heap.size w X)) (fun v _ => (8 - intOf v).toNat)
    case atStart => exact ⟨0, by omega, rfl, HD2, HL2⟩
    case round =>
      clear HD2 HL2
      obtain ⟨k, hk, rfl, HD, HL⟩ := hrel
      by_cases hk8 : k < 8
      · have hk07 : k = 0 ∨ k = 1 ∨ k = 2 ∨ k = 3 ∨ k = 4 ∨ k = 5 ∨ k = 6 ∨ k = 7 := by omega
        clear hk hk8
        rcases hk07 with rfl | rfl | rfl | rfl | rfl | rfl | rfl | rfl
        · have HDk : Hid (BRow wr gE 38 (H ++ [(0 : Int), (0 : Int), (0 : Int), (0 : Int), (0 : Int), (0 : Int), (0 : Int), (0 : Int)] ++ T)) := HD
          clear HD
          have hc := HDk.out.at (i := 63) (by have h1 := HHL.out; have h2 := HTL.out; simp [h1, h2])
          have hf := HDk.out.free 63
          obtain ⟨c, hcc⟩ : ∃ c, c = (H ++ [(0 : Int), (0 : Int), (0 : Int), (0 : Int), (0 : Int), (0 : Int), (0 : Int), (0 : Int)] ++ T).getD 63 0 := ⟨_, rfl⟩
          rw [← hcc] at hc
          clear hcc
          go_upto_region 10 with (fail)
          refine quiet_then 10 1 (by kernel_rfl) (by kernel_rfl) ?_
          simp only [List.take_succ_cons, List.take_zero]
          repeat (go_big_quiet_step (fail))
          refine wpQuiet_nil ?_
          intro nq
          have hc' : (wr.drewN nq).cell? ⟨gE, 63, none⟩ = some (.int .u8 c) := hc
          have hf' : (wr.drewN nq).frozen? ⟨gE, 63, none⟩ = false := hf
          refine anyS_one 10 (by kernel_rfl) rfl (fun K hK => ?_)
          go_simp
          rw [show (n : Int) * 8 % 256 = ((n * 8 % 256 : Nat) : Int) by omega]
          have HW : Hid (BRow (wr.drewN nq) gE 38 (H ++ [(0 : Int), (0 : Int), (0 : Int), (0 : Int), (0 : Int), (0 : Int), (0 : Int), (0 : Int)] ++ T)) := HDk.out
          have hp := HW.out.put 63 ((n * 8 % 256 : Nat) : Int)
          have hs : (H ++ [(0 : Int), (0 : Int), (0 : Int), (0 : Int), (0 : Int), (0 : Int), (0 : Int), (0 : Int)] ++ T).set 63 ((n * 8 % 256 : Nat) : Int) = H ++ [(0 : Int), (0 : Int), (0 : Int), (0 : Int), (0 : Int), (0 : Int), (0 : Int), ((n * 8 % 256 : Nat) : Int)] ++ T := by
            rw [show 63 = H.length + 7 by rw [HHL.out], List.append_assoc, List.set_append_right _ _ (by omega), Nat.add_sub_cancel_left]
            simp
          rw [hs] at hp
          have HP := Lib.hid hp.2
          have HPO := Lib.hid hp.1
          clear hp hs hc hf hc' hf' HW HDk
          refine hK.out _ _ trivial ?_
          clear hK K
          generalize World.setCell _ _ _ = X3 at HP HPO ⊢
          refine anyS_done (by kernel_rfl) ?_ _
          refine NoPanic.normal ?_
          go_wp2_with fail
          go_roundw
          case rel =>
            have hw0 : Hid (Below w.heap.size w (wr.drewN nq)) := below_drewN HL.out nq
            exact ⟨1, by omega, rfl, HP, Below.step hw0.out HPO.out (by have := HGE.out; omega) (Nat.le_refl _)⟩
          case measure => simp [intOf]
        · have HDk : Hid (BRow wr gE 38 (H ++ [(0 : Int), (0 : Int), (0 : Int), (0 : Int), (0 : Int), (0 : Int), (0 : Int), ((n * 8 % 256 : Nat) : Int)] ++ T)) := HD
          clear HD
          have hc := HDk.out.at (i := 62) (by have h1 := HHL.out; have h2 := HTL.out; simp [h1, h2])
          have hf := HDk.out.free 62
          obtain ⟨c, hcc⟩ : ∃ c, c = (H ++ [(0 : Int), (0 : Int), (0 : Int), (0 : Int), (0 : Int), (0 : Int), (0 : Int), ((n * 8 % 256 : Nat) : Int)] ++ T).getD 62 0 := ⟨_, rfl⟩
          rw [← hcc] at hc
          clear hcc
          go_upto_region 10 with (fail)
          refine quiet_then 10 1 (by kernel_rfl) (by kernel_rfl) ?_
          simp only [List.take_succ_cons, List.take_zero]
          repeat (go_big_quiet_step (fail))
          refine wpQuiet_nil ?_
          intro nq
          have hc' : (wr.drewN nq).cell? ⟨gE, 62, none⟩ = some (.int .u8 c) := hc
          have hf' : (wr.drewN nq).frozen? ⟨gE, 62, none⟩ = false := hf
          refine anyS_one 10 (by kernel_rfl) rfl (fun K hK => ?_)
          go_simp
          rw [show (n : Int) * 8 / 256 % 256 = ((n * 8 / 2 ^ 8 % 256 : Nat) : Int) by omega]
          have HW : Hid (BRow (wr.drewN nq) gE 38 (H ++ [(0 : Int), (0 : Int), (0 : Int), (0 : Int), (0 : Int), (0 : Int), (0 : Int), ((n * 8 % 256 : Nat) : Int)] ++ T)) := HDk.out
          have hp := HW.out.put 62 ((n * 8 / 2 ^ 8 % 256 : Nat) : Int)
          have hs : (H ++ [(0 : Int), (0 : Int), (0 : Int), (0 : Int), (0 : Int), (0 : Int), (0 : Int), ((n * 8 % 256 : Nat) : Int)] ++ T).set 62 ((n * 8 / 2 ^ 8 % 256 : Nat) : Int) = H ++ [(0 : Int), (0 : Int), (0 : Int), (0 : Int), (0 : Int), (0 : Int), ((n * 8 / 2 ^ 8 % 256 : Nat) : Int), ((n * 8 % 256 : Nat) : Int)] ++ T := by
            rw [show 62 = H.length + 6 by rw [HHL.out], List.append_assoc, List.set_append_right _ _ (by omega), Nat.add_sub_cancel_left]
            simp
          rw [hs] at hp
          have HP := Lib.hid hp.2
          have HPO := Lib.hid hp.1
          clear hp hs hc hf hc' hf' HW HDk
          refine hK.out _ _ trivial ?_
          clear hK K
          generalize World.setCell _ _ _ = X3 at HP HPO ⊢
          refine anyS_done (by kernel_rfl) ?_ _
          refine NoPanic.normal ?_
          go_wp2_with fail
          go_roundw
          case rel =>
            have hw0 : Hid (Below w.heap.size w (wr.drewN nq)) := below_drewN HL.out nq
            exact ⟨2, by omega, rfl, HP, Below.step hw0.out HPO.out (by have := HGE.out; omega) (Nat.le_refl _)⟩
          case measure => simp [intOf]
        · have HDk : Hid (BRow wr gE 38 (H ++ [(0 : Int), (0 : Int), (0 : Int), (0 : Int), (0 : Int), (0 : Int), ((n * 8 / 2 ^ 8 % 256 : Nat) : Int), ((n * 8 % 256 : Nat) : Int)] ++ T)) := HD
          clear HD
          have hc := HDk.out.at (i := 61) (by have h1 := HHL.out; have h2 := HTL.out; simp [h1, h2])
          have hf := HDk.out.free 61
          obtain ⟨c, hcc⟩ : ∃ c, c = (H ++ [(0 : Int), (0 : Int), (0 : Int), (0 : Int), (0 : Int), (0 : Int), ((n * 8 / 2 ^ 8 % 256 : Nat) : Int), ((n * 8 % 256 : Nat) : Int)] ++ T).getD 61 0 := ⟨_, rfl⟩
          rw [← hcc] at hc
          clear hcc
          go_upto_region 10 with (fail)
          refine quiet_then 10 1 (by kernel_rfl) (by kernel_rfl) ?_
          simp only [List.take_succ_cons, List.take_zero]
          repeat (go_big_quiet_step (fail))
          refine wpQuiet_nil ?_
          intro nq
          have hc' : (wr.drewN nq).cell? ⟨gE, 61, none⟩ = some (.int .u8 c) := hc
          have hf' : (wr.drewN nq).frozen? ⟨gE, 61, none⟩ = false := hf
          refine anyS_one 10 (by kernel_rfl) rfl (fun K hK => ?_)
          go_simp
          rw [show (n : Int) * 8 / 65536 % 256 = ((n * 8 / 2 ^ 16 % 256 : Nat) : Int) by omega]
          have HW : Hid (BRow (wr.drewN nq) gE 38 (H ++ [(0 : Int), (0 : Int), (0 : Int), (0 : Int), (0 : Int), (0 : Int), ((n * 8 / 2 ^ 8 % 256 : Nat) : Int), ((n * 8 % 256 : Nat) : Int)] ++ T)) := HDk.out
          have hp := HW.out.put 61 ((n * 8 / 2 ^ 16 % 256 : Nat) : Int)
          have hs : (H ++ [(0 : Int), (0 : Int), (0 : Int), (0 : Int), (0 : Int), (0 : Int), ((n * 8 / 2 ^ 8 % 256 : Nat) : Int), ((n * 8 % 256 : Nat) : Int)] ++ T).set 61 ((n * 8 / 2 ^ 16 % 256 : Nat) : Int) = H ++ [(0 : Int), (0 : Int), (0 : Int), (0 : Int), (0 : Int), ((n * 8 / 2 ^ 16 % 256 : Nat) : Int), ((n * 8 / 2 ^ 8 % 256 : Nat) : Int), ((n * 8 % 256 : Nat) : Int)] ++ T := by
            rw [show 61 = H.length + 5 by rw [HHL.out], List.append_assoc, List.set_append_right _ _ (by omega), Nat.add_sub_cancel_left]
            simp
          rw [hs] at hp
          have HP := Lib.hid hp.2
          have HPO := Lib.hid hp.1
          clear hp hs hc hf hc' hf' HW HDk
          refine hK.out _ _ trivial ?_
          clear hK K
          generalize World.setCell _ _ _ = X3 at HP HPO ⊢
          refine anyS_done (by kernel_rfl) ?_ _
          refine NoPanic.normal ?_
          go_wp2_with fail
          go_roundw
          case rel =>
            have hw0 : Hid (Below w.heap.size w (wr.drewN nq)) := below_drewN HL.out nq
            exact ⟨3, by omega, rfl, HP, Below.step hw0.out HPO.out (by have := HGE.out; omega) (Nat.le_refl _)⟩
          case measure => simp [intOf]
        · have HDk : Hid (BRow wr gE 38 (H ++ [(0 : Int), (0 : Int), (0 : Int), (0 : Int), (0 : Int), ((n * 8 / 2 ^ 16 % 256 : Nat) : Int), ((n * 8 / 2 ^ 8 % 256 : Nat) : Int), ((n * 8 % 256 : Nat) : Int)] ++ T)) := HD
          clear HD
          have hc := HDk.out.at (i := 60) (by have h1 := HHL.out; have h2 := HTL.out; simp [h1, h2])
          have hf := HDk.out.free 60
          obtain ⟨c, hcc⟩ : ∃ c, c = (H ++ [(0 : Int), (0 : Int), (0 : Int), (0 : Int), (0 : Int), ((n * 8 / 2 ^ 16 % 256 : Nat) : Int), ((n * 8 / 2 ^ 8 % 256 : Nat) : Int), ((n * 8 % 256 : Nat) : Int)] ++ T).getD 60 0 := ⟨_, rfl⟩
          rw [← hcc] at hc
          clear hcc
          go_upto_region 10 with (fail)
          refine quiet_then 10 1 (by kernel_rfl) (by kernel_rfl) ?_
          simp only [List.take_succ_cons, List.take_zero]
          repeat (go_big_quiet_step (fail))
          refine wpQuiet_nil ?_
          intro nq
          have hc' : (wr.drewN nq).cell? ⟨gE, 60, none⟩ = some (.int .u8 c) := hc
          have hf' : (wr.drewN nq).frozen? ⟨gE, 60, none⟩ = false := hf
          refine anyS_one 10 (by kernel_rfl) rfl (fun K hK => ?_)
          go_simp
          rw [show (n : Int) * 8 / 16777216 % 256 = ((n * 8 / 2 ^ 24 % 256 : Nat) : Int) by omega]
          have HW : Hid (BRow (wr.drewN nq) gE 38 (H ++ [(0 : Int), (0 : Int), (0 : Int), (0 : Int), (0 : Int), ((n * 8 / 2 ^ 16 % 256 : Nat) : Int), ((n * 8 / 2 ^ 8 % 256 : Nat) : Int), ((n * 8 % 256 : Nat) : Int)] ++ T)) := HDk.out
          have hp := HW.out.put 60 ((n * 8 / 2 ^ 24 % 256 : Nat) : Int)
          have hs : (H ++ [(0 : Int), (0 : Int), (0 : Int), (0 : Int), (0 : Int), ((n * 8 / 2 ^ 16 % 256 : Nat) : Int), ((n * 8 / 2 ^ 8 % 256 : Nat) : Int), ((n * 8 % 256 : Nat) : Int)] ++ T).set 60 ((n * 8 / 2 ^ 24 % 256 : Nat) : Int) = H ++ [(0 : Int), (0 : Int), (0 : Int), (0 : Int), ((n * 8 / 2 ^ 24 % 256 : Nat) : Int), ((n * 8 / 2 ^ 16 % 256 : Nat) : Int), ((n * 8 / 2 ^ 8 % 256 : Nat) : Int), ((n * 8 % 256 : Nat) : Int)] ++ T := by
            rw [show 60 = H.length + 4 by rw [HHL.out], List.append_assoc, List.set_append_right _ _ (by omega), Nat.add_sub_cancel_left]
            simp
          rw [hs] at hp
          have HP := Lib.hid hp.2
          have HPO := Lib.hid hp.1
          clear hp hs hc hf hc' hf' HW HDk
          refine hK.out _ _ trivial ?_
          clear hK K
          generalize World.setCell _ _ _ = X3 at HP HPO ⊢
          refine anyS_done (by kernel_rfl) ?_ _
          refine NoPanic.normal ?_
          go_wp2_with fail
          go_roundw
          case rel =>
            have hw0 : Hid (Below w.heap.size w (wr.drewN nq)) := below_drewN HL.out nq
            exact ⟨4, by omega, rfl, HP, Below.step hw0.out HPO.out (by have := HGE.out; omega) (Nat.le_refl _)⟩
          case measure => simp [intOf]
        · have HDk : Hid (BRow wr gE 38 (H ++ [(0 : Int), (0 : Int), (0 : Int), (0 : Int), ((n * 8 / 2 ^ 24 % 256 : Nat) : Int), ((n * 8 / 2 ^ 16 % 256 : Nat) : Int), ((n * 8 / 2 ^ 8 % 256 : Nat) : Int), ((n * 8 % 256 : Nat) : Int)] ++ T)) := HD
          clear HD
          have hc := HDk.out.at (i := 59) (by have h1 := HHL.out; have h2 := HTL.out; simp [h1, h2])
          have hf := HDk.out.free 59
          obtain ⟨c, hcc⟩ : ∃ c, c = (H ++ [(0 : Int), (0 : Int), (0 : Int), (0 : Int), ((n * 8 / 2 ^ 24 % 256 : Nat) : Int), ((n * 8 / 2 ^ 16 % 256 : Nat) : Int), ((n * 8 / 2 ^ 8 % 256 : Nat) : Int), ((n * 8 % 256 : Nat) : Int)] ++ T).getD 59 0 := ⟨_, rfl⟩
          rw [← hcc] at hc
          clear hcc
          go_upto_region 10 with (fail)
          refine quiet_then 10 1 (by kernel_rfl) (by kernel_rfl) ?_
          simp only [List.take_succ_cons, List.take_zero]
          repeat (go_big_quiet_step (fail))
          refine wpQuiet_nil ?_
          intro nq
          have hc' : (wr.drewN nq).cell? ⟨gE, 59, none⟩ = some (.int .u8 c) := hc
          have hf' : (wr.drewN nq).frozen? ⟨gE, 59, none⟩ = false := hf
          refine anyS_one 10 (by kernel_rfl) rfl (fun K hK => ?_)
          go_simp
          rw [show (n : Int) * 8 / 4294967296 % 256 = ((n * 8 / 2 ^ 32 % 256 : Nat) : Int) by omega]
          have HW : Hid (BRow (wr.drewN nq) gE 38 (H ++ [(0 : Int), (0 : Int), (0 : Int), (0 : Int), ((n * 8 / 2 ^ 24 % 256 : Nat) : Int), ((n * 8 / 2 ^ 16 % 256 : Nat) : Int), ((n * 8 / 2 ^ 8 % 256 : Nat) : Int), ((n * 8 % 256 : Nat) : Int)] ++ T)) := HDk.out
          have hp := HW.out.put 59 ((n * 8 / 2 ^ 32 % 256 : Nat) : Int)
          have hs : (H ++ [(0 : Int), (0 : Int), (0 : Int), (0 : Int), ((n * 8 / 2 ^ 24 % 256 : Nat) : Int), ((n * 8 / 2 ^ 16 % 256 : Nat) : Int), ((n * 8 / 2 ^ 8 % 256 : Nat) : Int), ((n * 8 % 256 : Nat) : Int)] ++ T).set 59 ((n * 8 / 2 ^ 32 % 256 : Nat) : Int) = H ++ [(0 : Int), (0 : Int), (0 : Int), ((n * 8 / 2 ^ 32 % 256 : Nat) : Int), ((n * 8 / 2 ^ 24 % 256 : Nat) : Int), ((n * 8 / 2 ^ 16 % 256 : Nat) : Int), ((n * 8 / 2 ^ 8 % 256 : Nat) : Int), ((n * 8 % 256 : Nat) : Int)] ++ T := by
            rw [show 59 = H.length + 3 by rw [HHL.out], List.append_assoc, List.set_append_right _ _ (by omega), Nat.add_sub_cancel_left]
            simp
          rw [hs] at hp
          have HP := Lib.hid hp.2
          have HPO := Lib.hid hp.1
          clear hp hs hc hf hc' hf' HW HDk
          refine hK.out _ _ trivial ?_
          clear hK K
          generalize World.setCell _ _ _ = X3 at HP HPO ⊢
          refine anyS_done (by kernel_rfl) ?_ _
          refine NoPanic.normal ?_
          go_wp2_with fail
          go_roundw
          case rel =>
            have hw0 : Hid (Below w.heap.size w (wr.drewN nq)) := below_drewN HL.out nq
            exact ⟨5, by omega, rfl, HP, Below.step hw0.out HPO.out (by have := HGE.out; omega) (Nat.le_refl _)⟩
          case measure => simp [intOf]
        · have HDk : Hid (BRow wr gE 38 (H ++ [(0 : Int), (0 : Int), (0 : Int), ((n * 8 / 2 ^ 32 % 256 : Nat) : Int), ((n * 8 / 2 ^ 24 % 256 : Nat) : Int), ((n * 8 / 2 ^ 16 % 256 : Nat) : Int), ((n * 8 / 2 ^ 8 % 256 : Nat) : Int), ((n * 8 % 256 : Nat) : Int)] ++ T)) := HD
          clear HD
          have hc := HDk.out.at (i := 58) (by have h1 := HHL.out; have h2 := HTL.out; simp [h1, h2])
          have hf := HDk.out.free 58
          obtain ⟨c, hcc⟩ : ∃ c, c = (H ++ [(0 : Int), (0 : Int), (0 : Int), ((n * 8 / 2 ^ 32 % 256 : Nat) : Int), ((n * 8 / 2 ^ 24 % 256 : Nat) : Int), ((n * 8 / 2 ^ 16 % 256 : Nat) : Int), ((n * 8 / 2 ^ 8 % 256 : Nat) : Int), ((n * 8 % 256 : Nat) : Int)] ++ T).getD 58 0 := ⟨_, rfl⟩
          rw [← hcc] at hc
          clear hcc
          go_upto_region 10 with (fail)
          refine quiet_then 10 1 (by kernel_rfl) (by kernel_rfl) ?_
          simp only [List.take_succ_cons, List.take_zero]
          repeat (go_big_quiet_step (fail))
          refine wpQuiet_nil ?_
          intro nq
          have hc' : (wr.drewN nq).cell? ⟨gE, 58, none⟩ = some (.int .u8 c) := hc
          have hf' : (wr.drewN nq).frozen? ⟨gE, 58, none⟩ = false := hf
          refine anyS_one 10 (by kernel_rfl) rfl (fun K hK => ?_)
          go_simp
          rw [show (n : Int) * 8 / 1099511627776 % 256 = ((n * 8 / 2 ^ 40 % 256 : Nat) : Int) by omega]
          have HW : Hid (BRow (wr.drewN nq) gE 38 (H ++ [(0 : Int), (0 : Int), (0 : Int), ((n * 8 / 2 ^ 32 % 256 : Nat) : Int), ((n * 8 / 2 ^ 24 % 256 : Nat) : Int), ((n * 8 / 2 ^ 16 % 256 : Nat) : Int), ((n * 8 / 2 ^ 8 % 256 : Nat) : Int), ((n * 8 % 256 : Nat) : Int)] ++ T)) := HDk.out
          have hp := HW.out.put 58 ((n * 8 / 2 ^ 40 % 256 : Nat) : Int)
          have hs : (H ++ [(0 : Int), (0 : Int), (0 : Int), ((n * 8 / 2 ^ 32 % 256 : Nat) : Int), ((n * 8 / 2 ^ 24 % 256 : Nat) : Int), ((n * 8 / 2 ^ 16 % 256 : Nat) : Int), ((n * 8 / 2 ^ 8 % 256 : Nat) : Int), ((n * 8 % 256 : Nat) : Int)] ++ T).set 58 ((n * 8 / 2 ^ 40 % 256 : Nat) : Int) = H ++ [(0 : Int), (0 : Int), ((n * 8 / 2 ^ 40 % 256 : Nat) : Int), ((n * 8 / 2 ^ 32 % 256 : Nat) : Int), ((n * 8 / 2 ^ 24 % 256 : Nat) : Int), ((n * 8 / 2 ^ 16 % 256 : Nat) : Int), ((n * 8 / 2 ^ 8 % 256 : Nat) : Int), ((n * 8 % 256 : Nat) : Int)] ++ T := by
            rw [show 58 = H.length + 2 by rw [HHL.out], List.append_assoc, List.set_append_right _ _ (by omega), Nat.add_sub_cancel_left]
            simp
          rw [hs] at hp
          have HP := Lib.hid hp.2
          have HPO := Lib.hid hp.1
          clear hp hs hc hf hc' hf' HW HDk
          refine hK.out _ _ trivial ?_
          clear hK K
          generalize World.setCell _ _ _ = X3 at HP HPO ⊢
          refine anyS_done (by kernel_rfl) ?_ _
          refine NoPanic.normal ?_
          go_wp2_with fail
          go_roundw
          case rel =>
            have hw0 : Hid (Below w.heap.size w (wr.drewN nq)) := below_drewN HL.out nq
            exact ⟨6, by omega, rfl, HP, Below.step hw0.out HPO.out (by have := HGE.out; omega) (Nat.le_refl _)⟩
          case measure => simp [intOf]
        · have HDk : Hid (BRow wr gE 38 (H ++ [(0 : Int), (0 : Int), ((n * 8 / 2 ^ 40 % 256 : Nat) : Int), ((n * 8 / 2 ^ 32 % 256 : Nat) : Int), ((n * 8 / 2 ^ 24 % 256 : Nat) : Int), ((n * 8 / 2 ^ 16 % 256 : Nat) : Int), ((n * 8 / 2 ^ 8 % 256 : Nat) : Int), ((n * 8 % 256 : Nat) : Int)] ++ T)) := HD
          clear HD
          have hc := HDk.out.at (i := 57) (by have h1 := HHL.out; have h2 := HTL.out; simp [h1, h2])
          have hf := HDk.out.free 57
          obtain ⟨c, hcc⟩ : ∃ c, c = (H ++ [(0 : Int), (0 : Int), ((n * 8 / 2 ^ 40 % 256 : Nat) : Int), ((n * 8 / 2 ^ 32 % 256 : Nat) : Int), ((n * 8 / 2 ^ 24 % 256 : Nat) : Int), ((n * 8 / 2 ^ 16 % 256 : Nat) : Int), ((n * 8 / 2 ^ 8 % 256 : Nat) : Int), ((n * 8 % 256 : Nat) : Int)] ++ T).getD 57 0 := ⟨_, rfl⟩
          rw [← hcc] at hc
          clear hcc
          go_upto_region 10 with (fail)
          refine quiet_then 10 1 (by kernel_rfl) (by kernel_rfl) ?_
          simp only [List.take_succ_cons, List.take_zero]
          repeat (go_big_quiet_step (fail))
          refine wpQuiet_nil ?_
          intro nq
          have hc' : (wr.drewN nq).cell? ⟨gE, 57, none⟩ = some (.int .u8 c) := hc
          have hf' : (wr.drewN nq).frozen? ⟨gE, 57, none⟩ = false := hf
          refine anyS_one 10 (by kernel_rfl) rfl (fun K hK => ?_)
          go_simp
          rw [show (n : Int) * 8 / 281474976710656 = ((n * 8 / 2 ^ 48 % 256 : Nat) : Int) by omega]
          have HW : Hid (BRow (wr.drewN nq) gE 38 (H ++ [(0 : Int), (0 : Int), ((n * 8 / 2 ^ 40 % 256 : Nat) : Int), ((n * 8 / 2 ^ 32 % 256 : Nat) : Int), ((n * 8 / 2 ^ 24 % 256 : Nat) : Int), ((n * 8 / 2 ^ 16 % 256 : Nat) : Int), ((n * 8 / 2 ^ 8 % 256 : Nat) : Int), ((n * 8 % 256 : Nat) : Int)] ++ T)) := HDk.out
          have hp := HW.out.put 57 ((n * 8 / 2 ^ 48 % 256 : Nat) : Int)
          have hs : (H ++ [(0 : Int), (0 : Int), ((n * 8 / 2 ^ 40 % 256 : Nat) : Int), ((n * 8 / 2 ^ 32 % 256 : Nat) : Int), ((n * 8 / 2 ^ 24 % 256 : Nat) : Int), ((n * 8 / 2 ^ 16 % 256 : Nat) : Int), ((n * 8 / 2 ^ 8 % 256 : Nat) : Int), ((n * 8 % 256 : Nat) : Int)] ++ T).set 57 ((n * 8 / 2 ^ 48 % 256 : Nat) : Int) = H ++ [(0 : Int), ((n * 8 / 2 ^ 48 % 256 : Nat) : Int), ((n * 8 / 2 ^ 40 % 256 : Nat) : Int), ((n * 8 / 2 ^ 32 % 256 : Nat) : Int), ((n * 8 / 2 ^ 24 % 256 : Nat) : Int), ((n * 8 / 2 ^ 16 % 256 : Nat) : Int), ((n * 8 / 2 ^ 8 % 256 : Nat) : Int), ((n * 8 % 256 : Nat) : Int)] ++ T := by
            rw [show 57 = H.length + 1 by rw [HHL.out], List.append_assoc, List.set_append_right _ _ (by omega), Nat.add_sub_cancel_left]
            simp
          rw [hs] at hp
          have HP := Lib.hid hp.2
          have HPO := Lib.hid hp.1
          clear hp hs hc hf hc' hf' HW HDk
          refine hK.out _ _ trivial ?_
          clear hK K
          generalize World.setCell _ _ _ = X3 at HP HPO ⊢
          refine anyS_done (by kernel_rfl) ?_ _
          refine NoPanic.normal ?_
          go_wp2_with fail
          go_roundw
          case rel =>
            have hw0 : Hid (Below w.heap.size w (wr.drewN nq)) := below_drewN HL.out nq
            exact ⟨7, by omega, rfl, HP, Below.step hw0.out HPO.out (by have := HGE.out; omega) (Nat.le_refl _)⟩
          case measure => simp [intOf]
        · have HDk : Hid (BRow wr gE 38 (H ++ [(0 : Int), ((n * 8 / 2 ^ 48 % 256 : Nat) : Int), ((n * 8 / 2 ^ 40 % 256 : Nat) : Int), ((n * 8 / 2 ^ 32 % 256 : Nat) : Int), ((n * 8 / 2 ^ 24 % 256 : Nat) : Int), ((n * 8 / 2 ^ 16 % 256 : Nat) : Int), ((n * 8 / 2 ^ 8 % 256 : Nat) : Int), ((n * 8 % 256 : Nat) : Int)] ++ T)) := HD
          clear HD
          have hc := HDk.out.at (i := 56) (by have h1 := HHL.out; have h2 := HTL.out; simp [h1, h2])
          have hf := HDk.out.free 56
          obtain ⟨c, hcc⟩ : ∃ c, c = (H ++ [(0 : Int), ((n * 8 / 2 ^ 48 % 256 : Nat) : Int), ((n * 8 / 2 ^ 40 % 256 : Nat) : Int), ((n * 8 / 2 ^ 32 % 256 : Nat) : Int), ((n * 8 / 2 ^ 24 % 256 : Nat) : Int), ((n * 8 / 2 ^ 16 % 256 : Nat) : Int), ((n * 8 / 2 ^ 8 % 256 : Nat) : Int), ((n * 8 % 256 : Nat) : Int)] ++ T).getD 56 0 := ⟨_, rfl⟩
          rw [← hcc] at hc
          clear hcc
          go_upto_region 10 with (fail)
          refine quiet_then 10 1 (by kernel_rfl) (by kernel_rfl) ?_
          simp only [List.take_succ_cons, List.take_zero]
          repeat (go_big_quiet_step (fail))
          refine wpQuiet_nil ?_
          intro nq
          have hc' : (wr.drewN nq).cell? ⟨gE, 56, none⟩ = some (.int .u8 c) := hc
          have hf' : (wr.drewN nq).frozen? ⟨gE, 56, none⟩ = false := hf
          refine anyS_one 10 (by kernel_rfl) rfl (fun K hK => ?_)
          go_simp
          rw [show (n : Int) * 8 / 72057594037927936 = ((n * 8 / 2 ^ 56 % 256 : Nat) : Int) by omega]
          have HW : Hid (BRow (wr.drewN nq) gE 38 (H ++ [(0 : Int), ((n * 8 / 2 ^ 48 % 256 : Nat) : Int), ((n * 8 / 2 ^ 40 % 256 : Nat) : Int), ((n * 8 / 2 ^ 32 % 256 : Nat) : Int), ((n * 8 / 2 ^ 24 % 256 : Nat) : Int), ((n * 8 / 2 ^ 16 % 256 : Nat) : Int), ((n * 8 / 2 ^ 8 % 256 : Nat) : Int), ((n * 8 % 256 : Nat) : Int)] ++ T)) := HDk.out
          have hp := HW.out.put 56 ((n * 8 / 2 ^ 56 % 256 : Nat) : Int)
          have hs : (H ++ [(0 : Int), ((n * 8 / 2 ^ 48 % 256 : Nat) : Int), ((n * 8 / 2 ^ 40 % 256 : Nat) : Int), ((n * 8 / 2 ^ 32 % 256 : Nat) : Int), ((n * 8 / 2 ^ 24 % 256 : Nat) : Int), ((n * 8 / 2 ^ 16 % 256 : Nat) : Int), ((n * 8 / 2 ^ 8 % 256 : Nat) : Int), ((n * 8 % 256 : Nat) : Int)] ++ T).set 56 ((n * 8 / 2 ^ 56 % 256 : Nat) : Int) = H ++ [((n * 8 / 2 ^ 56 % 256 : Nat) : Int), ((n * 8 / 2 ^ 48 % 256 : Nat) : Int), ((n * 8 / 2 ^ 40 % 256 : Nat) : Int), ((n * 8 / 2 ^ 32 % 256 : Nat) : Int), ((n * 8 / 2 ^ 24 % 256 : Nat) : Int), ((n * 8 / 2 ^ 16 % 256 : Nat) : Int), ((n * 8 / 2 ^ 8 % 256 : Nat) : Int), ((n * 8 % 256 : Nat) : Int)] ++ T := by
            rw [show 56 = H.length + 0 by rw [HHL.out], List.append_assoc, List.set_append_right _ _ (by omega), Nat.add_sub_cancel_left]
            simp
          rw [hs] at hp
          have HP := Lib.hid hp.2
          have HPO := Lib.hid hp.1
          clear hp hs hc hf hc' hf' HW HDk
          refine hK.out _ _ trivial ?_
          clear hK K
          generalize World.setCell _ _ _ = X3 at HP HPO ⊢
          refine anyS_done (by kernel_rfl) ?_ _
          refine NoPanic.normal ?_
          go_wp2_with fail
          go_roundw
          case rel =>
            have hw0 : Hid (Below w.heap.size w (wr.drewN nq)) := below_drewN HL.out nq
            exact ⟨8, by omega, rfl, HP, Below.step hw0.out HPO.out (by have := HGE.out; omega) (Nat.le_refl _)⟩
          case measure => simp [intOf]
      · have hk8' : k = 8 := by omega
        rw [hk8'] at HD
        clear hk8'
        have HD8 : Hid (BRow wr gE 38 (ends z0 n)) := by rw [HE.out]; exact HD
        clear HD
        have hel : (ends z0 n).length = 128 := by rw [HE.out]; simp [HHL.out, HTL.out, lens]
        obtain ⟨E, hE⟩ : ∃ E, E = ends z0 n := ⟨_, rfl⟩
        rw [← hE] at HD8 hel
        have HEE := Lib.hid hE
        have HS : Hid ((Tryd.prog.info? 38).map (·.size) = some (bts E).toArray.size) := by rw [List.size_toArray, bts_length, hel]; exact info_e
        clear hE hel
        go_wp2_with (first
          | (refine wpList_load_row rfl 38 (.tmp 4) rfl gE rfl 38 (bts E).toArray (0, 0) _ HD8.out und_e rfl HS.out ?_)
          | (refine wpList_store_row rfl 38 (.tmp 4) (.tmp 37) rfl gE _ rfl rfl 38 _ HD8.out HS.out rfl (bts_all _) ?_))
        have hrow := setRow_heap wr gE _ (bts E).toArray _ _ HD8.out
        exact bodyPost_ret (v := .agg (bts E).toArray) (results_cell_row (P := Tryd.prog) rfl _ _ gE 38 _ (0, 0) _ rfl hrow und_e rfl HS.out) rfl ⟨by rw [HEE.out], below_setRow HL.out (by have := HGE.out; omega) _⟩
  · have hM : z0 ++ [128] ++ List.replicate (127 - z0.length) 0 = (z0 ++ [128] ++ List.replicate (119 - z0.length) 0) ++ [(0 : Int), (0 : Int), (0 : Int), (0 : Int), (0 : Int), (0 : Int), (0 : Int), (0 : Int)] ++ List.replicate 0 0 := by
      have hz := HZL.out
      rw [show 127 - z0.length = (119 - z0.length) + (8 + 0) by omega, ← List.replicate_append_replicate, ← List.replicate_append_replicate]
      simp [List.replicate]
    have hE : ends z0 n = (z0 ++ [128] ++ List.replicate (119 - z0.length) 0) ++ lens n ++ List.replicate 0 0 := by
      have hz := HZL.out
      have hg : gap z0.length = 119 - z0.length := by unfold gap; omega
      unfold ends tail
      have ht : (z0 ++ [128] ++ List.replicate (gap z0.length) 0 ++ lens n).length = 128 := by rw [hg]; simp [lens]; omega
      rw [ht, hg]
      try rfl
    rw [hM] at HD2
    have HE := Lib.hid hE
    have HHL : Hid ((z0 ++ [128] ++ List.replicate (119 - z0.length) 0).length = 120) := by show _ = _; have hz := HZL.out; simp; omega
    obtain ⟨H, hH⟩ : ∃ H, H = z0 ++ [128] ++ List.replicate (119 - z0.length) 0 := ⟨_, rfl⟩
    obtain ⟨T, hT⟩ : ∃ T : List Int, T = List.replicate 0 0 := ⟨_, rfl⟩
    have HTL : Hid (T.length = 0) := by show _ = _; rw [hT]; simp
    rw [← hH] at HHL HE HD2
    rw [← hT] at HE HD2
    clear hH hT hM hE
    have hdec : decide (56 ≤ (len0 : Int)) = true := by simp; omega
    go_upto_region 8 with (fail)
    try simp only [hdec]
    clear hdec
    go_loopw [23] (fun v X => ∃ (k : Nat), k ≤ 8 ∧ v = .int .i64 (k : Int) ∧ Hid (BRow X gE 38 (H ++ (List.replicate (8 - k) (0 : Int) ++ (lens n).drop (8 - k)) ++ T)) ∧ Hid (Below w.heap.size w X)) (fun v _ => (8 - intOf v).toNat)
    case atStart => exact ⟨0, by omega, rfl, HD2, HL2⟩
    case round =>
      clear HD2 HL2
      obtain ⟨k, hk, rfl, HD, HL⟩ := hrel
      by_cases hk8 : k < 8
      · have hk07 : k = 0 ∨ k = 1 ∨ k = 2 ∨ k = 3 ∨ k = 4 ∨ k = 5 ∨ k = 6 ∨ k = 7 := by omega
        clear hk hk8
        rcases hk07 with rfl | rfl | rfl | rfl | rfl | rfl | rfl | rfl
        · have HDk : Hid (BRow wr gE 38 (H ++ [(0 : Int), (0 : Int), (0 : Int), (0 : Int), (0 : Int), (0 : Int), (0 : Int), (0 : Int)] ++ T)) := HD
          clear HD
          have hc := HDk.out.at (i := 127) (by have h1 := HHL.out; have h2 := HTL.out; simp [h1, h2])
          have hf := HDk.out.free 127
          obtain ⟨c, hcc⟩ : ∃ c, c = (H ++ [(0 : Int), (0 : Int), (0 : Int), (0 : Int), (0 : Int), (0 : Int), (0 : Int), (0 : Int)] ++ T).getD 127 0 := ⟨_, rfl⟩
          rw [← hcc] at hc
          clear hcc
          go_upto_region 10 with (fail)
          refine quiet_then 10 1 (by kernel_rfl) (by kernel_rfl) ?_
          simp only [List.take_succ_cons, List.take_zero]
          repeat (go_big_quiet_step (fail))
          refine wpQuiet_nil ?_
          intro nq
          have hc' : (wr.drewN nq).cell? ⟨gE, 127, none⟩ = some (.int .u8 c) := hc
          have hf' : (wr.drewN nq).frozen? ⟨gE, 127, none⟩ = false := hf
          refine anyS_one 10 (by kernel_rfl) rfl (fun K hK => ?_)
          go_simp
          rw [show (n : Int) * 8 % 256 = ((n * 8 % 256 : Nat) : Int) by omega]
          have HW : Hid (BRow (wr.drewN nq) gE 38 (H ++ [(0 : Int), (0 : Int), (0 : Int), (0 : Int), (0 : Int), (0 : Int), (0 : Int), (0 : Int)] ++ T)) := HDk.out
          have hp := HW.out.put 127 ((n * 8 % 256 : Nat) : Int)
          have hs : (H ++ [(0 : Int), (0 : Int), (0 : Int), (0 : Int), (0 : Int), (0 : Int), (0 : Int), (0 : Int)] ++ T).set 127 ((n * 8 % 256 : Nat) : Int) = H ++ [(0 : Int), (0 : Int), (0 : Int), (0 : Int), (0 : Int), (0 : Int), (0 : Int), ((n * 8 % 256 : Nat) : Int)] ++ T := by
            rw [show 127 = H.length + 7 by rw [HHL.out], List.append_assoc, List.set_append_right _ _ (by omega), Nat.add_sub_cancel_left]
            simp
          rw [hs] at hp
          have HP := Lib.hid hp.2
          have HPO := Lib.hid hp.1
          clear hp hs hc hf hc' hf' HW HDk
          refine hK.out _ _ trivial ?_
          clear hK K
          generalize World.setCell _ _ _ = X3 at HP HPO ⊢
          refine anyS_done (by kernel_rfl) ?_ _
          refine NoPanic.normal ?_
          go_wp2_with fail
          go_roundw
          case rel =>
            have hw0 : Hid (Below w.heap.size w (wr.drewN nq)) := below_drewN HL.out nq
            exact ⟨1, by omega, rfl, HP, Below.step hw0.out HPO.out (by have := HGE.out; omega) (Nat.le_refl _)⟩
          case measure => simp [intOf]
        · have HDk : Hid (BRow wr gE 38 (H ++ [(0 : Int), (0 : Int), (0 : Int), (0 : Int), (0 : Int), (0 : Int), (0 : Int), ((n * 8 % 256 : Nat) : Int)] ++ T)) := HD
          clear HD
          have hc := HDk.out.at (i := 126) (by have h1 := HHL.out; have h2 := HTL.out; simp [h1, h2])
          have hf := HDk.out.free 126
          obtain ⟨c, hcc⟩ : ∃ c, c = (H ++ [(0 : Int), (0 : Int), (0 : Int), (0 : Int), (0 : Int), (0 : Int), (0 : Int), ((n * 8 % 256 : Nat) : Int)] ++ T).getD 126 0 := ⟨_, rfl⟩
          rw [← hcc] at hc
          clear hcc
          go_upto_region 10 with (fail)
          refine quiet_then 10 1 (by kernel_rfl) (by kernel_rfl) ?_
          simp only [List.take_succ_cons, List.take_zero]
          repeat (go_big_quiet_step (fail))
          refine wpQuiet_nil ?_
          intro nq
          have hc' : (wr.drewN nq).cell? ⟨gE, 126, none⟩ = some (.int .u8 c) := hc
          have hf' : (wr.drewN nq).frozen? ⟨gE, 126, none⟩ = false := hf
          refine anyS_one 10 (by kernel_rfl) rfl (fun K hK => ?_)
          go_simp
          rw [show (n : Int) * 8 / 256 % 256 = ((n * 8 / 2 ^ 8 % 256 : Nat) : Int) by omega]
          have HW : Hid (BRow (wr.drewN nq) gE 38 (H ++ [(0 : Int), (0 : Int), (0 : Int), (0 : Int), (0 : Int), (0 : Int), (0 : Int), ((n * 8 % 256 : Nat) : Int)] ++ T)) := HDk.out
          have hp := HW.out.put 126 ((n * 8 / 2 ^ 8 % 256 : Nat) : Int)
          have hs : (H ++ [(0 : Int), (0 : Int), (0 : Int), (0 : Int), (0 : Int), (0 : Int), (0 : Int), ((n * 8 % 256 : Nat) : Int)] ++ T).set 126 ((n * 8 / 2 ^ 8 % 256 : Nat) : Int) = H ++ [(0 : Int), (0 : Int), (0 : Int), (0 : Int), (0 : Int), (0 : Int), ((n * 8 / 2 ^ 8 % 256 : Nat) : Int), ((n * 8 % 256 : Nat) : Int)] ++ T := by
            rw [show 126 = H.length + 6 by rw [HHL.out], List.append_assoc, List.set_append_right _ _ (by omega), Nat.add_sub_cancel_left]
            simp
          rw [hs] at hp
          have HP := Lib.hid hp.2
          have HPO := Lib.hid hp.1
          clear hp hs hc hf hc' hf' HW HDk
          refine hK.out _ _ trivial ?_
          clear hK K
          generalize World.setCell _ _ _ = X3 at HP HPO ⊢
          refine anyS_done (by kernel_rfl) ?_ _
          refine NoPanic.normal ?_
          go_wp2_with fail
          go_roundw
          case rel =>
            have hw0 : Hid (Below w.heap.size w (wr.drewN nq)) := below_drewN HL.out nq
            exact ⟨2, by omega, rfl, HP, Below.step hw0.out HPO.out (by have := HGE.out; omega) (Nat.le_refl _)⟩
          case measure => simp [intOf]
        · have HDk : Hid (BRow wr gE 38 (H ++ [(0 : Int), (0 : Int), (0 : Int), (0 : Int), (0 : Int), (0 : Int), ((n * 8 / 2 ^ 8 % 256 : Nat) : Int), ((n * 8 % 256 : Nat) : Int)] ++ T)) := HD
          clear HD
          have hc := HDk.out.at (i := 125) (by have h1 := HHL.out; have h2 := HTL.out; simp [h1, h2])
          have hf := HDk.out.free 125
          obtain ⟨c, hcc⟩ : ∃ c, c = (H ++ [(0 : Int), (0 : Int), (0 : Int), (0 : Int), (0 : Int), (0 : Int), ((n * 8 / 2 ^ 8 % 256 : Nat) : Int), ((n * 8 % 256 : Nat) : Int)] ++ T).getD 125 0 := ⟨_, rfl⟩
          rw [← hcc] at hc
          clear hcc
          go_upto_region 10 with (fail)
          refine quiet_then 10 1 (by kernel_rfl) (by kernel_rfl) ?_
          simp only [List.take_succ_cons, List.take_zero]
          repeat (go_big_quiet_step (fail))
          refine wpQuiet_nil ?_
          intro nq
          have hc' : (wr.drewN nq).cell? ⟨gE, 125, none⟩ = some (.int .u8 c) := hc
          have hf' : (wr.drewN nq).frozen? ⟨gE, 125, none⟩ = false := hf
          refine anyS_one 10 (by kernel_rfl) rfl (fun K hK => ?_)
          go_simp
          rw [show (n : Int) * 8 / 65536 % 256 = ((n * 8 / 2 ^ 16 % 256 : Nat) : Int) by omega]
          have HW : Hid (BRow (wr.drewN nq) gE 38 (H ++ [(0 : Int), (0 : Int), (0 : Int), (0 : Int), (0 : Int), (0 : Int), ((n * 8 / 2 ^ 8 % 256 : Nat) : Int), ((n * 8 % 256 : Nat) : Int)] ++ T)) := HDk.out
          have hp := HW.out.put 125 ((n * 8 / 2 ^ 16 % 256 : Nat) : Int)
          have hs : (H ++ [(0 : Int), (0 : Int), (0 : Int), (0 : Int), (0 : Int), (0 : Int), ((n * 8 / 2 ^ 8 % 256 : Nat) : Int), ((n * 8 % 256 : Nat) : Int)] ++ T).set 125 ((n * 8 / 2 ^ 16 % 256 : Nat) : Int) = H ++ [(0 : Int), (0 : Int), (0 : Int), (0 : Int), (0 : Int), ((n * 8 / 2 ^ 16 % 256 : Nat) : Int), ((n * 8 / 2 ^ 8 % 256 : Nat) : Int), ((n * 8 % 256 : Nat) : Int)] ++ T := by
            rw [show 125 = H.length + 5 by rw [HHL.out], List.append_assoc, List.set_append_right _ _ (by omega), Nat.add_sub_cancel_left]
            simp
          rw [hs] at hp
          have HP := Lib.hid hp.2
          have HPO := Lib.hid hp.1
          clear hp hs hc hf hc' hf' HW HDk
          refine hK.out _ _ trivial ?_
          clear hK K
          generalize World.setCell _ _ _ = X3 at HP HPO ⊢
          refine anyS_done (by kernel_rfl) ?_ _
          refine NoPanic.normal ?_
          go_wp2_with fail
          go_roundw
          case rel =>
            have hw0 : Hid (Below w.heap.size w (wr.drewN nq)) := below_drewN HL.out nq
            exact ⟨3, by omega, rfl, HP, Below.step hw0.out HPO.out (by have := HGE.out; omega) (Nat.le_refl _)⟩
          case measure => simp [intOf]
        · have HDk : Hid (BRow wr gE 38 (H ++ [(0 : Int), (0 : Int), (0 : Int), (0 : Int), (0 : Int), ((n * 8 / 2 ^ 16 % 256 : Nat) : Int), ((n * 8 / 2 ^ 8 % 256 : Nat) : Int), ((n * 8 % 256 : Nat) : Int)] ++ T)) := HD
          clear HD
          have hc := HDk.out.at (i := 124) (by have h1 := HHL.out; have h2 := HTL.out; simp [h1, h2])
          have hf := HDk.out.free 124
          obtain ⟨c, hcc⟩ : ∃ c, c = (H ++ [(0 : Int), (0 : Int), (0 : Int), (0 : Int), (0 : Int), ((n * 8 / 2 ^ 16 % 256 : Nat) : Int), ((n * 8 / 2 ^ 8 % 256 : Nat) : Int), ((n * 8 % 256 : Nat) : Int)] ++ T).getD 124 0 := ⟨_, rfl⟩
          rw [← hcc] at hc
          clear hcc
          go_upto_region 10 with (fail)
          refine quiet_then 10 1 (by kernel_rfl) (by kernel_rfl) ?_
          simp only [List.take_succ_cons, List.take_zero]
          repeat (go_big_quiet_step (fail))
          refine wpQuiet_nil ?_
          intro nq
          have hc' : (wr.drewN nq).cell? ⟨gE, 124, none⟩ = some (.int .u8 c) := hc
          have hf' : (wr.drewN nq).frozen? ⟨gE, 124, none⟩ = false := hf
          refine anyS_one 10 (by kernel_rfl) rfl (fun K hK => ?_)
          go_simp
          rw [show (n : Int) * 8 / 16777216 % 256 = ((n * 8 / 2 ^ 24 % 256 : Nat) : Int) by omega]
          have HW : Hid (BRow (wr.drewN nq) gE 38 (H ++ [(0 : Int), (0 : Int), (0 : Int), (0 : Int), (0 : Int), ((n * 8 / 2 ^ 16 % 256 : Nat) : Int), ((n * 8 / 2 ^ 8 % 256 : Nat) : Int), ((n * 8 % 256 : Nat) : Int)] ++ T)) := HDk.out
          have hp := HW.out.put 124 ((n * 8 / 2 ^ 24 % 256 : Nat) : Int)
          have hs : (H ++ [(0 : Int), (0 : Int), (0 : Int), (0 : Int), (0 : Int), ((n * 8 / 2 ^ 16 % 256 : Nat) : Int), ((n * 8 / 2 ^ 8 % 256 : Nat) : Int), ((n * 8 % 256 : Nat) : Int)] ++ T).set 124 ((n * 8 / 2 ^ 24 % 256 : Nat) : Int) = H ++ [(0 : Int), (0 : Int), (0 : Int), (0 : Int), ((n * 8 / 2 ^ 24 % 256 : Nat) : Int), ((n * 8 / 2 ^ 16 % 256 : Nat) : Int), ((n * 8 / 2 ^ 8 % 256 : Nat) : Int), ((n * 8 % 256 : Nat) : Int)] ++ T := by
            rw [show 124 = H.length + 4 by rw [HHL.out], List.append_assoc, List.set_append_right _ _ (by omega), Nat.add_sub_cancel_left]
            simp
          rw [hs] at hp
          have HP := Lib.hid hp.2
          have HPO := Lib.hid hp.1
          clear hp hs hc hf hc' hf' HW HDk
          refine hK.out _ _ trivial ?_
          clear hK K
          generalize World.setCell _ _ _ = X3 at HP HPO ⊢
          refine anyS_done (by kernel_rfl) ?_ _
          refine NoPanic.normal ?_
          go_wp2_with fail
          go_roundw
          case rel =>
            have hw0 : Hid (Below w.heap.size w (wr.drewN nq)) := below_drewN HL.out nq
            exact ⟨4, by omega, rfl, HP, Below.step hw0.out HPO.out (by have := HGE.out; omega) (Nat.le_refl _)⟩
          case measure => simp [intOf]
        · have HDk : Hid (BRow wr gE 38 (H ++ [(0 : Int), (0 : Int), (0 : Int), (0 : Int), ((n * 8 / 2 ^ 24 % 256 : Nat) : Int), ((n * 8 / 2 ^ 16 % 256 : Nat) : Int), ((n * 8 / 2 ^ 8 % 256 : Nat) : Int), ((n * 8 % 256 : Nat) : Int)] ++ T)) := HD
          clear HD
          have hc := HDk.out.at (i := 123) (by have h1 := HHL.out; have h2 := HTL.out; simp [h1, h2])
          have hf := HDk.out.free 123
          obtain ⟨c, hcc⟩ : ∃ c, c = (H ++ [(0 : Int), (0 : Int), (0 : Int), (0 : Int), ((n * 8 / 2 ^ 24 % 256 : Nat) : Int), ((n * 8 / 2 ^ 16 % 256 : Nat) : Int), ((n * 8 / 2 ^ 8 % 256 : Nat) : Int), ((n * 8 % 256 : Nat) : Int)] ++ T).getD 123 0 := ⟨_, rfl⟩
          rw [← hcc] at hc
          clear hcc
          go_upto_region 10 with (fail)
          refine quiet_then 10 1 (by kernel_rfl) (by kernel_rfl) ?_
          simp only [List.take_succ_cons, List.take_zero]
          repeat (go_big_quiet_step (fail))
          refine wpQuiet_nil ?_
          intro nq
          have hc' : (wr.drewN nq).cell? ⟨gE, 123, none⟩ = some (.int .u8 c) := hc
          have hf' : (wr.drewN nq).frozen? ⟨gE, 123, none⟩ = false := hf
          refine anyS_one 10 (by kernel_rfl) rfl (fun K hK => ?_)
          go_simp
          rw [show (n : Int) * 8 / 4294967296 % 256 = ((n * 8 / 2 ^ 32 % 256 : Nat) : Int) by omega]
          have HW : Hid (BRow (wr.drewN nq) gE 38 (H ++ [(0 : Int), (0 : Int), (0 : Int), (0 : Int), ((n * 8 / 2 ^ 24 % 256 : Nat) : Int), ((n * 8 / 2 ^ 16 % 256 : Nat) : Int), ((n * 8 / 2 ^ 8 % 256 : Nat) : Int), ((n * 8 % 256 : Nat) : Int)] ++ T)) := HDk.out
          have hp := HW.out.put 123 ((n * 8 / 2 ^ 32 % 256 : Nat) : Int)
          have hs : (H ++ [(0 : Int), (0 : Int), (0 : Int), (0 : Int), ((n * 8 / 2 ^ 24 % 256 : Nat) : Int), ((n * 8 / 2 ^ 16 % 256 : Nat) : Int), ((n * 8 / 2 ^ 8 % 256 : Nat) : Int), ((n * 8 % 256 : Nat) : Int)] ++ T).set 123 ((n * 8 / 2 ^ 32 % 256 : Nat) : Int) = H ++ [(0 : Int), (0 : Int), (0 : Int), ((n * 8 / 2 ^ 32 % 256 : Nat) : Int), ((n * 8 / 2 ^ 24 % 256 : Nat) : Int), ((n * 8 / 2 ^ 16 % 256 : Nat) : Int), ((n * 8 / 2 ^ 8 % 256 : Nat) : Int), ((n * 8 % 256 : Nat) : Int)] ++ T := by
            rw [show 123 = H.length + 3 by rw [HHL.out], List.append_assoc, List.set_append_right _ _ (by omega), Nat.add_sub_cancel_left]
            simp
          rw [hs] at hp
          have HP := Lib.hid hp.2
          have HPO := Lib.hid hp.1
          clear hp hs hc hf hc' hf' HW HDk
          refine hK.out _ _ trivial ?_
          clear hK K
          generalize World.setCell _ _ _ = X3 at HP HPO ⊢
          refine anyS_done (by kernel_rfl) ?_ _
          refine NoPanic.normal ?_
          go_wp2_with fail
          go_roundw
          case rel =>
            have hw0 : Hid (Below w.heap.size w (wr.drewN nq)) := below_drewN HL.out nq
            exact ⟨5, by omega, rfl, HP, Below.step hw0.out HPO.out (by have := HGE.out; omega) (Nat.le_refl _)⟩
          case measure => simp [intOf]
        · have HDk : Hid (BRow wr gE 38 (H ++ [(0 : Int), (0 : Int), (0 : Int), ((n * 8 / 2 ^ 32 % 256 : Nat) : Int), ((n * 8 / 2 ^ 24 % 256 : Nat) : Int), ((n * 8 / 2 ^ 16 % 256 : Nat) : Int), ((n * 8 / 2 ^ 8 % 256 : Nat) : Int), ((n * 8 % 256 : Nat) : Int)] ++ T)) := HD
          clear HD
          have hc := HDk.out.at (i := 122) (by have h1 := HHL.out; have h2 := HTL.out; simp [h1, h2])
          have hf := HDk.out.free 122
          obtain ⟨c, hcc⟩ : ∃ c, c = (H ++ [(0 : Int), (0 : Int), (0 : Int), ((n * 8 / 2 ^ 32 % 256 : Nat) : Int), ((n * 8 / 2 ^ 24 % 256 : Nat) : Int), ((n * 8 / 2 ^ 16 % 256 : Nat) : Int), ((n * 8 / 2 ^ 8 % 256 : Nat) : Int), ((n * 8 % 256 : Nat) : Int)] ++ T).getD 122 0 := ⟨_, rfl⟩
          rw [← hcc] at hc
          clear hcc
          go_upto_region 10 with (fail)
          refine quiet_then 10 1 (by kernel_rfl) (by kernel_rfl) ?_
          simp only [List.take_succ_cons, List.take_zero]
          repeat (go_big_quiet_step (fail))
          refine wpQuiet_nil ?_
          intro nq
          have hc' : (wr.drewN nq).cell? ⟨gE, 122, none⟩ = some (.int .u8 c) := hc
          have hf' : (wr.drewN nq).frozen? ⟨gE, 122, none⟩ = false := hf
          refine anyS_one 10 (by kernel_rfl) rfl (fun K hK => ?_)
          go_simp
          rw [show (n : Int) * 8 / 1099511627776 % 256 = ((n * 8 / 2 ^ 40 % 256 : Nat) : Int) by omega]
          have HW : Hid (BRow (wr.drewN nq) gE 38 (H ++ [(0 : Int), (0 : Int), (0 : Int), ((n * 8 / 2 ^ 32 % 256 : Nat) : Int), ((n * 8 / 2 ^ 24 % 256 : Nat) : Int), ((n * 8 / 2 ^ 16 % 256 : Nat) : Int), ((n * 8 / 2 ^ 8 % 256 : Nat) : Int), ((n * 8 % 256 : Nat) : Int)] ++ T)) := HDk.out
          have hp := HW.out.put 122 ((n * 8 / 2 ^ 40 % 256 : Nat) : Int)
          have hs : (H ++ [(0 : Int), (0 : Int), (0 : Int), ((n * 8 / 2 ^ 32 % 256 : Nat) : Int), ((n * 8 / 2 ^ 24 % 256 : Nat) : Int), ((n * 8 / 2 ^ 16 % 256 : Nat) : Int), ((n * 8 / 2 ^ 8 % 256 : Nat) : Int), ((n * 8 % 256 : Nat) : Int)] ++ T).set 122 ((n * 8 / 2 ^ 40 % 256 : Nat) : Int) = H ++ [(0 : Int), (0 : Int), ((n * 8 / 2 ^ 40 % 256 : Nat) : Int), ((n * 8 / 2 ^ 32 % 256 : Nat) : Int), ((n * 8 / 2 ^ 24 % 256 : Nat) : Int), ((n * 8 / 2 ^ 16 % 256 : Nat) : Int), ((n * 8 / 2 ^ 8 % 256 : Nat) : Int), ((n * 8 % 256 : Nat) : Int)] ++ T := by
            rw [show 122 = H.length + 2 by rw [HHL.out], List.append_assoc, List.set_append_right _ _ (by omega), Nat.add_sub_cancel_left]
            simp
          rw [hs] at hp
          have HP := Lib.hid hp.2
          have HPO := Lib.hid hp.1
          clear hp hs hc hf hc' hf' HW HDk
          refine hK.out _ _ trivial ?_
          clear hK K
          generalize World.setCell _ _ _ = X3 at HP HPO ⊢
          refine anyS_done (by kernel_rfl) ?_ _
          refine NoPanic.normal ?_
          go_wp2_with fail
          go_roundw
          case rel =>
            have hw0 : Hid (Below w.heap.size w (wr.drewN nq)) := below_drewN HL.out nq
            exact ⟨6, by omega, rfl, HP, Below.step hw0.out HPO.out (by have := HGE.out; omega) (Nat.le_refl _)⟩
          case measure => simp [intOf]
        · have HDk : Hid (BRow wr gE 38 (H ++ [(0 : Int), (0 : Int), ((n * 8 / 2 ^ 40 % 256 : Nat) : Int), ((n * 8 / 2 ^ 32 % 256 : Nat) : Int), ((n * 8 / 2 ^ 24 % 256 : Nat) : Int), ((n * 8 / 2 ^ 16 % 256 : Nat) : Int), ((n * 8 / 2 ^ 8 % 256 : Nat) : Int), ((n * 8 % 256 : Nat) : Int)] ++ T)) := HD
          clear HD
          have hc := HDk.out.at (i := 121) (by have h1 := HHL.out; have h2 := HTL.out; simp [h1, h2])
          have hf := HDk.out.free 121
          obtain ⟨c, hcc⟩ : ∃ c, c = (H ++ [(0 : Int), (0 : Int), ((n * 8 / 2 ^ 40 % 256 : Nat) : Int), ((n * 8 / 2 ^ 32 % 256 : Nat) : Int), ((n * 8 / 2 ^ 24 % 256 : Nat) : Int), ((n * 8 / 2 ^ 16 % 256 : Nat) : Int), ((n * 8 / 2 ^ 8 % 256 : Nat) : Int), ((n * 8 % 256 : Nat) : Int)] ++ T).getD 121 0 := ⟨_, rfl⟩
          rw [← hcc] at hc
          clear hcc
          go_upto_region 10 with (fail)
          refine quiet_then 10 1 (by kernel_rfl) (by kernel_rfl) ?_
          simp only [List.take_succ_cons, List.take_zero]
          repeat (go_big_quiet_step (fail))
          refine wpQuiet_nil ?_
          intro nq
          have hc' : (wr.drewN nq).cell? ⟨gE, 121, none⟩ = some (.int .u8 c) := hc
          have hf' : (wr.drewN nq).frozen? ⟨gE, 121, none⟩ = false := hf
          refine anyS_one 10 (by kernel_rfl) rfl (fun K hK => ?_)
          go_simp
          rw [show (n : Int) * 8 / 281474976710656 = ((n * 8 / 2 ^ 48 % 256 : Nat) : Int) by omega]
          have HW : Hid (BRow (wr.drewN nq) gE 38 (H ++ [(0 : Int), (0 : Int), ((n * 8 / 2 ^ 40 % 256 : Nat) : Int), ((n * 8 / 2 ^ 32 % 256 : Nat) : Int), ((n * 8 / 2 ^ 24 % 256 : Nat) : Int), ((n * 8 / 2 ^ 16 % 256 : Nat) : Int), ((n * 8 / 2 ^ 8 % 256 : Nat) : Int), ((n * 8 % 256 : Nat) : Int)] ++ T)) := HDk.out
          have hp := HW.out.put 121 ((n * 8 / 2 ^ 48 % 256 : Nat) : Int)
          have hs : (H ++ [(0 : Int), (0 : Int), ((n * 8 / 2 ^ 40 % 256 : Nat) : Int), ((n * 8 / 2 ^ 32 % 256 : Nat) : Int), ((n * 8 / 2 ^ 24 % 256 : Nat) : Int), ((n * 8 / 2 ^ 16 % 256 : Nat) : Int), ((n * 8 / 2 ^ 8 % 256 : Nat) : Int), ((n * 8 % 256 : Nat) : Int)] ++ T).set 121 ((n * 8 / 2 ^ 48 % 256 : Nat) : Int) = H ++ [(0 : Int), ((n * 8 / 2 ^ 48 % 256 : Nat) : Int), ((n * 8 / 2 ^ 40 % 256 : Nat) : Int), ((n * 8 / 2 ^ 32 % 256 : Nat) : Int), ((n * 8 / 2 ^ 24 % 256 : Nat) : Int), ((n * 8 / 2 ^ 16 % 256 : Nat) : Int), ((n * 8 / 2 ^ 8 % 256 : Nat) : Int), ((n * 8 % 256 : Nat) : Int)] ++ T := by
            rw [show 121 = H.length + 1 by rw [HHL.out], List.append_assoc, List.set_append_right _ _ (by omega), Nat.add_sub_cancel_left]
            simp
          rw [hs] at hp
          have HP := Lib.hid hp.2
          have HPO := Lib.hid hp.1
          clear hp hs hc hf hc' hf' HW HDk
          refine hK.out _ _ trivial ?_
          clear hK K
          generalize World.setCell _ _ _ = X3 at HP HPO ⊢
          refine anyS_done (by kernel_rfl) ?_ _
          refine NoPanic.normal ?_
          go_wp2_with fail
          go_roundw
          case rel =>
            have hw0 : Hid (Below w.heap.size w (wr.drewN nq)) := below_drewN HL.out nq
            exact ⟨7, by omega, rfl, HP, Below.step hw0.out HPO.out (by have := HGE.out; omega) (Nat.le_refl _)⟩
          case measure => simp [intOf]
        · have HDk : Hid (BRow wr gE 38 (H ++ [(0 : Int), ((n * 8 / 2 ^ 48 % 256 : Nat) : Int), ((n * 8 / 2 ^ 40 % 256 : Nat) : Int), ((n * 8 / 2 ^ 32 % 256 : Nat) : Int), ((n * 8 / 2 ^ 24 % 256 : Nat) : Int), ((n * 8 / 2 ^ 16 % 256 : Nat) : Int), ((n * 8 / 2 ^ 8 % 256 : Nat) : Int), ((n * 8 % 256 : Nat) : Int)] ++ T)) := HD
          clear HD
          have hc := HDk.out.at (i := 120) (by have h1 := HHL.out; have h2 := HTL.out; simp [h1, h2])
          have hf := HDk.out.free 120
          obtain ⟨c, hcc⟩ : ∃ c, c = (H ++ [(0 : Int), ((n * 8 / 2 ^ 48 % 256 : Nat) : Int), ((n * 8 / 2 ^ 40 % 256 : Nat) : Int), ((n * 8 / 2 ^ 32 % 256 : Nat) : Int), ((n * 8 / 2 ^ 24 % 256 : Nat) : Int), ((n * 8 / 2 ^ 16 % 256 : Nat) : Int), ((n * 8 / 2 ^ 8 % 256 : Nat) : Int), ((n * 8 % 256 : Nat) : Int)] ++ T).getD 120 0 := ⟨_, rfl⟩
          rw [← hcc] at hc
          clear hcc
          go_upto_region 10 with (fail)
          refine quiet_then 10 1 (by kernel_rfl) (by kernel_rfl) ?_
          simp only [List.take_succ_cons, List.take_zero]
          repeat (go_big_quiet_step (fail))
          refine wpQuiet_nil ?_
          intro nq
          have hc' : (wr.drewN nq).cell? ⟨gE, 120, none⟩ = some (.int .u8 c) := hc
          have hf' : (wr.drewN nq).frozen? ⟨gE, 120, none⟩ = false := hf
          refine anyS_one 10 (by kernel_rfl) rfl (fun K hK => ?_)
          go_simp
          rw [show (n : Int) * 8 / 72057594037927936 = ((n * 8 / 2 ^ 56 % 256 : Nat) : Int) by omega]
          have HW : Hid (BRow (wr.drewN nq) gE 38 (H ++ [(0 : Int), ((n * 8 / 2 ^ 48 % 256 : Nat) : Int), ((n * 8 / 2 ^ 40 % 256 : Nat) : Int), ((n * 8 / 2 ^ 32 % 256 : Nat) : Int), ((n * 8 / 2 ^ 24 % 256 : Nat) : Int), ((n * 8 / 2 ^ 16 % 256 : Nat) : Int), ((n * 8 / 2 ^ 8 % 256 : Nat) : Int), ((n * 8 % 256 : Nat) : Int)] ++ T)) := HDk.out
          have hp := HW.out.put 120 ((n * 8 / 2 ^ 56 % 256 : Nat) : Int)
          have hs : (H ++ [(0 : Int), ((n * 8 / 2 ^ 48 % 256 : Nat) : Int), ((n * 8 / 2 ^ 40 % 256 : Nat) : Int), ((n * 8 / 2 ^ 32 % 256 : Nat) : Int), ((n * 8 / 2 ^ 24 % 256 : Nat) : Int), ((n * 8 / 2 ^ 16 % 256 : Nat) : Int), ((n * 8 / 2 ^ 8 % 256 : Nat) : Int), ((n * 8 % 256 : Nat) : Int)] ++ T).set 120 ((n * 8 / 2 ^ 56 % 256 : Nat) : Int) = H ++ [((n * 8 / 2 ^ 56 % 256 : Nat) : Int), ((n * 8 / 2 ^ 48 % 256 : Nat) : Int), ((n * 8 / 2 ^ 40 % 256 : Nat) : Int), ((n * 8 / 2 ^ 32 % 256 : Nat) : Int), ((n * 8 / 2 ^ 24 % 256 : Nat) : Int), ((n * 8 / 2 ^ 16 % 256 : Nat) : Int), ((n * 8 / 2 ^ 8 % 256 : Nat) : Int), ((n * 8 % 256 : Nat) : Int)] ++ T := by
            rw [show 120 = H.length + 0 by rw [HHL.out], List.append_assoc, List.set_append_right _ _ (by omega), Nat.add_sub_cancel_left]
            simp
          rw [hs] at hp
          have HP := Lib.hid hp.2
          have HPO := Lib.hid hp.1
          clear hp hs hc hf hc' hf' HW HDk
          refine hK.out _ _ trivial ?_
          clear hK K
          generalize World.setCell _ _ _ = X3 at HP HPO ⊢
          refine anyS_done (by kernel_rfl) ?_ _
          refine NoPanic.normal ?_
          go_wp2_with fail
          go_roundw
          case rel =>
            have hw0 : Hid (Below w.heap.size w (wr.drewN nq)) := below_drewN HL.out nq
            exact ⟨8, by omega, rfl, HP, Below.step hw0.out HPO.out (by have := HGE.out; omega) (Nat.le_refl _)⟩
          case measure => simp [intOf]
      · have hk8' : k = 8 := by omega
        rw [hk8'] at HD
        clear hk8'
        have HD8 : Hid (BRow wr gE 38 (ends z0 n)) := by rw [HE.out]; exact HD
        clear HD
        have hel : (ends z0 n).length = 128 := by rw [HE.out]; simp [HHL.out, HTL.out, lens]
        obtain ⟨E, hE⟩ : ∃ E, E = ends z0 n := ⟨_, rfl⟩
        rw [← hE] at HD8 hel
        have HEE := Lib.hid hE
        have HS : Hid ((Tryd.prog.info? 38).map (·.size) = some (bts E).toArray.size) := by rw [List.size_toArray, bts_length, hel]; exact info_e
        clear hE hel
        go_wp2_with (first
          | (refine wpList_load_row rfl 38 (.tmp 4) rfl gE rfl 38 (bts E).toArray (0, 0) _ HD8.out und_e rfl HS.out ?_)
          | (refine wpList_store_row rfl 38 (.tmp 4) (.tmp 37) rfl gE _ rfl rfl 38 _ HD8.out HS.out rfl (bts_all _) ?_))
        have hrow := setRow_heap wr gE _ (bts E).toArray _ _ HD8.out
        exact bodyPost_ret (v := .agg (bts E).toArray) (results_cell_row (P := Tryd.prog) rfl _ _ gE 38 _ (0, 0) _ rfl hrow und_e rfl HS.out) rfl ⟨by rw [HEE.out], below_setRow HL.out (by have := HGE.out; omega) _⟩
end Go.Proofs.YtlamjdpifhpofaaDoor
