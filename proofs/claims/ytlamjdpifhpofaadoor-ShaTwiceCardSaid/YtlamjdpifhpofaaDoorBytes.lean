/- The program's sum.bytes. -/
import Derived.Test.YtlamjdpifhpofaaDoorMixed
namespace Go.Proofs.YtlamjdpifhpofaaDoor
open Go.RowKit Sha
set_option linter.unusedVariables false
set_option linter.unusedSimpArgs false

/-- a sum under way: its first bytes stand there -/
def OutRow (w : World) (g : Nat) (l : List Int) : Prop := w.heap[g]? = some (.cells (cur l) 27 (0, 0))

section
variable {w w' : World} {g : Nat} {l : List Int}
theorem OutRow.lt (h : OutRow w g l) : g < w.heap.size := (Array.getElem?_eq_some_iff.1 h).1
theorem OutRow.free (h : OutRow w g l) (i : Nat) : w.frozen? ⟨g, i, none⟩ = false := by
  unfold OutRow at h
  simp [World.frozen?, h]
theorem OutRow.at (h : OutRow w g l) {k : Nat} (hk : l.length ≤ k) (hk2 : k < 32) : w.cell? ⟨g, k, none⟩ = some (.int .u8 0) := by
  unfold OutRow at h
  simp only [World.cell?, h]
  unfold cur splice
  simp only [List.take_zero, List.nil_append, Nat.zero_add, List.getElem?_toArray, bts_length]
  rw [List.getElem?_append_right (by rw [bts_length]; exact hk), bts_length, List.getElem?_drop, show l.length + (k - l.length) = k by omega]
  unfold noughts
  rw [List.getElem?_replicate, if_pos hk2]
  simp
theorem OutRow.only {r : Nat} (h : OutRow w g l) (ho : Only r w w') (hne : g ≠ r) : OutRow w' g l := by
  unfold OutRow
  rw [ho.block g h.lt (by simpa using hne)]
  exact h
theorem OutRow.keep (h : OutRow w g l) (hb : Below w.heap.size w w') : OutRow w' g l := by
  unfold OutRow
  rw [hb.block g h.lt]
  exact h
theorem OutRow.put (h : OutRow w g l) {k : Nat} (hk : l.length = k) (hk2 : k < 32) (b : Int) : Only g w (w.setCell ⟨g, k, none⟩ (.int .u8 b)) ∧ OutRow (w.setCell ⟨g, k, none⟩ (.int .u8 b)) g (l ++ [b]) := by
  have h0 := only_setCell w g k _ _ (.int .u8 b) h
  refine ⟨h0.1, ?_⟩
  unfold OutRow
  rw [h0.2]
  subst hk
  rw [cur_put hk2]
end

theorem out_length (s : St) : (out s).length = 32 := rfl
theorem out_byte (s : St) : ∀ c ∈ out s, Byte c := by
  intro c hc
  obtain ⟨x, _, hx⟩ := List.mem_flatMap.1 hc
  simp only [Sha.bytes, List.mem_cons, List.not_mem_nil, or_false] at hx
  rcases hx with rfl | rfl | rfl | rfl <;> exact ⟨by omega, by omega⟩

theorem out_sum (s : St) : Sum (cur (out s)) (out s) := ⟨by rw [cur_all (out_length s)], out_length s, out_byte s⟩

theorem b0_val (x : W) : (x.toNat : Int) / (16777216 : Int) = (((x >>> 24).toNat % 256 : Nat) : Int) := by
  have h : (x.toNat : Int) / (16777216 : Int) = ((x >>> 24).toNat : Int) := shr_val x 24
  have := x.isLt
  omega
theorem b1_val (x : W) : (x.toNat : Int) / (65536 : Int) % (256 : Int) = (((x >>> 16).toNat % 256 : Nat) : Int) := by
  have h : (x.toNat : Int) / (65536 : Int) = ((x >>> 16).toNat : Int) := shr_val x 16
  rw [h]; rfl
theorem b2_val (x : W) : (x.toNat : Int) / (256 : Int) % (256 : Int) = (((x >>> 8).toNat % 256 : Nat) : Int) := by
  have h : (x.toNat : Int) / (256 : Int) = ((x >>> 8).toNat : Int) := shr_val x 8
  rw [h]; rfl
theorem b3_val (x : W) : (x.toNat : Int) % (256 : Int) = ((x.toNat % 256 : Nat) : Int) := rfl

set_option maxRecDepth 100000 in
set_option maxHeartbeats 16000000 in
theorem bytes_any (s : St) (vs : Array Value) (hvs : vs = (us s.list).toArray) (w : World) :
    Calls Tryd.prog 10 #[.agg vs] w fun e w' => e = .returned (.agg (cur (out s))) ∧ Below w.heap.size w w' := by
  obtain ⟨X, hX⟩ : ∃ X, X = (w.alloc (.cells vs 33)).alloc (.cells noughts.toArray 27) := ⟨_, rfl⟩
  have HR0 : Hid (Row X w.heap.size 33 s.list) := by
    have h : Row (w.alloc (.cells vs 33)) w.heap.size 33 s.list := by rw [hvs]; exact heap_alloc_new w _
    rw [hX]
    exact h.keep ((Below.refl _ _).alloc (Nat.le_refl _) _)
  have HD0 : Hid (OutRow X (w.heap.size + 1) []) := by
    have h := heap_alloc_new (w.alloc (.cells vs 33)) (.cells noughts.toArray 27)
    have e : (w.alloc (.cells vs 33)).heap.size = w.heap.size + 1 := by simp
    rw [← hX, e, ← cur_nil] at h
    exact h
  have HL0 : Hid (Below w.heap.size w X) := by rw [hX]; exact ((Below.refl _ _).alloc (Nat.le_refl _) _).alloc (by simp) _
  have HX := Lib.hid hX
  clear hX hvs
  obtain ⟨a, b, c, d, e, f, g, h⟩ := s
  go_enter Tryd.func10, Tryd.ntmps10
  go_upto_region 1 with (fail)
  rw [← noughts_eq, ← HX.out]
  obtain ⟨gO, hgO⟩ : ∃ g, g = w.heap.size + 1 := ⟨_, rfl⟩
  obtain ⟨gS, hgS⟩ : ∃ g, g = w.heap.size := ⟨_, rfl⟩
  rw [← hgO] at HD0
  rw [← hgS] at HR0
  rw [← hgO, ← hgS]
  have HG : Hid (gS < gO ∧ gS = w.heap.size) := ⟨by omega, hgS⟩
  clear hgO hgS HX
  go_wp2_with fail
  go_loopw [4] (fun v X => ∃ (k : Nat), k ≤ 32 ∧ v = .int .i64 (k : Int) ∧ Hid (Row X gS 33 [a, b, c, d, e, f, g, h]) ∧ Hid (OutRow X gO ((out ⟨a, b, c, d, e, f, g, h⟩).take k)) ∧ Hid (Below w.heap.size w X)) (fun v _ => (32 - intOf v).toNat)
  case atStart => exact ⟨0, by omega, rfl, HR0, HD0, HL0⟩
  case round =>
    clear HR0 HD0 HL0
    obtain ⟨k, hk, rfl, HR, HD, HL⟩ := hrel
    by_cases hk8 : k < 32
    · have hkk : k = 0 ∨ k = 1 ∨ k = 2 ∨ k = 3 ∨ k = 4 ∨ k = 5 ∨ k = 6 ∨ k = 7 ∨ k = 8 ∨ k = 9 ∨ k = 10 ∨ k = 11 ∨ k = 12 ∨ k = 13 ∨ k = 14 ∨ k = 15 ∨ k = 16 ∨ k = 17 ∨ k = 18 ∨ k = 19 ∨ k = 20 ∨ k = 21 ∨ k = 22 ∨ k = 23 ∨ k = 24 ∨ k = 25 ∨ k = 26 ∨ k = 27 ∨ k = 28 ∨ k = 29 ∨ k = 30 ∨ k = 31 := by omega
      clear hk hk8
      rcases hkk with rfl | rfl | rfl | rfl | rfl | rfl | rfl | rfl | rfl | rfl | rfl | rfl | rfl | rfl | rfl | rfl | rfl | rfl | rfl | rfl | rfl | rfl | rfl | rfl | rfl | rfl | rfl | rfl | rfl | rfl | rfl | rfl
      · have hc : wr.cell? ⟨gS, 0, none⟩ = some (.int .u32 (a.toNat : Int)) := HR.out.at (i := 0) (show 0 < 8 by omega)
        have ho : wr.cell? ⟨gO, 0, none⟩ = some (.int .u8 0) := HD.out.at (k := 0) (Nat.le_refl _) (by omega)
        have hf : wr.frozen? ⟨gO, 0, none⟩ = false := HD.out.free 0
        go_wp2_with fail
        rw [b0_val]
        have hp := HD.out.put (k := 0) rfl (by omega) ((((a >>> 24).toNat % 256 : Nat) : Nat) : Int)
        have HP : Hid (OutRow (wr.setCell ⟨gO, 0, none⟩ (.int .u8 ((((a >>> 24).toNat % 256 : Nat) : Nat) : Int))) gO ((out ⟨a, b, c, d, e, f, g, h⟩).take 1)) := hp.2
        have HPO := Lib.hid hp.1
        clear hp hc hf ho HD
        generalize World.setCell _ _ _ = X3 at HP HPO ⊢
        exact ⟨⟨1, by omega, rfl, HR.out.only HPO.out (by have := HG.out; omega), HP, Below.step HL.out HPO.out (by have := HG.out; omega) (Nat.le_refl _)⟩, by simp [intOf]⟩
      · have hc : wr.cell? ⟨gS, 0, none⟩ = some (.int .u32 (a.toNat : Int)) := HR.out.at (i := 0) (show 0 < 8 by omega)
        have ho : wr.cell? ⟨gO, 1, none⟩ = some (.int .u8 0) := HD.out.at (k := 1) (Nat.le_refl _) (by omega)
        have hf : wr.frozen? ⟨gO, 1, none⟩ = false := HD.out.free 1
        go_wp2_with fail
        rw [b1_val]
        have hp := HD.out.put (k := 1) rfl (by omega) ((((a >>> 16).toNat % 256 : Nat) : Nat) : Int)
        have HP : Hid (OutRow (wr.setCell ⟨gO, 1, none⟩ (.int .u8 ((((a >>> 16).toNat % 256 : Nat) : Nat) : Int))) gO ((out ⟨a, b, c, d, e, f, g, h⟩).take 2)) := hp.2
        have HPO := Lib.hid hp.1
        clear hp hc hf ho HD
        generalize World.setCell _ _ _ = X3 at HP HPO ⊢
        exact ⟨⟨2, by omega, rfl, HR.out.only HPO.out (by have := HG.out; omega), HP, Below.step HL.out HPO.out (by have := HG.out; omega) (Nat.le_refl _)⟩, by simp [intOf]⟩
      · have hc : wr.cell? ⟨gS, 0, none⟩ = some (.int .u32 (a.toNat : Int)) := HR.out.at (i := 0) (show 0 < 8 by omega)
        have ho : wr.cell? ⟨gO, 2, none⟩ = some (.int .u8 0) := HD.out.at (k := 2) (Nat.le_refl _) (by omega)
        have hf : wr.frozen? ⟨gO, 2, none⟩ = false := HD.out.free 2
        go_wp2_with fail
        rw [b2_val]
        have hp := HD.out.put (k := 2) rfl (by omega) ((((a >>> 8).toNat % 256 : Nat) : Nat) : Int)
        have HP : Hid (OutRow (wr.setCell ⟨gO, 2, none⟩ (.int .u8 ((((a >>> 8).toNat % 256 : Nat) : Nat) : Int))) gO ((out ⟨a, b, c, d, e, f, g, h⟩).take 3)) := hp.2
        have HPO := Lib.hid hp.1
        clear hp hc hf ho HD
        generalize World.setCell _ _ _ = X3 at HP HPO ⊢
        exact ⟨⟨3, by omega, rfl, HR.out.only HPO.out (by have := HG.out; omega), HP, Below.step HL.out HPO.out (by have := HG.out; omega) (Nat.le_refl _)⟩, by simp [intOf]⟩
      · have hc : wr.cell? ⟨gS, 0, none⟩ = some (.int .u32 (a.toNat : Int)) := HR.out.at (i := 0) (show 0 < 8 by omega)
        have ho : wr.cell? ⟨gO, 3, none⟩ = some (.int .u8 0) := HD.out.at (k := 3) (Nat.le_refl _) (by omega)
        have hf : wr.frozen? ⟨gO, 3, none⟩ = false := HD.out.free 3
        go_wp2_with fail
        rw [b3_val]
        have hp := HD.out.put (k := 3) rfl (by omega) ((((a).toNat % 256 : Nat) : Nat) : Int)
        have HP : Hid (OutRow (wr.setCell ⟨gO, 3, none⟩ (.int .u8 ((((a).toNat % 256 : Nat) : Nat) : Int))) gO ((out ⟨a, b, c, d, e, f, g, h⟩).take 4)) := hp.2
        have HPO := Lib.hid hp.1
        clear hp hc hf ho HD
        generalize World.setCell _ _ _ = X3 at HP HPO ⊢
        exact ⟨⟨4, by omega, rfl, HR.out.only HPO.out (by have := HG.out; omega), HP, Below.step HL.out HPO.out (by have := HG.out; omega) (Nat.le_refl _)⟩, by simp [intOf]⟩
      · have hc : wr.cell? ⟨gS, 1, none⟩ = some (.int .u32 (b.toNat : Int)) := HR.out.at (i := 1) (show 1 < 8 by omega)
        have ho : wr.cell? ⟨gO, 4, none⟩ = some (.int .u8 0) := HD.out.at (k := 4) (Nat.le_refl _) (by omega)
        have hf : wr.frozen? ⟨gO, 4, none⟩ = false := HD.out.free 4
        go_wp2_with fail
        rw [b0_val]
        have hp := HD.out.put (k := 4) rfl (by omega) ((((b >>> 24).toNat % 256 : Nat) : Nat) : Int)
        have HP : Hid (OutRow (wr.setCell ⟨gO, 4, none⟩ (.int .u8 ((((b >>> 24).toNat % 256 : Nat) : Nat) : Int))) gO ((out ⟨a, b, c, d, e, f, g, h⟩).take 5)) := hp.2
        have HPO := Lib.hid hp.1
        clear hp hc hf ho HD
        generalize World.setCell _ _ _ = X3 at HP HPO ⊢
        exact ⟨⟨5, by omega, rfl, HR.out.only HPO.out (by have := HG.out; omega), HP, Below.step HL.out HPO.out (by have := HG.out; omega) (Nat.le_refl _)⟩, by simp [intOf]⟩
      · have hc : wr.cell? ⟨gS, 1, none⟩ = some (.int .u32 (b.toNat : Int)) := HR.out.at (i := 1) (show 1 < 8 by omega)
        have ho : wr.cell? ⟨gO, 5, none⟩ = some (.int .u8 0) := HD.out.at (k := 5) (Nat.le_refl _) (by omega)
        have hf : wr.frozen? ⟨gO, 5, none⟩ = false := HD.out.free 5
        go_wp2_with fail
        rw [b1_val]
        have hp := HD.out.put (k := 5) rfl (by omega) ((((b >>> 16).toNat % 256 : Nat) : Nat) : Int)
        have HP : Hid (OutRow (wr.setCell ⟨gO, 5, none⟩ (.int .u8 ((((b >>> 16).toNat % 256 : Nat) : Nat) : Int))) gO ((out ⟨a, b, c, d, e, f, g, h⟩).take 6)) := hp.2
        have HPO := Lib.hid hp.1
        clear hp hc hf ho HD
        generalize World.setCell _ _ _ = X3 at HP HPO ⊢
        exact ⟨⟨6, by omega, rfl, HR.out.only HPO.out (by have := HG.out; omega), HP, Below.step HL.out HPO.out (by have := HG.out; omega) (Nat.le_refl _)⟩, by simp [intOf]⟩
      · have hc : wr.cell? ⟨gS, 1, none⟩ = some (.int .u32 (b.toNat : Int)) := HR.out.at (i := 1) (show 1 < 8 by omega)
        have ho : wr.cell? ⟨gO, 6, none⟩ = some (.int .u8 0) := HD.out.at (k := 6) (Nat.le_refl _) (by omega)
        have hf : wr.frozen? ⟨gO, 6, none⟩ = false := HD.out.free 6
        go_wp2_with fail
        rw [b2_val]
        have hp := HD.out.put (k := 6) rfl (by omega) ((((b >>> 8).toNat % 256 : Nat) : Nat) : Int)
        have HP : Hid (OutRow (wr.setCell ⟨gO, 6, none⟩ (.int .u8 ((((b >>> 8).toNat % 256 : Nat) : Nat) : Int))) gO ((out ⟨a, b, c, d, e, f, g, h⟩).take 7)) := hp.2
        have HPO := Lib.hid hp.1
        clear hp hc hf ho HD
        generalize World.setCell _ _ _ = X3 at HP HPO ⊢
        exact ⟨⟨7, by omega, rfl, HR.out.only HPO.out (by have := HG.out; omega), HP, Below.step HL.out HPO.out (by have := HG.out; omega) (Nat.le_refl _)⟩, by simp [intOf]⟩
      · have hc : wr.cell? ⟨gS, 1, none⟩ = some (.int .u32 (b.toNat : Int)) := HR.out.at (i := 1) (show 1 < 8 by omega)
        have ho : wr.cell? ⟨gO, 7, none⟩ = some (.int .u8 0) := HD.out.at (k := 7) (Nat.le_refl _) (by omega)
        have hf : wr.frozen? ⟨gO, 7, none⟩ = false := HD.out.free 7
        go_wp2_with fail
        rw [b3_val]
        have hp := HD.out.put (k := 7) rfl (by omega) ((((b).toNat % 256 : Nat) : Nat) : Int)
        have HP : Hid (OutRow (wr.setCell ⟨gO, 7, none⟩ (.int .u8 ((((b).toNat % 256 : Nat) : Nat) : Int))) gO ((out ⟨a, b, c, d, e, f, g, h⟩).take 8)) := hp.2
        have HPO := Lib.hid hp.1
        clear hp hc hf ho HD
        generalize World.setCell _ _ _ = X3 at HP HPO ⊢
        exact ⟨⟨8, by omega, rfl, HR.out.only HPO.out (by have := HG.out; omega), HP, Below.step HL.out HPO.out (by have := HG.out; omega) (Nat.le_refl _)⟩, by simp [intOf]⟩
      · have hc : wr.cell? ⟨gS, 2, none⟩ = some (.int .u32 (c.toNat : Int)) := HR.out.at (i := 2) (show 2 < 8 by omega)
        have ho : wr.cell? ⟨gO, 8, none⟩ = some (.int .u8 0) := HD.out.at (k := 8) (Nat.le_refl _) (by omega)
        have hf : wr.frozen? ⟨gO, 8, none⟩ = false := HD.out.free 8
        go_wp2_with fail
        rw [b0_val]
        have hp := HD.out.put (k := 8) rfl (by omega) ((((c >>> 24).toNat % 256 : Nat) : Nat) : Int)
        have HP : Hid (OutRow (wr.setCell ⟨gO, 8, none⟩ (.int .u8 ((((c >>> 24).toNat % 256 : Nat) : Nat) : Int))) gO ((out ⟨a, b, c, d, e, f, g, h⟩).take 9)) := hp.2
        have HPO := Lib.hid hp.1
        clear hp hc hf ho HD
        generalize World.setCell _ _ _ = X3 at HP HPO ⊢
        exact ⟨⟨9, by omega, rfl, HR.out.only HPO.out (by have := HG.out; omega), HP, Below.step HL.out HPO.out (by have := HG.out; omega) (Nat.le_refl _)⟩, by simp [intOf]⟩
      · have hc : wr.cell? ⟨gS, 2, none⟩ = some (.int .u32 (c.toNat : Int)) := HR.out.at (i := 2) (show 2 < 8 by omega)
        have ho : wr.cell? ⟨gO, 9, none⟩ = some (.int .u8 0) := HD.out.at (k := 9) (Nat.le_refl _) (by omega)
        have hf : wr.frozen? ⟨gO, 9, none⟩ = false := HD.out.free 9
        go_wp2_with fail
        rw [b1_val]
        have hp := HD.out.put (k := 9) rfl (by omega) ((((c >>> 16).toNat % 256 : Nat) : Nat) : Int)
        have HP : Hid (OutRow (wr.setCell ⟨gO, 9, none⟩ (.int .u8 ((((c >>> 16).toNat % 256 : Nat) : Nat) : Int))) gO ((out ⟨a, b, c, d, e, f, g, h⟩).take 10)) := hp.2
        have HPO := Lib.hid hp.1
        clear hp hc hf ho HD
        generalize World.setCell _ _ _ = X3 at HP HPO ⊢
        exact ⟨⟨10, by omega, rfl, HR.out.only HPO.out (by have := HG.out; omega), HP, Below.step HL.out HPO.out (by have := HG.out; omega) (Nat.le_refl _)⟩, by simp [intOf]⟩
      · have hc : wr.cell? ⟨gS, 2, none⟩ = some (.int .u32 (c.toNat : Int)) := HR.out.at (i := 2) (show 2 < 8 by omega)
        have ho : wr.cell? ⟨gO, 10, none⟩ = some (.int .u8 0) := HD.out.at (k := 10) (Nat.le_refl _) (by omega)
        have hf : wr.frozen? ⟨gO, 10, none⟩ = false := HD.out.free 10
        go_wp2_with fail
        rw [b2_val]
        have hp := HD.out.put (k := 10) rfl (by omega) ((((c >>> 8).toNat % 256 : Nat) : Nat) : Int)
        have HP : Hid (OutRow (wr.setCell ⟨gO, 10, none⟩ (.int .u8 ((((c >>> 8).toNat % 256 : Nat) : Nat) : Int))) gO ((out ⟨a, b, c, d, e, f, g, h⟩).take 11)) := hp.2
        have HPO := Lib.hid hp.1
        clear hp hc hf ho HD
        generalize World.setCell _ _ _ = X3 at HP HPO ⊢
        exact ⟨⟨11, by omega, rfl, HR.out.only HPO.out (by have := HG.out; omega), HP, Below.step HL.out HPO.out (by have := HG.out; omega) (Nat.le_refl _)⟩, by simp [intOf]⟩
      · have hc : wr.cell? ⟨gS, 2, none⟩ = some (.int .u32 (c.toNat : Int)) := HR.out.at (i := 2) (show 2 < 8 by omega)
        have ho : wr.cell? ⟨gO, 11, none⟩ = some (.int .u8 0) := HD.out.at (k := 11) (Nat.le_refl _) (by omega)
        have hf : wr.frozen? ⟨gO, 11, none⟩ = false := HD.out.free 11
        go_wp2_with fail
        rw [b3_val]
        have hp := HD.out.put (k := 11) rfl (by omega) ((((c).toNat % 256 : Nat) : Nat) : Int)
        have HP : Hid (OutRow (wr.setCell ⟨gO, 11, none⟩ (.int .u8 ((((c).toNat % 256 : Nat) : Nat) : Int))) gO ((out ⟨a, b, c, d, e, f, g, h⟩).take 12)) := hp.2
        have HPO := Lib.hid hp.1
        clear hp hc hf ho HD
        generalize World.setCell _ _ _ = X3 at HP HPO ⊢
        exact ⟨⟨12, by omega, rfl, HR.out.only HPO.out (by have := HG.out; omega), HP, Below.step HL.out HPO.out (by have := HG.out; omega) (Nat.le_refl _)⟩, by simp [intOf]⟩
      · have hc : wr.cell? ⟨gS, 3, none⟩ = some (.int .u32 (d.toNat : Int)) := HR.out.at (i := 3) (show 3 < 8 by omega)
        have ho : wr.cell? ⟨gO, 12, none⟩ = some (.int .u8 0) := HD.out.at (k := 12) (Nat.le_refl _) (by omega)
        have hf : wr.frozen? ⟨gO, 12, none⟩ = false := HD.out.free 12
        go_wp2_with fail
        rw [b0_val]
        have hp := HD.out.put (k := 12) rfl (by omega) ((((d >>> 24).toNat % 256 : Nat) : Nat) : Int)
        have HP : Hid (OutRow (wr.setCell ⟨gO, 12, none⟩ (.int .u8 ((((d >>> 24).toNat % 256 : Nat) : Nat) : Int))) gO ((out ⟨a, b, c, d, e, f, g, h⟩).take 13)) := hp.2
        have HPO := Lib.hid hp.1
        clear hp hc hf ho HD
        generalize World.setCell _ _ _ = X3 at HP HPO ⊢
        exact ⟨⟨13, by omega, rfl, HR.out.only HPO.out (by have := HG.out; omega), HP, Below.step HL.out HPO.out (by have := HG.out; omega) (Nat.le_refl _)⟩, by simp [intOf]⟩
      · have hc : wr.cell? ⟨gS, 3, none⟩ = some (.int .u32 (d.toNat : Int)) := HR.out.at (i := 3) (show 3 < 8 by omega)
        have ho : wr.cell? ⟨gO, 13, none⟩ = some (.int .u8 0) := HD.out.at (k := 13) (Nat.le_refl _) (by omega)
        have hf : wr.frozen? ⟨gO, 13, none⟩ = false := HD.out.free 13
        go_wp2_with fail
        rw [b1_val]
        have hp := HD.out.put (k := 13) rfl (by omega) ((((d >>> 16).toNat % 256 : Nat) : Nat) : Int)
        have HP : Hid (OutRow (wr.setCell ⟨gO, 13, none⟩ (.int .u8 ((((d >>> 16).toNat % 256 : Nat) : Nat) : Int))) gO ((out ⟨a, b, c, d, e, f, g, h⟩).take 14)) := hp.2
        have HPO := Lib.hid hp.1
        clear hp hc hf ho HD
        generalize World.setCell _ _ _ = X3 at HP HPO ⊢
        exact ⟨⟨14, by omega, rfl, HR.out.only HPO.out (by have := HG.out; omega), HP, Below.step HL.out HPO.out (by have := HG.out; omega) (Nat.le_refl _)⟩, by simp [intOf]⟩
      · have hc : wr.cell? ⟨gS, 3, none⟩ = some (.int .u32 (d.toNat : Int)) := HR.out.at (i := 3) (show 3 < 8 by omega)
        have ho : wr.cell? ⟨gO, 14, none⟩ = some (.int .u8 0) := HD.out.at (k := 14) (Nat.le_refl _) (by omega)
        have hf : wr.frozen? ⟨gO, 14, none⟩ = false := HD.out.free 14
        go_wp2_with fail
        rw [b2_val]
        have hp := HD.out.put (k := 14) rfl (by omega) ((((d >>> 8).toNat % 256 : Nat) : Nat) : Int)
        have HP : Hid (OutRow (wr.setCell ⟨gO, 14, none⟩ (.int .u8 ((((d >>> 8).toNat % 256 : Nat) : Nat) : Int))) gO ((out ⟨a, b, c, d, e, f, g, h⟩).take 15)) := hp.2
        have HPO := Lib.hid hp.1
        clear hp hc hf ho HD
        generalize World.setCell _ _ _ = X3 at HP HPO ⊢
        exact ⟨⟨15, by omega, rfl, HR.out.only HPO.out (by have := HG.out; omega), HP, Below.step HL.out HPO.out (by have := HG.out; omega) (Nat.le_refl _)⟩, by simp [intOf]⟩
      · have hc : wr.cell? ⟨gS, 3, none⟩ = some (.int .u32 (d.toNat : Int)) := HR.out.at (i := 3) (show 3 < 8 by omega)
        have ho : wr.cell? ⟨gO, 15, none⟩ = some (.int .u8 0) := HD.out.at (k := 15) (Nat.le_refl _) (by omega)
        have hf : wr.frozen? ⟨gO, 15, none⟩ = false := HD.out.free 15
        go_wp2_with fail
        rw [b3_val]
        have hp := HD.out.put (k := 15) rfl (by omega) ((((d).toNat % 256 : Nat) : Nat) : Int)
        have HP : Hid (OutRow (wr.setCell ⟨gO, 15, none⟩ (.int .u8 ((((d).toNat % 256 : Nat) : Nat) : Int))) gO ((out ⟨a, b, c, d, e, f, g, h⟩).take 16)) := hp.2
        have HPO := Lib.hid hp.1
        clear hp hc hf ho HD
        generalize World.setCell _ _ _ = X3 at HP HPO ⊢
        exact ⟨⟨16, by omega, rfl, HR.out.only HPO.out (by have := HG.out; omega), HP, Below.step HL.out HPO.out (by have := HG.out; omega) (Nat.le_refl _)⟩, by simp [intOf]⟩
      · have hc : wr.cell? ⟨gS, 4, none⟩ = some (.int .u32 (e.toNat : Int)) := HR.out.at (i := 4) (show 4 < 8 by omega)
        have ho : wr.cell? ⟨gO, 16, none⟩ = some (.int .u8 0) := HD.out.at (k := 16) (Nat.le_refl _) (by omega)
        have hf : wr.frozen? ⟨gO, 16, none⟩ = false := HD.out.free 16
        go_wp2_with fail
        rw [b0_val]
        have hp := HD.out.put (k := 16) rfl (by omega) ((((e >>> 24).toNat % 256 : Nat) : Nat) : Int)
        have HP : Hid (OutRow (wr.setCell ⟨gO, 16, none⟩ (.int .u8 ((((e >>> 24).toNat % 256 : Nat) : Nat) : Int))) gO ((out ⟨a, b, c, d, e, f, g, h⟩).take 17)) := hp.2
        have HPO := Lib.hid hp.1
        clear hp hc hf ho HD
        generalize World.setCell _ _ _ = X3 at HP HPO ⊢
        exact ⟨⟨17, by omega, rfl, HR.out.only HPO.out (by have := HG.out; omega), HP, Below.step HL.out HPO.out (by have := HG.out; omega) (Nat.le_refl _)⟩, by simp [intOf]⟩
      · have hc : wr.cell? ⟨gS, 4, none⟩ = some (.int .u32 (e.toNat : Int)) := HR.out.at (i := 4) (show 4 < 8 by omega)
        have ho : wr.cell? ⟨gO, 17, none⟩ = some (.int .u8 0) := HD.out.at (k := 17) (Nat.le_refl _) (by omega)
        have hf : wr.frozen? ⟨gO, 17, none⟩ = false := HD.out.free 17
        go_wp2_with fail
        rw [b1_val]
        have hp := HD.out.put (k := 17) rfl (by omega) ((((e >>> 16).toNat % 256 : Nat) : Nat) : Int)
        have HP : Hid (OutRow (wr.setCell ⟨gO, 17, none⟩ (.int .u8 ((((e >>> 16).toNat % 256 : Nat) : Nat) : Int))) gO ((out ⟨a, b, c, d, e, f, g, h⟩).take 18)) := hp.2
        have HPO := Lib.hid hp.1
        clear hp hc hf ho HD
        generalize World.setCell _ _ _ = X3 at HP HPO ⊢
        exact ⟨⟨18, by omega, rfl, HR.out.only HPO.out (by have := HG.out; omega), HP, Below.step HL.out HPO.out (by have := HG.out; omega) (Nat.le_refl _)⟩, by simp [intOf]⟩
      · have hc : wr.cell? ⟨gS, 4, none⟩ = some (.int .u32 (e.toNat : Int)) := HR.out.at (i := 4) (show 4 < 8 by omega)
        have ho : wr.cell? ⟨gO, 18, none⟩ = some (.int .u8 0) := HD.out.at (k := 18) (Nat.le_refl _) (by omega)
        have hf : wr.frozen? ⟨gO, 18, none⟩ = false := HD.out.free 18
        go_wp2_with fail
        rw [b2_val]
        have hp := HD.out.put (k := 18) rfl (by omega) ((((e >>> 8).toNat % 256 : Nat) : Nat) : Int)
        have HP : Hid (OutRow (wr.setCell ⟨gO, 18, none⟩ (.int .u8 ((((e >>> 8).toNat % 256 : Nat) : Nat) : Int))) gO ((out ⟨a, b, c, d, e, f, g, h⟩).take 19)) := hp.2
        have HPO := Lib.hid hp.1
        clear hp hc hf ho HD
        generalize World.setCell _ _ _ = X3 at HP HPO ⊢
        exact ⟨⟨19, by omega, rfl, HR.out.only HPO.out (by have := HG.out; omega), HP, Below.step HL.out HPO.out (by have := HG.out; omega) (Nat.le_refl _)⟩, by simp [intOf]⟩
      · have hc : wr.cell? ⟨gS, 4, none⟩ = some (.int .u32 (e.toNat : Int)) := HR.out.at (i := 4) (show 4 < 8 by omega)
        have ho : wr.cell? ⟨gO, 19, none⟩ = some (.int .u8 0) := HD.out.at (k := 19) (Nat.le_refl _) (by omega)
        have hf : wr.frozen? ⟨gO, 19, none⟩ = false := HD.out.free 19
        go_wp2_with fail
        rw [b3_val]
        have hp := HD.out.put (k := 19) rfl (by omega) ((((e).toNat % 256 : Nat) : Nat) : Int)
        have HP : Hid (OutRow (wr.setCell ⟨gO, 19, none⟩ (.int .u8 ((((e).toNat % 256 : Nat) : Nat) : Int))) gO ((out ⟨a, b, c, d, e, f, g, h⟩).take 20)) := hp.2
        have HPO := Lib.hid hp.1
        clear hp hc hf ho HD
        generalize World.setCell _ _ _ = X3 at HP HPO ⊢
        exact ⟨⟨20, by omega, rfl, HR.out.only HPO.out (by have := HG.out; omega), HP, Below.step HL.out HPO.out (by have := HG.out; omega) (Nat.le_refl _)⟩, by simp [intOf]⟩
      · have hc : wr.cell? ⟨gS, 5, none⟩ = some (.int .u32 (f.toNat : Int)) := HR.out.at (i := 5) (show 5 < 8 by omega)
        have ho : wr.cell? ⟨gO, 20, none⟩ = some (.int .u8 0) := HD.out.at (k := 20) (Nat.le_refl _) (by omega)
        have hf : wr.frozen? ⟨gO, 20, none⟩ = false := HD.out.free 20
        go_wp2_with fail
        rw [b0_val]
        have hp := HD.out.put (k := 20) rfl (by omega) ((((f >>> 24).toNat % 256 : Nat) : Nat) : Int)
        have HP : Hid (OutRow (wr.setCell ⟨gO, 20, none⟩ (.int .u8 ((((f >>> 24).toNat % 256 : Nat) : Nat) : Int))) gO ((out ⟨a, b, c, d, e, f, g, h⟩).take 21)) := hp.2
        have HPO := Lib.hid hp.1
        clear hp hc hf ho HD
        generalize World.setCell _ _ _ = X3 at HP HPO ⊢
        exact ⟨⟨21, by omega, rfl, HR.out.only HPO.out (by have := HG.out; omega), HP, Below.step HL.out HPO.out (by have := HG.out; omega) (Nat.le_refl _)⟩, by simp [intOf]⟩
      · have hc : wr.cell? ⟨gS, 5, none⟩ = some (.int .u32 (f.toNat : Int)) := HR.out.at (i := 5) (show 5 < 8 by omega)
        have ho : wr.cell? ⟨gO, 21, none⟩ = some (.int .u8 0) := HD.out.at (k := 21) (Nat.le_refl _) (by omega)
        have hf : wr.frozen? ⟨gO, 21, none⟩ = false := HD.out.free 21
        go_wp2_with fail
        rw [b1_val]
        have hp := HD.out.put (k := 21) rfl (by omega) ((((f >>> 16).toNat % 256 : Nat) : Nat) : Int)
        have HP : Hid (OutRow (wr.setCell ⟨gO, 21, none⟩ (.int .u8 ((((f >>> 16).toNat % 256 : Nat) : Nat) : Int))) gO ((out ⟨a, b, c, d, e, f, g, h⟩).take 22)) := hp.2
        have HPO := Lib.hid hp.1
        clear hp hc hf ho HD
        generalize World.setCell _ _ _ = X3 at HP HPO ⊢
        exact ⟨⟨22, by omega, rfl, HR.out.only HPO.out (by have := HG.out; omega), HP, Below.step HL.out HPO.out (by have := HG.out; omega) (Nat.le_refl _)⟩, by simp [intOf]⟩
      · have hc : wr.cell? ⟨gS, 5, none⟩ = some (.int .u32 (f.toNat : Int)) := HR.out.at (i := 5) (show 5 < 8 by omega)
        have ho : wr.cell? ⟨gO, 22, none⟩ = some (.int .u8 0) := HD.out.at (k := 22) (Nat.le_refl _) (by omega)
        have hf : wr.frozen? ⟨gO, 22, none⟩ = false := HD.out.free 22
        go_wp2_with fail
        rw [b2_val]
        have hp := HD.out.put (k := 22) rfl (by omega) ((((f >>> 8).toNat % 256 : Nat) : Nat) : Int)
        have HP : Hid (OutRow (wr.setCell ⟨gO, 22, none⟩ (.int .u8 ((((f >>> 8).toNat % 256 : Nat) : Nat) : Int))) gO ((out ⟨a, b, c, d, e, f, g, h⟩).take 23)) := hp.2
        have HPO := Lib.hid hp.1
        clear hp hc hf ho HD
        generalize World.setCell _ _ _ = X3 at HP HPO ⊢
        exact ⟨⟨23, by omega, rfl, HR.out.only HPO.out (by have := HG.out; omega), HP, Below.step HL.out HPO.out (by have := HG.out; omega) (Nat.le_refl _)⟩, by simp [intOf]⟩
      · have hc : wr.cell? ⟨gS, 5, none⟩ = some (.int .u32 (f.toNat : Int)) := HR.out.at (i := 5) (show 5 < 8 by omega)
        have ho : wr.cell? ⟨gO, 23, none⟩ = some (.int .u8 0) := HD.out.at (k := 23) (Nat.le_refl _) (by omega)
        have hf : wr.frozen? ⟨gO, 23, none⟩ = false := HD.out.free 23
        go_wp2_with fail
        rw [b3_val]
        have hp := HD.out.put (k := 23) rfl (by omega) ((((f).toNat % 256 : Nat) : Nat) : Int)
        have HP : Hid (OutRow (wr.setCell ⟨gO, 23, none⟩ (.int .u8 ((((f).toNat % 256 : Nat) : Nat) : Int))) gO ((out ⟨a, b, c, d, e, f, g, h⟩).take 24)) := hp.2
        have HPO := Lib.hid hp.1
        clear hp hc hf ho HD
        generalize World.setCell _ _ _ = X3 at HP HPO ⊢
        exact ⟨⟨24, by omega, rfl, HR.out.only HPO.out (by have := HG.out; omega), HP, Below.step HL.out HPO.out (by have := HG.out; omega) (Nat.le_refl _)⟩, by simp [intOf]⟩
      · have hc : wr.cell? ⟨gS, 6, none⟩ = some (.int .u32 (g.toNat : Int)) := HR.out.at (i := 6) (show 6 < 8 by omega)
        have ho : wr.cell? ⟨gO, 24, none⟩ = some (.int .u8 0) := HD.out.at (k := 24) (Nat.le_refl _) (by omega)
        have hf : wr.frozen? ⟨gO, 24, none⟩ = false := HD.out.free 24
        go_wp2_with fail
        rw [b0_val]
        have hp := HD.out.put (k := 24) rfl (by omega) ((((g >>> 24).toNat % 256 : Nat) : Nat) : Int)
        have HP : Hid (OutRow (wr.setCell ⟨gO, 24, none⟩ (.int .u8 ((((g >>> 24).toNat % 256 : Nat) : Nat) : Int))) gO ((out ⟨a, b, c, d, e, f, g, h⟩).take 25)) := hp.2
        have HPO := Lib.hid hp.1
        clear hp hc hf ho HD
        generalize World.setCell _ _ _ = X3 at HP HPO ⊢
        exact ⟨⟨25, by omega, rfl, HR.out.only HPO.out (by have := HG.out; omega), HP, Below.step HL.out HPO.out (by have := HG.out; omega) (Nat.le_refl _)⟩, by simp [intOf]⟩
      · have hc : wr.cell? ⟨gS, 6, none⟩ = some (.int .u32 (g.toNat : Int)) := HR.out.at (i := 6) (show 6 < 8 by omega)
        have ho : wr.cell? ⟨gO, 25, none⟩ = some (.int .u8 0) := HD.out.at (k := 25) (Nat.le_refl _) (by omega)
        have hf : wr.frozen? ⟨gO, 25, none⟩ = false := HD.out.free 25
        go_wp2_with fail
        rw [b1_val]
        have hp := HD.out.put (k := 25) rfl (by omega) ((((g >>> 16).toNat % 256 : Nat) : Nat) : Int)
        have HP : Hid (OutRow (wr.setCell ⟨gO, 25, none⟩ (.int .u8 ((((g >>> 16).toNat % 256 : Nat) : Nat) : Int))) gO ((out ⟨a, b, c, d, e, f, g, h⟩).take 26)) := hp.2
        have HPO := Lib.hid hp.1
        clear hp hc hf ho HD
        generalize World.setCell _ _ _ = X3 at HP HPO ⊢
        exact ⟨⟨26, by omega, rfl, HR.out.only HPO.out (by have := HG.out; omega), HP, Below.step HL.out HPO.out (by have := HG.out; omega) (Nat.le_refl _)⟩, by simp [intOf]⟩
      · have hc : wr.cell? ⟨gS, 6, none⟩ = some (.int .u32 (g.toNat : Int)) := HR.out.at (i := 6) (show 6 < 8 by omega)
        have ho : wr.cell? ⟨gO, 26, none⟩ = some (.int .u8 0) := HD.out.at (k := 26) (Nat.le_refl _) (by omega)
        have hf : wr.frozen? ⟨gO, 26, none⟩ = false := HD.out.free 26
        go_wp2_with fail
        rw [b2_val]
        have hp := HD.out.put (k := 26) rfl (by omega) ((((g >>> 8).toNat % 256 : Nat) : Nat) : Int)
        have HP : Hid (OutRow (wr.setCell ⟨gO, 26, none⟩ (.int .u8 ((((g >>> 8).toNat % 256 : Nat) : Nat) : Int))) gO ((out ⟨a, b, c, d, e, f, g, h⟩).take 27)) := hp.2
        have HPO := Lib.hid hp.1
        clear hp hc hf ho HD
        generalize World.setCell _ _ _ = X3 at HP HPO ⊢
        exact ⟨⟨27, by omega, rfl, HR.out.only HPO.out (by have := HG.out; omega), HP, Below.step HL.out HPO.out (by have := HG.out; omega) (Nat.le_refl _)⟩, by simp [intOf]⟩
      · have hc : wr.cell? ⟨gS, 6, none⟩ = some (.int .u32 (g.toNat : Int)) := HR.out.at (i := 6) (show 6 < 8 by omega)
        have ho : wr.cell? ⟨gO, 27, none⟩ = some (.int .u8 0) := HD.out.at (k := 27) (Nat.le_refl _) (by omega)
        have hf : wr.frozen? ⟨gO, 27, none⟩ = false := HD.out.free 27
        go_wp2_with fail
        rw [b3_val]
        have hp := HD.out.put (k := 27) rfl (by omega) ((((g).toNat % 256 : Nat) : Nat) : Int)
        have HP : Hid (OutRow (wr.setCell ⟨gO, 27, none⟩ (.int .u8 ((((g).toNat % 256 : Nat) : Nat) : Int))) gO ((out ⟨a, b, c, d, e, f, g, h⟩).take 28)) := hp.2
        have HPO := Lib.hid hp.1
        clear hp hc hf ho HD
        generalize World.setCell _ _ _ = X3 at HP HPO ⊢
        exact ⟨⟨28, by omega, rfl, HR.out.only HPO.out (by have := HG.out; omega), HP, Below.step HL.out HPO.out (by have := HG.out; omega) (Nat.le_refl _)⟩, by simp [intOf]⟩
      · have hc : wr.cell? ⟨gS, 7, none⟩ = some (.int .u32 (h.toNat : Int)) := HR.out.at (i := 7) (show 7 < 8 by omega)
        have ho : wr.cell? ⟨gO, 28, none⟩ = some (.int .u8 0) := HD.out.at (k := 28) (Nat.le_refl _) (by omega)
        have hf : wr.frozen? ⟨gO, 28, none⟩ = false := HD.out.free 28
        go_wp2_with fail
        rw [b0_val]
        have hp := HD.out.put (k := 28) rfl (by omega) ((((h >>> 24).toNat % 256 : Nat) : Nat) : Int)
        have HP : Hid (OutRow (wr.setCell ⟨gO, 28, none⟩ (.int .u8 ((((h >>> 24).toNat % 256 : Nat) : Nat) : Int))) gO ((out ⟨a, b, c, d, e, f, g, h⟩).take 29)) := hp.2
        have HPO := Lib.hid hp.1
        clear hp hc hf ho HD
        generalize World.setCell _ _ _ = X3 at HP HPO ⊢
        exact ⟨⟨29, by omega, rfl, HR.out.only HPO.out (by have := HG.out; omega), HP, Below.step HL.out HPO.out (by have := HG.out; omega) (Nat.le_refl _)⟩, by simp [intOf]⟩
      · have hc : wr.cell? ⟨gS, 7, none⟩ = some (.int .u32 (h.toNat : Int)) := HR.out.at (i := 7) (show 7 < 8 by omega)
        have ho : wr.cell? ⟨gO, 29, none⟩ = some (.int .u8 0) := HD.out.at (k := 29) (Nat.le_refl _) (by omega)
        have hf : wr.frozen? ⟨gO, 29, none⟩ = false := HD.out.free 29
        go_wp2_with fail
        rw [b1_val]
        have hp := HD.out.put (k := 29) rfl (by omega) ((((h >>> 16).toNat % 256 : Nat) : Nat) : Int)
        have HP : Hid (OutRow (wr.setCell ⟨gO, 29, none⟩ (.int .u8 ((((h >>> 16).toNat % 256 : Nat) : Nat) : Int))) gO ((out ⟨a, b, c, d, e, f, g, h⟩).take 30)) := hp.2
        have HPO := Lib.hid hp.1
        clear hp hc hf ho HD
        generalize World.setCell _ _ _ = X3 at HP HPO ⊢
        exact ⟨⟨30, by omega, rfl, HR.out.only HPO.out (by have := HG.out; omega), HP, Below.step HL.out HPO.out (by have := HG.out; omega) (Nat.le_refl _)⟩, by simp [intOf]⟩
      · have hc : wr.cell? ⟨gS, 7, none⟩ = some (.int .u32 (h.toNat : Int)) := HR.out.at (i := 7) (show 7 < 8 by omega)
        have ho : wr.cell? ⟨gO, 30, none⟩ = some (.int .u8 0) := HD.out.at (k := 30) (Nat.le_refl _) (by omega)
        have hf : wr.frozen? ⟨gO, 30, none⟩ = false := HD.out.free 30
        go_wp2_with fail
        rw [b2_val]
        have hp := HD.out.put (k := 30) rfl (by omega) ((((h >>> 8).toNat % 256 : Nat) : Nat) : Int)
        have HP : Hid (OutRow (wr.setCell ⟨gO, 30, none⟩ (.int .u8 ((((h >>> 8).toNat % 256 : Nat) : Nat) : Int))) gO ((out ⟨a, b, c, d, e, f, g, h⟩).take 31)) := hp.2
        have HPO := Lib.hid hp.1
        clear hp hc hf ho HD
        generalize World.setCell _ _ _ = X3 at HP HPO ⊢
        exact ⟨⟨31, by omega, rfl, HR.out.only HPO.out (by have := HG.out; omega), HP, Below.step HL.out HPO.out (by have := HG.out; omega) (Nat.le_refl _)⟩, by simp [intOf]⟩
      · have hc : wr.cell? ⟨gS, 7, none⟩ = some (.int .u32 (h.toNat : Int)) := HR.out.at (i := 7) (show 7 < 8 by omega)
        have ho : wr.cell? ⟨gO, 31, none⟩ = some (.int .u8 0) := HD.out.at (k := 31) (Nat.le_refl _) (by omega)
        have hf : wr.frozen? ⟨gO, 31, none⟩ = false := HD.out.free 31
        go_wp2_with fail
        rw [b3_val]
        have hp := HD.out.put (k := 31) rfl (by omega) ((((h).toNat % 256 : Nat) : Nat) : Int)
        have HP : Hid (OutRow (wr.setCell ⟨gO, 31, none⟩ (.int .u8 ((((h).toNat % 256 : Nat) : Nat) : Int))) gO ((out ⟨a, b, c, d, e, f, g, h⟩).take 32)) := hp.2
        have HPO := Lib.hid hp.1
        clear hp hc hf ho HD
        generalize World.setCell _ _ _ = X3 at HP HPO ⊢
        exact ⟨⟨32, by omega, rfl, HR.out.only HPO.out (by have := HG.out; omega), HP, Below.step HL.out HPO.out (by have := HG.out; omega) (Nat.le_refl _)⟩, by simp [intOf]⟩
    · have hk3 : k = 32 := by omega
      rw [hk3] at HD
      clear hk3
      have HD8 : Hid (OutRow wr gO (out ⟨a, b, c, d, e, f, g, h⟩)) := HD
      clear HD
      obtain ⟨T, hT⟩ : ∃ T, T = out ⟨a, b, c, d, e, f, g, h⟩ := ⟨_, rfl⟩
      have HSM : Hid (Sum (cur T) T) := by rw [hT]; exact out_sum _
      rw [← hT] at HD8
      have HT := Lib.hid hT
      clear hT
      go_wp2_with (first
        | (refine wpList_load_row rfl 27 (.tmp 2) rfl gO rfl 27 (cur T) (0, 0) _ HD8.out Tryd.underlying27 rfl (by rw [sum_size HSM.out]; exact Tryd.sizeSum) ?_)
        | (refine wpList_store_row rfl 27 (.tmp 2) (.tmp 20) rfl gO _ rfl rfl 27 _ HD8.out (by rw [sum_size HSM.out]; exact Tryd.sizeSum) rfl (sum_one HSM.out) ?_))
      have hrow := setRow_heap wr gO (cur T) (cur T) _ _ HD8.out
      exact bodyPost_ret (v := .agg (cur T)) (results_cell_row (P := Tryd.prog) rfl _ _ gO 27 (cur T) (0, 0) _ rfl hrow Tryd.underlying27 rfl (by rw [sum_size HSM.out]; exact Tryd.sizeSum)) rfl ⟨by rw [HT.out], HL.out.trans (Only.below (r := gO) ⟨rfl, rfl, rfl, by simp, fun k _ hk => setRow_other wr gO k _ (fun e => hk (by simp [e]))⟩ (by have := HG.out; omega) HL.out.size)⟩
end Go.Proofs.YtlamjdpifhpofaaDoor
