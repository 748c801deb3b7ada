/- P102: the reader's sum: 32 bytes from the front, or too few. -/
import Derived.Test.YtlaafpfpoehonaaHash
import Derived.Laws.Tables
namespace Go.Proofs.Ytlaafpfpoehonaa
open Go.RowKit Num
set_option linter.unusedVariables false
set_option linter.unusedSimpArgs false

/-- a sum of noughts, as cells -/
def noughts : List Value := List.replicate 32 (.int .u8 0)

theorem Try.sizeSum : (Try.prog.info? 24).map (·.size) = some 32 := by kernel_rfl

theorem splice_all {X : List Value} (h : X.length = 32) : splice noughts 0 X = X := by
  unfold splice
  rw [List.drop_eq_nil_of_le (by rw [h]; decide)]
  simp

theorem Only.still {r B : Nat} {w w' w'' : World} (h : Only r w w') (hb : Below B w' w'') (hB : w.heap.size ≤ B) : Only r w w'' :=
  ⟨hb.os.trans h.os, hb.tape.trans h.tape, hb.output.trans h.output, Nat.le_trans h.size hb.size, fun i hi hne => (hb.block i (by omega)).trans (h.block i hi hne)⟩

/-- two variables more, of noughts -/
structure Two (w W : World) : Prop where
  below : Below w.heap.size w W
  size : W.heap.size = w.heap.size + 2
  one : W.heap[w.heap.size]? = some (.cells noughts.toArray 24 (0, 0))
  two : W.heap[w.heap.size + 1]? = some (.cells noughts.toArray 24 (0, 0))

theorem two_mk (w : World) : Two w ((w.alloc (.cells noughts.toArray 24)).alloc (.cells noughts.toArray 24)) :=
  ⟨((Below.refl _ _).alloc (Nat.le_refl _) _).alloc (by simp) _, by simp, heap_alloc2_old w _ _, heap_alloc2_new w _ _⟩

theorem Two.drew {w W : World} (h : Two w W) : Two w W.drew := ⟨h.below.drew, h.size, h.one, h.two⟩

theorem noughts_eq : noughts.toArray = #[.int .u8 0, .int .u8 0, .int .u8 0, .int .u8 0, .int .u8 0, .int .u8 0, .int .u8 0, .int .u8 0, .int .u8 0, .int .u8 0, .int .u8 0, .int .u8 0, .int .u8 0, .int .u8 0, .int .u8 0, .int .u8 0,
  .int .u8 0, .int .u8 0, .int .u8 0, .int .u8 0, .int .u8 0, .int .u8 0, .int .u8 0, .int .u8 0, .int .u8 0, .int .u8 0, .int .u8 0, .int .u8 0, .int .u8 0, .int .u8 0, .int .u8 0, .int .u8 0] := rfl

set_option maxRecDepth 100000 in
set_option maxHeartbeats 1000000 in
theorem sum_cut (r : Nat) (e : Int) (bs : List Int) (w : World) (h : Rd w r e bs) (hn : bs.length < 32) :
    Calls Try.prog 40 #[.pointer (some ⟨r, 0, none⟩)] w fun x w' => Thrown x 8 ∧ Rd w' r e bs ∧ Only r w w' := by
  have H := Lib.hid h
  have HN := Lib.hid hn
  clear h hn
  go_enter Try.func40, Try.ntmps40
  go_wp2_with fail
  rw [← noughts_eq]
  have ht := (two_mk w).drew
  generalize hW : (World.alloc (World.alloc w _) _) = W at *
  have HD := Lib.hid (H.out.keep ht.below)
  have HT := Lib.hid ht.below
  clear hW ht
  refine wp_region_any (by kernel_rfl) ?_
  change wpAny _ _ _ _ _ _ _ (World.drew _)
  refine wpAny_take (i := 0) (v := .slice (some ⟨w.heap.size + 1, 0, none⟩) 32 32) rfl (by kernel_rfl) (by kernel_rfl) (by kernel_rfl) (fun _ _ _ h => h) (Or.inl ⟨by rfl, fun w => ?_⟩) ?_
  · go_simp
  refine wpAny_take (i := 1) (v := .pointer (some ⟨r, 0, none⟩)) rfl (by kernel_rfl) (by kernel_rfl) (by kernel_rfl) (fun _ _ _ h => h) (Or.inl ⟨by rfl, fun w => ?_⟩) ?_
  · go_simp
  refine wpAny_ready (rs := [2]) (by kernel_rfl) (by simp) ?_
  refine AllReady.cons rfl (fun K hK => ?_) AllReady.nil
  go_simp
  refine (take_cut r 32 e bs _ HD.out HN.out (by omega)).mono ?_
  rintro x w2 ⟨hx, rfl⟩
  obtain rfl := hx
  exact ⟨rfl, rfl, HD.out, .of_below HT.out⟩

set_option maxRecDepth 100000 in
set_option maxHeartbeats 1000000 in
theorem sum_ok (r : Nat) (e : Int) (bs : List Int) (w : World) (h : Rd w r e bs) (hn : 32 ≤ bs.length) (hby : ∀ c ∈ bs, Byte c) :
    Calls Try.prog 40 #[.pointer (some ⟨r, 0, none⟩)] w fun x w' => ∃ cs, x = .returned (.agg cs) ∧ Sum cs (bs.take 32) ∧ Rd w' r e (bs.drop 32) ∧ Only r w w' := by
  have hlt := h.lt
  have H := Lib.hid h
  have HN := Lib.hid hn
  have HS : Hid (Sum (bts (bs.take 32)).toArray (bs.take 32)) := ⟨by simp, by rw [List.length_take]; omega, fun c hc => hby c (List.mem_of_mem_take hc)⟩
  have HL : Hid ((bts (bs.take 32)).length = 32) := by show _ = _; rw [bts_length, List.length_take]; omega
  obtain ⟨X, hX⟩ : ∃ X, X = bts (bs.take 32) := ⟨_, rfl⟩
  rw [← hX] at HS HL
  have HX := Lib.hid hX
  clear h hn hby hX
  go_enter Try.func40, Try.ntmps40
  go_wp2_with fail
  rw [← noughts_eq]
  have ht := (two_mk w).drew
  generalize hW : (World.alloc (World.alloc w _) _) = W at *
  have HD := Lib.hid (H.out.keep ht.below)
  have HT := Lib.hid ht
  clear hW ht
  go_region_law (first
    | (refine step_copy_splice rfl (.tmp 4) (.tmp 6) 22 22 rfl 5 Try.underlying22 Try.sizeByte _ _ 32 32 32 c rfl rfl (w.heap.size + 1) 0 noughts 24 HG.out X (by rw [HL.out]; rfl) (fun _ => ⟨rfl, HC.out⟩) (by rw [HL.out]; decide) (by rw [HX.out]; exact bts_one _) (w.heap.size + 1) w2 (Below.refl _ _) (Nat.le_refl _) ?_; intro w3 HG3 hb3)
    | (go_simp; go_loud (refine (take_ok r 32 e bs _ HD.out HN.out).mono ?_); rintro x w2 ⟨g, off, c, rfl, hnc, hcell, hrd, honly⟩; have HG : Hid (w2.heap[w.heap.size + 1]? = some (.cells noughts.toArray 24 (0, 0))) := ((honly.block _ (by have := HT.out.size; omega) (fun h => by have := Option.some.inj h; omega)).trans HT.out.two); have HG1 : Hid (w2.heap[w.heap.size]? = some (.cells noughts.toArray 24 (0, 0))) := ((honly.block _ (by have := HT.out.size; omega) (fun h => by have := Option.some.inj h; omega)).trans HT.out.one); have HC : Hid (∃ ad, some (⟨g, off, none⟩ : Addr) = some ad ∧ ∀ j v, X[j]? = some v → w2.cell? (ad.add j) = some v) := (by rw [HX.out]; exact (reads_of HN.out hcell).2 (Nat.zero_lt_succ 31)); have HR := Lib.hid hrd; have HO := Lib.hid ((Only.of_below HT.out.below).trans honly); clear hcell hrd honly))
  have HG3' : Hid (w3.heap[w.heap.size + 1]? = some (.cells X.toArray 24 (0, 0))) := by
    have := HG3.out; rw [splice_all HL.out] at this; exact this
  have HG1' : Hid (w3.heap[w.heap.size]? = some (.cells noughts.toArray 24 (0, 0))) := (hb3.block _ (by omega)).trans HG1.out
  have HR3 := Lib.hid (HR.out.kept hb3 (by omega))
  have HO3 := Lib.hid (HO.out.still hb3 (by omega))
  have HI : Hid ((Try.prog.info? 24).map (·.size) = some X.toArray.size) := by show _ = _; rw [show X.toArray.size = 32 from HL.out]; exact Try.sizeSum
  have HZ : Hid (noughts.toArray.size = X.toArray.size) := by show _ = _; rw [show X.toArray.size = 32 from HL.out]; rfl
  have H1C : Hid (X.toArray.all (·.oneCell') = true) := by
    show _ = _
    rw [HX.out, Array.all_eq_true_iff_forall_mem]
    intro v hv
    exact bts_one _ v (by simpa using hv)
  clear HG3 hb3
  go_wp2_with (first | (refine wpList_load_row rfl 24 (.tmp 3) rfl (w.heap.size + 1) rfl 24 X.toArray (0, 0) _ HG3'.out Try.underlying24 rfl HI.out ?_) | (refine wpList_store_row rfl 24 (.tmp 2) (.tmp 8) rfl w.heap.size X.toArray rfl rfl 24 noughts.toArray HG1'.out HI.out HZ.out H1C.out ?_))
  have hbr : Below w.heap.size w3 (w3.setRow w.heap.size X.toArray) := below_setRow (Below.refl _ _) (Nat.le_refl _) _
  refine bodyPost_ret (v := .agg X.toArray) (results_cell_row rfl _ _ w.heap.size 24 X.toArray (0, 0) _ rfl (setRow_heap _ _ _ _ _ _ HG1'.out) Try.underlying24 rfl HI.out) rfl ?_
  exact ⟨_, rfl, HS.out, HR3.out.kept hbr hlt, HO3.out.still hbr (Nat.le_refl _)⟩

end Go.Proofs.Ytlaafpfpoehonaa
