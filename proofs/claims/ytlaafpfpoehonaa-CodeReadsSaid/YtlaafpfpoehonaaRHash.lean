/- P102: the reader's Hash: what it answers, and what is left of the reader. -/
import Derived.Test.YtlaafpfpoehonaaSum
import Derived.Deep.DeepCutAuto
namespace Go.Proofs.Ytlaafpfpoehonaa
open Go.RowKit Num
set_option linter.unusedVariables false
set_option linter.unusedSimpArgs false

def zeros : List Int := List.replicate 32 0
theorem zeros_sum : Sum noughts.toArray zeros := ⟨by simp [noughts, zeros, bts], rfl, fun c hc => by rw [List.eq_of_mem_replicate hc]; exact ⟨by omega, by omega⟩⟩

/-- the reader behind Hash: its error, its bytes, the sum -/
def rdHash (e : Int) (bs : List Int) : Int × List Int × List Int :=
  if e ≠ 0 then (e, bs, zeros) else if bs.length < 32 then (8, bs, zeros) else (0, bs.drop 32, bs.take 32)

def RHashPost (r : Nat) (e : Int) (bs : List Int) (w : World) (x : Ending) (w' : World) : Prop :=
  ∃ cs, x = .returned (.agg cs) ∧ Sum cs (rdHash e bs).2.2 ∧ Rd w' r (rdHash e bs).1 (rdHash e bs).2.1 ∧ Only r w w'

/-- a variable that holds a reader's address, and one of noughts -/
structure Boxed (w W : World) (r : Nat) : Prop where
  below : Below w.heap.size w W
  size : W.heap.size = w.heap.size + 2
  one : W.cell? ⟨w.heap.size, 0, none⟩ = some (.pointer (some ⟨r, 0, none⟩))
  two : W.heap[w.heap.size + 1]? = some (.cells noughts.toArray 24 (0, 0))

theorem boxed_mk (w : World) (r : Nat) : Boxed w ((w.alloc (.cells #[.pointer (some ⟨r, 0, none⟩)] 31)).alloc (.cells noughts.toArray 24)) r := by
  refine ⟨((Below.refl _ _).alloc (Nat.le_refl _) _).alloc (by simp) _, by simp, ?_, heap_alloc2_new w _ _⟩
  rw [World.cell?_alloc_past _ _ _ (by simp), World.cell?_alloc_at _ _ _ _ rfl]; rfl

theorem sum_size {cs : Array Value} {hs : List Int} (h : Sum cs hs) : cs.size = 32 := by
  have := congrArg List.length h.cells
  rw [bts_length, h.len] at this
  simpa using this

theorem sum_one {cs : Array Value} {hs : List Int} (h : Sum cs hs) : cs.all (·.oneCell') = true := by
  rw [Array.all_eq_true_iff_forall_mem]
  intro v hv
  exact bts_one hs v (by rw [← h.cells]; simpa using hv)

theorem sum_info {cs : Array Value} {hs : List Int} (h : Sum cs hs) : (Try.prog.info? 24).map (·.size) = some cs.size := by rw [sum_size h]; exact Try.sizeSum

set_option maxRecDepth 100000 in
set_option maxHeartbeats 1000000 in
theorem guarded_sum (r : Nat) (e : Int) (bs : List Int) (w : World) (h : Rd w r e bs) (hby : ∀ c ∈ bs, Byte c) :
    Calls Try.prog 39 #[.pointer (some ⟨r, 0, none⟩), .func (.func 40) #[.pointer (some ⟨r, 0, none⟩)] #[]] w (RHashPost r e bs w) := by
  have hmf : ∀ (fn : Fn) (first cap : Array Value) (w : World), (Instr.makeFunc fn first cap).run Try.prog w = .ok (.func fn first cap) w := fun _ _ _ _ => rfl
  have hlt := h.lt
  have hb := boxed_mk w r
  obtain ⟨W, hW⟩ : ∃ W, W = (w.alloc (.cells #[.pointer (some ⟨r, 0, none⟩)] 31)).alloc (.cells noughts.toArray 24) := ⟨_, rfl⟩
  rw [← hW] at hb
  have HW := Lib.hid hW
  clear hW
  have hk := h.keep hb.below
  have HK := Lib.hid hk
  have HBX := Lib.hid hb
  have HOK := Lib.hid (Only.of_below (r := r) hb.below)
  have HBY := Lib.hid hby
  have hbc := hb.one
  have HN : Hid (W.heap[w.heap.size + 1]? = some (.cells noughts.toArray 24 (0, 0))) := hb.two
  obtain ⟨g, off, c, c0, c1, f0, f1, -⟩ := hk.cells
  clear h hk hby c0 f0 f1 hb
  have HBC := Lib.hid hbc
  by_cases he : e = 0
  · subst he
    by_cases hl : bs.length < 32
    · have hp : ∀ w1 w', Rd w' r (errOf 0 8) bs → Only r W w1 → Only r w1 w' → RHashPost r 0 bs w (.returned (.agg noughts.toArray)) w' := by
        intro w1 w' h1 h2 h3
        unfold errOf at h1
        rw [if_pos rfl] at h1
        have e1 : rdHash 0 bs = (8, bs, zeros) := by simp [rdHash, hl]
        unfold RHashPost; rw [e1]; exact ⟨_, rfl, zeros_sum, h1, (HOK.out.trans h2).trans h3⟩
      have HP := Lib.hid hp
      have HL := Lib.hid hl
      clear hp hl
      go_enter_defers Try.func39, Try.ntmps39
      go_upto_region 1 with (fail)
      rw [← noughts_eq, ← HW.out]
      go_wp2_with fail
      refine (sum_cut r 0 bs _ HK.out HL.out).mono ?_
      rintro x w1 ⟨hx, p3, p4⟩
      obtain rfl := hx
      have hbc1 : w1.cell? ⟨w.heap.size, 0, none⟩ = some (.pointer (some ⟨r, 0, none⟩)) := p4.cell HBC.out (by simp; omega)
      have HN1 : Hid (w1.heap[w.heap.size + 1]? = some (.cells noughts.toArray 24 (0, 0))) := (p4.block _ (by rw [HBX.out.size]; omega) (fun h => by have := Option.some.inj h; omega)).trans HN.out
      have P3 := Lib.hid p3
      have P4 := Lib.hid p4
      clear p3 p4 hbc c1
      go_wp2
      refine leaves_cons (f := 45) (args := #[.pointer (some ⟨w.heap.size, 0, none⟩)]) (by simp) (by simp [go_sem]) ?_
      refine (catch_sum w.heap.size r 0 _ _ _ hbc1 P3.out).mono ?_
      rintro x u' w'' ⟨rfl, rfl, h1, h2⟩
      exact ⟨_, results_cell_row (P := Try.prog) rfl _ _ (w.heap.size + 1) 24 noughts.toArray (0, 0) _ rfl ((h2.block _ (Array.getElem?_eq_some_iff.1 HN1.out).1 (fun h => by have := Option.some.inj h; omega)).trans HN1.out) Try.underlying24 rfl (sum_info zeros_sum), HP.out w1 _ h1 P4.out h2⟩
    · have hp : ∀ cs w1 w', Sum cs (bs.take 32) → Rd w1 r 0 (bs.drop 32) → Only r W w1 → Below (w.heap.size + 1) w1 w' → RHashPost r 0 bs w (.returned (.agg cs)) w' := by
        intro cs w1 w' h0 h1 h2 hb
        have e1 : rdHash 0 bs = (0, bs.drop 32, bs.take 32) := by simp [rdHash, hl]
        unfold RHashPost; rw [e1]; exact ⟨_, rfl, h0, h1.kept hb (by omega), (HOK.out.trans h2).still hb (by omega)⟩
      have HP := Lib.hid hp
      have HL : Hid (32 ≤ bs.length) := by show _ ≤ _; omega
      clear hp hl
      go_enter_defers Try.func39, Try.ntmps39
      go_upto_region 1 with (fail)
      rw [← noughts_eq, ← HW.out]
      go_wp2_with fail
      refine (sum_ok r 0 bs _ HK.out HL.out HBY.out).mono ?_
      rintro x w1 ⟨cs, rfl, hsum, p3, p4⟩
      have HN1 : Hid (w1.heap[w.heap.size + 1]? = some (.cells noughts.toArray 24 (0, 0))) := (p4.block _ (by rw [HBX.out.size]; omega) (fun h => by have := Option.some.inj h; omega)).trans HN.out
      have HI := Lib.hid (sum_info hsum)
      have H1C := Lib.hid (sum_one hsum)
      have HZ : Hid (noughts.toArray.size = cs.size) := by show _ = _; rw [sum_size hsum]; rfl
      have HSM := Lib.hid hsum
      have HN2 := Lib.hid (setRow_heap w1 (w.heap.size + 1) noughts.toArray cs 24 _ HN1.out)
      have hb1 := below_setRow (Below.refl (w.heap.size + 1) w1) (Nat.le_refl _) cs
      have hb2 := below_setRow hb1 (Nat.le_refl _) cs
      have HB2 := Lib.hid hb2
      have P3 := Lib.hid p3
      have P4 := Lib.hid p4
      clear p3 p4 hbc c1 hsum hb1 hb2
      go_wp2_with (first
        | (refine wpList_store_row rfl 24 (.tmp 4) (.tmp 12) rfl (w.heap.size + 1) cs rfl rfl 24 noughts.toArray HN1.out HI.out HZ.out H1C.out ?_)
        | (refine wpList_load_row rfl 24 (.tmp 4) rfl (w.heap.size + 1) rfl 24 cs (0, 0) _ HN2.out Try.underlying24 rfl HI.out ?_)
        | (refine wpList_store_row rfl 24 (.tmp 4) (.tmp 13) rfl (w.heap.size + 1) cs rfl rfl 24 cs HN2.out HI.out rfl H1C.out ?_))
      refine leaves_cons (f := 45) (args := #[.pointer (some ⟨w.heap.size, 0, none⟩)]) (by simp) (by simp [go_sem]) ?_
      refine (idle_sum w.heap.size _).mono ?_
      rintro x u' w'' ⟨rfl, rfl, rfl⟩
      exact ⟨_, results_cell_row (P := Try.prog) rfl _ _ (w.heap.size + 1) 24 cs (0, 0) _ rfl (setRow_heap _ _ _ _ _ _ HN2.out) Try.underlying24 rfl HI.out, HP.out cs w1 _ HSM.out P3.out P4.out HB2.out⟩
  · have he2 : (e == 0) = false := by simpa using he
    have hp : ∀ W', Below (w.heap.size + 1) W W' → RHashPost r e bs w (.returned (.agg noughts.toArray)) W' := by
      intro W' hb
      have e1 : rdHash e bs = (e, bs, zeros) := by simp [rdHash, he]
      unfold RHashPost; rw [e1]; exact ⟨_, rfl, zeros_sum, HK.out.kept hb (by omega), HOK.out.still hb (by omega)⟩
    have HP := Lib.hid hp
    clear hp
    have HI := Lib.hid (sum_info zeros_sum)
    have H1C := Lib.hid (sum_one zeros_sum)
    have hb1 := below_setRow (Below.refl (w.heap.size + 1) W) (Nat.le_refl _) noughts.toArray
    have HB1 := Lib.hid hb1
    clear hb1
    go_enter_defers Try.func39, Try.ntmps39
    go_upto_region 1 with (fail)
    rw [← noughts_eq, ← HW.out]
    go_wp2_with (first
      | (refine wpList_load_row rfl 24 (.tmp 4) rfl (w.heap.size + 1) rfl 24 noughts.toArray (0, 0) _ HN.out Try.underlying24 rfl HI.out ?_)
      | (refine wpList_store_row rfl 24 (.tmp 4) (.tmp 13) rfl (w.heap.size + 1) noughts.toArray rfl rfl 24 noughts.toArray HN.out HI.out rfl H1C.out ?_))
    refine leaves_cons (f := 45) (args := #[.pointer (some ⟨w.heap.size, 0, none⟩)]) (by simp) (by simp [go_sem]) ?_
    refine (idle_sum w.heap.size _).mono ?_
    rintro x u' w'' ⟨rfl, rfl, rfl⟩
    exact ⟨_, results_cell_row (P := Try.prog) rfl _ _ (w.heap.size + 1) 24 noughts.toArray (0, 0) _ rfl (setRow_heap _ _ _ _ _ _ HN.out) Try.underlying24 rfl HI.out, HP.out _ HB1.out⟩

theorem one_mk (w : World) : Below w.heap.size w (w.alloc (.cells noughts.toArray 24)) ∧ (w.alloc (.cells noughts.toArray 24)).heap.size = w.heap.size + 1 ∧
    (w.alloc (.cells noughts.toArray 24)).heap[w.heap.size]? = some (.cells noughts.toArray 24 (0, 0)) :=
  ⟨(Below.refl _ _).alloc (Nat.le_refl _) _, by simp, heap_alloc_new w _⟩

set_option maxRecDepth 100000 in
set_option maxHeartbeats 1000000 in
/-- P102: Hash -/
theorem rhash_any (r : Nat) (e : Int) (bs : List Int) (w : World) (h : Rd w r e bs) (hby : ∀ c ∈ bs, Byte c) :
    Calls Try.prog 26 #[.pointer (some ⟨r, 0, none⟩)] w (RHashPost r e bs w) := by
  have hmf : ∀ (fn : Fn) (first cap : Array Value) (w : World), (Instr.makeFunc fn first cap).run Try.prog w = .ok (.func fn first cap) w := fun _ _ _ _ => rfl
  have hlt := h.lt
  have hb := one_mk w
  obtain ⟨W, hW⟩ : ∃ W, W = w.alloc (.cells noughts.toArray 24) := ⟨_, rfl⟩
  rw [← hW] at hb
  have HW := Lib.hid hW
  have HK := Lib.hid (h.keep hb.1)
  have HBX := Lib.hid hb
  have HBY := Lib.hid hby
  clear h hby hb hW
  go_enter Try.func26, Try.ntmps26
  go_upto_region 1 with (fail)
  rw [← noughts_eq, ← HW.out]
  go_wp2_with fail
  refine (guarded_sum r e bs _ HK.out HBY.out).mono ?_
  rintro x w1 ⟨cs, rfl, hsum, p3, p4⟩
  have HN1 : Hid (w1.heap[w.heap.size]? = some (.cells noughts.toArray 24 (0, 0))) := (p4.block _ (by have := HBX.out.2.1; omega) (fun h => by have := Option.some.inj h; omega)).trans HBX.out.2.2
  have HI := Lib.hid (sum_info hsum)
  have H1C := Lib.hid (sum_one hsum)
  have HZ : Hid (noughts.toArray.size = cs.size) := by show _ = _; rw [sum_size hsum]; rfl
  have hb1 := below_setRow (Below.refl w.heap.size w1) (Nat.le_refl _) cs
  have HP : Hid (RHashPost r e bs w (.returned (.agg cs)) (w1.setRow w.heap.size cs)) := ⟨cs, rfl, hsum, p3.kept hb1 hlt, ((Only.of_below HBX.out.1).trans p4).still hb1 (Nat.le_refl _)⟩
  clear hsum p3 p4 hb1
  go_wp2_with (refine wpList_store_row rfl 24 (.tmp 2) (.tmp 6) rfl w.heap.size cs rfl rfl 24 noughts.toArray HN1.out HI.out HZ.out H1C.out ?_)
  exact bodyPost_ret (v := .agg cs) (results_cell_row rfl _ _ w.heap.size 24 cs (0, 0) _ rfl (setRow_heap _ _ _ _ _ _ HN1.out) Try.underlying24 rfl HI.out) rfl HP.out

end Go.Proofs.Ytlaafpfpoehonaa
