/- The document's machine: how it fails, and begins. -/
import Derived.Test.YtdbnfafafhdolaaVStep
import Derived.Test.YtdbnfafafhdolaaVLaw
namespace Go.Proofs.Ytdbnfafafhdolaa
open Go Go.RowKit
set_option linter.unusedVariables false
set_option linter.unusedSimpArgs false

/-- a machine as a value, its slices written out -/
def mval (ca : Option Addr) (n cc : Nat) (sa : Option Addr) (d sc : Nat) (arg data : Int) (m : Ms) : Value :=
  .agg #[.slice ca n cc, .int .i64 arg, .int .i64 data, .int .i64 (m.pc : Int), .slice sa d sc, .int .i64 m.gas, .bool m.fin, .int .i64 m.err]

set_option maxHeartbeats 1000000 in
theorem fail_any (ca : Option Addr) (n cc : Nat) (sa : Option Addr) (d sc : Nat) (arg data : Int) (m : Ms) (E : Int) (w : World) (hg : 1 ≤ m.gas ∧ m.gas ≤ 200) :
    Calls Try.prog 29 #[.agg (mcl (.slice ca n cc) (.slice sa d sc) arg data m), .int .i64 E] w fun e w' => e = .returned (.agg (mcl (.slice ca n cc) (.slice sa d sc) arg data (m.spend.halt E))) ∧ Below w.heap.size w w' := by
  obtain ⟨hg1, hg2⟩ := hg
  unfold mcl
  obtain ⟨G, hG⟩ : ∃ G, G = m.gas := ⟨_, rfl⟩
  rw [← hG] at hg1 hg2 ⊢
  have HG := Lib.hid hG
  clear hG
  go_enter Try.func29, Try.ntmps29
  go_wp2_with fail
  have hn2 : ∀ o1 o2 : Obj, ((w.alloc o1).alloc o2).heap[w.heap.size + 1]? = some o2 := fun o1 o2 => by
    have h := heap_alloc_new (w.alloc o1) o2
    rwa [show (w.alloc o1).heap.size = w.heap.size + 1 by simp] at h
  have hb2 : ∀ o1 o2 : Obj, Below w.heap.size w ((w.alloc o1).alloc o2) := fun o1 o2 => ((Below.refl _ _).alloc (Nat.le_refl _) o1).alloc (by simp) o2
  refine bodyPost_ret (v := .agg _) (results_cell_row (P := Try.prog) rfl _ _ (w.heap.size + 1) 37 _ (0, 0) _ rfl (hn2 _ _) Try.underlying37 rfl size_ref) rfl ⟨?_, hb2 _ _⟩
  rw [HG.out]
  rfl

/-- no bytes, made just now -/
theorem bytes_none (w : World) (B : Nat) (hB : B ≤ w.heap.size) : (w.alloc (Obj.cells #[] 5)).ownsRow B 5 1 (.slice (some ⟨w.heap.size, 0, none⟩) 0 0) 0 (bts []) :=
  ⟨rfl, .inr ⟨w.heap.size, 0, _, rfl, hB, heap_alloc_new _ _, Nat.le_refl _, by unfold maxLen; omega, rfl, rfl⟩⟩
/-- no numbers, made just now -/
theorem nums_none (w : World) (B : Nat) (hB : B ≤ w.heap.size) : (w.alloc (Obj.cells #[] 3)).ownsRow B 3 1 (.slice (some ⟨w.heap.size, 0, none⟩) 0 0) 0 (nts []) :=
  ⟨rfl, .inr ⟨w.heap.size, 0, _, rfl, hB, heap_alloc_new _ _, Nat.le_refl _, by unfold maxLen; omega, rfl, rfl⟩⟩

set_option maxHeartbeats 1000000 in
theorem newr_any (a : Option Addr) (n cap : Nat) (c : List Int) (arg data gas : Int) (w : World) (hc : Came w a n cap c) (hn : n ≤ 100) :
    Calls Try.prog 26 #[.slice a n cap, .int .i64 arg, .int .i64 data, .int .i64 gas] w fun e w' => ∃ v, e = .returned (.agg (mcl v (.slice none 0 0) arg data ⟨0, [], gas, false, 0⟩)) ∧ w'.ownsRow w.heap.size 5 1 v n (bts c) ∧ Below w.heap.size w w' := by
  have HC := Lib.hid hc
  have hl := hc.reads.1
  clear hc
  obtain ⟨i0, hi, hz0, hz1, hz2⟩ := info_parts Try.infoByte
  go_enter Try.func26, Try.ntmps26
  have hr0 : ∀ o, (w.alloc o).heap[w.heap.size]? = some o := fun o => heap_alloc_new _ _
  have hsz : ∀ o, (w.alloc o).heap.size = w.heap.size + 1 := fun o => by simp
  have hbz : ∀ o, Below w.heap.size w (w.alloc o) := fun o => (Below.refl _ _).alloc (Nat.le_refl _) o
  obtain ⟨w0, hw0⟩ : ∃ w0, w0 = w.alloc (Obj.cells (noMac (.slice none 0 0) (.slice none 0 0)) 37) := ⟨_, rfl⟩
  have hr := hr0 (Obj.cells (noMac (.slice none 0 0) (.slice none 0 0)) 37)
  have hs := hsz (Obj.cells (noMac (.slice none 0 0) (.slice none 0 0)) 37)
  have hbb := hbz (Obj.cells (noMac (.slice none 0 0) (.slice none 0 0)) 37)
  rw [← hw0] at hr hs hbb
  have HR := Lib.hid hr
  have HS := Lib.hid hs
  have HB := Lib.hid hbb
  have HW := Lib.hid hw0
  have h0 := Lib.hid (bytes_none w0 w.heap.size (by omega))
  rw [hs] at h0
  clear hr hs hbb hw0 hr0 hsz hbz
  go_wp2_with (at_builtin; go_must (refine wpList_append_reads rfl _ _ 22 rfl w.heap.size 5 i0 Try.underlying22 hi hz0 hz1 hz2 _ 0 [] rfl (by have := h0.out; rw [HW.out] at this; exact this) _ n _ c rfl (HC.out.below (by have := HB.out; rw [HW.out] at this; exact this.alloc (by simp) _)).reads (fun h => by have := HC.out.nil h; exact this) (by omega) (by simp; try omega) ?_))
  intro v1 w1 ho1 hg1
  obtain ⟨a1, c1, rfl⟩ := own_slice ho1
  have hb1 : Below (w.heap.size + 1) w0 w1 := by
    have hbz : Below (w.heap.size + 1) w0 (w0.alloc (Obj.cells #[] 5)) := (Below.refl _ _).alloc (by rw [HS.out]; exact Nat.le_refl _) _
    have hg2 := hg1
    rw [← show w0 = w.alloc (Obj.cells #[.slice none 0 0, .int .i64 0, .int .i64 0, .int .i64 0, .slice none 0 0, .int .i64 0, .bool false, .int .i64 0] 37) from HW.out] at hg2
    exact hbz.grown hg2 (by simp [HS.out]) (fun k hk => by simp [Value.ownBlock] at hk; omega)
  have HO1 : Hid (w1.ownsRow w.heap.size 5 1 (.slice a1 n c1) n (bts c)) := Lib.hid (by simpa using ho1)
  have HR1 : Hid (w1.heap[w.heap.size]? = some (Obj.cells (noMac (.slice none 0 0) (.slice none 0 0)) 37 (0, 0))) := by show _ = _; rw [hb1.block _ (by omega)]; exact HR.out
  have HB1 := Lib.hid (HB.out.trans (hb1.mono (by omega)))
  clear ho1 hg1 hb1 HB HR HW h0 HS
  try simp only [Nat.zero_add]
  go_wp2_with (refine store_agg rfl 37 (.tmp 8) (.tmp 15) rfl rfl w.heap.size (mcl (.slice a1 n c1) (.slice none 0 0) arg data ⟨0, [], gas, false, 0⟩) rfl rfl 37 _ HR1.out size_ref rfl (mcl_one _ _ _ _ _ _ _ _ _) ?_; intro w2 hrow hon)
  refine bodyPost_ret (v := .agg (mcl (.slice a1 n c1) (.slice none 0 0) arg data ⟨0, [], gas, false, 0⟩)) (results_cell_row (P := Try.prog) rfl _ _ w.heap.size 37 _ (0, 0) _ rfl hrow Try.underlying37 rfl size_ref) rfl ⟨_, rfl, ?_, ?_⟩
  · exact own_only HO1.out hon (own_not HO1.out HR1.out (by decide))
  · exact HB1.out.trans (hon.below (Nat.le_refl _) HB1.out.size)
end Go.Proofs.Ytdbnfafafhdolaa
