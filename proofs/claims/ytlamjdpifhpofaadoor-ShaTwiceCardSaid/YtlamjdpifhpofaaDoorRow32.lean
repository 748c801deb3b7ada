/- Arrays of numbers of 32 bits in memory: one cell, the whole; the rounds' numbers. -/
import Derived.Test.YtlamjdpifhpofaaDoorGen
import Derived.Test.YtlamjdpifhpofaaDoorU32
import Derived.Test.YtlamjdpifhpofaaDoorOrd
namespace Go.Proofs.YtlamjdpifhpofaaDoor
open Go.RowKit Sha
set_option linter.unusedVariables false
set_option linter.unusedSimpArgs false

def us (xs : List W) : List Value := xs.map u
theorem us_length (xs : List W) : (us xs).length = xs.length := by simp [us]

/-- an array of numbers in block g -/
def Row (w : World) (g : Nat) (T : TypeId) (xs : List W) : Prop := w.heap[g]? = some (.cells (us xs).toArray T (0, 0))

theorem us_one (xs : List W) : (us xs).toArray.all (·.oneCell') = true := by
  rw [Array.all_eq_true_iff_forall_mem]
  intro v hv
  simp [us] at hv
  obtain ⟨x, _, rfl⟩ := hv
  rfl

section
variable {w w' : World} {g : Nat} {T : TypeId} {xs : List W}

theorem Row.lt (h : Row w g T xs) : g < w.heap.size := (Array.getElem?_eq_some_iff.1 h).1
theorem Row.at (h : Row w g T xs) {i : Nat} (hi : i < xs.length) : w.cell? ⟨g, i, none⟩ = some (.int .u32 ((xs.getD i 0).toNat : Int)) := by
  unfold Row at h
  simp [World.cell?, h, us, u, List.getD, hi]
theorem Row.free (h : Row w g T xs) (i : Nat) : w.frozen? ⟨g, i, none⟩ = false := by
  unfold Row at h
  simp [World.frozen?, h]
theorem Row.only {r : Nat} (h : Row w g T xs) (ho : Only r w w') (hne : g ≠ r) : Row w' g T xs := by
  unfold Row
  rw [ho.block g h.lt (by simpa using hne)]
  exact h
theorem Row.below {B : Nat} (h : Row w g T xs) (hb : Below B w w') (hB : g < B) : Row w' g T xs := by
  unfold Row
  rw [hb.block g hB]
  exact h
theorem Row.keep (h : Row w g T xs) (hb : Below w.heap.size w w') : Row w' g T xs := h.below hb h.lt
theorem Row.put (h : Row w g T xs) (i : Nat) (x : W) : Only g w (w.setCell ⟨g, i, none⟩ (.int .u32 (x.toNat : Int))) ∧ Row (w.setCell ⟨g, i, none⟩ (.int .u32 (x.toNat : Int))) g T (xs.set i x) := by
  have h0 := only_setCell w g i _ _ (.int .u32 (x.toNat : Int)) h
  refine ⟨h0.1, ?_⟩
  unfold Row
  rw [h0.2]
  simp [us, u, List.map_set]
end

/-- bytes that are read lie in no array of numbers -/
theorem row_apart {w : World} {g : Nat} {T : TypeId} {xs : List W} {aT : Option Addr} {L : Nat} {t : List Int} (h : Row w g T xs) (ht : Reads w aT L t) : 0 < L → ∀ ad, aT = some ad → ad.block ≠ g := by
  intro hp ad ha hb
  obtain ⟨ad', h1, h2⟩ := ht.2 hp
  rw [ha] at h1
  obtain rfl := Option.some.inj h1
  have hl : 0 < t.length := by rw [ht.1]; exact hp
  have h3 := h2 0 (.int .u8 (t[0])) (by simp [bts, hl])
  rw [Addr.add_zero'] at h3
  subst hb
  unfold Row at h
  unfold World.cell? at h3
  rw [h] at h3
  simp only [us] at h3
  simp only [List.getElem?_toArray, List.getElem?_map] at h3
  cases hx : xs[ad.off]? with
  | none => rw [hx] at h3; simp at h3
  | some x => rw [hx] at h3; simp [u] at h3

theorem info_u64 : (Tryd.prog.info? 42).map (·.size) = some 64 := by kernel_rfl
theorem info_u8 : (Tryd.prog.info? 32).map (·.size) = some 8 := by kernel_rfl

/-- a whole array is stored -/
theorem wpList_store_us {ops : Array Oper} {rest : List Oper} {o : Oper} {a : Act} {w : World} {Q : Exit → Act → World → Prop} (hgd : o.guard = none) (T : TypeId) (x y : Operand) (ho : o.op = .store T x y)
    (g : Nat) (xs : List W) (hx : a.eval x = .pointer (some ⟨g, 0, none⟩)) (hy : a.eval y = .agg (us xs).toArray) (hi : (Tryd.prog.info? T).map (·.size) = some xs.length)
    (old : Array Value) (hg : w.heap[g]? = some (.cells old T (0, 0))) (hold : old.size = xs.length)
    (h : ∀ w', Row w' g T xs → Only g w w' → wpList Tryd.prog ops Q rest (a.put o.dst undef) w') : wpList Tryd.prog ops Q (o :: rest) a w :=
  wpList_store_row hgd T x y ho g _ hx hy T old hg (by rw [List.size_toArray, us_length]; exact hi) (by rw [show (us xs).toArray.size = xs.length by simp [us]]; exact hold) (us_one xs)
    (h _ (setRow_heap _ _ _ _ _ _ hg) ⟨rfl, rfl, rfl, by simp, fun k hk hne => setRow_other w g k _ (fun e => hne (by simp [e]))⟩)

/-- a whole array is loaded -/
theorem wpList_load_us {ops : Array Oper} {rest : List Oper} {o : Oper} {a : Act} {w : World} {Q : Exit → Act → World → Prop} (hgd : o.guard = none) (T : TypeId) (x : Operand) (ho : o.op = .load T x)
    (g : Nat) (xs : List W) (hx : a.eval x = .pointer (some ⟨g, 0, none⟩)) (hg : Row w g T xs) (n : Nat) (e : TypeId) (hu : Tryd.prog.underlying T = some (.array n e)) (hi : (Tryd.prog.info? T).map (·.size) = some xs.length)
    (h : wpList Tryd.prog ops Q rest (a.put o.dst (.agg (us xs).toArray)) w) : wpList Tryd.prog ops Q (o :: rest) a w :=
  wpList_load_row hgd T x ho g hx T _ (0, 0) _ hg hu rfl (by rw [List.size_toArray, us_length]; exact hi) h

theorem und_u64 : Tryd.prog.underlying 42 = some (.array 64 31) := by kernel_rfl
theorem und_u8 : Tryd.prog.underlying 32 = some (.array 8 31) := by kernel_rfl

end Go.Proofs.YtlamjdpifhpofaaDoor
