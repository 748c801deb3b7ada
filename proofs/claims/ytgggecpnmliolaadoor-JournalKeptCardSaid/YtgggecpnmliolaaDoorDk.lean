/- What a disk is, and how it stands in memory. -/
import Derived.Test.YtgggecpnmliolaaDoorGen4
namespace Go.Proofs.YtgggecpnmliolaaDoor
open Go Go.RowKit
set_option linter.unusedVariables false
set_option linter.unusedSimpArgs false

/-- what a disk is -/
structure Dk where
  log : List Int
  syn : Nat
  snap : List Int
  dead : Bool
  stop : Int
  count : Nat
  room : Nat

namespace Dk
/-- an operation's power -/
def spend (d : Dk) : Dk := { d with count := d.count + 1, dead := (d.count : Int) + 1 == d.stop }
def add (b : List Int) (d : Dk) : Dk := { d with log := d.log ++ b }
def sync (d : Dk) : Dk := { d with syn := d.log.length }
def cut (n : Nat) (d : Dk) : Dk := { d with log := d.log.take n, syn := n }
def swap (b : List Int) (d : Dk) : Dk := { d with log := [], syn := 0, snap := b }
def even (d : Dk) : Bool := d.stop.tmod 2 == 0
/-- how many of the bytes that are not synced stay -/
def stays (d : Dk) (pick : Int) : Nat := (pick % ((d.log.length : Int) - d.syn + 1)).toNat
def lose (pick : Int) (d : Dk) : Dk := d.cut (d.syn + d.stays pick)
/-- an operation, where there is power -/
def after (f : Dk → Dk) (anyway : Bool) (d : Dk) : Dk := if (anyway || !d.spend.dead) = true then f d.spend else d.spend
def run (f : Dk → Dk) (anyway : Bool) (d : Dk) : Dk := if d.dead = true then d else d.after f anyway
def runE (d : Dk) : Int := if d.dead = true then 20 else if d.spend.dead = true then 20 else 0
end Dk

def dcells (lv sv : Value) (d : Dk) : Array Value := #[lv, .int .i64 (d.syn : Int), sv, .bool d.dead, .int .i64 d.stop, .int .i64 (d.count : Int), .int .i64 (d.room : Int)]

/-- a disk in memory: its cells lie in block g, its log and its snapshot in rows of their own, none of it older than B -/
structure Dsk (B g : Nat) (d : Dk) (lv sv : Value) (w : World) : Prop where
  row : w.heap[g]? = some (.cells (dcells lv sv d) 54 (0, 0))
  old : B ≤ g
  log : w.ownsRow B 5 1 lv d.log.length (bts d.log)
  snap : w.ownsRow B 5 1 sv d.snap.length (bts d.snap)
  two : lv.ownBlock = none ∨ lv.ownBlock ≠ sv.ownBlock
  fit : d.log.length + d.snap.length ≤ d.room
  small : d.room ≤ 2000000
  few : d.count ≤ 1000
  stop : I64 d.stop
  lby : ∀ c ∈ d.log, Byte c
  sby : ∀ c ∈ d.snap, Byte c

/-- it does not matter where its bytes lie; no more is synced than is there -/
def Has (B g : Nat) (d : Dk) (w : World) : Prop := d.syn ≤ d.log.length ∧ ∃ lv sv, Dsk B g d lv sv w

section
variable {B g : Nat} {d : Dk} {lv sv : Value} {w : World}

theorem Dsk.lt (h : Dsk B g d lv sv w) : g < w.heap.size := (Array.getElem?_eq_some_iff.1 h.row).1

theorem Dsk.later (h : Dsk B g d lv sv w) {w' : World} (hb : Below w.heap.size w w') : Dsk B g d lv sv w' :=
  ⟨by rw [hb.block g h.lt]; exact h.row, h.old, own_later h.log hb, own_later h.snap hb, h.two, h.fit, h.small, h.few, h.stop, h.lby, h.sby⟩

theorem Dsk.drewN (h : Dsk B g d lv sv w) (k : Nat) : Dsk B g d lv sv (w.drewN k) := h.later (below_drewN (Below.refl _ _) k)

theorem Dsk.drew (h : Dsk B g d lv sv w) : Dsk B g d lv sv w.drew := h.later (Below.refl _ _).drew

theorem Has.later (h : Has B g d w) {w' : World} (hb : Below w.heap.size w w') : Has B g d w' := by
  obtain ⟨hs, lv, sv, h⟩ := h
  exact ⟨hs, lv, sv, h.later hb⟩

theorem Dsk.free (h : Dsk B g d lv sv w) (k : Nat) : w.frozen? ⟨g, k, none⟩ = false := by simp [World.frozen?, h.row]

/-- its cells -/
theorem Dsk.cells (h : Dsk B g d lv sv w) : w.cell? ⟨g, 0, none⟩ = some lv ∧ w.cell? ⟨g, 1, none⟩ = some (.int .i64 (d.syn : Int)) ∧ w.cell? ⟨g, 2, none⟩ = some sv ∧ w.cell? ⟨g, 3, none⟩ = some (.bool d.dead) ∧
    w.cell? ⟨g, 4, none⟩ = some (.int .i64 d.stop) ∧ w.cell? ⟨g, 5, none⟩ = some (.int .i64 (d.count : Int)) ∧ w.cell? ⟨g, 6, none⟩ = some (.int .i64 (d.room : Int)) := by
  have hr := h.row
  unfold dcells at hr
  refine ⟨?_, ?_, ?_, ?_, ?_, ?_, ?_⟩ <;> simp [World.cell?, hr]

theorem row_apart {n : Nat} {v : Value} {xs : List Value} (hr : w.heap[g]? = some (.cells (dcells lv sv d) 54 (0, 0))) (h : w.ownsRow B 5 1 v n xs) : v.ownBlock ≠ some g := by
  rcases h.2 with ⟨rfl, _⟩ | ⟨k, cap, cur, rfl, _, hg, _⟩
  · simp [Value.ownBlock]
  · intro hk
    simp only [Value.ownBlock, Option.some.injEq] at hk
    subst hk
    rw [hg] at hr
    simp only [Option.some.injEq, Obj.cells.injEq] at hr
    exact absurd hr.2.1 (by decide)

theorem own_only {w w' : World} {B n r : Nat} {v : Value} {xs : List Value} (h : w.ownsRow B 5 1 v n xs) (ho : Only r w w') (hne : v.ownBlock ≠ some r) : w'.ownsRow B 5 1 v n xs :=
  h.kept (row := some r) ho (.inr hne)

theorem own_slice {n : Nat} {v : Value} {xs : List Value} (h : w.ownsRow B 5 1 v n xs) : ∃ a c, v = .slice a n c := by
  rcases h.2 with ⟨rfl, h0⟩ | ⟨k, cap, cur, rfl, _⟩
  · exact ⟨none, 0, by rw [h0]⟩
  · exact ⟨_, cap, rfl⟩

/-- bytes that are read lie in no disk -/
theorem reads_disk {a : Option Addr} {n : Nat} {xs : List Int} (hd : Dsk B g d lv sv w) (h : Reads w a n xs) : 0 < n → ∀ ad, a = some ad → ad.block ≠ g := by
  intro hp ad ha hb
  obtain ⟨ad', h1, h2⟩ := h.2 hp
  rw [ha] at h1
  obtain rfl := Option.some.inj h1
  have hl : 0 < xs.length := by rw [h.1]; exact hp
  have h3 := h2 0 (.int .u8 (xs[0])) (by simp [bts, hl])
  rw [Addr.add_zero'] at h3
  subst hb
  have hr := hd.row
  obtain ⟨a1, c1, rfl⟩ := own_slice hd.log
  obtain ⟨a2, c2, rfl⟩ := own_slice hd.snap
  unfold World.cell? at h3
  rw [hr] at h3
  unfold dcells at h3
  simp only at h3
  revert h3
  match ad.off with
  | 0 => simp
  | 1 => simp
  | 2 => simp
  | 3 => simp
  | 4 => simp
  | 5 => simp
  | 6 => simp
  | k + 7 => simp

/-- one of its cells is written, of those that tell no bytes -/
theorem Dsk.put (h : Dsk B g d lv sv w) (k : Nat) (v : Value) (d' : Dk) (hc : (dcells lv sv d).setIfInBounds k v = dcells lv sv d') (h1 : d'.log = d.log) (h2 : d'.snap = d.snap) (h3 : d'.room = d.room)
    (h5 : d'.count ≤ 1000) (h6 : I64 d'.stop) : Dsk B g d' lv sv (w.setCell ⟨g, k, none⟩ v) ∧ Only g w (w.setCell ⟨g, k, none⟩ v) := by
  have ho := only_setCell w g k _ _ v h.row
  refine ⟨⟨by rw [ho.2, hc], h.old, ?_, ?_, h.two, by rw [h1, h2, h3]; exact h.fit, by rw [h3]; exact h.small, h5, h6, by rw [h1]; exact h.lby, by rw [h2]; exact h.sby⟩, ho.1⟩
  · rw [h1]; exact own_only h.log ho.1 (row_apart h.row h.log)
  · rw [h2]; exact own_only h.snap ho.1 (row_apart h.row h.snap)

/-- the log's bytes lie elsewhere, or are others -/
theorem Dsk.relog {v : Value} {l : List Int} (hr : w.heap[g]? = some (.cells (dcells lv sv d) 54 (0, 0))) (hold : B ≤ g) (hl : w.ownsRow B 5 1 v l.length (bts l)) (hs : w.ownsRow B 5 1 sv d.snap.length (bts d.snap))
    (two : v.ownBlock = none ∨ v.ownBlock ≠ sv.ownBlock) (fit : l.length + d.snap.length ≤ d.room) (small : d.room ≤ 2000000) (few : d.count ≤ 1000) (stop : I64 d.stop) (lby : ∀ c ∈ l, Byte c) (sby : ∀ c ∈ d.snap, Byte c) :
    Dsk B g { d with log := l } v sv (w.setCell ⟨g, 0, none⟩ v) ∧ Only g w (w.setCell ⟨g, 0, none⟩ v) := by
  have ho := only_setCell w g 0 _ _ v hr
  exact ⟨⟨by rw [ho.2]; simp [dcells], hold, own_only hl ho.1 (row_apart hr hl), own_only hs ho.1 (row_apart hr hs), two, fit, small, few, stop, lby, sby⟩, ho.1⟩
end
end Go.Proofs.YtgggecpnmliolaaDoor
