/- One byte of what the call owns is written anew. -/
import Derived.Test.YtbgaekokjkdpiaaDoorLog
namespace Go.Proofs.YtbgaekokjkdpiaaDoor
open Go.RowKit Frm
set_option linter.unusedVariables false
set_option linter.unusedSimpArgs false

theorem own_form {w : World} {B n s : Nat} {e : TypeId} {v : Value} {xs : List Value} (h : w.ownsRow B e s v n xs) (hn : 0 < n) : ∃ g c, v = .slice (some ⟨g, 0, none⟩) n c := by
  rcases h.2 with ⟨_, h0⟩ | ⟨g, c, cur, h1, _⟩
  · omega
  · exact ⟨g, c, h1⟩

section
variable {w : World} {B g n c i : Nat} {xs : List Int}

theorem own_at (h : w.ownsRow B 5 1 (.slice (some ⟨g, 0, none⟩) n c) n (bts xs)) (hi : i < n) : w.cell? ⟨g, i, none⟩ = some (.int .u8 (xs.getD i 0)) ∧ w.frozen? ⟨g, i, none⟩ = false := by
  have hl := h.1
  rw [bts_length, Nat.mul_one] at hl
  rcases h.2 with ⟨h1, _⟩ | ⟨g', c', cur, h1, _, hg, h2, h3, h4, h5⟩
  · cases h1
  · cases h1
    constructor
    · have h6 : (cur.toList.take (n * 1))[i]? = (bts xs)[i]? := by rw [h5]
      rw [List.getElem?_take, if_pos (by omega)] at h6
      simp only [World.cell?, hg]
      simp only [Array.getElem?_toList] at h6
      simp [h6, bts, List.getD, show i < xs.length by omega]
    · simp [World.frozen?, hg]

theorem own_set (h : w.ownsRow B 5 1 (.slice (some ⟨g, 0, none⟩) n c) n (bts xs)) (x : Int) :
    (w.setCell ⟨g, i, none⟩ (.int .u8 x)).ownsRow B 5 1 (.slice (some ⟨g, 0, none⟩) n c) n (bts (xs.set i x)) ∧ Only g w (w.setCell ⟨g, i, none⟩ (.int .u8 x)) ∧ B ≤ g := by
  have hl := h.1
  rcases h.2 with ⟨h1, _⟩ | ⟨g', c', cur, h1, hB, hg, h2, h3, h4, h5⟩
  · cases h1
  · cases h1
    have h0 := only_setCell w g i cur 5 (.int .u8 x) hg
    refine ⟨⟨by rw [bts_length, List.length_set]; rw [bts_length] at hl; exact hl, .inr ⟨g, c, _, rfl, hB, h0.2, h2, h3, by simpa using h4, ?_⟩⟩, h0.1, hB⟩
    rw [show (cur.setIfInBounds i (.int .u8 x)).toList = cur.toList.set i (.int .u8 x) by simp, List.take_set, h5]
    simp [bts, List.map_set]
end

theorem came_only {w w' : World} {a : Option Addr} {len cap r : Nat} {z : List Int} (h : Came w a len cap z) (ho : Only r w w') (hne : 0 < len → ∀ ad, a = some ad → ad.block ≠ r) : Came w' a len cap z :=
  ⟨reads_only h.reads ho hne, h.le, h.small, h.nil, h.bytes⟩
end Go.Proofs.YtbgaekokjkdpiaaDoor
