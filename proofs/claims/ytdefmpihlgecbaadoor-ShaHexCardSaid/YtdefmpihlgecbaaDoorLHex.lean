/- ShaHex: the walk. -/
import Derived.Test.YtdefmpihlgecbaaDoorKnown2
namespace Go.Proofs.YtdefmpihlgecbaaDoor
open Go.RowKit Sha
set_option linter.unusedVariables false
set_option linter.unusedSimpArgs false

theorem index_str (xs : List Int) (hb : ∀ c ∈ xs, Byte c) (p : Nat) (hp : p < xs.length) (n : Int) (hn : n = (p : Int)) (w : World) : (Instr.index 9 (.string (strOfNums xs)) (.int .i64 n)).run Tryd.prog w = .ok (.int .u8 (xs.getD p 0)) w := by
  subst hn
  have hby : Byte xs[p] := hb _ (List.getElem_mem hp)
  have hx : (strOfNums xs)[p]? = some (UInt8.ofNat xs[p].toNat) := by
    have h1 : p < (strOfNums xs).size := by rw [strOfNums_size]; exact hp
    rw [getElem?_pos (strOfNums xs) p h1]
    congr 1
    show (strOfNums xs).data[p]'_ = _
    simp [strOfNums]
  simp [Instr.index, asIntOf, run_underlying Tryd.underlying9, hx, List.getD, hp]
  have h0 := hby.1
  have h1 := hby.2
  omega

theorem hexOf_at0 (hs : List Int) (i : Nat) (hi : i < hs.length) : (hexOf hs).getD (2 * i) 0 = dig (hs.getD i 0 / 16) ∧ (hexOf hs).getD (2 * i + 1) 0 = dig (hs.getD i 0 % 16) := by
  have h := hexOf_append (hs.take (i + 1)) (hs.drop (i + 1))
  rw [List.take_append_drop, hexOf_next hi] at h
  have hl : (hexOf (hs.take i)).length = 2 * i := by rw [hexOf_length, List.length_take]; omega
  rw [h]
  constructor
  · simp only [List.getD, List.append_assoc]
    rw [List.getElem?_append_right (by omega), hl, Nat.sub_self]
    rfl
  · simp only [List.getD, List.append_assoc]
    rw [List.getElem?_append_right (by omega), hl, Nat.add_sub_cancel_left]
    rfl

theorem hexOf_byte {hs : List Int} (h : ∀ c ∈ hs, Byte c) : ∀ c ∈ hexOf hs, Byte c := by
  intro c hc
  obtain ⟨x, hx, hc⟩ := List.mem_flatMap.1 hc
  obtain ⟨h0, h1⟩ := h x hx
  simp only [List.mem_cons, List.not_mem_nil, or_false] at hc
  rcases hc with rfl | rfl
  · exact dig_byte (by omega) (by omega)
  · exact dig_byte (by omega) (by omega)

set_option maxRecDepth 100000 in
set_option maxHeartbeats 8000000 in
theorem lhex_any (cs : Array Value) (hs : List Int) (w : World) (h : Sum cs hs) (hlaid : Laid w) :
    Calls Tryd.prog 7 #[.agg cs] w fun e w' => e = .returned (.bool true) ∧ Below w.heap.size w w' := by
  obtain ⟨X, hX⟩ : ∃ X, X = w.alloc (.cells cs 24) := ⟨_, rfl⟩
  have HL : Hid (Below w.heap.size w X) := by rw [hX]; exact (Below.refl _ _).alloc (Nat.le_refl _) _
  have HD : Hid (X.heap[w.heap.size]? = some (.cells cs 24 (0, 0))) := by rw [hX]; exact heap_alloc_new w _
  have HLA := Lib.hid (hlaid.keep HL.out)
  have HS := Lib.hid h
  have HX := Lib.hid hX
  clear hX hlaid h
  go_enter Tryd.func7, Tryd.ntmps7
  go_upto_region 1 with (fail)
  rw [← HX.out]
  go_wp2_with fail
  refine (known_any X HLA.out).mono ?_
  rintro _ w1 ⟨rfl, hb1⟩
  have HD1 : Hid (w1.heap[w.heap.size]? = some (.cells cs 24 (0, 0))) := (hb1.block _ (Array.getElem?_eq_some_iff.1 HD.out).1).trans HD.out
  have HL1 : Hid (Below w.heap.size w w1) := HL.out.trans (hb1.mono HL.out.size)
  clear hb1 HD HL HX HLA X
  go_wp2_with (refine wpList_load_row rfl 24 (.tmp 1) rfl w.heap.size rfl 24 cs (0, 0) _ HD1.out Tryd.underlying24 rfl (sum_info HS.out) ?_)
  refine (hex_any cs hs HS.out w1).mono ?_
  rintro _ w2 ⟨rfl, hb2⟩
  have HD2 : Hid (w2.heap[w.heap.size]? = some (.cells cs 24 (0, 0))) := (hb2.block _ (Array.getElem?_eq_some_iff.1 HD1.out).1).trans HD1.out
  have HL2 : Hid (Below w.heap.size w w2) := HL1.out.trans (hb2.mono HL1.out.size)
  have hlen : (strOfNums (hexOf hs)).size = 64 := by rw [strOfNums_size, hexOf_length, HS.out.len]
  have HIX := Lib.hid (index_str (hexOf hs) (hexOf_byte HS.out.bytes))
  have HAT := Lib.hid (hexOf_at0 hs)
  have HTL : Hid ((hexOf hs).length = 64) := by show _ = _; rw [hexOf_length, HS.out.len]
  obtain ⟨T, hT⟩ : ∃ T, T = hexOf hs := ⟨_, rfl⟩
  rw [← hT] at hlen HIX HAT HTL ⊢
  obtain ⟨S, hSS⟩ : ∃ S, S = strOfNums T := ⟨_, rfl⟩
  rw [← hSS] at hlen HIX ⊢
  clear hb2 HD1 HL1 w1 hT hSS
  go_wp2_with fail
  clear hlen
  go_loopw [4] (fun v X => ∃ i : Nat, i ≤ 32 ∧ v = .int .i64 (i : Int) ∧ Hid (X.heap[w.heap.size]? = some (.cells cs 24 (0, 0))) ∧ Hid (Below w.heap.size w X)) (fun v _ => (32 - intOf v).toNat)
  case atStart => exact ⟨0, by omega, rfl, HD2, HL2⟩
  case round =>
    clear HD2 HL2
    obtain ⟨i, hi, rfl, HD, HL⟩ := hrel
    by_cases hi32 : i < 32
    · have hat := HAT.out i (by rw [HS.out.len]; exact hi32)
      have hby : Byte (hs.getD i 0) := HS.out.bytes _ (by have := HS.out.len; simp [List.getD, show i < hs.length by omega])
      have hcell : wr.cell? ⟨w.heap.size, i, none⟩ = some (.int .u8 (hs.getD i 0)) := by
        simp only [World.cell?, HD.out]
        exact HS.out.at i hi32
      have hx0 := HIX.out (2 * i) (by rw [HTL.out]; omega)
      have hx1 := HIX.out (2 * i + 1) (by rw [HTL.out]; omega)
      rw [hat.1] at hx0
      rw [hat.2] at hx1
      obtain ⟨c, hc⟩ : ∃ c, c = hs.getD i 0 := ⟨_, rfl⟩
      rw [← hc] at hx0 hx1 hby hcell
      clear hat hc
      have hb1 : 0 ≤ c / 16 ∧ c / 16 < 16 ∧ 0 ≤ c % 16 ∧ c % 16 < 16 ∧ 16 * (c / 16) + c % 16 = c := by have := hby.1; have := hby.2; omega
      obtain ⟨ch, hch⟩ : ∃ h, h = c / 16 := ⟨_, rfl⟩
      obtain ⟨cl, hcl⟩ : ∃ h, h = c % 16 := ⟨_, rfl⟩
      rw [← hch] at hx0 hb1
      rw [← hcl] at hx1 hb1
      have HX0 := Lib.hid hx0
      have HX1 := Lib.hid hx1
      have HCE := Lib.hid hcell
      have HBB := Lib.hid hb1
      clear hx0 hx1 hcell hb1 hch hcl hby
      have hgd : decide ((i : Int) < 32) = true := by simp; omega
      go_upto_region 11 with (fail)
      try simp only [hgd]
      clear hgd
      go_loopw [5, 6] (fun n v X => ∃ k : Nat, k ≤ 2 ∧ v = .int .i64 (k : Int) ∧ n = .int .i64 (if k = 0 then 0 else if k = 1 then ch else c) ∧ X = wr) (fun _ v _ => (2 - intOf v).toNat)
      case atStart => exact ⟨0, by omega, rfl, rfl, rfl⟩
      case round =>
        skip
        obtain ⟨k, hk, rfl, hn, rfl⟩ := hrel
        have hk3 : k = 0 ∨ k = 1 ∨ k = 2 := by omega
        clear hk
        rcases hk3 with rfl | rfl | rfl
        · obtain rfl := (show _ = Value.int .i64 0 from hn)
          have hix := HX0.out (2 * (i : Int)) (by omega)
          by_cases hd : ch < 10
          · have he : dig ch = 48 + ch := by unfold dig; rw [if_pos hd]
            rw [he] at hix
            obtain ⟨e, hee⟩ : ∃ e, e = 48 + ch := ⟨_, rfl⟩
            rw [← hee] at hix
            have hlo : 48 ≤ e := by have := HBB.out; omega
            have hup : e ≤ 57 := by omega
            have hcb : 0 ≤ ch ∧ ch < 16 := by have := HBB.out; omega
            have HEE := Lib.hid hee
            clear hee he hd
            go_wp2_with fail
            go_roundw
            case rel => exact ⟨1, by omega, by go_num, by show Value.int .i64 _ = Value.int .i64 ch; congr 1; have := HEE.out; have := HBB.out; omega, by first | rfl | trivial⟩
            case measure => simp [intOf]
          · have he : dig ch = 87 + ch := by unfold dig; rw [if_neg hd]
            rw [he] at hix
            obtain ⟨e, hee⟩ : ∃ e, e = 87 + ch := ⟨_, rfl⟩
            rw [← hee] at hix
            have hlo : 97 ≤ e := by have := HBB.out; omega
            have hup : e ≤ 102 := by have := HBB.out; omega
            have hcb : 0 ≤ ch ∧ ch < 16 := by have := HBB.out; omega
            have HEE := Lib.hid hee
            clear hee he hd
            go_wp2_with fail
            go_roundw
            case rel => exact ⟨1, by omega, by go_num, by show Value.int .i64 _ = Value.int .i64 ch; congr 1; have := HEE.out; have := HBB.out; omega, by first | rfl | trivial⟩
            case measure => simp [intOf]
        · obtain rfl := (show _ = Value.int .i64 ch from hn)
          have hix := HX1.out (2 * (i : Int) + 1) (by omega)
          by_cases hd : cl < 10
          · have he : dig cl = 48 + cl := by unfold dig; rw [if_pos hd]
            rw [he] at hix
            obtain ⟨e, hee⟩ : ∃ e, e = 48 + cl := ⟨_, rfl⟩
            rw [← hee] at hix
            have hlo : 48 ≤ e := by have := HBB.out; omega
            have hup : e ≤ 57 := by omega
            have hcb : 0 ≤ ch ∧ ch < 16 := by have := HBB.out; omega
            have HEE := Lib.hid hee
            clear hee he hd
            go_wp2_with fail
            go_roundw
            case rel => exact ⟨2, by omega, by go_num, by show Value.int .i64 _ = Value.int .i64 c; congr 1; have := HEE.out; have := HBB.out; omega, by first | rfl | trivial⟩
            case measure => simp [intOf]
          · have he : dig cl = 87 + cl := by unfold dig; rw [if_neg hd]
            rw [he] at hix
            obtain ⟨e, hee⟩ : ∃ e, e = 87 + cl := ⟨_, rfl⟩
            rw [← hee] at hix
            have hlo : 97 ≤ e := by have := HBB.out; omega
            have hup : e ≤ 102 := by have := HBB.out; omega
            have hcb : 0 ≤ ch ∧ ch < 16 := by have := HBB.out; omega
            have HEE := Lib.hid hee
            clear hee he hd
            go_wp2_with fail
            go_roundw
            case rel => exact ⟨2, by omega, by go_num, by show Value.int .i64 _ = Value.int .i64 c; congr 1; have := HEE.out; have := HBB.out; omega, by first | rfl | trivial⟩
            case measure => simp [intOf]
        · obtain rfl := (show _ = Value.int .i64 c from hn)
          have hcell := HCE.out
          have hcb : 0 ≤ c ∧ c < 256 := by have := HBB.out; omega
          go_wp2_with fail
          go_roundw
          case rel => exact ⟨i + 1, by omega, by go_num, HD, HL⟩
          case measure => simp [intOf]; omega
    · go_wp2
      go_ret
      exact ⟨rfl, HL.out⟩
end Go.Proofs.YtdefmpihlgecbaaDoor
