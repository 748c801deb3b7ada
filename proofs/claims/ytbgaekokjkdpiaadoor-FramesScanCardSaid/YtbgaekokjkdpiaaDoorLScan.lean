/- FramesScan: the walk. -/
import Derived.Test.YtbgaekokjkdpiaaDoorPick
import Derived.Test.YtbgaekokjkdpiaaDoorLTurned
import Derived.Deep.CutBlock
namespace Go.Proofs.YtbgaekokjkdpiaaDoor
open Go.RowKit Frm
set_option linter.unusedVariables false
set_option linter.unusedSimpArgs false

set_option maxRecDepth 100000 in
set_option maxHeartbeats 8000000 in
theorem lscan_any (a0 : Option Addr) (len0 cap0 : Nat) (zss : List (List Int)) (a1 : Option Addr) (len1 cap1 : Nat) (y : List Int) (a2 : Option Addr) (len2 cap2 : Nat) (ns : List Int) (a3 : Option Addr) (len3 cap3 : Nat) (bs : List Int) (ct : Int) (w : World)
    (hm : Mat w a0 len0 cap0 zss) (hcame : Came w a1 len1 cap1 y) (hns : Nums w a2 len2 cap2 ns) (hbs : Came w a3 len3 cap3 bs) (hct : I64 ct) (hlaid : Laid w) :
    Calls Tryd.prog 4 #[.slice a0 len0 cap0, .slice a1 len1 cap1, .slice a2 len2 cap2, .slice a3 len3 cap3, .int .i64 ct] w fun e w' => e = .returned (.bool true) ∧ Below w.heap.size w w' := by
  obtain ⟨i0, hi, hz0, hz1, hz2⟩ := info_parts Tryd.infoByte
  have HM := Lib.hid hm
  have HC := Lib.hid hcame
  have HN := Lib.hid hns
  have HBS := Lib.hid hbs
  have HLA := Lib.hid hlaid
  have HZ := Lib.hid hcame.reads.1
  have HBY := Lib.hid (mat_bytes hm)
  have hbg2 : len2 ≤ 9223372036854775807 := by have h1 := hns.le; have h2 := hns.small; unfold maxLen at h2; omega
  have hbg3 : len3 ≤ 9223372036854775807 := by have h1 := hbs.le; have h2 := hbs.small; unfold maxLen at h2; omega
  have hct0 := hct.1
  have hct1 := hct.2
  clear hm hcame hlaid hns hbs hct
  go_enter Tryd.func4, Tryd.ntmps4
  go_wp2_with fail
  refine (known_any w HLA.out).mono ?_
  rintro _ w1 ⟨rfl, hb1⟩
  have HB1 := Lib.hid hb1
  have HM1 := Lib.hid (HM.out.below hb1)
  clear hb1
  go_wp2_with fail
  refine (few_any HM1.out).mono ?_
  rintro _ _ ⟨b, rfl, rfl, HF⟩
  cases b with
  | false =>
    go_wp2_with fail
    go_ret
    exact ⟨rfl, HB1.out⟩
  | true =>
    have hl10 := (HF.out rfl).1
    have H3 := Lib.hid (HF.out rfl).2
    clear HF
    by_cases hbig : 500 < len1
    · go_wp2_with fail
      go_ret
      exact ⟨rfl, HB1.out⟩
    · go_wp2_with fail
      refine (log_any HM1.out hl10 H3.out).mono ?_
      rintro _ w2 ⟨v2, rfl, ho2, hb2⟩
      have hbl : bulk zss ≤ 308 * len0 := by
        have h := bulk_few (zss := zss) len0 (by rw [HM.out.sz]; exact Nat.le_refl _) H3.out
        rwa [List.take_of_length_le (by rw [HM.out.sz]; exact Nat.le_refl _)] at h
      obtain ⟨m, hmm⟩ : ∃ m, m = bulk zss := ⟨_, rfl⟩
      rw [← hmm] at ho2 hbl
      obtain ⟨b2, c2, rfl, hc2⟩ := own_came ho2 (frames_byte HBY.out)
      have HO2 := Lib.hid (owns_mono ho2 HB1.out.size)
      have HB2 := Lib.hid (HB1.out.trans (hb2.mono HB1.out.size))
      have HF2 := Lib.hid (frames_byte HBY.out)
      have hm3 : m ≤ 3080 := by omega
      clear ho2 hb2 hc2 hmm hbl
      go_upto_block 0 with (fail)
      go_cut [12] from 31 to 67 (fun u wx => ∃ zs, Hid (wx.ownsRow w.heap.size 5 1 (.slice b2 m c2) m (bts zs)) ∧ Hid (∀ c ∈ zs, Byte c) ∧ Hid (Below w.heap.size w wx))
      case first =>
        go_wp2_with fail
        go_loopw [12] (fun v X => ∃ (i : Nat) (zs : List Int), i ≤ 3 ∧ v = .int .i64 (i : Int) ∧ Hid (X.ownsRow w.heap.size 5 1 (.slice b2 m c2) m (bts zs)) ∧ Hid (∀ c ∈ zs, Byte c) ∧ Hid (Below w.heap.size w X)) (fun v _ => (3 - intOf v).toNat)
        case atStart => exact ⟨0, frames zss, by omega, rfl, HO2, HF2, HB2⟩
        case round =>
          clear HO2 HB2 HF2
          obtain ⟨i, zs, hi3, rfl, HO, HZB, HB⟩ := hrel
          by_cases g1 : i < len2
          · by_cases g2 : i < len3
            · by_cases g3 : i < 3
              · by_cases g4 : 0 < m
                · obtain ⟨g, c, hv⟩ := own_form HO.out g4
                  cases hv
                  obtain ⟨ad2, rfl, hn2⟩ := HN.out.cell i g1
                  obtain ⟨ad3, rfl, hn3⟩ := HBS.out.reads.at g2
                  have hcn : wr.cell? (ad2.add i) = some (.int .i64 (ns.getD i 0)) := by rw [HB.out.cell (World.block_lt_of_cell? w _ hn2)]; exact hn2
                  have hcb : wr.cell? (ad3.add i) = some (.int .u8 (bs.getD i 0)) := by rw [HB.out.cell (World.block_lt_of_cell? w _ hn3)]; exact hn3
                  obtain ⟨ni, hni⟩ : ∃ x, x = ns.getD i 0 := ⟨_, rfl⟩
                  have hbi := getD_byte HBS.out.bytes i
                  obtain ⟨bi, hbie⟩ : ∃ x, x = bs.getD i 0 := ⟨_, rfl⟩
                  rw [← hni] at hcn
                  rw [← hbie] at hcb hbi
                  have hk0 : 0 ≤ ni % (m : Int) := Int.emod_nonneg _ (by omega)
                  have hk1 : ni % (m : Int) < (m : Int) := Int.emod_lt_of_pos _ (by omega)
                  obtain ⟨K, hK⟩ : ∃ K : Nat, ni % (m : Int) = (K : Int) := ⟨(ni % (m : Int)).toNat, by omega⟩
                  rw [hK] at hk0 hk1
                  have hkl : K < m := by omega
                  have hat2 := own_at HO.out hkl
                  have hxb := getD_byte HZB.out K
                  obtain ⟨x, hx⟩ : ∃ x, x = zs.getD K 0 := ⟨_, rfl⟩
                  rw [← hx] at hat2 hxb
                  have hc1 := hat2.1
                  have hf1 := hat2.2
                  have HKK := Lib.hid hK
                  have HXB := Lib.hid hxb
                  have HBI := Lib.hid hbi
                  have HC1 := Lib.hid hc1
                  have HF1 := Lib.hid hf1
                  have hmi : (m : Int) ≤ 1000000 := by omega
                  have hmi1 : 1 ≤ (m : Int) := by omega
                  clear hni hbie hbi hk0 hk1 hK hat2 hxb hx hn2 hn3
                  go_upto_region 9 with (fail)
                  refine quiet_then 16 1 (by kernel_rfl) (by kernel_rfl) ?_
                  simp only [List.take_succ_cons, List.take_zero]
                  repeat (go_big_quiet_step (exact ((within_any ni m _ hmi1 hmi).mono fun e w' h => ⟨by rw [h.1, HKK.out], _, h.2.symm⟩)))
                  refine wpQuiet_nil ?_
                  intro nq
                  have hc4' : (wr.drewN nq).cell? ⟨g, K, none⟩ = some (.int .u8 x) := HC1.out
                  have hf' : (wr.drewN nq).frozen? ⟨g, K, none⟩ = false := HF1.out
                  refine anyS_one 16 (by kernel_rfl) rfl (fun KK hKK => ?_)
                  go_simp
                  obtain ⟨vv, hvv⟩ : ∃ vv, vv = (x + bi) % 256 := ⟨_, rfl⟩
                  rw [← hvv]
                  have hvb : Byte vv := by rw [hvv]; exact ⟨by omega, by omega⟩
                  have hset := own_set (i := K) (own_later HO.out (below_drewN (Below.refl _ _) nq)) vv
                  obtain ⟨X, hX⟩ : ∃ X, X = (wr.drewN nq).setCell ⟨g, K, none⟩ (.int .u8 vv) := ⟨_, rfl⟩
                  rw [← hX] at hset ⊢
                  have HBX : Hid (Below w.heap.size w X) := Below.step (below_drewN HB.out nq) hset.2.1 hset.2.2 (Nat.le_refl _)
                  have HOX := Lib.hid hset.1
                  have HZX : Hid (∀ c ∈ zs.set K vv, Byte c) := fun c hc => (List.mem_or_eq_of_mem_set hc).elim (HZB.out c) (fun h => by rw [h]; exact hvb)
                  clear hvv hset hX hvb hc4' hf' hc1 hf1
                  refine hKK.out _ _ (by simp) ?_
                  clear hKK KK
                  try simp only [Act.put, List.setIfInBounds_toArray, List.set_cons_zero, List.set_cons_succ]
                  refine anyS_done (by kernel_rfl) ?_ _
                  refine NoPanic.normal ?_
                  go_wp2_with fail
                  try go_roundw
                  case rel => exact ⟨i + 1, zs.set K vv, by omega, by go_num, HOX, HZX, HBX⟩
                  case measure => simp [intOf]; omega
                · go_wp2_with fail
                  go_meet
                  case rel => exact ⟨zs, HO, HZB, HB⟩
              · go_wp2_with fail
                go_meet
                case rel => exact ⟨zs, HO, HZB, HB⟩
            · go_wp2_with fail
              go_meet
              case rel => exact ⟨zs, HO, HZB, HB⟩
          · go_wp2_with fail
            go_meet
            case rel => exact ⟨zs, HO, HZB, HB⟩
      case rest =>
        obtain ⟨zs, HOZ, HZB, HBW⟩ := hcut
        obtain ⟨aB, cB, hvB, hcB⟩ := own_came HOZ.out HZB.out
        cases hvB
        have HCZ := Lib.hid hcB
        clear hcB HO2 HB2 HF2 HB1 HM1 H3
        by_cases hodd : ct.tmod 2 = 1
        · go_wp2_with fail
          refine (within_any (ct.tdiv 2) ((m : Int) + 1) wc (by omega) (by omega)).mono ?_
          rintro _ _ ⟨rfl, rfl⟩
          have hk0 : 0 ≤ ct.tdiv 2 % ((m : Int) + 1) := Int.emod_nonneg _ (by omega)
          have hk1 : ct.tdiv 2 % ((m : Int) + 1) < (m : Int) + 1 := Int.emod_lt_of_pos _ (by omega)
          obtain ⟨kB, hkB⟩ : ∃ k : Nat, ct.tdiv 2 % ((m : Int) + 1) = (k : Int) := ⟨(ct.tdiv 2 % ((m : Int) + 1)).toNat, by omega⟩
          rw [hkB]
          rw [hkB] at hk0 hk1
          have hkl : kB ≤ m := by omega
          have hle := HCZ.out.le
          have hsl : ∀ w, (Instr.sliceAt 22 (.slice b2 m c2) none (some (.int .i64 (kB : Int))) none).run Tryd.prog w = .ok (.slice b2 kB c2) w := fun w => slice_to22 b2 m c2 kB (by omega) kB rfl w
          have hct3 := came_take HCZ.out kB hkl
          obtain ⟨zB, hzB⟩ : ∃ z, z = zs.take kB := ⟨_, rfl⟩
          rw [← hzB] at hct3
          have HCB := Lib.hid hct3
          clear hkB hk0 hk1 hct3 hzB HCZ HOZ HZB
          have HYc := Lib.hid (HC.out.below HBW.out)
          have HMk := Lib.hid (World.ownsRow_made (base := wc.heap.size) (e := 5) (size := 1) wc #[] 0 (Nat.le_refl _) (by unfold maxLen; omega) rfl)
          have HBa : Hid (Below wc.heap.size wc (wc.alloc (.cells #[] 5))) := (Below.refl _ _).alloc (Nat.le_refl _) _
          have HCBa := Lib.hid (HCB.out.below HBa.out)
          go_wp2_with (at_builtin; go_must (refine wpList_append_reads rfl _ _ 22 rfl wc.heap.size 5 i0 Tryd.underlying22 hi hz0 hz1 hz2 _ 0 [] rfl HMk.out b2 kB c2 zB rfl HCBa.out.reads HCBa.out.nil ?d4 ?d5 ?_))
          case d4 => omega
          case d5 => exact HBa.out.size
          try rw [Nat.zero_add, List.nil_append]
          intro v5 w5 ho5 hg5
          have HB5 := Lib.hid (HBa.out.grown hg5 HBa.out.size (fun k hk => (HMk.out.lt k hk).1))
          have HO5 := Lib.hid ho5
          have HY5 := Lib.hid (HYc.out.below HB5.out)
          clear ho5 hg5 HBa HMk HCBa
          go_wp2_with (at_builtin; go_must (refine wpList_append_reads rfl _ _ 22 rfl wc.heap.size 5 i0 Tryd.underlying22 hi hz0 hz1 hz2 _ kB zB rfl HO5.out a1 len1 cap1 y rfl HY5.out.reads HY5.out.nil ?d4 ?d5 ?_))
          case d4 => omega
          case d5 => exact HB5.out.size
          intro v6 w6 ho6 hg6
          have HB6 := Lib.hid (HB5.out.grown hg6 HB5.out.size (fun k hk => (HO5.out.lt k hk).1))
          have hby6 : ∀ c ∈ zB ++ y, Byte c := fun c hc => (List.mem_append.1 hc).elim (HCB.out.bytes c) (HC.out.bytes c)
          obtain ⟨b6, c6, rfl, hc6⟩ := own_came ho6 hby6
          have HM6 := Lib.hid (mat_new3 (HCB.out.below HB6.out) hc6 (HYc.out.below HB6.out))
          have HW6 := Lib.hid ((HBW.out.trans (HB6.out.mono HBW.out.size)).alloc (Nat.le_trans HBW.out.size HB6.out.size) (.cells #[.slice b2 kB c2, .slice b6 (kB + len1) c6, .slice a1 len1 cap1] 22))
          have HLEN : Hid (∀ j, j < 3 → ([zB, zB ++ y, y].getD j []).length ≤ 3580) := fun j hj => by
            have h5 := HCB.out.reads.1
            match j, hj with
            | 0, _ => show zB.length ≤ 3580; omega
            | 1, _ => show (zB ++ y).length ≤ 3580; rw [List.length_append, HZ.out]; omega
            | 2, _ => show y.length ≤ 3580; rw [HZ.out]; omega
          obtain ⟨es, hes⟩ : ∃ es, es = [zB, zB ++ y, y] := ⟨_, rfl⟩
          rw [← hes] at HM6 HLEN
          clear hes ho6 hg6 hby6 hc6 HO5 HY5 HB5 HYc
          go_wp2_with fail
          obtain ⟨gg, hgg⟩ : ∃ gg, gg = w6.heap.size := ⟨_, rfl⟩
          obtain ⟨wd, hwd⟩ : ∃ X, X = w6.alloc (.cells #[.slice b2 kB c2, .slice b6 (kB + len1) c6, .slice a1 len1 cap1] 22) := ⟨_, rfl⟩
          rw [← hgg] at HM6 ⊢
          rw [← hwd] at HM6 HW6 ⊢
          clear hgg hwd HB6
          go_loopw [14] (fun v X => ∃ j : Nat, j ≤ 3 ∧ v = .int .i64 (j : Int) ∧ Hid (Below wd.heap.size wd X)) (fun v _ => (3 - intOf v).toNat)
          case atStart => exact ⟨0, by omega, rfl, Below.refl _ _⟩
          case round =>
            obtain ⟨j, hj, rfl, HB⟩ := hrel
            by_cases hlt : j < 3
            · obtain ⟨ad, had, b, l, c, hcell, hcame⟩ := HM6.out.row j hlt
              cases had
              have hl := HLEN.out j hlt
              rw [hcame.reads.1] at hl
              have hcell1 : wr.cell? ((⟨gg, 0, none⟩ : Addr).add j) = some (.slice b l c) := by rw [HB.out.cell (World.block_lt_of_cell? wd _ hcell)]; exact hcell
              rw [Addr.add_lit, Nat.zero_add] at hcell1
              have HCELL := Lib.hid hcell
              have HCA := Lib.hid (hcame.below HB.out)
              obtain ⟨e, he⟩ : ∃ e, e = es.getD j [] := ⟨_, rfl⟩
              rw [← he] at HCA
              have HBB := Lib.hid (HW6.out.trans (HB.out.mono HW6.out.size))
              clear hcell hcame he
              go_wp2_with fail
              refine (scanp_any HCA.out (HLA.out.keep HBB.out) (by omega)).mono ?_
              rintro _ w8 ⟨v8, vs8, rfl, hr8, hb8⟩
              obtain ⟨a8, c8, rfl, hmt8⟩ := hr8.mat
              have HMT8 := Lib.hid hmt8
              have HB8 := Lib.hid (HB.out.trans (hb8.mono HB.out.size))
              have HCA8 := Lib.hid (HCA.out.below hb8)
              have hcell2 : w8.cell? ((⟨gg, 0, none⟩ : Addr).add j) = some (.slice b l c) := by rw [HB8.out.cell (World.block_lt_of_cell? wd _ HCELL.out)]; exact HCELL.out
              rw [Addr.add_lit, Nat.zero_add] at hcell2
              obtain ⟨q, hq⟩ : ∃ q, q = bulk (scan e) := ⟨_, rfl⟩
              have HQ := Lib.hid hq
              rw [← hq]
              clear hr8 hb8 hmt8 hcell1 hq
              go_wp2_with fail
              refine (rscanp_any HCA8.out (by omega)).mono ?_
              rintro _ w9 ⟨v9, vs9, rfl, hr9, hb9⟩
              obtain ⟨a9, c9, rfl, hmt9⟩ := hr9.mat
              have HMT9 := Lib.hid hmt9
              have HMT89 := Lib.hid (HMT8.out.below hb9)
              have HB9 := Lib.hid (HB8.out.trans (hb9.mono HB8.out.size))
              rw [← HQ.out]
              clear hr9 hb9 hmt9 hcell2 HCA HCA8 HMT8
              go_wp2_with fail
              refine (rows_true HMT89.out HMT9.out).mono ?_
              rintro _ w10 ⟨rfl, k10, hk10⟩
              have HB10 : Hid (Below wd.heap.size wd w10) := by rw [hk10]; exact below_drewN HB9.out _
              clear hk10
              go_wp2_with fail
              try go_roundw
              case rel => exact ⟨j + 1, by omega, by go_num, HB10⟩
              case measure => simp [intOf]; omega
            · obtain rfl : j = 3 := by omega
              go_wp2_with fail
              go_ret
              exact ⟨rfl, HW6.out.trans (HB.out.mono HW6.out.size)⟩
        · have HCB := HCZ
          clear HCZ HOZ HZB
          have HYc := Lib.hid (HC.out.below HBW.out)
          have HMk := Lib.hid (World.ownsRow_made (base := wc.heap.size) (e := 5) (size := 1) wc #[] 0 (Nat.le_refl _) (by unfold maxLen; omega) rfl)
          have HBa : Hid (Below wc.heap.size wc (wc.alloc (.cells #[] 5))) := (Below.refl _ _).alloc (Nat.le_refl _) _
          have HCBa := Lib.hid (HCB.out.below HBa.out)
          go_wp2_with (at_builtin; go_must (refine wpList_append_reads rfl _ _ 22 rfl wc.heap.size 5 i0 Tryd.underlying22 hi hz0 hz1 hz2 _ 0 [] rfl HMk.out b2 m c2 zs rfl HCBa.out.reads HCBa.out.nil ?d4 ?d5 ?_))
          case d4 => omega
          case d5 => exact HBa.out.size
          try rw [Nat.zero_add, List.nil_append]
          intro v5 w5 ho5 hg5
          have HB5 := Lib.hid (HBa.out.grown hg5 HBa.out.size (fun k hk => (HMk.out.lt k hk).1))
          have HO5 := Lib.hid ho5
          have HY5 := Lib.hid (HYc.out.below HB5.out)
          clear ho5 hg5 HBa HMk HCBa
          go_wp2_with (at_builtin; go_must (refine wpList_append_reads rfl _ _ 22 rfl wc.heap.size 5 i0 Tryd.underlying22 hi hz0 hz1 hz2 _ m zs rfl HO5.out a1 len1 cap1 y rfl HY5.out.reads HY5.out.nil ?d4 ?d5 ?_))
          case d4 => omega
          case d5 => exact HB5.out.size
          intro v6 w6 ho6 hg6
          have HB6 := Lib.hid (HB5.out.grown hg6 HB5.out.size (fun k hk => (HO5.out.lt k hk).1))
          have hby6 : ∀ c ∈ zs ++ y, Byte c := fun c hc => (List.mem_append.1 hc).elim (HCB.out.bytes c) (HC.out.bytes c)
          obtain ⟨b6, c6, rfl, hc6⟩ := own_came ho6 hby6
          have HM6 := Lib.hid (mat_new3 (HCB.out.below HB6.out) hc6 (HYc.out.below HB6.out))
          have HW6 := Lib.hid ((HBW.out.trans (HB6.out.mono HBW.out.size)).alloc (Nat.le_trans HBW.out.size HB6.out.size) (.cells #[.slice b2 m c2, .slice b6 (m + len1) c6, .slice a1 len1 cap1] 22))
          have HLEN : Hid (∀ j, j < 3 → ([zs, zs ++ y, y].getD j []).length ≤ 3580) := fun j hj => by
            have h5 := HCB.out.reads.1
            match j, hj with
            | 0, _ => show zs.length ≤ 3580; omega
            | 1, _ => show (zs ++ y).length ≤ 3580; rw [List.length_append, HZ.out]; omega
            | 2, _ => show y.length ≤ 3580; rw [HZ.out]; omega
          obtain ⟨es, hes⟩ : ∃ es, es = [zs, zs ++ y, y] := ⟨_, rfl⟩
          rw [← hes] at HM6 HLEN
          clear hes ho6 hg6 hby6 hc6 HO5 HY5 HB5 HYc
          go_wp2_with fail
          obtain ⟨gg, hgg⟩ : ∃ gg, gg = w6.heap.size := ⟨_, rfl⟩
          obtain ⟨wd, hwd⟩ : ∃ X, X = w6.alloc (.cells #[.slice b2 m c2, .slice b6 (m + len1) c6, .slice a1 len1 cap1] 22) := ⟨_, rfl⟩
          rw [← hgg] at HM6 ⊢
          rw [← hwd] at HM6 HW6 ⊢
          clear hgg hwd HB6
          go_loopw [14] (fun v X => ∃ j : Nat, j ≤ 3 ∧ v = .int .i64 (j : Int) ∧ Hid (Below wd.heap.size wd X)) (fun v _ => (3 - intOf v).toNat)
          case atStart => exact ⟨0, by omega, rfl, Below.refl _ _⟩
          case round =>
            obtain ⟨j, hj, rfl, HB⟩ := hrel
            by_cases hlt : j < 3
            · obtain ⟨ad, had, b, l, c, hcell, hcame⟩ := HM6.out.row j hlt
              cases had
              have hl := HLEN.out j hlt
              rw [hcame.reads.1] at hl
              have hcell1 : wr.cell? ((⟨gg, 0, none⟩ : Addr).add j) = some (.slice b l c) := by rw [HB.out.cell (World.block_lt_of_cell? wd _ hcell)]; exact hcell
              rw [Addr.add_lit, Nat.zero_add] at hcell1
              have HCELL := Lib.hid hcell
              have HCA := Lib.hid (hcame.below HB.out)
              obtain ⟨e, he⟩ : ∃ e, e = es.getD j [] := ⟨_, rfl⟩
              rw [← he] at HCA
              have HBB := Lib.hid (HW6.out.trans (HB.out.mono HW6.out.size))
              clear hcell hcame he
              go_wp2_with fail
              refine (scanp_any HCA.out (HLA.out.keep HBB.out) (by omega)).mono ?_
              rintro _ w8 ⟨v8, vs8, rfl, hr8, hb8⟩
              obtain ⟨a8, c8, rfl, hmt8⟩ := hr8.mat
              have HMT8 := Lib.hid hmt8
              have HB8 := Lib.hid (HB.out.trans (hb8.mono HB.out.size))
              have HCA8 := Lib.hid (HCA.out.below hb8)
              have hcell2 : w8.cell? ((⟨gg, 0, none⟩ : Addr).add j) = some (.slice b l c) := by rw [HB8.out.cell (World.block_lt_of_cell? wd _ HCELL.out)]; exact HCELL.out
              rw [Addr.add_lit, Nat.zero_add] at hcell2
              obtain ⟨q, hq⟩ : ∃ q, q = bulk (scan e) := ⟨_, rfl⟩
              have HQ := Lib.hid hq
              rw [← hq]
              clear hr8 hb8 hmt8 hcell1 hq
              go_wp2_with fail
              refine (rscanp_any HCA8.out (by omega)).mono ?_
              rintro _ w9 ⟨v9, vs9, rfl, hr9, hb9⟩
              obtain ⟨a9, c9, rfl, hmt9⟩ := hr9.mat
              have HMT9 := Lib.hid hmt9
              have HMT89 := Lib.hid (HMT8.out.below hb9)
              have HB9 := Lib.hid (HB8.out.trans (hb9.mono HB8.out.size))
              rw [← HQ.out]
              clear hr9 hb9 hmt9 hcell2 HCA HCA8 HMT8
              go_wp2_with fail
              refine (rows_true HMT89.out HMT9.out).mono ?_
              rintro _ w10 ⟨rfl, k10, hk10⟩
              have HB10 : Hid (Below wd.heap.size wd w10) := by rw [hk10]; exact below_drewN HB9.out _
              clear hk10
              go_wp2_with fail
              try go_roundw
              case rel => exact ⟨j + 1, by omega, by go_num, HB10⟩
              case measure => simp [intOf]; omega
            · obtain rfl : j = 3 := by omega
              go_wp2_with fail
              go_ret
              exact ⟨rfl, HW6.out.trans (HB.out.mono HW6.out.size)⟩
end Go.Proofs.YtbgaekokjkdpiaaDoor
