/- P103: what was written, one behind the other, is read as it was, and there is an end; a byte less is cut, one more is more: the walk of CodeBack. -/
import Derived.Test.YtlaafpfpoehonaaBackP
import Derived.Test.YtlaafpfpoehonaaMem
import Derived.Test.YtlaafpfpoehonaaOrd
import Derived.Test.YtlaafpfpoehonaaWrites
namespace Go.Proofs.Ytlaafpfpoehonaa
open Go.RowKit Num
set_option linter.unusedVariables false
set_option linter.unusedSimpArgs false

attribute [local go_sem ↓] load_rule
attribute [local go_sem] loadable_ptr sumOf_ptr

set_option maxRecDepth 100000 in
set_option maxHeartbeats 8000000 in
theorem back_any (a0 : Option Addr) (len0 cap0 : Nat) (ns : List Int) (a1 : Option Addr) (len1 cap1 : Nat) (ss : List (List Int)) (cs : Array Value) (hs : List Int) (w : World)
    (h0 : Nums w a0 len0 cap0 ns) (h1 : Mat w a1 len1 cap1 ss) (h2 : Sum cs hs) :
    Calls Try.prog 5 #[.slice a0 len0 cap0, .slice a1 len1 cap1, .agg cs] w fun e w' => e = .returned (.bool true) ∧ Below w.heap.size w w' := by
  obtain ⟨i0, hi, hz0, hz1, hz2⟩ := info_parts Try.infoByte
  have H0 := Lib.hid h0
  have H1 := Lib.hid h1
  have H2 := Lib.hid h2
  have hcap0 : len0 ≤ 9223372036854775807 := by have := h0.le; have := h0.small; unfold maxLen at this; omega
  have hcap1 : len1 ≤ 9223372036854775807 := by have := h1.le; have := h1.small; unfold maxLen at this; omega
  clear h0 h1 h2
  go_enter Try.func5, Try.ntmps5
  go_upto_region 1 with (fail)
  have hb0 : Below w.heap.size w (w.alloc (.cells cs 24)) := (Below.refl _ _).alloc (Nat.le_refl _) _
  have hs1 : sumAt (w.alloc (.cells cs 24)) w.heap.size = some cs := sumAt_mk (heap_alloc_new w _) (sum_size H2.out)
  have hz : (w.alloc (.cells cs 24)).heap.size = w.heap.size + 1 := by simp
  generalize hW : World.alloc w _ = W at *
  clear hW
  have HB0 := Lib.hid hb0
  have HS0 := Lib.hid hs1
  have HZ := Lib.hid hz
  clear hb0 hs1 hz
  go_wp2_with fail
  refine (known_any _).mono ?_
  rintro e w1 ⟨rfl, hb1⟩
  have hs1 : sumAt w1 w.heap.size = some cs := (sumAt_below hb1 (by rw [HZ.out]; omega)).trans HS0.out
  have HB1 := Lib.hid (HB0.out.trans (hb1.mono HB0.out.size))
  have HZ1 : Hid (w.heap.size < w1.heap.size) := by have := hb1.size; have := HZ.out; show _ < _; omega
  have HN := Lib.hid (H0.out.below HB1.out)
  have HM := Lib.hid (H1.out.below HB1.out)
  clear hb1
  by_cases hl : 20 < len0
  · go_wp2
    go_ret
    exact ⟨rfl, HB1.out⟩
  · by_cases hl2 : 10 < len1
    · go_wp2
      go_ret
      exact ⟨rfl, HB1.out⟩
    · go_wp2_with fail
      have HS1 := Lib.hid hs1
      refine (hash_any none 0 0 [] hs cs _ (reads_nil _) (by omega) H2.out).mono ?_
      rintro x w2 ⟨v2, rfl, ho2, hb2⟩
      simp only [Nat.zero_add, List.nil_append] at ho2
      obtain ⟨aA, cA, rfl, hrA, hlA, hmA⟩ := owned_val2 ho2
      have HRA := Lib.hid hrA
      have HBA := Lib.hid hb2
      clear hs1 ho2 hrA hb2
      go_wp2_with fail
      go_loopw [7, 8] (fun v i wr => ∃ m : Nat, m ≤ len0 ∧ i = .int .i64 (m : Int) ∧ ∃ a n c, v = .slice a n c ∧ n ≤ c ∧ c ≤ maxLen ∧ Hid (n ≤ 32 + 10 * m) ∧ Hid (Reads wr a n (hs ++ numsTo ns m)) ∧ Hid (Below w1.heap.size w1 wr)) (fun _ i _ => len0 - (intOf i).toNat)
      case atStart => exact ⟨0, by omega, rfl, aA, 32, cA, rfl, hlA, hmA, (show _ ≤ _ by omega), (show Reads _ _ _ _ by have h := HRA.out; simpa [numsTo] using h), HBA.out⟩
      case round =>
        obtain ⟨m, hm, rfl, a7, n7, c7, rfl, hnc, hcm, HN7, HR7, HB7⟩ := hrel
        by_cases hml : m < len0
        · obtain ⟨ad, had, hcell⟩ := (HN.out.below HB7.out).cell m hml
          subst had
          have HIz := Lib.hid (HN.out.at m hml)
          have HTS := Lib.hid (numsTo_succ ns m (by rw [HN.out.sz]; exact hml))
          obtain ⟨z, hz⟩ : ∃ z, z = ns.getD m 0 := ⟨_, rfl⟩
          rw [← hz] at hcell HIz HTS
          clear hz
          go_wp2_with fail
          refine (int_any a7 n7 c7 _ z _ HR7.out (by have := HN7.out; omega) HIz.out).mono ?_
          rintro x w3 ⟨v3, rfl, ho3, hb3⟩
          rw [List.append_assoc, ← HTS.out] at ho3
          obtain ⟨a3, c3, rfl, hr3, hl3, hm3⟩ := owned_val2 ho3
          have HR3 := Lib.hid hr3
          have HB3 := Lib.hid (HB7.out.trans (hb3.mono HB7.out.size))
          have HN3 : Hid (n7 + (enc z).length ≤ 32 + 10 * (m + 1)) := by have := HN7.out; have := (enc_len z).2; show _ ≤ _; omega
          clear ho3 hr3 hb3 hcell
          go_wp2_with fail
          go_roundw
          case rel => exact ⟨m + 1, by omega, by go_num, a3, _, c3, rfl, hl3, hm3, HN3.out, HR3.out, HB3.out⟩
          case measure => simp [intOf]; omega
        · have hm0 : m = len0 := by omega
          subst hm0
          go_wp2_with fail
          go_loopw [7, 9] (fun v i wr => ∃ q : Nat, q ≤ len1 ∧ i = .int .i64 (q : Int) ∧ ∃ a n c, v = .slice a n c ∧ n ≤ c ∧ c ≤ maxLen ∧ Hid (n ≤ 32 + 10 * m + 210 * q) ∧ Hid (Reads wr a n (hs ++ numsTo ns m ++ txsTo ss q)) ∧ Hid (Below w1.heap.size w1 wr) ∧ Hid (∀ j, j < q → (ss.getD j []).length ≤ 200)) (fun _ i _ => len1 - (intOf i).toNat)
          case atStart => exact ⟨0, by omega, rfl, a7, n7, c7, rfl, hnc, hcm, HN7.out, (show Reads _ _ _ _ by have h := HR7.out; simpa [txsTo] using h), HB7.out, (fun j hj => absurd hj (by omega))⟩
          case round =>
            clear HN7 HR7 HB7 hnc hcm
            obtain ⟨q, hq, rfl, a8, n8, c8, rfl, hnc, hcm, HN8, HR8, HB8, HT8⟩ := hrel
            by_cases hql : q < len1
            · obtain ⟨ad, had, b, l, c, hcell, hcame⟩ := (HM.out.below HB8.out).row q hql
              subst had
              obtain ⟨ad', had', b', l', c', hcell', hcame'⟩ := HM.out.row q hql
              simp only [Option.some.injEq] at had'
              subst had'
              have hsame := HB8.out.cell (p := ad.add q) (World.block_lt_of_cell? w1 _ hcell')
              rw [hcell, hcell'] at hsame
              simp only [Option.some.injEq, Value.slice.injEq] at hsame
              obtain ⟨rfl, rfl, rfl⟩ := hsame
              have HCO := Lib.hid hcame'
              have HCL := Lib.hid hcame'.reads.1
              have HTS := Lib.hid (txsTo_succ ss q (by rw [HM.out.sz]; exact hql))
              obtain ⟨s, hs⟩ : ∃ s, s = ss.getD q [] := ⟨_, rfl⟩
              rw [← hs] at HCO HTS HCL
              have HSQ := Lib.hid hs
              clear hs hcame hcame' hcell'
              by_cases hl200 : 200 < l
              · go_wp2
                go_ret
                exact ⟨rfl, HB1.out.trans (HB8.out.mono HB1.out.size)⟩
              · go_wp2_with fail
                refine (text_put w1 a8 n8 c8 _ b l c s _ HR8.out ⟨HCO.out.reads, (fun h => HCO.out.nil h), HB8.out⟩ (by have := HN8.out; omega) (by omega)).mono ?_
                rintro x w3 ⟨v3, rfl, ho3, hb3⟩
                have etx : enc (l : Int) ++ s = tx s := by unfold tx; rw [HCL.out]
                rw [etx, List.append_assoc, ← HTS.out] at ho3
                obtain ⟨a3, c3, rfl, hr3, hl3, hm3⟩ := owned_val2 ho3
                have HR3 := Lib.hid hr3
                have HB3 := Lib.hid (HB8.out.trans (hb3.mono HB8.out.size))
                have HN3 : Hid (n8 + (tx s).length ≤ 32 + 10 * m + 210 * (q + 1)) := by have := HN8.out; have := tx_len s; have := HCL.out; show _ ≤ _; omega
                have HT3 : Hid (∀ j, j < q + 1 → (ss.getD j []).length ≤ 200) := by
                  intro j hj
                  rcases Nat.lt_or_ge j q with h | h
                  · exact HT8.out j h
                  · obtain rfl : j = q := by omega
                    rw [← HSQ.out, HCL.out]; omega
                clear ho3 hr3 hb3 hcell etx
                go_wp2_with fail
                go_roundw
                case rel => exact ⟨q + 1, by omega, by go_num, a3, _, c3, rfl, hl3, hm3, HN3.out, HR3.out, HB3.out, HT3.out⟩
                case measure => simp [intOf]; omega
            · have hq0 : q = len1 := by omega
              subst hq0
              have HF : Hid (hs ++ numsTo ns m ++ txsTo ss q = hs ++ (numsFrom ns 0 ++ txsFrom ss 0)) := by
                have e1 : numsTo ns m = numsFrom ns 0 := by rw [← HN.out.sz]; exact numsTo_all ns
                have e2 : txsTo ss q = txsFrom ss 0 := by rw [← HM.out.sz]; exact txsTo_all ss
                show _ = _
                rw [e1, e2, List.append_assoc]
              have HR9 : Hid (Reads wr a8 n8 (hs ++ (numsFrom ns 0 ++ txsFrom ss 0))) := by have h := HR8.out; rw [HF.out] at h; exact h
              have HSB : Hid (∀ s ∈ ss, s.length ≤ 60000 ∧ ∀ c ∈ s, Byte c) := by
                intro s hs
                obtain ⟨j, hj, rfl⟩ := List.getElem_of_mem hs
                have hj' : j < q := by rw [← HM.out.sz]; exact hj
                obtain ⟨ad, -, b, l, c, -, hcame⟩ := HM.out.row j hj'
                have h2 := HT8.out j hj'
                have h3 := hcame.bytes
                simp only [List.getD, hj, getElem?_pos, Option.getD_some] at h2 h3
                exact ⟨by omega, h3⟩
              have HFB : Hid (∀ c ∈ hs ++ (numsFrom ns 0 ++ txsFrom ss 0), Byte c) := by
                intro c hc
                rcases List.mem_append.1 hc with h | h
                · exact H2.out.bytes c h
                · rcases List.mem_append.1 h with h | h
                  · exact numsFrom_bytes HN.out.i64 0 c h
                  · exact txsFrom_bytes HSB.out 0 c h
              have hn32 : 32 ≤ n8 := by have h := HR9.out.1; have := H2.out.len; rw [List.length_append] at h; omega
              have hn8 : n8 ≤ 3000 := by have := HN8.out; omega
              have HRG : Hid (∀ W, Below w1.heap.size w1 W → W.rangeAt w.heap.size 0 cs.toList) := fun W hb => range_below hb HZ1.out HS1.out
              clear HR8 HF HN8 HT8
              go_wp2_with fail
              go_loopw [10] (fun k wr => ∃ p : Nat, p ≤ 3 ∧ k = .int .i64 (p : Int) ∧ Hid (Reads wr a8 n8 (hs ++ (numsFrom ns 0 ++ txsFrom ss 0))) ∧ Hid (Below w1.heap.size w1 wr)) (fun k _ => 3 - (intOf k).toNat)
              case atStart => exact ⟨0, by omega, rfl, HR9.out, HB8.out⟩
              case round =>
                clear HR9 HB8
                obtain ⟨p, hp, rfl, HR9, HBK⟩ := hrel
                obtain ⟨wo, hwo⟩ : ∃ W, W = wr := ⟨_, rfl⟩
                subst hwo
                by_cases hp3 : p < 3
                · have hp012 : p = 0 ∨ p = 1 ∨ p = 2 := by omega
                  have HSZ1 := Lib.hid HBK.out.size
                  rcases hp012 with rfl | rfl | rfl
                  · obtain ⟨xs, hxs⟩ : ∃ xs, xs = hs ++ (numsFrom ns 0 ++ txsFrom ss 0) := ⟨_, rfl⟩
                    have HRX : Hid (Reads wo a8 n8 xs) := by rw [hxs]; exact HR9.out
                    have HBY : Hid (∀ c ∈ xs, Byte c) := by rw [hxs]; exact HFB.out
                    have HLF : Hid (Lft 0 (hs ++ (numsFrom ns 0 ++ txsFrom ss 0)) xs 0) := .inl ⟨rfl, hxs, rfl⟩
                    have HBX0 : Hid (Below wo.heap.size wo wo) := Below.refl _ _
                    clear hxs
                    go_wp2_with fail
                    refine (new_any a8 n8 c8 xs _ HRX.out (by omega)).mono ?_
                    rintro e w4 ⟨r, rfl, hrd, hrr, hb⟩
                    have HRR : Hid (wo.heap.size ≤ r) := Nat.le_trans HBX0.out.size hrr
                    have HBX := Lib.hid (HBX0.out.trans (hb.mono HBX0.out.size))
                    have HRD := Lib.hid hrd
                    clear hrd hrr hb
                    go_wp2_with fail
                    have HRDd : Hid (Rd w4.drew r 0 xs) := HRD.out.keep (Below.refl _ _).drew
                    have HBd : Hid (Below wo.heap.size wo w4.drew) := HBX.out.drew
                    have hg4 := HRG.out _ (HBK.out.trans (HBd.out.mono HSZ1.out))
                    have hu24 := underlying_sum
                    have hi24 : (Try.prog.info? 24).map (·.size) = some cs.toList.length := by rw [Array.length_toList]; exact sum_info H2.out
                    have hgd := eqGuard_sum
                    refine anyS_start (by kernel_rfl) ?_
                    (refine anyS_free (i := 0) (v := ?_) rfl (by kernel_rfl) (by kernel_rfl) (by kernel_rfl) (fun _ _ _ h => h) (fun _ => by simp) (Or.inl ⟨by rfl, fun w' _ => ?_⟩) ?_; rotate_left; (· go_simp; try with_reducible rfl))
                    try simp only [Act.put, List.setIfInBounds_toArray, List.set_cons_zero, List.set_cons_succ]
                    refine anyS_takeNew (fun w' => w'.rangeAt w.heap.size 0 cs.toList) [1] (i := 2) hg4 rfl (by kernel_rfl) (by kernel_rfl) (by kernel_rfl) (by kernel_rfl) (fun _ _ _ h => h) (fun _ _ => by simp_all) (yieldsIf_load_mid (by rfl) _ _ rfl _ _ rfl _ _ (fun _ h => h) hu24 rfl hi24) ?_
                    try simp only [Act.put, List.setIfInBounds_toArray, List.set_cons_zero, List.set_cons_succ]
                    refine anyS_one 1 (by kernel_rfl) rfl (fun K hK => ?_)
                    go_simp
                    go_at_call 26
                    (refine (rhash_any r 0 xs _ HRDd.out HBY.out).mono ?_)
                    rintro x w5 ⟨dA, rfl, hsA, hrdA, hoA⟩
                    have hq : ∀ w, (binOp .eql 24 (.agg dA) (.agg cs)).run Try.prog w = .ok (.bool (decide ((rdHash 0 xs).2.2 = hs))) w := fun w => eql_sum hsA H2.out w
                    have HB5 := Lib.hid (Below.step HBd.out hoA HRR.out (Nat.le_refl _))
                    have hg5 := HRG.out _ (HBK.out.trans (HB5.out.mono HSZ1.out))
                    have HL5 := Lib.hid (lft_hash H2.out.len HLF.out)
                    have HY5 : Hid (∀ c ∈ (rdHash 0 xs).2.1, Byte c) := fun c hc => HBY.out c (rdHash_sub _ _ c hc)
                    have HO5 : Hid (0 ≠ 2 → decide ((rdHash 0 xs).2.2 = hs) = true) := fun h => by simp [HL5.out.2 h]
                    obtain ⟨b5, hb5⟩ : ∃ b : Bool, b = decide ((rdHash 0 xs).2.2 = hs) := ⟨_, rfl⟩
                    rw [← hb5] at hq HO5
                    have HL6 := Lib.hid HL5.out.1
                    obtain ⟨e5, he5⟩ : ∃ e, e = (rdHash 0 xs).1 := ⟨_, rfl⟩
                    obtain ⟨bs5, hbs5⟩ : ∃ b, b = (rdHash 0 xs).2.1 := ⟨_, rfl⟩
                    rw [← he5, ← hbs5] at hrdA HL6
                    rw [← hbs5] at HY5
                    have HR5 := Lib.hid hrdA
                    clear hrdA hoA hsA HL5 hb5 he5 hbs5
                    go_wp2_with fail
                    refine hK.out _ _ (by simpa using hg5) ?_
                    clear hK K
                    try simp only [Act.put, List.setIfInBounds_toArray, List.set_cons_zero, List.set_cons_succ]
                    (refine anyS_free (i := 3) (v := ?_) rfl (by kernel_rfl) (by kernel_rfl) (by kernel_rfl) (fun _ _ _ h => h) (fun _ => by simp) (Or.inl ⟨by rfl, fun w' _ => ?_⟩) ?_; rotate_left; (· go_simp; try with_reducible rfl))
                    try simp only [Act.put, List.setIfInBounds_toArray, List.set_cons_zero, List.set_cons_succ]
                    (refine anyS_free (i := 4) (v := ?_) rfl (by kernel_rfl) (by kernel_rfl) (by kernel_rfl) (fun _ _ _ h => h) (fun _ => by simp) (Or.inl ⟨by rfl, fun w' _ => ?_⟩) ?_; rotate_left; (· go_simp; try with_reducible rfl))
                    try simp only [Act.put, List.setIfInBounds_toArray, List.set_cons_zero, List.set_cons_succ]
                    refine anyS_done (by kernel_rfl) ?_ _
                    refine NoPanic.normal ?_
                    clear hg4 hg5 hq hgd hu24 hi24 HRDd HBd HRD HBX HBY HLF
                    go_wp2_with fail
                    go_loopw [13, 14] (fun okv i wq => ∃ (u : Nat) (bo : Bool) (e : Int) (bs : List Int), u ≤ m ∧ i = .int .i64 (u : Int) ∧ okv = .bool bo ∧ Hid (0 ≠ 2 → bo = true) ∧ Hid (Rd wq r e bs) ∧ Hid (Lft 0 (numsFrom ns u ++ txsFrom ss 0) bs e) ∧ Hid (∀ c ∈ bs, Byte c) ∧ Hid (Below wo.heap.size wo wq)) (fun _ i _ => m - (intOf i).toNat)
                    case atStart => exact ⟨0, b5, e5, bs5, by omega, rfl, rfl, HO5.out, HR5.out, HL6.out, HY5.out, HB5.out⟩
                    case round =>
                      clear HO5 HR5 HL6 HY5 HB5
                      obtain ⟨u, bo, e, bs, hu, rfl, rfl, HO, HR, HL, HY, HB⟩ := hrel
                      by_cases hum : u < m
                      · obtain ⟨ad, had, hcell⟩ := (HN.out.below (HBK.out.trans (HB.out.drew.mono HSZ1.out))).cell u hum
                        obtain ⟨ad', had', hcell'⟩ := HN.out.cell u hum
                        rw [had] at had'
                        simp only [Option.some.injEq] at had'
                        subst had'
                        subst had
                        have HC1 : Hid (∀ W, Below w1.heap.size w1 W → W.cell? (ad.add u) = some (.int .i64 (ns.getD u 0))) := fun W hb => by rw [hb.cell (World.block_lt_of_cell? w1 _ hcell')]; exact hcell'
                        have HIz := Lib.hid (HN.out.at u hum)
                        have HFS := Lib.hid (numsFrom_succ ns u (by rw [HN.out.sz]; exact hum))
                        obtain ⟨z, hz⟩ : ∃ z, z = ns.getD u 0 := ⟨_, rfl⟩
                        rw [← hz] at hcell HC1 HIz HFS
                        have HL0 : Hid (Lft 0 (enc z ++ (numsFrom ns (u + 1) ++ txsFrom ss 0)) bs e) := by have h := HL.out; rw [HFS.out, List.append_assoc] at h; exact h
                        have HRd : Hid (Rd wr.drew r e bs) := HR.out.keep (Below.refl _ _).drew
                        have HBd : Hid (Below wo.heap.size wo wr.drew) := HB.out.drew
                        clear hz hcell' HFS HL HR HB
                        go_wp2_with fail
                        refine anyS_start (by kernel_rfl) ?_
                        (refine anyS_free (i := 0) (v := ?_) rfl (by kernel_rfl) (by kernel_rfl) (by kernel_rfl) (fun _ _ _ h => h) (fun _ => by simp) (Or.inl ⟨by rfl, fun w' _ => ?_⟩) ?_; rotate_left; (· go_simp; try with_reducible rfl))
                        try simp only [Act.put, List.setIfInBounds_toArray, List.set_cons_zero, List.set_cons_succ]
                        (refine anyS_free (i := 2) (v := ?_) rfl (by kernel_rfl) (by kernel_rfl) (by kernel_rfl) (fun _ _ _ h => h) (fun _ => by simp) (Or.inl ⟨by rfl, fun w' _ => ?_⟩) ?_; rotate_left; (· go_simp; try with_reducible rfl))
                        try simp only [Act.put, List.setIfInBounds_toArray, List.set_cons_zero, List.set_cons_succ]
                        (refine anyS_free (i := 3) (v := ?_) rfl (by kernel_rfl) (by kernel_rfl) (by kernel_rfl) (fun _ _ _ h => h) (fun _ => by simp) (Or.inl ⟨by rfl, fun w' _ => ?_⟩) ?_; rotate_left; (· go_simp; try with_reducible rfl))
                        try simp only [Act.put, List.setIfInBounds_toArray, List.set_cons_zero, List.set_cons_succ]
                        (refine anyS_free (i := 4) (v := ?_) rfl (by kernel_rfl) (by kernel_rfl) (by kernel_rfl) (fun _ _ _ h => h) (fun _ => by simp) (Or.inl ⟨by rfl, fun w' _ => ?_⟩) ?_; rotate_left; (· go_simp; try with_reducible rfl))
                        try simp only [Act.put, List.setIfInBounds_toArray, List.set_cons_zero, List.set_cons_succ]
                        (refine anyS_takeNew (fun w' => w'.cell? (ad.add u) = some (.int .i64 z)) [1] (i := 5) (v := ?_) hcell rfl (by kernel_rfl) (by kernel_rfl) (by kernel_rfl) (by kernel_rfl) (fun _ _ _ h => h) (fun _ _ => by simp_all) (Or.inl ⟨by rfl, fun w' hw' => ?_⟩) ?_; rotate_left; (· (dsimp only at hw'; go_simp; try with_reducible rfl)))
                        try simp only [Act.put, List.setIfInBounds_toArray, List.set_cons_zero, List.set_cons_succ]
                        refine anyS_one 1 (by kernel_rfl) rfl (fun K hK => ?_)
                        go_simp
                        go_at_call 22
                        (refine (rint_any r e bs _ HRd.out HY.out).mono ?_)
                        rintro x w5 ⟨rfl, hrdA, hoA⟩
                        have HB5 := Lib.hid (Below.step HBd.out hoA HRR.out (Nat.le_refl _))
                        have hcell5 := HC1.out _ (HBK.out.trans (HB5.out.mono HSZ1.out))
                        have HL5 := Lib.hid (lft_int HIz.out HL0.out)
                        have HY5 : Hid (∀ c ∈ (rdInt e bs).2.1, Byte c) := fun c hc => HY.out c (rdInt_sub _ _ c hc)
                        have HL6 := Lib.hid HL5.out.1
                        have HL7 := Lib.hid HL5.out.2
                        obtain ⟨z5, hz5⟩ : ∃ z, z = (rdInt e bs).2.2 := ⟨_, rfl⟩
                        rw [← hz5]
                        rw [← hz5] at HL7
                        obtain ⟨e5, he5⟩ : ∃ x, x = (rdInt e bs).1 := ⟨_, rfl⟩
                        obtain ⟨bs5, hbs5⟩ : ∃ b, b = (rdInt e bs).2.1 := ⟨_, rfl⟩
                        rw [← he5, ← hbs5] at hrdA HL6
                        rw [← hbs5] at HY5
                        have HR5 := Lib.hid hrdA
                        clear hrdA hoA HL5 hz5 he5 hbs5
                        go_wp2_with fail
                        refine hK.out _ _ (by simpa using hcell5) ?_
                        clear hK K
                        try simp only [Act.put, List.setIfInBounds_toArray, List.set_cons_zero, List.set_cons_succ]
                        rcases Classical.em (z5 = z) with hxz | hxz
                        · subst hxz
                          (refine anyS_free (i := 6) (v := ?_) rfl (by kernel_rfl) (by kernel_rfl) (by kernel_rfl) (fun _ _ _ h => h) (fun _ => by simp) (Or.inl ⟨by rfl, fun w' _ => ?_⟩) ?_; rotate_left; (· go_simp; try with_reducible rfl))
                          try simp only [Act.put, List.setIfInBounds_toArray, List.set_cons_zero, List.set_cons_succ]
                          (refine anyS_free (i := 7) (v := ?_) rfl (by kernel_rfl) (by kernel_rfl) (by kernel_rfl) (fun _ _ _ h => h) (fun _ => by simp) (Or.inl ⟨by rfl, fun w' _ => ?_⟩) ?_; rotate_left; (· go_simp; try with_reducible rfl))
                          try simp only [Act.put, List.setIfInBounds_toArray, List.set_cons_zero, List.set_cons_succ]
                          (refine anyS_free (i := 8) (v := ?_) rfl (by kernel_rfl) (by kernel_rfl) (by kernel_rfl) (fun _ _ _ h => h) (fun _ => by simp) (Or.inl ⟨by rfl, fun w' _ => ?_⟩) ?_; rotate_left; (· go_simp; try with_reducible rfl))
                          try simp only [Act.put, List.setIfInBounds_toArray, List.set_cons_zero, List.set_cons_succ]
                          (refine anyS_free (i := 9) (v := ?_) rfl (by kernel_rfl) (by kernel_rfl) (by kernel_rfl) (fun _ _ _ h => h) (fun _ => by simp) (Or.inl ⟨by rfl, fun w' _ => ?_⟩) ?_; rotate_left; (· go_simp; try with_reducible rfl))
                          try simp only [Act.put, List.setIfInBounds_toArray, List.set_cons_zero, List.set_cons_succ]
                          (refine anyS_free (i := 10) (v := ?_) rfl (by kernel_rfl) (by kernel_rfl) (by kernel_rfl) (fun _ _ _ h => h) (fun _ => by simp) (Or.inl ⟨by rfl, fun w' _ => ?_⟩) ?_; rotate_left; (· go_simp; try with_reducible rfl))
                          try simp only [Act.put, List.setIfInBounds_toArray, List.set_cons_zero, List.set_cons_succ]
                          refine anyS_done (by kernel_rfl) ?_ _
                          refine NoPanic.normal ?_
                          clear hcell hcell5
                          go_wp2_with fail
                          go_roundw
                          case rel => exact ⟨u + 1, bo, e5, bs5, by omega, by go_num, rfl, HO.out, HR5.out, HL6.out, HY5.out, HB5.out⟩
                          case measure => simp [intOf]; omega
                        · have hx1 : decide (z5 = z) = false := by simpa using hxz
                          have hx2 : (z5 == z) = false := by simpa using hxz
                          (refine anyS_free (i := 6) (v := ?_) rfl (by kernel_rfl) (by kernel_rfl) (by kernel_rfl) (fun _ _ _ h => h) (fun _ => by simp) (Or.inl ⟨by rfl, fun w' _ => ?_⟩) ?_; rotate_left; (· go_simp; try with_reducible rfl))
                          try simp only [Act.put, List.setIfInBounds_toArray, List.set_cons_zero, List.set_cons_succ]
                          (refine anyS_free (i := 7) (v := ?_) rfl (by kernel_rfl) (by kernel_rfl) (by kernel_rfl) (fun _ _ _ h => h) (fun _ => by simp) (Or.inl ⟨by rfl, fun w' _ => ?_⟩) ?_; rotate_left; (· go_simp; try with_reducible rfl))
                          try simp only [Act.put, List.setIfInBounds_toArray, List.set_cons_zero, List.set_cons_succ]
                          refine anyS_free (i := 8) (v := undef) rfl (by kernel_rfl) (by kernel_rfl) (by kernel_rfl) (fun _ _ _ h => h) (fun _ => by simp) (Or.inr ⟨by rfl, rfl⟩) ?_
                          try simp only [Act.put, List.setIfInBounds_toArray, List.set_cons_zero, List.set_cons_succ]
                          (refine anyS_free (i := 9) (v := ?_) rfl (by kernel_rfl) (by kernel_rfl) (by kernel_rfl) (fun _ _ _ h => h) (fun _ => by simp) (Or.inl ⟨by rfl, fun w' _ => ?_⟩) ?_; rotate_left; (· go_simp; try with_reducible rfl))
                          try simp only [Act.put, List.setIfInBounds_toArray, List.set_cons_zero, List.set_cons_succ]
                          (refine anyS_free (i := 10) (v := ?_) rfl (by kernel_rfl) (by kernel_rfl) (by kernel_rfl) (fun _ _ _ h => h) (fun _ => by simp) (Or.inl ⟨by rfl, fun w' _ => ?_⟩) ?_; rotate_left; (· go_simp; try with_reducible rfl))
                          try simp only [Act.put, List.setIfInBounds_toArray, List.set_cons_zero, List.set_cons_succ]
                          refine anyS_done (by kernel_rfl) ?_ _
                          refine NoPanic.normal ?_
                          clear hcell hcell5
                          go_wp2_with fail
                          go_roundw
                          case rel => exact ⟨u + 1, false, e5, bs5, by omega, by go_num, rfl, (fun h => absurd (HL7.out h) hxz), HR5.out, HL6.out, HY5.out, HB5.out⟩
                          case measure => simp [intOf]; omega
                      · have hu0 : u = m := by omega
                        subst hu0
                        have HLt : Hid (Lft 0 (txsFrom ss 0) bs e) := by
                          have h := HL.out
                          rw [show numsFrom ns u = [] by rw [← HN.out.sz]; exact numsFrom_end ns, List.nil_append] at h
                          exact h
                        clear HL
                        go_wp2_with fail
                        go_loopw [13, 15] (fun okv i wq => ∃ (v : Nat) (bo : Bool) (e : Int) (bs : List Int), v ≤ q ∧ i = .int .i64 (v : Int) ∧ okv = .bool bo ∧ Hid (0 ≠ 2 → bo = true) ∧ Hid (Rd wq r e bs) ∧ Hid (Lft 0 (txsFrom ss v) bs e) ∧ Hid (∀ c ∈ bs, Byte c) ∧ Hid (Below wo.heap.size wo wq)) (fun _ i _ => q - (intOf i).toNat)
                        case atStart => exact ⟨0, bo, e, bs, by omega, rfl, rfl, HO.out, HR.out, HLt.out, HY.out, HB.out⟩
                        case round =>
                          clear HO HR HLt HY HB
                          obtain ⟨v, bo, e, bs, hv, rfl, rfl, HO, HR, HL, HY, HB⟩ := hrel
                          by_cases hvq : v < q
                          · obtain ⟨ad, had, b, l, c, hcell', hcame⟩ := HM.out.row v hvq
                            subst had
                            have HC1 : Hid (∀ W, Below w1.heap.size w1 W → W.cell? (ad.add v) = some (.slice b l c)) := fun W hb => by rw [hb.cell (World.block_lt_of_cell? w1 _ hcell')]; exact hcell'
                            have HFS := Lib.hid (txsFrom_succ ss v (by rw [HM.out.sz]; exact hvq))
                            have hs60 := (HSB.out (ss.getD v []) (by have : v < ss.length := (by rw [HM.out.sz]; exact hvq); simp [List.getD, this])).1
                            obtain ⟨s, hs⟩ : ∃ s, s = ss.getD v [] := ⟨_, rfl⟩
                            rw [← hs] at hcame HFS hs60
                            have HS60 := Lib.hid hs60
                            have HCV : Hid (∀ W, Below w1.heap.size w1 W → Conv (.slice b l c) s W) := fun W hb => conv_reads (hcame.reads.below hb) c
                            have HL0 : Hid (Lft 0 (tx s ++ txsFrom ss (v + 1)) bs e) := by have h := HL.out; rw [HFS.out] at h; exact h
                            have HRd : Hid (Rd wr.drew r e bs) := HR.out.keep (Below.refl _ _).drew
                            have HBd : Hid (Below wo.heap.size wo wr.drew) := HB.out.drew
                            have hcell := HC1.out _ (HBK.out.trans (HBd.out.mono HSZ1.out))
                            have hconv := HCV.out _ (HBK.out.trans (HBd.out.mono HSZ1.out))
                            clear hs hcell' HFS HL HR HB hcame hs60
                            go_wp2_with fail
                            refine anyS_start (by kernel_rfl) ?_
                            (refine anyS_free (i := 0) (v := ?_) rfl (by kernel_rfl) (by kernel_rfl) (by kernel_rfl) (fun _ _ _ h => h) (fun _ => by simp) (Or.inl ⟨by rfl, fun w' _ => ?_⟩) ?_; rotate_left; (· go_simp; try with_reducible rfl))
                            try simp only [Act.put, List.setIfInBounds_toArray, List.set_cons_zero, List.set_cons_succ]
                            (refine anyS_free (i := 3) (v := ?_) rfl (by kernel_rfl) (by kernel_rfl) (by kernel_rfl) (fun _ _ _ h => h) (fun _ => by simp) (Or.inl ⟨by rfl, fun w' _ => ?_⟩) ?_; rotate_left; (· go_simp; try with_reducible rfl))
                            try simp only [Act.put, List.setIfInBounds_toArray, List.set_cons_zero, List.set_cons_succ]
                            (refine anyS_free (i := 4) (v := ?_) rfl (by kernel_rfl) (by kernel_rfl) (by kernel_rfl) (fun _ _ _ h => h) (fun _ => by simp) (Or.inl ⟨by rfl, fun w' _ => ?_⟩) ?_; rotate_left; (· go_simp; try with_reducible rfl))
                            try simp only [Act.put, List.setIfInBounds_toArray, List.set_cons_zero, List.set_cons_succ]
                            (refine anyS_free (i := 5) (v := ?_) rfl (by kernel_rfl) (by kernel_rfl) (by kernel_rfl) (fun _ _ _ h => h) (fun _ => by simp) (Or.inl ⟨by rfl, fun w' _ => ?_⟩) ?_; rotate_left; (· go_simp; try with_reducible rfl))
                            try simp only [Act.put, List.setIfInBounds_toArray, List.set_cons_zero, List.set_cons_succ]
                            (refine anyS_takeNew (fun w' => w'.cell? (ad.add v) = some (.slice b l c)) [1, 2] (i := 6) (v := ?_) hcell rfl (by kernel_rfl) (by kernel_rfl) (by kernel_rfl) (by kernel_rfl) (fun _ _ _ h => h) (fun _ _ => by simp_all) (Or.inl ⟨by rfl, fun w' hw' => ?_⟩) ?_; rotate_left; (· (dsimp only at hw'; go_simp; try with_reducible rfl)))
                            try simp only [Act.put, List.setIfInBounds_toArray, List.set_cons_zero, List.set_cons_succ]
                            (refine anyS_takeNew (fun w' => Conv (.slice b l c) s w') [1, 2] (i := 7) (v := ?_) hconv rfl (by kernel_rfl) (by kernel_rfl) (by kernel_rfl) (by kernel_rfl) (fun _ _ _ h => h) (fun _ _ => by simp_all) (Or.inl ⟨by rfl, fun w' hw' => ?_⟩) ?_; rotate_left; (· (unfold Conv at hw'; go_simp; try with_reducible rfl)))
                            try simp only [Act.put, List.setIfInBounds_toArray, List.set_cons_zero, List.set_cons_succ]
                            refine anyS_one 1 (by kernel_rfl) rfl (fun K hK => ?_)
                            go_simp
                            go_at_call 24
                            (refine (rtext_any r e bs _ HRd.out HY.out).mono ?_)
                            rintro x w5 ⟨aT, cT, rfl, hrT, hrdA, hoA⟩
                            have hT5 : Conv _ _ _ := conv_reads hrT cT
                            have HB5 := Lib.hid (Below.step HBd.out hoA HRR.out (Nat.le_refl _))
                            have hcell5 := HC1.out _ (HBK.out.trans (HB5.out.mono HSZ1.out))
                            have hconv5 := HCV.out _ (HBK.out.trans (HB5.out.mono HSZ1.out))
                            have HL5 := Lib.hid (lft_text HS60.out HL0.out)
                            have HY5 : Hid (∀ c ∈ (rdText e bs).2.1, Byte c) := fun c hc => HY.out c (rdText_sub _ _ c hc)
                            have HL6 := Lib.hid HL5.out.1
                            have HL7 := Lib.hid HL5.out.2
                            obtain ⟨t5, ht5⟩ : ∃ z, z = (rdText e bs).2.2 := ⟨_, rfl⟩
                            rw [← ht5] at HL7 hT5
                            rw [← ht5]
                            obtain ⟨n5, hn5⟩ : ∃ z, z = t5.length := ⟨_, rfl⟩
                            rw [← hn5] at hT5
                            rw [← hn5]
                            obtain ⟨e5, he5⟩ : ∃ x, x = (rdText e bs).1 := ⟨_, rfl⟩
                            obtain ⟨bs5, hbs5⟩ : ∃ b, b = (rdText e bs).2.1 := ⟨_, rfl⟩
                            rw [← he5, ← hbs5] at hrdA HL6
                            rw [← hbs5] at HY5
                            have HR5 := Lib.hid hrdA
                            clear hrT hrdA hoA HL5 ht5 hn5 he5 hbs5
                            go_wp2_with fail
                            refine hK.out _ _ (by simpa using And.intro hcell5 hconv5) ?_
                            clear hK K
                            try simp only [Act.put, List.setIfInBounds_toArray, List.set_cons_zero, List.set_cons_succ]
                            (refine anyS_takeNew (fun w' => Conv (.slice aT n5 cT) t5 w' ∧ (w'.cell? (ad.add v) = some (.slice b l c) ∧ Conv (.slice b l c) s w')) [] (i := 2) (v := ?_) ⟨hT5, hcell5, hconv5⟩ rfl (by kernel_rfl) (by kernel_rfl) (by kernel_rfl) (by kernel_rfl) (fun _ _ _ h => h) (fun _ _ => by simp_all) (Or.inl ⟨by rfl, fun w' hw' => ?_⟩) ?_; rotate_left; (· (have hw' := hw'.1; unfold Conv at hw'; go_simp; try with_reducible rfl)))
                            try simp only [Act.put, List.setIfInBounds_toArray, List.set_cons_zero, List.set_cons_succ]
                            rcases Classical.em ((strOfNums t5).toList = (strOfNums s).toList) with hxz | hxz
                            · have hx1 : decide ((strOfNums t5).toList = (strOfNums s).toList) = true := by simpa using hxz
                              (refine anyS_free (i := 8) (v := ?_) rfl (by kernel_rfl) (by kernel_rfl) (by kernel_rfl) (fun _ _ _ h => h) (fun _ => by simp) (Or.inl ⟨by rfl, fun w' _ => ?_⟩) ?_; rotate_left; (· go_simp; try with_reducible rfl))
                              try simp only [Act.put, List.setIfInBounds_toArray, List.set_cons_zero, List.set_cons_succ]
                              (refine anyS_free (i := 9) (v := ?_) rfl (by kernel_rfl) (by kernel_rfl) (by kernel_rfl) (fun _ _ _ h => h) (fun _ => by simp) (Or.inl ⟨by rfl, fun w' _ => ?_⟩) ?_; rotate_left; (· go_simp; try with_reducible rfl))
                              try simp only [Act.put, List.setIfInBounds_toArray, List.set_cons_zero, List.set_cons_succ]
                              (refine anyS_free (i := 10) (v := ?_) rfl (by kernel_rfl) (by kernel_rfl) (by kernel_rfl) (fun _ _ _ h => h) (fun _ => by simp) (Or.inl ⟨by rfl, fun w' _ => ?_⟩) ?_; rotate_left; (· go_simp; try with_reducible rfl))
                              try simp only [Act.put, List.setIfInBounds_toArray, List.set_cons_zero, List.set_cons_succ]
                              (refine anyS_free (i := 11) (v := ?_) rfl (by kernel_rfl) (by kernel_rfl) (by kernel_rfl) (fun _ _ _ h => h) (fun _ => by simp) (Or.inl ⟨by rfl, fun w' _ => ?_⟩) ?_; rotate_left; (· go_simp; try with_reducible rfl))
                              try simp only [Act.put, List.setIfInBounds_toArray, List.set_cons_zero, List.set_cons_succ]
                              (refine anyS_free (i := 12) (v := ?_) rfl (by kernel_rfl) (by kernel_rfl) (by kernel_rfl) (fun _ _ _ h => h) (fun _ => by simp) (Or.inl ⟨by rfl, fun w' _ => ?_⟩) ?_; rotate_left; (· go_simp; try with_reducible rfl))
                              try simp only [Act.put, List.setIfInBounds_toArray, List.set_cons_zero, List.set_cons_succ]
                              refine anyS_done (by kernel_rfl) ?_ _
                              refine NoPanic.normal ?_
                              clear hcell hcell5 hconv hconv5 hT5
                              go_wp2_with fail
                              go_roundw
                              case rel => exact ⟨v + 1, bo, e5, bs5, by omega, by go_num, rfl, HO.out, HR5.out, HL6.out, HY5.out, HB5.out⟩
                              case measure => simp [intOf]; omega
                            · have hx1 : decide ((strOfNums t5).toList = (strOfNums s).toList) = false := by simpa using hxz
                              have hx2 : ((strOfNums t5).toList == (strOfNums s).toList) = false := by simpa using hxz
                              (refine anyS_free (i := 8) (v := ?_) rfl (by kernel_rfl) (by kernel_rfl) (by kernel_rfl) (fun _ _ _ h => h) (fun _ => by simp) (Or.inl ⟨by rfl, fun w' _ => ?_⟩) ?_; rotate_left; (· go_simp; try with_reducible rfl))
                              try simp only [Act.put, List.setIfInBounds_toArray, List.set_cons_zero, List.set_cons_succ]
                              (refine anyS_free (i := 9) (v := ?_) rfl (by kernel_rfl) (by kernel_rfl) (by kernel_rfl) (fun _ _ _ h => h) (fun _ => by simp) (Or.inl ⟨by rfl, fun w' _ => ?_⟩) ?_; rotate_left; (· go_simp; try with_reducible rfl))
                              try simp only [Act.put, List.setIfInBounds_toArray, List.set_cons_zero, List.set_cons_succ]
                              refine anyS_free (i := 10) (v := undef) rfl (by kernel_rfl) (by kernel_rfl) (by kernel_rfl) (fun _ _ _ h => h) (fun _ => by simp) (Or.inr ⟨by rfl, rfl⟩) ?_
                              try simp only [Act.put, List.setIfInBounds_toArray, List.set_cons_zero, List.set_cons_succ]
                              (refine anyS_free (i := 11) (v := ?_) rfl (by kernel_rfl) (by kernel_rfl) (by kernel_rfl) (fun _ _ _ h => h) (fun _ => by simp) (Or.inl ⟨by rfl, fun w' _ => ?_⟩) ?_; rotate_left; (· go_simp; try with_reducible rfl))
                              try simp only [Act.put, List.setIfInBounds_toArray, List.set_cons_zero, List.set_cons_succ]
                              (refine anyS_free (i := 12) (v := ?_) rfl (by kernel_rfl) (by kernel_rfl) (by kernel_rfl) (fun _ _ _ h => h) (fun _ => by simp) (Or.inl ⟨by rfl, fun w' _ => ?_⟩) ?_; rotate_left; (· go_simp; try with_reducible rfl))
                              try simp only [Act.put, List.setIfInBounds_toArray, List.set_cons_zero, List.set_cons_succ]
                              refine anyS_done (by kernel_rfl) ?_ _
                              refine NoPanic.normal ?_
                              clear hcell hcell5 hconv hconv5 hT5
                              go_wp2_with fail
                              go_roundw
                              case rel => exact ⟨v + 1, false, e5, bs5, by omega, by go_num, rfl, (fun h => absurd (by rw [HL7.out h]) hxz), HR5.out, HL6.out, HY5.out, HB5.out⟩
                              case measure => simp [intOf]; omega
                          · have hv0 : v = q := by omega
                            subst hv0
                            have HE : Hid (endOf e bs = 0) := by
                              have h := HL.out
                              rw [show txsFrom ss v = [] by rw [← HM.out.sz]; exact txsFrom_end ss] at h
                              have h2 := lft_end h
                              simpa [Hid] using h2
                            go_wp2_with fail
                            refine (end_any r e bs _ HR.out).mono ?_
                            rintro x w7 ⟨rfl, rfl⟩
                            rw [HE.out]
                            have HRZ : Hid (Reads wr a8 n8 (hs ++ (numsFrom ns 0 ++ txsFrom ss 0))) := HR9.out.below HB.out
                            have HBZ := Lib.hid (HBK.out.trans (HB.out.mono HSZ1.out))
                            have hbo := HO.out (by omega)
                            subst hbo
                            go_wp2_with fail
                            go_roundw
                            case rel => exact ⟨0 + 1, by omega, by go_num, HRZ.out, HBZ.out⟩
                            case measure => simp [intOf]
                  · obtain ⟨xs, hxs⟩ : ∃ xs, xs = hs ++ (numsFrom ns 0 ++ txsFrom ss 0) ++ [7] := ⟨_, rfl⟩
                    have HM0 := Lib.hid (World.ownsRow_made (base := wo.heap.size) (e := 5) (size := 1) wo #[] 0 (Nat.le_refl _) (by unfold maxLen; omega) rfl)
                    have HRA0 : Hid (Reads (wo.alloc (.cells #[] 5)) a8 n8 (hs ++ (numsFrom ns 0 ++ txsFrom ss 0))) := HR9.out.below ((Below.refl _ _).alloc (Nat.le_refl _) _)
                    have hnil8 : a8 = none → n8 = 0 ∧ c8 = 0 := by
                      intro h
                      obtain ⟨ad, h1, -⟩ := HR9.out.2 (by omega)
                      rw [h] at h1; cases h1
                    go_wp2_with (first
                      | (at_builtin; ((refine wpList_append_keep rfl _ _ 22 rfl wo.heap.size 5 i0 Try.underlying22 hi hz0 hz1 hz2 _ 0 [] rfl HM0.out a8 n8 c8 (hs ++ (numsFrom ns 0 ++ txsFrom ss 0)) rfl HRA0.out hnil8 (by omega) (by simp) ?_; intro v5 w5 ho5 hg5 hk5 hn5; simp only [Nat.zero_add, List.nil_append] at ho5; have hb5 : Below wo.heap.size wo w5 := ((Below.refl _ _).alloc (Nat.le_refl _) (.cells #[] 5)).grown hg5 (by simp) (fun k hk => (HM0.out.lt k hk).1); have HO5 := Lib.hid ho5; have HB5 := Lib.hid hb5; have HO6 := Lib.hid (owns_later ho5 ((Below.refl _ _).alloc (Nat.le_refl _) (.cells #[.int .u8 7] 5))); have HR7 : Hid (Reads (w5.alloc (.cells #[.int .u8 7] 5)) (some ⟨w5.heap.size, 0, none⟩) 1 [7]) := ⟨rfl, fun _ => ⟨_, rfl, one_new w5 7⟩⟩; clear ho5 hg5 hk5 hn5 hb5)))
                      | (at_builtin; ((refine wpList_append_keep rfl _ _ 22 rfl wo.heap.size 5 i0 Try.underlying22 hi hz0 hz1 hz2 _ n8 (hs ++ (numsFrom ns 0 ++ txsFrom ss 0)) rfl HO6.out (some ⟨w5.heap.size, 0, none⟩) 1 1 [7] rfl HR7.out (fun h => by cases h) (by omega) (by have := HB5.out.size; simp; omega) ?_; intro v6 w6 ho6 hg6 hk6 hn6; rw [← hxs] at ho6; obtain ⟨a6, c6, rfl, hr6⟩ := owned_val ho6; have HRX := Lib.hid hr6; have HBX0 : Hid (Below wo.heap.size wo w6) := (HB5.out.alloc HB5.out.size (.cells #[.int .u8 7] 5)).grown hg6 (by have := HB5.out.size; simp; omega) (fun k hk => (HO6.out.lt k hk).1); clear ho6 hr6 hg6 hk6 hn6))))
                    have HBY : Hid (∀ c ∈ xs, Byte c) := by
                      intro c hc
                      rw [hxs] at hc
                      rcases List.mem_append.1 hc with h | h
                      · exact HFB.out c h
                      · obtain rfl : c = 7 := by simpa using h
                        exact ⟨by omega, by omega⟩
                    have HLF : Hid (Lft 1 (hs ++ (numsFrom ns 0 ++ txsFrom ss 0)) xs 0) := .inr (.inl ⟨rfl, hxs, rfl⟩)
                    clear hxs
                    refine (new_any a6 (n8 + 1) c6 xs _ HRX.out (by omega)).mono ?_
                    rintro e w4 ⟨r, rfl, hrd, hrr, hb⟩
                    have HRR : Hid (wo.heap.size ≤ r) := Nat.le_trans HBX0.out.size hrr
                    have HBX := Lib.hid (HBX0.out.trans (hb.mono HBX0.out.size))
                    have HRD := Lib.hid hrd
                    clear hrd hrr hb
                    go_wp2_with fail
                    have HRDd : Hid (Rd w4.drew r 0 xs) := HRD.out.keep (Below.refl _ _).drew
                    have HBd : Hid (Below wo.heap.size wo w4.drew) := HBX.out.drew
                    have hg4 := HRG.out _ (HBK.out.trans (HBd.out.mono HSZ1.out))
                    have hu24 := underlying_sum
                    have hi24 : (Try.prog.info? 24).map (·.size) = some cs.toList.length := by rw [Array.length_toList]; exact sum_info H2.out
                    have hgd := eqGuard_sum
                    refine anyS_start (by kernel_rfl) ?_
                    (refine anyS_free (i := 0) (v := ?_) rfl (by kernel_rfl) (by kernel_rfl) (by kernel_rfl) (fun _ _ _ h => h) (fun _ => by simp) (Or.inl ⟨by rfl, fun w' _ => ?_⟩) ?_; rotate_left; (· go_simp; try with_reducible rfl))
                    try simp only [Act.put, List.setIfInBounds_toArray, List.set_cons_zero, List.set_cons_succ]
                    refine anyS_takeNew (fun w' => w'.rangeAt w.heap.size 0 cs.toList) [1] (i := 2) hg4 rfl (by kernel_rfl) (by kernel_rfl) (by kernel_rfl) (by kernel_rfl) (fun _ _ _ h => h) (fun _ _ => by simp_all) (yieldsIf_load_mid (by rfl) _ _ rfl _ _ rfl _ _ (fun _ h => h) hu24 rfl hi24) ?_
                    try simp only [Act.put, List.setIfInBounds_toArray, List.set_cons_zero, List.set_cons_succ]
                    refine anyS_one 1 (by kernel_rfl) rfl (fun K hK => ?_)
                    go_simp
                    go_at_call 26
                    (refine (rhash_any r 0 xs _ HRDd.out HBY.out).mono ?_)
                    rintro x w5 ⟨dA, rfl, hsA, hrdA, hoA⟩
                    have hq : ∀ w, (binOp .eql 24 (.agg dA) (.agg cs)).run Try.prog w = .ok (.bool (decide ((rdHash 0 xs).2.2 = hs))) w := fun w => eql_sum hsA H2.out w
                    have HB5 := Lib.hid (Below.step HBd.out hoA HRR.out (Nat.le_refl _))
                    have hg5 := HRG.out _ (HBK.out.trans (HB5.out.mono HSZ1.out))
                    have HL5 := Lib.hid (lft_hash H2.out.len HLF.out)
                    have HY5 : Hid (∀ c ∈ (rdHash 0 xs).2.1, Byte c) := fun c hc => HBY.out c (rdHash_sub _ _ c hc)
                    have HO5 : Hid (1 ≠ 2 → decide ((rdHash 0 xs).2.2 = hs) = true) := fun h => by simp [HL5.out.2 h]
                    obtain ⟨b5, hb5⟩ : ∃ b : Bool, b = decide ((rdHash 0 xs).2.2 = hs) := ⟨_, rfl⟩
                    rw [← hb5] at hq HO5
                    have HL6 := Lib.hid HL5.out.1
                    obtain ⟨e5, he5⟩ : ∃ e, e = (rdHash 0 xs).1 := ⟨_, rfl⟩
                    obtain ⟨bs5, hbs5⟩ : ∃ b, b = (rdHash 0 xs).2.1 := ⟨_, rfl⟩
                    rw [← he5, ← hbs5] at hrdA HL6
                    rw [← hbs5] at HY5
                    have HR5 := Lib.hid hrdA
                    clear hrdA hoA hsA HL5 hb5 he5 hbs5
                    go_wp2_with fail
                    refine hK.out _ _ (by simpa using hg5) ?_
                    clear hK K
                    try simp only [Act.put, List.setIfInBounds_toArray, List.set_cons_zero, List.set_cons_succ]
                    (refine anyS_free (i := 3) (v := ?_) rfl (by kernel_rfl) (by kernel_rfl) (by kernel_rfl) (fun _ _ _ h => h) (fun _ => by simp) (Or.inl ⟨by rfl, fun w' _ => ?_⟩) ?_; rotate_left; (· go_simp; try with_reducible rfl))
                    try simp only [Act.put, List.setIfInBounds_toArray, List.set_cons_zero, List.set_cons_succ]
                    (refine anyS_free (i := 4) (v := ?_) rfl (by kernel_rfl) (by kernel_rfl) (by kernel_rfl) (fun _ _ _ h => h) (fun _ => by simp) (Or.inl ⟨by rfl, fun w' _ => ?_⟩) ?_; rotate_left; (· go_simp; try with_reducible rfl))
                    try simp only [Act.put, List.setIfInBounds_toArray, List.set_cons_zero, List.set_cons_succ]
                    refine anyS_done (by kernel_rfl) ?_ _
                    refine NoPanic.normal ?_
                    clear hg4 hg5 hq hgd hu24 hi24 HRDd HBd HRD HBX HBY HLF
                    go_wp2_with fail
                    go_loopw [13, 14] (fun okv i wq => ∃ (u : Nat) (bo : Bool) (e : Int) (bs : List Int), u ≤ m ∧ i = .int .i64 (u : Int) ∧ okv = .bool bo ∧ Hid (1 ≠ 2 → bo = true) ∧ Hid (Rd wq r e bs) ∧ Hid (Lft 1 (numsFrom ns u ++ txsFrom ss 0) bs e) ∧ Hid (∀ c ∈ bs, Byte c) ∧ Hid (Below wo.heap.size wo wq)) (fun _ i _ => m - (intOf i).toNat)
                    case atStart => exact ⟨0, b5, e5, bs5, by omega, rfl, rfl, HO5.out, HR5.out, HL6.out, HY5.out, HB5.out⟩
                    case round =>
                      clear HO5 HR5 HL6 HY5 HB5
                      obtain ⟨u, bo, e, bs, hu, rfl, rfl, HO, HR, HL, HY, HB⟩ := hrel
                      by_cases hum : u < m
                      · obtain ⟨ad, had, hcell⟩ := (HN.out.below (HBK.out.trans (HB.out.drew.mono HSZ1.out))).cell u hum
                        obtain ⟨ad', had', hcell'⟩ := HN.out.cell u hum
                        rw [had] at had'
                        simp only [Option.some.injEq] at had'
                        subst had'
                        subst had
                        have HC1 : Hid (∀ W, Below w1.heap.size w1 W → W.cell? (ad.add u) = some (.int .i64 (ns.getD u 0))) := fun W hb => by rw [hb.cell (World.block_lt_of_cell? w1 _ hcell')]; exact hcell'
                        have HIz := Lib.hid (HN.out.at u hum)
                        have HFS := Lib.hid (numsFrom_succ ns u (by rw [HN.out.sz]; exact hum))
                        obtain ⟨z, hz⟩ : ∃ z, z = ns.getD u 0 := ⟨_, rfl⟩
                        rw [← hz] at hcell HC1 HIz HFS
                        have HL0 : Hid (Lft 1 (enc z ++ (numsFrom ns (u + 1) ++ txsFrom ss 0)) bs e) := by have h := HL.out; rw [HFS.out, List.append_assoc] at h; exact h
                        have HRd : Hid (Rd wr.drew r e bs) := HR.out.keep (Below.refl _ _).drew
                        have HBd : Hid (Below wo.heap.size wo wr.drew) := HB.out.drew
                        clear hz hcell' HFS HL HR HB
                        go_wp2_with fail
                        refine anyS_start (by kernel_rfl) ?_
                        (refine anyS_free (i := 0) (v := ?_) rfl (by kernel_rfl) (by kernel_rfl) (by kernel_rfl) (fun _ _ _ h => h) (fun _ => by simp) (Or.inl ⟨by rfl, fun w' _ => ?_⟩) ?_; rotate_left; (· go_simp; try with_reducible rfl))
                        try simp only [Act.put, List.setIfInBounds_toArray, List.set_cons_zero, List.set_cons_succ]
                        (refine anyS_free (i := 2) (v := ?_) rfl (by kernel_rfl) (by kernel_rfl) (by kernel_rfl) (fun _ _ _ h => h) (fun _ => by simp) (Or.inl ⟨by rfl, fun w' _ => ?_⟩) ?_; rotate_left; (· go_simp; try with_reducible rfl))
                        try simp only [Act.put, List.setIfInBounds_toArray, List.set_cons_zero, List.set_cons_succ]
                        (refine anyS_free (i := 3) (v := ?_) rfl (by kernel_rfl) (by kernel_rfl) (by kernel_rfl) (fun _ _ _ h => h) (fun _ => by simp) (Or.inl ⟨by rfl, fun w' _ => ?_⟩) ?_; rotate_left; (· go_simp; try with_reducible rfl))
                        try simp only [Act.put, List.setIfInBounds_toArray, List.set_cons_zero, List.set_cons_succ]
                        (refine anyS_free (i := 4) (v := ?_) rfl (by kernel_rfl) (by kernel_rfl) (by kernel_rfl) (fun _ _ _ h => h) (fun _ => by simp) (Or.inl ⟨by rfl, fun w' _ => ?_⟩) ?_; rotate_left; (· go_simp; try with_reducible rfl))
                        try simp only [Act.put, List.setIfInBounds_toArray, List.set_cons_zero, List.set_cons_succ]
                        (refine anyS_takeNew (fun w' => w'.cell? (ad.add u) = some (.int .i64 z)) [1] (i := 5) (v := ?_) hcell rfl (by kernel_rfl) (by kernel_rfl) (by kernel_rfl) (by kernel_rfl) (fun _ _ _ h => h) (fun _ _ => by simp_all) (Or.inl ⟨by rfl, fun w' hw' => ?_⟩) ?_; rotate_left; (· (dsimp only at hw'; go_simp; try with_reducible rfl)))
                        try simp only [Act.put, List.setIfInBounds_toArray, List.set_cons_zero, List.set_cons_succ]
                        refine anyS_one 1 (by kernel_rfl) rfl (fun K hK => ?_)
                        go_simp
                        go_at_call 22
                        (refine (rint_any r e bs _ HRd.out HY.out).mono ?_)
                        rintro x w5 ⟨rfl, hrdA, hoA⟩
                        have HB5 := Lib.hid (Below.step HBd.out hoA HRR.out (Nat.le_refl _))
                        have hcell5 := HC1.out _ (HBK.out.trans (HB5.out.mono HSZ1.out))
                        have HL5 := Lib.hid (lft_int HIz.out HL0.out)
                        have HY5 : Hid (∀ c ∈ (rdInt e bs).2.1, Byte c) := fun c hc => HY.out c (rdInt_sub _ _ c hc)
                        have HL6 := Lib.hid HL5.out.1
                        have HL7 := Lib.hid HL5.out.2
                        obtain ⟨z5, hz5⟩ : ∃ z, z = (rdInt e bs).2.2 := ⟨_, rfl⟩
                        rw [← hz5]
                        rw [← hz5] at HL7
                        obtain ⟨e5, he5⟩ : ∃ x, x = (rdInt e bs).1 := ⟨_, rfl⟩
                        obtain ⟨bs5, hbs5⟩ : ∃ b, b = (rdInt e bs).2.1 := ⟨_, rfl⟩
                        rw [← he5, ← hbs5] at hrdA HL6
                        rw [← hbs5] at HY5
                        have HR5 := Lib.hid hrdA
                        clear hrdA hoA HL5 hz5 he5 hbs5
                        go_wp2_with fail
                        refine hK.out _ _ (by simpa using hcell5) ?_
                        clear hK K
                        try simp only [Act.put, List.setIfInBounds_toArray, List.set_cons_zero, List.set_cons_succ]
                        rcases Classical.em (z5 = z) with hxz | hxz
                        · subst hxz
                          (refine anyS_free (i := 6) (v := ?_) rfl (by kernel_rfl) (by kernel_rfl) (by kernel_rfl) (fun _ _ _ h => h) (fun _ => by simp) (Or.inl ⟨by rfl, fun w' _ => ?_⟩) ?_; rotate_left; (· go_simp; try with_reducible rfl))
                          try simp only [Act.put, List.setIfInBounds_toArray, List.set_cons_zero, List.set_cons_succ]
                          (refine anyS_free (i := 7) (v := ?_) rfl (by kernel_rfl) (by kernel_rfl) (by kernel_rfl) (fun _ _ _ h => h) (fun _ => by simp) (Or.inl ⟨by rfl, fun w' _ => ?_⟩) ?_; rotate_left; (· go_simp; try with_reducible rfl))
                          try simp only [Act.put, List.setIfInBounds_toArray, List.set_cons_zero, List.set_cons_succ]
                          (refine anyS_free (i := 8) (v := ?_) rfl (by kernel_rfl) (by kernel_rfl) (by kernel_rfl) (fun _ _ _ h => h) (fun _ => by simp) (Or.inl ⟨by rfl, fun w' _ => ?_⟩) ?_; rotate_left; (· go_simp; try with_reducible rfl))
                          try simp only [Act.put, List.setIfInBounds_toArray, List.set_cons_zero, List.set_cons_succ]
                          (refine anyS_free (i := 9) (v := ?_) rfl (by kernel_rfl) (by kernel_rfl) (by kernel_rfl) (fun _ _ _ h => h) (fun _ => by simp) (Or.inl ⟨by rfl, fun w' _ => ?_⟩) ?_; rotate_left; (· go_simp; try with_reducible rfl))
                          try simp only [Act.put, List.setIfInBounds_toArray, List.set_cons_zero, List.set_cons_succ]
                          (refine anyS_free (i := 10) (v := ?_) rfl (by kernel_rfl) (by kernel_rfl) (by kernel_rfl) (fun _ _ _ h => h) (fun _ => by simp) (Or.inl ⟨by rfl, fun w' _ => ?_⟩) ?_; rotate_left; (· go_simp; try with_reducible rfl))
                          try simp only [Act.put, List.setIfInBounds_toArray, List.set_cons_zero, List.set_cons_succ]
                          refine anyS_done (by kernel_rfl) ?_ _
                          refine NoPanic.normal ?_
                          clear hcell hcell5
                          go_wp2_with fail
                          go_roundw
                          case rel => exact ⟨u + 1, bo, e5, bs5, by omega, by go_num, rfl, HO.out, HR5.out, HL6.out, HY5.out, HB5.out⟩
                          case measure => simp [intOf]; omega
                        · have hx1 : decide (z5 = z) = false := by simpa using hxz
                          have hx2 : (z5 == z) = false := by simpa using hxz
                          (refine anyS_free (i := 6) (v := ?_) rfl (by kernel_rfl) (by kernel_rfl) (by kernel_rfl) (fun _ _ _ h => h) (fun _ => by simp) (Or.inl ⟨by rfl, fun w' _ => ?_⟩) ?_; rotate_left; (· go_simp; try with_reducible rfl))
                          try simp only [Act.put, List.setIfInBounds_toArray, List.set_cons_zero, List.set_cons_succ]
                          (refine anyS_free (i := 7) (v := ?_) rfl (by kernel_rfl) (by kernel_rfl) (by kernel_rfl) (fun _ _ _ h => h) (fun _ => by simp) (Or.inl ⟨by rfl, fun w' _ => ?_⟩) ?_; rotate_left; (· go_simp; try with_reducible rfl))
                          try simp only [Act.put, List.setIfInBounds_toArray, List.set_cons_zero, List.set_cons_succ]
                          refine anyS_free (i := 8) (v := undef) rfl (by kernel_rfl) (by kernel_rfl) (by kernel_rfl) (fun _ _ _ h => h) (fun _ => by simp) (Or.inr ⟨by rfl, rfl⟩) ?_
                          try simp only [Act.put, List.setIfInBounds_toArray, List.set_cons_zero, List.set_cons_succ]
                          (refine anyS_free (i := 9) (v := ?_) rfl (by kernel_rfl) (by kernel_rfl) (by kernel_rfl) (fun _ _ _ h => h) (fun _ => by simp) (Or.inl ⟨by rfl, fun w' _ => ?_⟩) ?_; rotate_left; (· go_simp; try with_reducible rfl))
                          try simp only [Act.put, List.setIfInBounds_toArray, List.set_cons_zero, List.set_cons_succ]
                          (refine anyS_free (i := 10) (v := ?_) rfl (by kernel_rfl) (by kernel_rfl) (by kernel_rfl) (fun _ _ _ h => h) (fun _ => by simp) (Or.inl ⟨by rfl, fun w' _ => ?_⟩) ?_; rotate_left; (· go_simp; try with_reducible rfl))
                          try simp only [Act.put, List.setIfInBounds_toArray, List.set_cons_zero, List.set_cons_succ]
                          refine anyS_done (by kernel_rfl) ?_ _
                          refine NoPanic.normal ?_
                          clear hcell hcell5
                          go_wp2_with fail
                          go_roundw
                          case rel => exact ⟨u + 1, false, e5, bs5, by omega, by go_num, rfl, (fun h => absurd (HL7.out h) hxz), HR5.out, HL6.out, HY5.out, HB5.out⟩
                          case measure => simp [intOf]; omega
                      · have hu0 : u = m := by omega
                        subst hu0
                        have HLt : Hid (Lft 1 (txsFrom ss 0) bs e) := by
                          have h := HL.out
                          rw [show numsFrom ns u = [] by rw [← HN.out.sz]; exact numsFrom_end ns, List.nil_append] at h
                          exact h
                        clear HL
                        go_wp2_with fail
                        go_loopw [13, 15] (fun okv i wq => ∃ (v : Nat) (bo : Bool) (e : Int) (bs : List Int), v ≤ q ∧ i = .int .i64 (v : Int) ∧ okv = .bool bo ∧ Hid (1 ≠ 2 → bo = true) ∧ Hid (Rd wq r e bs) ∧ Hid (Lft 1 (txsFrom ss v) bs e) ∧ Hid (∀ c ∈ bs, Byte c) ∧ Hid (Below wo.heap.size wo wq)) (fun _ i _ => q - (intOf i).toNat)
                        case atStart => exact ⟨0, bo, e, bs, by omega, rfl, rfl, HO.out, HR.out, HLt.out, HY.out, HB.out⟩
                        case round =>
                          clear HO HR HLt HY HB
                          obtain ⟨v, bo, e, bs, hv, rfl, rfl, HO, HR, HL, HY, HB⟩ := hrel
                          by_cases hvq : v < q
                          · obtain ⟨ad, had, b, l, c, hcell', hcame⟩ := HM.out.row v hvq
                            subst had
                            have HC1 : Hid (∀ W, Below w1.heap.size w1 W → W.cell? (ad.add v) = some (.slice b l c)) := fun W hb => by rw [hb.cell (World.block_lt_of_cell? w1 _ hcell')]; exact hcell'
                            have HFS := Lib.hid (txsFrom_succ ss v (by rw [HM.out.sz]; exact hvq))
                            have hs60 := (HSB.out (ss.getD v []) (by have : v < ss.length := (by rw [HM.out.sz]; exact hvq); simp [List.getD, this])).1
                            obtain ⟨s, hs⟩ : ∃ s, s = ss.getD v [] := ⟨_, rfl⟩
                            rw [← hs] at hcame HFS hs60
                            have HS60 := Lib.hid hs60
                            have HCV : Hid (∀ W, Below w1.heap.size w1 W → Conv (.slice b l c) s W) := fun W hb => conv_reads (hcame.reads.below hb) c
                            have HL0 : Hid (Lft 1 (tx s ++ txsFrom ss (v + 1)) bs e) := by have h := HL.out; rw [HFS.out] at h; exact h
                            have HRd : Hid (Rd wr.drew r e bs) := HR.out.keep (Below.refl _ _).drew
                            have HBd : Hid (Below wo.heap.size wo wr.drew) := HB.out.drew
                            have hcell := HC1.out _ (HBK.out.trans (HBd.out.mono HSZ1.out))
                            have hconv := HCV.out _ (HBK.out.trans (HBd.out.mono HSZ1.out))
                            clear hs hcell' HFS HL HR HB hcame hs60
                            go_wp2_with fail
                            refine anyS_start (by kernel_rfl) ?_
                            (refine anyS_free (i := 0) (v := ?_) rfl (by kernel_rfl) (by kernel_rfl) (by kernel_rfl) (fun _ _ _ h => h) (fun _ => by simp) (Or.inl ⟨by rfl, fun w' _ => ?_⟩) ?_; rotate_left; (· go_simp; try with_reducible rfl))
                            try simp only [Act.put, List.setIfInBounds_toArray, List.set_cons_zero, List.set_cons_succ]
                            (refine anyS_free (i := 3) (v := ?_) rfl (by kernel_rfl) (by kernel_rfl) (by kernel_rfl) (fun _ _ _ h => h) (fun _ => by simp) (Or.inl ⟨by rfl, fun w' _ => ?_⟩) ?_; rotate_left; (· go_simp; try with_reducible rfl))
                            try simp only [Act.put, List.setIfInBounds_toArray, List.set_cons_zero, List.set_cons_succ]
                            (refine anyS_free (i := 4) (v := ?_) rfl (by kernel_rfl) (by kernel_rfl) (by kernel_rfl) (fun _ _ _ h => h) (fun _ => by simp) (Or.inl ⟨by rfl, fun w' _ => ?_⟩) ?_; rotate_left; (· go_simp; try with_reducible rfl))
                            try simp only [Act.put, List.setIfInBounds_toArray, List.set_cons_zero, List.set_cons_succ]
                            (refine anyS_free (i := 5) (v := ?_) rfl (by kernel_rfl) (by kernel_rfl) (by kernel_rfl) (fun _ _ _ h => h) (fun _ => by simp) (Or.inl ⟨by rfl, fun w' _ => ?_⟩) ?_; rotate_left; (· go_simp; try with_reducible rfl))
                            try simp only [Act.put, List.setIfInBounds_toArray, List.set_cons_zero, List.set_cons_succ]
                            (refine anyS_takeNew (fun w' => w'.cell? (ad.add v) = some (.slice b l c)) [1, 2] (i := 6) (v := ?_) hcell rfl (by kernel_rfl) (by kernel_rfl) (by kernel_rfl) (by kernel_rfl) (fun _ _ _ h => h) (fun _ _ => by simp_all) (Or.inl ⟨by rfl, fun w' hw' => ?_⟩) ?_; rotate_left; (· (dsimp only at hw'; go_simp; try with_reducible rfl)))
                            try simp only [Act.put, List.setIfInBounds_toArray, List.set_cons_zero, List.set_cons_succ]
                            (refine anyS_takeNew (fun w' => Conv (.slice b l c) s w') [1, 2] (i := 7) (v := ?_) hconv rfl (by kernel_rfl) (by kernel_rfl) (by kernel_rfl) (by kernel_rfl) (fun _ _ _ h => h) (fun _ _ => by simp_all) (Or.inl ⟨by rfl, fun w' hw' => ?_⟩) ?_; rotate_left; (· (unfold Conv at hw'; go_simp; try with_reducible rfl)))
                            try simp only [Act.put, List.setIfInBounds_toArray, List.set_cons_zero, List.set_cons_succ]
                            refine anyS_one 1 (by kernel_rfl) rfl (fun K hK => ?_)
                            go_simp
                            go_at_call 24
                            (refine (rtext_any r e bs _ HRd.out HY.out).mono ?_)
                            rintro x w5 ⟨aT, cT, rfl, hrT, hrdA, hoA⟩
                            have hT5 : Conv _ _ _ := conv_reads hrT cT
                            have HB5 := Lib.hid (Below.step HBd.out hoA HRR.out (Nat.le_refl _))
                            have hcell5 := HC1.out _ (HBK.out.trans (HB5.out.mono HSZ1.out))
                            have hconv5 := HCV.out _ (HBK.out.trans (HB5.out.mono HSZ1.out))
                            have HL5 := Lib.hid (lft_text HS60.out HL0.out)
                            have HY5 : Hid (∀ c ∈ (rdText e bs).2.1, Byte c) := fun c hc => HY.out c (rdText_sub _ _ c hc)
                            have HL6 := Lib.hid HL5.out.1
                            have HL7 := Lib.hid HL5.out.2
                            obtain ⟨t5, ht5⟩ : ∃ z, z = (rdText e bs).2.2 := ⟨_, rfl⟩
                            rw [← ht5] at HL7 hT5
                            rw [← ht5]
                            obtain ⟨n5, hn5⟩ : ∃ z, z = t5.length := ⟨_, rfl⟩
                            rw [← hn5] at hT5
                            rw [← hn5]
                            obtain ⟨e5, he5⟩ : ∃ x, x = (rdText e bs).1 := ⟨_, rfl⟩
                            obtain ⟨bs5, hbs5⟩ : ∃ b, b = (rdText e bs).2.1 := ⟨_, rfl⟩
                            rw [← he5, ← hbs5] at hrdA HL6
                            rw [← hbs5] at HY5
                            have HR5 := Lib.hid hrdA
                            clear hrT hrdA hoA HL5 ht5 hn5 he5 hbs5
                            go_wp2_with fail
                            refine hK.out _ _ (by simpa using And.intro hcell5 hconv5) ?_
                            clear hK K
                            try simp only [Act.put, List.setIfInBounds_toArray, List.set_cons_zero, List.set_cons_succ]
                            (refine anyS_takeNew (fun w' => Conv (.slice aT n5 cT) t5 w' ∧ (w'.cell? (ad.add v) = some (.slice b l c) ∧ Conv (.slice b l c) s w')) [] (i := 2) (v := ?_) ⟨hT5, hcell5, hconv5⟩ rfl (by kernel_rfl) (by kernel_rfl) (by kernel_rfl) (by kernel_rfl) (fun _ _ _ h => h) (fun _ _ => by simp_all) (Or.inl ⟨by rfl, fun w' hw' => ?_⟩) ?_; rotate_left; (· (have hw' := hw'.1; unfold Conv at hw'; go_simp; try with_reducible rfl)))
                            try simp only [Act.put, List.setIfInBounds_toArray, List.set_cons_zero, List.set_cons_succ]
                            rcases Classical.em ((strOfNums t5).toList = (strOfNums s).toList) with hxz | hxz
                            · have hx1 : decide ((strOfNums t5).toList = (strOfNums s).toList) = true := by simpa using hxz
                              (refine anyS_free (i := 8) (v := ?_) rfl (by kernel_rfl) (by kernel_rfl) (by kernel_rfl) (fun _ _ _ h => h) (fun _ => by simp) (Or.inl ⟨by rfl, fun w' _ => ?_⟩) ?_; rotate_left; (· go_simp; try with_reducible rfl))
                              try simp only [Act.put, List.setIfInBounds_toArray, List.set_cons_zero, List.set_cons_succ]
                              (refine anyS_free (i := 9) (v := ?_) rfl (by kernel_rfl) (by kernel_rfl) (by kernel_rfl) (fun _ _ _ h => h) (fun _ => by simp) (Or.inl ⟨by rfl, fun w' _ => ?_⟩) ?_; rotate_left; (· go_simp; try with_reducible rfl))
                              try simp only [Act.put, List.setIfInBounds_toArray, List.set_cons_zero, List.set_cons_succ]
                              (refine anyS_free (i := 10) (v := ?_) rfl (by kernel_rfl) (by kernel_rfl) (by kernel_rfl) (fun _ _ _ h => h) (fun _ => by simp) (Or.inl ⟨by rfl, fun w' _ => ?_⟩) ?_; rotate_left; (· go_simp; try with_reducible rfl))
                              try simp only [Act.put, List.setIfInBounds_toArray, List.set_cons_zero, List.set_cons_succ]
                              (refine anyS_free (i := 11) (v := ?_) rfl (by kernel_rfl) (by kernel_rfl) (by kernel_rfl) (fun _ _ _ h => h) (fun _ => by simp) (Or.inl ⟨by rfl, fun w' _ => ?_⟩) ?_; rotate_left; (· go_simp; try with_reducible rfl))
                              try simp only [Act.put, List.setIfInBounds_toArray, List.set_cons_zero, List.set_cons_succ]
                              (refine anyS_free (i := 12) (v := ?_) rfl (by kernel_rfl) (by kernel_rfl) (by kernel_rfl) (fun _ _ _ h => h) (fun _ => by simp) (Or.inl ⟨by rfl, fun w' _ => ?_⟩) ?_; rotate_left; (· go_simp; try with_reducible rfl))
                              try simp only [Act.put, List.setIfInBounds_toArray, List.set_cons_zero, List.set_cons_succ]
                              refine anyS_done (by kernel_rfl) ?_ _
                              refine NoPanic.normal ?_
                              clear hcell hcell5 hconv hconv5 hT5
                              go_wp2_with fail
                              go_roundw
                              case rel => exact ⟨v + 1, bo, e5, bs5, by omega, by go_num, rfl, HO.out, HR5.out, HL6.out, HY5.out, HB5.out⟩
                              case measure => simp [intOf]; omega
                            · have hx1 : decide ((strOfNums t5).toList = (strOfNums s).toList) = false := by simpa using hxz
                              have hx2 : ((strOfNums t5).toList == (strOfNums s).toList) = false := by simpa using hxz
                              (refine anyS_free (i := 8) (v := ?_) rfl (by kernel_rfl) (by kernel_rfl) (by kernel_rfl) (fun _ _ _ h => h) (fun _ => by simp) (Or.inl ⟨by rfl, fun w' _ => ?_⟩) ?_; rotate_left; (· go_simp; try with_reducible rfl))
                              try simp only [Act.put, List.setIfInBounds_toArray, List.set_cons_zero, List.set_cons_succ]
                              (refine anyS_free (i := 9) (v := ?_) rfl (by kernel_rfl) (by kernel_rfl) (by kernel_rfl) (fun _ _ _ h => h) (fun _ => by simp) (Or.inl ⟨by rfl, fun w' _ => ?_⟩) ?_; rotate_left; (· go_simp; try with_reducible rfl))
                              try simp only [Act.put, List.setIfInBounds_toArray, List.set_cons_zero, List.set_cons_succ]
                              refine anyS_free (i := 10) (v := undef) rfl (by kernel_rfl) (by kernel_rfl) (by kernel_rfl) (fun _ _ _ h => h) (fun _ => by simp) (Or.inr ⟨by rfl, rfl⟩) ?_
                              try simp only [Act.put, List.setIfInBounds_toArray, List.set_cons_zero, List.set_cons_succ]
                              (refine anyS_free (i := 11) (v := ?_) rfl (by kernel_rfl) (by kernel_rfl) (by kernel_rfl) (fun _ _ _ h => h) (fun _ => by simp) (Or.inl ⟨by rfl, fun w' _ => ?_⟩) ?_; rotate_left; (· go_simp; try with_reducible rfl))
                              try simp only [Act.put, List.setIfInBounds_toArray, List.set_cons_zero, List.set_cons_succ]
                              (refine anyS_free (i := 12) (v := ?_) rfl (by kernel_rfl) (by kernel_rfl) (by kernel_rfl) (fun _ _ _ h => h) (fun _ => by simp) (Or.inl ⟨by rfl, fun w' _ => ?_⟩) ?_; rotate_left; (· go_simp; try with_reducible rfl))
                              try simp only [Act.put, List.setIfInBounds_toArray, List.set_cons_zero, List.set_cons_succ]
                              refine anyS_done (by kernel_rfl) ?_ _
                              refine NoPanic.normal ?_
                              clear hcell hcell5 hconv hconv5 hT5
                              go_wp2_with fail
                              go_roundw
                              case rel => exact ⟨v + 1, false, e5, bs5, by omega, by go_num, rfl, (fun h => absurd (by rw [HL7.out h]) hxz), HR5.out, HL6.out, HY5.out, HB5.out⟩
                              case measure => simp [intOf]; omega
                          · have hv0 : v = q := by omega
                            subst hv0
                            have HE : Hid (endOf e bs = 9) := by
                              have h := HL.out
                              rw [show txsFrom ss v = [] by rw [← HM.out.sz]; exact txsFrom_end ss] at h
                              have h2 := lft_end h
                              simpa [Hid] using h2
                            go_wp2_with fail
                            refine (end_any r e bs _ HR.out).mono ?_
                            rintro x w7 ⟨rfl, rfl⟩
                            rw [HE.out]
                            have HRZ : Hid (Reads wr a8 n8 (hs ++ (numsFrom ns 0 ++ txsFrom ss 0))) := HR9.out.below HB.out
                            have HBZ := Lib.hid (HBK.out.trans (HB.out.mono HSZ1.out))
                            have hbo := HO.out (by omega)
                            subst hbo
                            go_wp2_with fail
                            go_roundw
                            case rel => exact ⟨1 + 1, by omega, by go_num, HRZ.out, HBZ.out⟩
                            case measure => simp [intOf]
                  · obtain ⟨xs, hxs⟩ : ∃ xs, xs = (hs ++ (numsFrom ns 0 ++ txsFrom ss 0)).dropLast := ⟨_, rfl⟩
                    obtain ⟨n9, rfl⟩ : ∃ n9, n8 = n9 + 1 := ⟨n8 - 1, by omega⟩
                    have HRX : Hid (Reads wo a8 n9 xs) := by
                      have h := HR9.out.take (k := n9) (by omega)
                      have e : (hs ++ (numsFrom ns 0 ++ txsFrom ss 0)).take n9 = xs := by rw [hxs, List.dropLast_eq_take, HR9.out.1]; rfl
                      rw [e] at h
                      exact h
                    have HBY : Hid (∀ c ∈ xs, Byte c) := by rw [hxs]; exact fun c hc => HFB.out c (List.dropLast_subset _ hc)
                    have HLF : Hid (Lft 2 (hs ++ (numsFrom ns 0 ++ txsFrom ss 0)) xs 0) := .inr (.inr ⟨rfl, .inl ⟨rfl, (by intro h; have h2 := H2.out.len; rw [List.append_eq_nil_iff] at h; rw [h.1] at h2; simp at h2), hxs⟩⟩)
                    have HBX0 : Hid (Below wo.heap.size wo wo) := Below.refl _ _
                    have hcut1 : ((n9 + 1 : Nat) : Int) - 1 = (n9 : Int) := by omega
                    have hcut2 : n9 ≤ c8 := by omega
                    clear hxs
                    go_wp2_with fail
                    refine (new_any a8 n9 c8 xs _ HRX.out (by omega)).mono ?_
                    rintro e w4 ⟨r, rfl, hrd, hrr, hb⟩
                    have HRR : Hid (wo.heap.size ≤ r) := Nat.le_trans HBX0.out.size hrr
                    have HBX := Lib.hid (HBX0.out.trans (hb.mono HBX0.out.size))
                    have HRD := Lib.hid hrd
                    clear hrd hrr hb
                    go_wp2_with fail
                    have HRDd : Hid (Rd w4.drew r 0 xs) := HRD.out.keep (Below.refl _ _).drew
                    have HBd : Hid (Below wo.heap.size wo w4.drew) := HBX.out.drew
                    have hg4 := HRG.out _ (HBK.out.trans (HBd.out.mono HSZ1.out))
                    have hu24 := underlying_sum
                    have hi24 : (Try.prog.info? 24).map (·.size) = some cs.toList.length := by rw [Array.length_toList]; exact sum_info H2.out
                    have hgd := eqGuard_sum
                    refine anyS_start (by kernel_rfl) ?_
                    (refine anyS_free (i := 0) (v := ?_) rfl (by kernel_rfl) (by kernel_rfl) (by kernel_rfl) (fun _ _ _ h => h) (fun _ => by simp) (Or.inl ⟨by rfl, fun w' _ => ?_⟩) ?_; rotate_left; (· go_simp; try with_reducible rfl))
                    try simp only [Act.put, List.setIfInBounds_toArray, List.set_cons_zero, List.set_cons_succ]
                    refine anyS_takeNew (fun w' => w'.rangeAt w.heap.size 0 cs.toList) [1] (i := 2) hg4 rfl (by kernel_rfl) (by kernel_rfl) (by kernel_rfl) (by kernel_rfl) (fun _ _ _ h => h) (fun _ _ => by simp_all) (yieldsIf_load_mid (by rfl) _ _ rfl _ _ rfl _ _ (fun _ h => h) hu24 rfl hi24) ?_
                    try simp only [Act.put, List.setIfInBounds_toArray, List.set_cons_zero, List.set_cons_succ]
                    refine anyS_one 1 (by kernel_rfl) rfl (fun K hK => ?_)
                    go_simp
                    go_at_call 26
                    (refine (rhash_any r 0 xs _ HRDd.out HBY.out).mono ?_)
                    rintro x w5 ⟨dA, rfl, hsA, hrdA, hoA⟩
                    have hq : ∀ w, (binOp .eql 24 (.agg dA) (.agg cs)).run Try.prog w = .ok (.bool (decide ((rdHash 0 xs).2.2 = hs))) w := fun w => eql_sum hsA H2.out w
                    have HB5 := Lib.hid (Below.step HBd.out hoA HRR.out (Nat.le_refl _))
                    have hg5 := HRG.out _ (HBK.out.trans (HB5.out.mono HSZ1.out))
                    have HL5 := Lib.hid (lft_hash H2.out.len HLF.out)
                    have HY5 : Hid (∀ c ∈ (rdHash 0 xs).2.1, Byte c) := fun c hc => HBY.out c (rdHash_sub _ _ c hc)
                    have HO5 : Hid (2 ≠ 2 → decide ((rdHash 0 xs).2.2 = hs) = true) := fun h => by simp [HL5.out.2 h]
                    obtain ⟨b5, hb5⟩ : ∃ b : Bool, b = decide ((rdHash 0 xs).2.2 = hs) := ⟨_, rfl⟩
                    rw [← hb5] at hq HO5
                    have HL6 := Lib.hid HL5.out.1
                    obtain ⟨e5, he5⟩ : ∃ e, e = (rdHash 0 xs).1 := ⟨_, rfl⟩
                    obtain ⟨bs5, hbs5⟩ : ∃ b, b = (rdHash 0 xs).2.1 := ⟨_, rfl⟩
                    rw [← he5, ← hbs5] at hrdA HL6
                    rw [← hbs5] at HY5
                    have HR5 := Lib.hid hrdA
                    clear hrdA hoA hsA HL5 hb5 he5 hbs5
                    go_wp2_with fail
                    refine hK.out _ _ (by simpa using hg5) ?_
                    clear hK K
                    try simp only [Act.put, List.setIfInBounds_toArray, List.set_cons_zero, List.set_cons_succ]
                    (refine anyS_free (i := 3) (v := ?_) rfl (by kernel_rfl) (by kernel_rfl) (by kernel_rfl) (fun _ _ _ h => h) (fun _ => by simp) (Or.inl ⟨by rfl, fun w' _ => ?_⟩) ?_; rotate_left; (· go_simp; try with_reducible rfl))
                    try simp only [Act.put, List.setIfInBounds_toArray, List.set_cons_zero, List.set_cons_succ]
                    (refine anyS_free (i := 4) (v := ?_) rfl (by kernel_rfl) (by kernel_rfl) (by kernel_rfl) (fun _ _ _ h => h) (fun _ => by simp) (Or.inl ⟨by rfl, fun w' _ => ?_⟩) ?_; rotate_left; (· go_simp; try with_reducible rfl))
                    try simp only [Act.put, List.setIfInBounds_toArray, List.set_cons_zero, List.set_cons_succ]
                    refine anyS_done (by kernel_rfl) ?_ _
                    refine NoPanic.normal ?_
                    clear hg4 hg5 hq hgd hu24 hi24 HRDd HBd HRD HBX HBY HLF
                    go_wp2_with fail
                    go_loopw [13, 14] (fun okv i wq => ∃ (u : Nat) (bo : Bool) (e : Int) (bs : List Int), u ≤ m ∧ i = .int .i64 (u : Int) ∧ okv = .bool bo ∧ Hid (2 ≠ 2 → bo = true) ∧ Hid (Rd wq r e bs) ∧ Hid (Lft 2 (numsFrom ns u ++ txsFrom ss 0) bs e) ∧ Hid (∀ c ∈ bs, Byte c) ∧ Hid (Below wo.heap.size wo wq)) (fun _ i _ => m - (intOf i).toNat)
                    case atStart => exact ⟨0, b5, e5, bs5, by omega, rfl, rfl, HO5.out, HR5.out, HL6.out, HY5.out, HB5.out⟩
                    case round =>
                      clear HO5 HR5 HL6 HY5 HB5
                      obtain ⟨u, bo, e, bs, hu, rfl, rfl, HO, HR, HL, HY, HB⟩ := hrel
                      by_cases hum : u < m
                      · obtain ⟨ad, had, hcell⟩ := (HN.out.below (HBK.out.trans (HB.out.drew.mono HSZ1.out))).cell u hum
                        obtain ⟨ad', had', hcell'⟩ := HN.out.cell u hum
                        rw [had] at had'
                        simp only [Option.some.injEq] at had'
                        subst had'
                        subst had
                        have HC1 : Hid (∀ W, Below w1.heap.size w1 W → W.cell? (ad.add u) = some (.int .i64 (ns.getD u 0))) := fun W hb => by rw [hb.cell (World.block_lt_of_cell? w1 _ hcell')]; exact hcell'
                        have HIz := Lib.hid (HN.out.at u hum)
                        have HFS := Lib.hid (numsFrom_succ ns u (by rw [HN.out.sz]; exact hum))
                        obtain ⟨z, hz⟩ : ∃ z, z = ns.getD u 0 := ⟨_, rfl⟩
                        rw [← hz] at hcell HC1 HIz HFS
                        have HL0 : Hid (Lft 2 (enc z ++ (numsFrom ns (u + 1) ++ txsFrom ss 0)) bs e) := by have h := HL.out; rw [HFS.out, List.append_assoc] at h; exact h
                        have HRd : Hid (Rd wr.drew r e bs) := HR.out.keep (Below.refl _ _).drew
                        have HBd : Hid (Below wo.heap.size wo wr.drew) := HB.out.drew
                        clear hz hcell' HFS HL HR HB
                        go_wp2_with fail
                        refine anyS_start (by kernel_rfl) ?_
                        (refine anyS_free (i := 0) (v := ?_) rfl (by kernel_rfl) (by kernel_rfl) (by kernel_rfl) (fun _ _ _ h => h) (fun _ => by simp) (Or.inl ⟨by rfl, fun w' _ => ?_⟩) ?_; rotate_left; (· go_simp; try with_reducible rfl))
                        try simp only [Act.put, List.setIfInBounds_toArray, List.set_cons_zero, List.set_cons_succ]
                        (refine anyS_free (i := 2) (v := ?_) rfl (by kernel_rfl) (by kernel_rfl) (by kernel_rfl) (fun _ _ _ h => h) (fun _ => by simp) (Or.inl ⟨by rfl, fun w' _ => ?_⟩) ?_; rotate_left; (· go_simp; try with_reducible rfl))
                        try simp only [Act.put, List.setIfInBounds_toArray, List.set_cons_zero, List.set_cons_succ]
                        (refine anyS_free (i := 3) (v := ?_) rfl (by kernel_rfl) (by kernel_rfl) (by kernel_rfl) (fun _ _ _ h => h) (fun _ => by simp) (Or.inl ⟨by rfl, fun w' _ => ?_⟩) ?_; rotate_left; (· go_simp; try with_reducible rfl))
                        try simp only [Act.put, List.setIfInBounds_toArray, List.set_cons_zero, List.set_cons_succ]
                        (refine anyS_free (i := 4) (v := ?_) rfl (by kernel_rfl) (by kernel_rfl) (by kernel_rfl) (fun _ _ _ h => h) (fun _ => by simp) (Or.inl ⟨by rfl, fun w' _ => ?_⟩) ?_; rotate_left; (· go_simp; try with_reducible rfl))
                        try simp only [Act.put, List.setIfInBounds_toArray, List.set_cons_zero, List.set_cons_succ]
                        (refine anyS_takeNew (fun w' => w'.cell? (ad.add u) = some (.int .i64 z)) [1] (i := 5) (v := ?_) hcell rfl (by kernel_rfl) (by kernel_rfl) (by kernel_rfl) (by kernel_rfl) (fun _ _ _ h => h) (fun _ _ => by simp_all) (Or.inl ⟨by rfl, fun w' hw' => ?_⟩) ?_; rotate_left; (· (dsimp only at hw'; go_simp; try with_reducible rfl)))
                        try simp only [Act.put, List.setIfInBounds_toArray, List.set_cons_zero, List.set_cons_succ]
                        refine anyS_one 1 (by kernel_rfl) rfl (fun K hK => ?_)
                        go_simp
                        go_at_call 22
                        (refine (rint_any r e bs _ HRd.out HY.out).mono ?_)
                        rintro x w5 ⟨rfl, hrdA, hoA⟩
                        have HB5 := Lib.hid (Below.step HBd.out hoA HRR.out (Nat.le_refl _))
                        have hcell5 := HC1.out _ (HBK.out.trans (HB5.out.mono HSZ1.out))
                        have HL5 := Lib.hid (lft_int HIz.out HL0.out)
                        have HY5 : Hid (∀ c ∈ (rdInt e bs).2.1, Byte c) := fun c hc => HY.out c (rdInt_sub _ _ c hc)
                        have HL6 := Lib.hid HL5.out.1
                        have HL7 := Lib.hid HL5.out.2
                        obtain ⟨z5, hz5⟩ : ∃ z, z = (rdInt e bs).2.2 := ⟨_, rfl⟩
                        rw [← hz5]
                        rw [← hz5] at HL7
                        obtain ⟨e5, he5⟩ : ∃ x, x = (rdInt e bs).1 := ⟨_, rfl⟩
                        obtain ⟨bs5, hbs5⟩ : ∃ b, b = (rdInt e bs).2.1 := ⟨_, rfl⟩
                        rw [← he5, ← hbs5] at hrdA HL6
                        rw [← hbs5] at HY5
                        have HR5 := Lib.hid hrdA
                        clear hrdA hoA HL5 hz5 he5 hbs5
                        go_wp2_with fail
                        refine hK.out _ _ (by simpa using hcell5) ?_
                        clear hK K
                        try simp only [Act.put, List.setIfInBounds_toArray, List.set_cons_zero, List.set_cons_succ]
                        rcases Classical.em (z5 = z) with hxz | hxz
                        · subst hxz
                          (refine anyS_free (i := 6) (v := ?_) rfl (by kernel_rfl) (by kernel_rfl) (by kernel_rfl) (fun _ _ _ h => h) (fun _ => by simp) (Or.inl ⟨by rfl, fun w' _ => ?_⟩) ?_; rotate_left; (· go_simp; try with_reducible rfl))
                          try simp only [Act.put, List.setIfInBounds_toArray, List.set_cons_zero, List.set_cons_succ]
                          (refine anyS_free (i := 7) (v := ?_) rfl (by kernel_rfl) (by kernel_rfl) (by kernel_rfl) (fun _ _ _ h => h) (fun _ => by simp) (Or.inl ⟨by rfl, fun w' _ => ?_⟩) ?_; rotate_left; (· go_simp; try with_reducible rfl))
                          try simp only [Act.put, List.setIfInBounds_toArray, List.set_cons_zero, List.set_cons_succ]
                          (refine anyS_free (i := 8) (v := ?_) rfl (by kernel_rfl) (by kernel_rfl) (by kernel_rfl) (fun _ _ _ h => h) (fun _ => by simp) (Or.inl ⟨by rfl, fun w' _ => ?_⟩) ?_; rotate_left; (· go_simp; try with_reducible rfl))
                          try simp only [Act.put, List.setIfInBounds_toArray, List.set_cons_zero, List.set_cons_succ]
                          (refine anyS_free (i := 9) (v := ?_) rfl (by kernel_rfl) (by kernel_rfl) (by kernel_rfl) (fun _ _ _ h => h) (fun _ => by simp) (Or.inl ⟨by rfl, fun w' _ => ?_⟩) ?_; rotate_left; (· go_simp; try with_reducible rfl))
                          try simp only [Act.put, List.setIfInBounds_toArray, List.set_cons_zero, List.set_cons_succ]
                          (refine anyS_free (i := 10) (v := ?_) rfl (by kernel_rfl) (by kernel_rfl) (by kernel_rfl) (fun _ _ _ h => h) (fun _ => by simp) (Or.inl ⟨by rfl, fun w' _ => ?_⟩) ?_; rotate_left; (· go_simp; try with_reducible rfl))
                          try simp only [Act.put, List.setIfInBounds_toArray, List.set_cons_zero, List.set_cons_succ]
                          refine anyS_done (by kernel_rfl) ?_ _
                          refine NoPanic.normal ?_
                          clear hcell hcell5
                          go_wp2_with fail
                          go_roundw
                          case rel => exact ⟨u + 1, bo, e5, bs5, by omega, by go_num, rfl, HO.out, HR5.out, HL6.out, HY5.out, HB5.out⟩
                          case measure => simp [intOf]; omega
                        · have hx1 : decide (z5 = z) = false := by simpa using hxz
                          have hx2 : (z5 == z) = false := by simpa using hxz
                          (refine anyS_free (i := 6) (v := ?_) rfl (by kernel_rfl) (by kernel_rfl) (by kernel_rfl) (fun _ _ _ h => h) (fun _ => by simp) (Or.inl ⟨by rfl, fun w' _ => ?_⟩) ?_; rotate_left; (· go_simp; try with_reducible rfl))
                          try simp only [Act.put, List.setIfInBounds_toArray, List.set_cons_zero, List.set_cons_succ]
                          (refine anyS_free (i := 7) (v := ?_) rfl (by kernel_rfl) (by kernel_rfl) (by kernel_rfl) (fun _ _ _ h => h) (fun _ => by simp) (Or.inl ⟨by rfl, fun w' _ => ?_⟩) ?_; rotate_left; (· go_simp; try with_reducible rfl))
                          try simp only [Act.put, List.setIfInBounds_toArray, List.set_cons_zero, List.set_cons_succ]
                          refine anyS_free (i := 8) (v := undef) rfl (by kernel_rfl) (by kernel_rfl) (by kernel_rfl) (fun _ _ _ h => h) (fun _ => by simp) (Or.inr ⟨by rfl, rfl⟩) ?_
                          try simp only [Act.put, List.setIfInBounds_toArray, List.set_cons_zero, List.set_cons_succ]
                          (refine anyS_free (i := 9) (v := ?_) rfl (by kernel_rfl) (by kernel_rfl) (by kernel_rfl) (fun _ _ _ h => h) (fun _ => by simp) (Or.inl ⟨by rfl, fun w' _ => ?_⟩) ?_; rotate_left; (· go_simp; try with_reducible rfl))
                          try simp only [Act.put, List.setIfInBounds_toArray, List.set_cons_zero, List.set_cons_succ]
                          (refine anyS_free (i := 10) (v := ?_) rfl (by kernel_rfl) (by kernel_rfl) (by kernel_rfl) (fun _ _ _ h => h) (fun _ => by simp) (Or.inl ⟨by rfl, fun w' _ => ?_⟩) ?_; rotate_left; (· go_simp; try with_reducible rfl))
                          try simp only [Act.put, List.setIfInBounds_toArray, List.set_cons_zero, List.set_cons_succ]
                          refine anyS_done (by kernel_rfl) ?_ _
                          refine NoPanic.normal ?_
                          clear hcell hcell5
                          go_wp2_with fail
                          go_roundw
                          case rel => exact ⟨u + 1, false, e5, bs5, by omega, by go_num, rfl, (fun h => absurd (HL7.out h) hxz), HR5.out, HL6.out, HY5.out, HB5.out⟩
                          case measure => simp [intOf]; omega
                      · have hu0 : u = m := by omega
                        subst hu0
                        have HLt : Hid (Lft 2 (txsFrom ss 0) bs e) := by
                          have h := HL.out
                          rw [show numsFrom ns u = [] by rw [← HN.out.sz]; exact numsFrom_end ns, List.nil_append] at h
                          exact h
                        clear HL
                        go_wp2_with fail
                        go_loopw [13, 15] (fun okv i wq => ∃ (v : Nat) (bo : Bool) (e : Int) (bs : List Int), v ≤ q ∧ i = .int .i64 (v : Int) ∧ okv = .bool bo ∧ Hid (2 ≠ 2 → bo = true) ∧ Hid (Rd wq r e bs) ∧ Hid (Lft 2 (txsFrom ss v) bs e) ∧ Hid (∀ c ∈ bs, Byte c) ∧ Hid (Below wo.heap.size wo wq)) (fun _ i _ => q - (intOf i).toNat)
                        case atStart => exact ⟨0, bo, e, bs, by omega, rfl, rfl, HO.out, HR.out, HLt.out, HY.out, HB.out⟩
                        case round =>
                          clear HO HR HLt HY HB
                          obtain ⟨v, bo, e, bs, hv, rfl, rfl, HO, HR, HL, HY, HB⟩ := hrel
                          by_cases hvq : v < q
                          · obtain ⟨ad, had, b, l, c, hcell', hcame⟩ := HM.out.row v hvq
                            subst had
                            have HC1 : Hid (∀ W, Below w1.heap.size w1 W → W.cell? (ad.add v) = some (.slice b l c)) := fun W hb => by rw [hb.cell (World.block_lt_of_cell? w1 _ hcell')]; exact hcell'
                            have HFS := Lib.hid (txsFrom_succ ss v (by rw [HM.out.sz]; exact hvq))
                            have hs60 := (HSB.out (ss.getD v []) (by have : v < ss.length := (by rw [HM.out.sz]; exact hvq); simp [List.getD, this])).1
                            obtain ⟨s, hs⟩ : ∃ s, s = ss.getD v [] := ⟨_, rfl⟩
                            rw [← hs] at hcame HFS hs60
                            have HS60 := Lib.hid hs60
                            have HCV : Hid (∀ W, Below w1.heap.size w1 W → Conv (.slice b l c) s W) := fun W hb => conv_reads (hcame.reads.below hb) c
                            have HL0 : Hid (Lft 2 (tx s ++ txsFrom ss (v + 1)) bs e) := by have h := HL.out; rw [HFS.out] at h; exact h
                            have HRd : Hid (Rd wr.drew r e bs) := HR.out.keep (Below.refl _ _).drew
                            have HBd : Hid (Below wo.heap.size wo wr.drew) := HB.out.drew
                            have hcell := HC1.out _ (HBK.out.trans (HBd.out.mono HSZ1.out))
                            have hconv := HCV.out _ (HBK.out.trans (HBd.out.mono HSZ1.out))
                            clear hs hcell' HFS HL HR HB hcame hs60
                            go_wp2_with fail
                            refine anyS_start (by kernel_rfl) ?_
                            (refine anyS_free (i := 0) (v := ?_) rfl (by kernel_rfl) (by kernel_rfl) (by kernel_rfl) (fun _ _ _ h => h) (fun _ => by simp) (Or.inl ⟨by rfl, fun w' _ => ?_⟩) ?_; rotate_left; (· go_simp; try with_reducible rfl))
                            try simp only [Act.put, List.setIfInBounds_toArray, List.set_cons_zero, List.set_cons_succ]
                            (refine anyS_free (i := 3) (v := ?_) rfl (by kernel_rfl) (by kernel_rfl) (by kernel_rfl) (fun _ _ _ h => h) (fun _ => by simp) (Or.inl ⟨by rfl, fun w' _ => ?_⟩) ?_; rotate_left; (· go_simp; try with_reducible rfl))
                            try simp only [Act.put, List.setIfInBounds_toArray, List.set_cons_zero, List.set_cons_succ]
                            (refine anyS_free (i := 4) (v := ?_) rfl (by kernel_rfl) (by kernel_rfl) (by kernel_rfl) (fun _ _ _ h => h) (fun _ => by simp) (Or.inl ⟨by rfl, fun w' _ => ?_⟩) ?_; rotate_left; (· go_simp; try with_reducible rfl))
                            try simp only [Act.put, List.setIfInBounds_toArray, List.set_cons_zero, List.set_cons_succ]
                            (refine anyS_free (i := 5) (v := ?_) rfl (by kernel_rfl) (by kernel_rfl) (by kernel_rfl) (fun _ _ _ h => h) (fun _ => by simp) (Or.inl ⟨by rfl, fun w' _ => ?_⟩) ?_; rotate_left; (· go_simp; try with_reducible rfl))
                            try simp only [Act.put, List.setIfInBounds_toArray, List.set_cons_zero, List.set_cons_succ]
                            (refine anyS_takeNew (fun w' => w'.cell? (ad.add v) = some (.slice b l c)) [1, 2] (i := 6) (v := ?_) hcell rfl (by kernel_rfl) (by kernel_rfl) (by kernel_rfl) (by kernel_rfl) (fun _ _ _ h => h) (fun _ _ => by simp_all) (Or.inl ⟨by rfl, fun w' hw' => ?_⟩) ?_; rotate_left; (· (dsimp only at hw'; go_simp; try with_reducible rfl)))
                            try simp only [Act.put, List.setIfInBounds_toArray, List.set_cons_zero, List.set_cons_succ]
                            (refine anyS_takeNew (fun w' => Conv (.slice b l c) s w') [1, 2] (i := 7) (v := ?_) hconv rfl (by kernel_rfl) (by kernel_rfl) (by kernel_rfl) (by kernel_rfl) (fun _ _ _ h => h) (fun _ _ => by simp_all) (Or.inl ⟨by rfl, fun w' hw' => ?_⟩) ?_; rotate_left; (· (unfold Conv at hw'; go_simp; try with_reducible rfl)))
                            try simp only [Act.put, List.setIfInBounds_toArray, List.set_cons_zero, List.set_cons_succ]
                            refine anyS_one 1 (by kernel_rfl) rfl (fun K hK => ?_)
                            go_simp
                            go_at_call 24
                            (refine (rtext_any r e bs _ HRd.out HY.out).mono ?_)
                            rintro x w5 ⟨aT, cT, rfl, hrT, hrdA, hoA⟩
                            have hT5 : Conv _ _ _ := conv_reads hrT cT
                            have HB5 := Lib.hid (Below.step HBd.out hoA HRR.out (Nat.le_refl _))
                            have hcell5 := HC1.out _ (HBK.out.trans (HB5.out.mono HSZ1.out))
                            have hconv5 := HCV.out _ (HBK.out.trans (HB5.out.mono HSZ1.out))
                            have HL5 := Lib.hid (lft_text HS60.out HL0.out)
                            have HY5 : Hid (∀ c ∈ (rdText e bs).2.1, Byte c) := fun c hc => HY.out c (rdText_sub _ _ c hc)
                            have HL6 := Lib.hid HL5.out.1
                            have HL7 := Lib.hid HL5.out.2
                            obtain ⟨t5, ht5⟩ : ∃ z, z = (rdText e bs).2.2 := ⟨_, rfl⟩
                            rw [← ht5] at HL7 hT5
                            rw [← ht5]
                            obtain ⟨n5, hn5⟩ : ∃ z, z = t5.length := ⟨_, rfl⟩
                            rw [← hn5] at hT5
                            rw [← hn5]
                            obtain ⟨e5, he5⟩ : ∃ x, x = (rdText e bs).1 := ⟨_, rfl⟩
                            obtain ⟨bs5, hbs5⟩ : ∃ b, b = (rdText e bs).2.1 := ⟨_, rfl⟩
                            rw [← he5, ← hbs5] at hrdA HL6
                            rw [← hbs5] at HY5
                            have HR5 := Lib.hid hrdA
                            clear hrT hrdA hoA HL5 ht5 hn5 he5 hbs5
                            go_wp2_with fail
                            refine hK.out _ _ (by simpa using And.intro hcell5 hconv5) ?_
                            clear hK K
                            try simp only [Act.put, List.setIfInBounds_toArray, List.set_cons_zero, List.set_cons_succ]
                            (refine anyS_takeNew (fun w' => Conv (.slice aT n5 cT) t5 w' ∧ (w'.cell? (ad.add v) = some (.slice b l c) ∧ Conv (.slice b l c) s w')) [] (i := 2) (v := ?_) ⟨hT5, hcell5, hconv5⟩ rfl (by kernel_rfl) (by kernel_rfl) (by kernel_rfl) (by kernel_rfl) (fun _ _ _ h => h) (fun _ _ => by simp_all) (Or.inl ⟨by rfl, fun w' hw' => ?_⟩) ?_; rotate_left; (· (have hw' := hw'.1; unfold Conv at hw'; go_simp; try with_reducible rfl)))
                            try simp only [Act.put, List.setIfInBounds_toArray, List.set_cons_zero, List.set_cons_succ]
                            rcases Classical.em ((strOfNums t5).toList = (strOfNums s).toList) with hxz | hxz
                            · have hx1 : decide ((strOfNums t5).toList = (strOfNums s).toList) = true := by simpa using hxz
                              (refine anyS_free (i := 8) (v := ?_) rfl (by kernel_rfl) (by kernel_rfl) (by kernel_rfl) (fun _ _ _ h => h) (fun _ => by simp) (Or.inl ⟨by rfl, fun w' _ => ?_⟩) ?_; rotate_left; (· go_simp; try with_reducible rfl))
                              try simp only [Act.put, List.setIfInBounds_toArray, List.set_cons_zero, List.set_cons_succ]
                              (refine anyS_free (i := 9) (v := ?_) rfl (by kernel_rfl) (by kernel_rfl) (by kernel_rfl) (fun _ _ _ h => h) (fun _ => by simp) (Or.inl ⟨by rfl, fun w' _ => ?_⟩) ?_; rotate_left; (· go_simp; try with_reducible rfl))
                              try simp only [Act.put, List.setIfInBounds_toArray, List.set_cons_zero, List.set_cons_succ]
                              (refine anyS_free (i := 10) (v := ?_) rfl (by kernel_rfl) (by kernel_rfl) (by kernel_rfl) (fun _ _ _ h => h) (fun _ => by simp) (Or.inl ⟨by rfl, fun w' _ => ?_⟩) ?_; rotate_left; (· go_simp; try with_reducible rfl))
                              try simp only [Act.put, List.setIfInBounds_toArray, List.set_cons_zero, List.set_cons_succ]
                              (refine anyS_free (i := 11) (v := ?_) rfl (by kernel_rfl) (by kernel_rfl) (by kernel_rfl) (fun _ _ _ h => h) (fun _ => by simp) (Or.inl ⟨by rfl, fun w' _ => ?_⟩) ?_; rotate_left; (· go_simp; try with_reducible rfl))
                              try simp only [Act.put, List.setIfInBounds_toArray, List.set_cons_zero, List.set_cons_succ]
                              (refine anyS_free (i := 12) (v := ?_) rfl (by kernel_rfl) (by kernel_rfl) (by kernel_rfl) (fun _ _ _ h => h) (fun _ => by simp) (Or.inl ⟨by rfl, fun w' _ => ?_⟩) ?_; rotate_left; (· go_simp; try with_reducible rfl))
                              try simp only [Act.put, List.setIfInBounds_toArray, List.set_cons_zero, List.set_cons_succ]
                              refine anyS_done (by kernel_rfl) ?_ _
                              refine NoPanic.normal ?_
                              clear hcell hcell5 hconv hconv5 hT5
                              go_wp2_with fail
                              go_roundw
                              case rel => exact ⟨v + 1, bo, e5, bs5, by omega, by go_num, rfl, HO.out, HR5.out, HL6.out, HY5.out, HB5.out⟩
                              case measure => simp [intOf]; omega
                            · have hx1 : decide ((strOfNums t5).toList = (strOfNums s).toList) = false := by simpa using hxz
                              have hx2 : ((strOfNums t5).toList == (strOfNums s).toList) = false := by simpa using hxz
                              (refine anyS_free (i := 8) (v := ?_) rfl (by kernel_rfl) (by kernel_rfl) (by kernel_rfl) (fun _ _ _ h => h) (fun _ => by simp) (Or.inl ⟨by rfl, fun w' _ => ?_⟩) ?_; rotate_left; (· go_simp; try with_reducible rfl))
                              try simp only [Act.put, List.setIfInBounds_toArray, List.set_cons_zero, List.set_cons_succ]
                              (refine anyS_free (i := 9) (v := ?_) rfl (by kernel_rfl) (by kernel_rfl) (by kernel_rfl) (fun _ _ _ h => h) (fun _ => by simp) (Or.inl ⟨by rfl, fun w' _ => ?_⟩) ?_; rotate_left; (· go_simp; try with_reducible rfl))
                              try simp only [Act.put, List.setIfInBounds_toArray, List.set_cons_zero, List.set_cons_succ]
                              refine anyS_free (i := 10) (v := undef) rfl (by kernel_rfl) (by kernel_rfl) (by kernel_rfl) (fun _ _ _ h => h) (fun _ => by simp) (Or.inr ⟨by rfl, rfl⟩) ?_
                              try simp only [Act.put, List.setIfInBounds_toArray, List.set_cons_zero, List.set_cons_succ]
                              (refine anyS_free (i := 11) (v := ?_) rfl (by kernel_rfl) (by kernel_rfl) (by kernel_rfl) (fun _ _ _ h => h) (fun _ => by simp) (Or.inl ⟨by rfl, fun w' _ => ?_⟩) ?_; rotate_left; (· go_simp; try with_reducible rfl))
                              try simp only [Act.put, List.setIfInBounds_toArray, List.set_cons_zero, List.set_cons_succ]
                              (refine anyS_free (i := 12) (v := ?_) rfl (by kernel_rfl) (by kernel_rfl) (by kernel_rfl) (fun _ _ _ h => h) (fun _ => by simp) (Or.inl ⟨by rfl, fun w' _ => ?_⟩) ?_; rotate_left; (· go_simp; try with_reducible rfl))
                              try simp only [Act.put, List.setIfInBounds_toArray, List.set_cons_zero, List.set_cons_succ]
                              refine anyS_done (by kernel_rfl) ?_ _
                              refine NoPanic.normal ?_
                              clear hcell hcell5 hconv hconv5 hT5
                              go_wp2_with fail
                              go_roundw
                              case rel => exact ⟨v + 1, false, e5, bs5, by omega, by go_num, rfl, (fun h => absurd (by rw [HL7.out h]) hxz), HR5.out, HL6.out, HY5.out, HB5.out⟩
                              case measure => simp [intOf]; omega
                          · have hv0 : v = q := by omega
                            subst hv0
                            have HE : Hid (endOf e bs = 8) := by
                              have h := HL.out
                              rw [show txsFrom ss v = [] by rw [← HM.out.sz]; exact txsFrom_end ss] at h
                              have h2 := lft_end h
                              simpa [Hid] using h2
                            go_wp2_with fail
                            refine (end_any r e bs _ HR.out).mono ?_
                            rintro x w7 ⟨rfl, rfl⟩
                            rw [HE.out]
                            have HRZ : Hid (Reads wr a8 (n9 + 1) (hs ++ (numsFrom ns 0 ++ txsFrom ss 0))) := HR9.out.below HB.out
                            have HBZ := Lib.hid (HBK.out.trans (HB.out.mono HSZ1.out))
                            go_wp2_with fail
                            go_roundw
                            case rel => exact ⟨2 + 1, by omega, by go_num, HRZ.out, HBZ.out⟩
                            case measure => simp [intOf]
                · have hp3' : p = 3 := by omega
                  subst hp3'
                  go_wp2
                  go_ret
                  exact ⟨rfl, HB1.out.trans (HBK.out.mono HB1.out.size)⟩
end Go.Proofs.Ytlaafpfpoehonaa
