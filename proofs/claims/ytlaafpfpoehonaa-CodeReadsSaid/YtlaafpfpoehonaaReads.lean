/- P102: any bytes, read by any row of questions, are answered as the document says: the walk of CodeReads. -/
import Derived.Test.YtlaafpfpoehonaaRxHash
import Derived.Test.YtlaafpfpoehonaaMem
import Derived.Test.YtlaafpfpoehonaaRefT
import Derived.Test.YtlaafpfpoehonaaWrites
namespace Go.Proofs.Ytlaafpfpoehonaa
open Go.RowKit Num
set_option linter.unusedVariables false
set_option linter.unusedSimpArgs false

theorem tie_int {e : Int} {bs D : List Int} (h : e = 0 → bs = D) : (rdInt e D).1 = (rdInt e bs).1 ∧ (rdInt e D).2.2 = (rdInt e bs).2.2 ∧ ((rdInt e D).1 = 0 → (rdInt e D).2.1 = (rdInt e bs).2.1) := by
  by_cases he : e = 0
  · rw [h he]; exact ⟨rfl, rfl, fun _ => rfl⟩
  · rw [rdInt_err he, rdInt_err he]; exact ⟨rfl, rfl, fun h => absurd h he⟩
theorem tie_text {e : Int} {bs D : List Int} (h : e = 0 → bs = D) : (rdText e D).1 = (rdText e bs).1 ∧ (rdText e D).2.2 = (rdText e bs).2.2 ∧ ((rdText e D).1 = 0 → (rdText e D).2.1 = (rdText e bs).2.1) := by
  by_cases he : e = 0
  · rw [h he]; exact ⟨rfl, rfl, fun _ => rfl⟩
  · rw [rdText_err he, rdText_err he]; exact ⟨rfl, rfl, fun h => absurd h he⟩
theorem tie_hash {e : Int} {bs D : List Int} (h : e = 0 → bs = D) : (rdHash e D).1 = (rdHash e bs).1 ∧ (rdHash e D).2.2 = (rdHash e bs).2.2 ∧ ((rdHash e D).1 = 0 → (rdHash e D).2.1 = (rdHash e bs).2.1) := by
  by_cases he : e = 0
  · rw [h he]; exact ⟨rfl, rfl, fun _ => rfl⟩
  · rw [rdHash_err he, rdHash_err he]; exact ⟨rfl, rfl, fun h => absurd h he⟩
theorem tie_end {e : Int} {bs D : List Int} (h : e = 0 → bs = D) : endOf e D = endOf e bs := by
  by_cases he : e = 0
  · rw [h he]
  · unfold endOf; rw [if_neg (fun h => he h.1), if_neg (fun h => he h.1)]

/-- both readers: they have the same error, and as long as there is none the same bytes are left -/
structure Pair (w0 w : World) (r x : Nat) (a : Option Addr) (n c : Nat) (B : List Int) (P : Nat) (e : Int) (bs : List Int) : Prop where
  rd : Rd w r e bs
  rx : Rx w x a n c B P e
  tie : e = 0 → bs = B.drop P
  bytes : ∀ c ∈ bs, Byte c
  below : Below w0.heap.size w0 w
  base : w0.heap.size ≤ r
  lt : r < x
  apart : 0 < n → ∀ ad, a = some ad → ad.block < r

section
variable {w0 w w5 w6 : World} {r x : Nat} {a : Option Addr} {n c : Nat} {B : List Int} {P : Nat} {e : Int} {bs : List Int}

theorem Pair.mid (h : Pair w0 w r x a n c B P e bs) (o1 : Only r w w5) : Rx w5 x a n c B P e :=
  h.rx.other o1 (by have := h.lt; omega) (fun hp ad ha => Nat.ne_of_lt (h.apart hp ad ha))

theorem Pair.next (h : Pair w0 w r x a n c B P e bs) {e' eD : Int} {bs' bD : List Int} {P' : Nat} (hrd : Rd w5 r e' bs') (o1 : Only r w w5) (hrx : Rx w6 x a n c B P' eD) (ht : eD = 0 → B.drop P' = bD) (o2 : Only x w5 w6)
    (he : eD = e') (hb : eD = 0 → bD = bs') (hsub : ∀ c ∈ bs', c ∈ bs) : Pair w0 w6 r x a n c B P' e' bs' := by
  subst he
  exact ⟨hrd.other o2 h.lt, hrx, fun h0 => ((ht h0).trans (hb h0)).symm, fun c hc => h.bytes c (hsub c hc),
    Below.step (Below.step h.below o1 h.base (Nat.le_refl _)) o2 (by have := h.base; have := h.lt; omega) (Nat.le_refl _), h.base, h.lt, h.apart⟩

theorem Pair.drew (h : Pair w0 w r x a n c B P e bs) : Pair w0 w.drew r x a n c B P e bs :=
  ⟨h.rd.keep (Below.refl _ _).drew, h.rx.keep (Below.refl _ _).drew, h.tie, h.bytes, h.below.drew, h.base, h.lt, h.apart⟩

theorem Pair.endx (h : Pair w0 w r x a n c B P e bs) (hrx : Rx w6 x a n c B P e) (o2 : Only x w w6) : Pair w0 w6 r x a n c B P e bs :=
  h.next h.rd (Only.refl _ _) hrx (fun _ => rfl) o2 rfl (fun h0 => (h.tie h0).symm) (fun _ h => h)
end

/-- bytes that are read lie in no reader -/
theorem reads_apart {w : World} {x : Nat} {a aT : Option Addr} {n c L P : Nat} {B T : List Int} {E : Int} (h : Rx w x a n c B P E) (ht : Reads w aT L T) : 0 < L → ∀ ad, aT = some ad → ad.block ≠ x := by
  intro hp ad ha hb
  obtain ⟨ad', h1, h2⟩ := ht.2 hp
  rw [ha] at h1
  obtain rfl := Option.some.inj h1
  have hl : 0 < T.length := by rw [ht.1]; exact hp
  have h3 := h2 0 (.int .u8 (T[0])) (by simp [bts, hl])
  rw [Addr.add_zero'] at h3
  subst hb
  have hr := h.row
  unfold World.cell? at h3
  rw [hr] at h3
  simp only at h3
  revert h3
  match ad.off with
  | 0 => simp
  | 1 => simp
  | 2 => simp
  | k + 3 => simp

set_option maxRecDepth 100000 in
set_option maxHeartbeats 8000000 in
theorem reads_any (a0 : Option Addr) (len0 cap0 : Nat) (z0 : List Int) (a1 : Option Addr) (len1 cap1 : Nat) (ns : List Int) (w : World) (h0 : Came w a0 len0 cap0 z0) (h1 : Nums w a1 len1 cap1 ns) :
    Calls Try.prog 4 #[.slice a0 len0 cap0, .slice a1 len1 cap1] w fun e w' => e = .returned (.bool true) ∧ Below w.heap.size w w' := by
  obtain ⟨i0, hi, hz0, hz1, hz2⟩ := info_parts Try.infoByte
  have H0 := Lib.hid h0
  have H1 := Lib.hid h1
  have hcap1 : len1 ≤ 9223372036854775807 := by have := h1.le; have := h1.small; unfold maxLen at this; omega
  clear h0 h1
  go_enter Try.func4, Try.ntmps4
  go_wp2_with fail
  refine (known_any _).mono ?_
  rintro e w1 ⟨rfl, hb1⟩
  have HB1 := Lib.hid hb1
  have HC := Lib.hid (H0.out.below hb1)
  have HN := Lib.hid (H1.out.below hb1)
  clear hb1
  by_cases hl : 500 < len0
  · go_wp2
    go_ret
    exact ⟨rfl, HB1.out⟩
  · have HM := Lib.hid (World.ownsRow_made (base := w1.heap.size) (e := 5) (size := 1) w1 #[] 0 (Nat.le_refl _) (by unfold maxLen; omega) rfl)
    have HRA : Hid (Reads (w1.alloc (.cells #[] 5)) a0 len0 z0) := HC.out.reads.below ((Below.refl _ _).alloc (Nat.le_refl _) _)
    go_wp2_with (at_builtin; go_must (refine wpList_append_keep rfl _ _ 22 rfl w1.heap.size 5 i0 Try.underlying22 hi hz0 hz1 hz2 _ 0 [] rfl HM.out a0 len0 cap0 z0 rfl HRA.out (fun h => HC.out.nil h) (by omega) (by simp) ?_; intro vw w2 ho2 hg2 hk2 hn2; simp only [Nat.zero_add, List.nil_append] at ho2; have hb2 : Below w1.heap.size w1 w2 := ((Below.refl _ _).alloc (Nat.le_refl _) (.cells #[] 5)).grown hg2 (by simp) (fun k hk => (HM.out.lt k hk).1); obtain ⟨a2, c2, rfl, hr2⟩ := owned_val ho2; have HR2 := Lib.hid hr2; have HB2 := Lib.hid hb2; clear ho2 hg2 hk2 hn2 hr2 hb2))
    refine (new_any a2 len0 c2 z0 _ HR2.out (by omega)).mono ?_
    rintro y w3 ⟨r, rfl, hrd, hrr, hb3⟩
    have hbase : w1.heap.size ≤ r := Nat.le_trans HB2.out.size hrr
    have hb13 : Below w1.heap.size w1 w3 := HB2.out.trans (hb3.mono HB2.out.size)
    have hap : 0 < len0 → ∀ ad, a0 = some ad → ad.block < w1.heap.size := by
      intro hp ad ha
      obtain ⟨ad', h1, h2⟩ := HC.out.reads.at (p := 0) hp
      rw [ha] at h1
      obtain rfl := Option.some.inj h1
      have := World.block_lt_of_cell? w1 _ h2
      rwa [add_block] at this
    have HAP := Lib.hid hap
    have HRD := Lib.hid hrd
    have HBA := Lib.hid hbase
    have HB3 := Lib.hid hb13
    have HRL := Lib.hid hrd.lt
    clear hrd hrr hb3 hbase hb13 hap
    go_wp2_with fail
    refine (xnew_any a0 len0 cap0 z0 _ (HC.out.below HB3.out) (by omega) (fun hp ad ha => Nat.lt_of_lt_of_le (HAP.out hp ad ha) HB3.out.size)).mono ?_
    rintro y w4 ⟨x, rfl, hrx, hxx, hb4⟩
    have HP0 : Hid (Pair w1 w4 r x a0 len0 cap0 z0 0 0 z0) := ⟨HRD.out.keep hb4, hrx, fun _ => by simp, HC.out.bytes, HB3.out.trans (hb4.mono HB3.out.size), HBA.out, Nat.lt_of_lt_of_le HRL.out hxx, fun hp ad ha => Nat.lt_of_lt_of_le (HAP.out hp ad ha) HBA.out⟩
    clear hrx hxx hb4
    go_wp2_with fail
    go_loopw [7] (fun i wr => ∃ (k : Nat) (e : Int) (bs : List Int) (P : Nat), k ≤ len1 ∧ i = .int .i64 (k : Int) ∧ Hid (Pair w1 wr r x a0 len0 cap0 z0 P e bs)) (fun i _ => len1 - (intOf i).toNat)
    case atStart => exact ⟨0, 0, z0, 0, by omega, rfl, HP0.out⟩
    case round =>
      clear HP0
      obtain ⟨k, e, bs, P, hk, rfl, HP⟩ := hrel
      by_cases hk1 : k < len1
      · by_cases hk30 : k < 30
        · obtain ⟨ad, had, hcell'⟩ := HN.out.cell k hk1
          subst had
          have hcell : wr.cell? (ad.add k) = some (.int .i64 (ns.getD k 0)) := by rw [HP.out.below.cell (World.block_lt_of_cell? w1 _ hcell')]; exact hcell'
          have HCE : Hid (∀ W, Below w1.heap.size w1 W → W.cell? (ad.add k) = some (.int .i64 (ns.getD k 0))) := fun W hb => by rw [hb.cell (World.block_lt_of_cell? w1 _ hcell')]; exact hcell'
          have hz64 := HN.out.at k hk1
          obtain ⟨z, hz⟩ : ∃ z, z = ns.getD k 0 := ⟨_, rfl⟩
          rw [← hz] at hcell HCE hz64
          have HZ := Lib.hid hz64
          clear hz hcell' hz64
          go_wp2_with fail
          refine (within_any z 7 _ (by omega) (by omega)).mono ?_
          rintro y w5 ⟨rfl, rfl⟩
          obtain ⟨t, ht⟩ : ∃ t : Int, t = z % 7 := ⟨_, rfl⟩
          rw [← ht]
          have ht7 : t = 0 ∨ t = 1 ∨ t = 2 ∨ t = 3 ∨ t = 4 ∨ t = 5 ∨ t = 6 := by omega
          clear ht
          rcases ht7 with rfl | rfl | rfl | rfl | rfl | rfl | rfl
          · clear hcell
            go_wp2_with fail
            refine (rint_any r e bs _ HP.out.rd HP.out.bytes).mono ?_
            rintro y w5 ⟨rfl, hrd5, ho5⟩
            have HX5 := Lib.hid (HP.out.mid ho5)
            go_wp2_with fail
            refine (xint_any x a0 len0 cap0 z0 P e _ HX5.out HC.out.bytes).mono ?_
            rintro y w6 ⟨P', rfl, hrx6, ht6, ho6⟩
            have tie := tie_int HP.out.tie
            have HQ := Lib.hid (HP.out.next hrd5 ho5 hrx6 ht6 ho6 tie.1 tie.2.2 (rdInt_sub _ _))
            rw [tie.2.1]
            clear hrd5 ho5 hrx6 ht6 ho6 tie
            go_wp2_with fail
            refine (end_any r _ _ _ HQ.out.rd).mono ?_
            rintro y w7 ⟨rfl, rfl⟩
            go_wp2_with fail
            refine (xend_any x a0 len0 cap0 z0 _ _ _ HQ.out.rx).mono ?_
            rintro y w8 ⟨rfl, ho8, hrx8⟩
            rw [tie_end HQ.out.tie]
            have HP8 := Lib.hid (HQ.out.endx hrx8 ho8)
            clear hrx8 ho8
            go_wp2_with fail
            go_roundw
            case rel => exact ⟨k + 1, _, _, _, by omega, by go_num, HP8.out⟩
            case measure => simp [intOf]; omega
          · clear hcell
            go_wp2_with fail
            refine (rint_any r e bs _ HP.out.rd HP.out.bytes).mono ?_
            rintro y w5 ⟨rfl, hrd5, ho5⟩
            have HX5 := Lib.hid (HP.out.mid ho5)
            go_wp2_with fail
            refine (xint_any x a0 len0 cap0 z0 P e _ HX5.out HC.out.bytes).mono ?_
            rintro y w6 ⟨P', rfl, hrx6, ht6, ho6⟩
            have tie := tie_int HP.out.tie
            have HQ := Lib.hid (HP.out.next hrd5 ho5 hrx6 ht6 ho6 tie.1 tie.2.2 (rdInt_sub _ _))
            rw [tie.2.1]
            clear hrd5 ho5 hrx6 ht6 ho6 tie
            go_wp2_with fail
            refine (end_any r _ _ _ HQ.out.rd).mono ?_
            rintro y w7 ⟨rfl, rfl⟩
            go_wp2_with fail
            refine (xend_any x a0 len0 cap0 z0 _ _ _ HQ.out.rx).mono ?_
            rintro y w8 ⟨rfl, ho8, hrx8⟩
            rw [tie_end HQ.out.tie]
            have HP8 := Lib.hid (HQ.out.endx hrx8 ho8)
            clear hrx8 ho8
            go_wp2_with fail
            go_roundw
            case rel => exact ⟨k + 1, _, _, _, by omega, by go_num, HP8.out⟩
            case measure => simp [intOf]; omega
          · clear hcell
            go_wp2_with fail
            refine (rint_any r e bs _ HP.out.rd HP.out.bytes).mono ?_
            rintro y w5 ⟨rfl, hrd5, ho5⟩
            have HX5 := Lib.hid (HP.out.mid ho5)
            go_wp2_with fail
            refine (xint_any x a0 len0 cap0 z0 P e _ HX5.out HC.out.bytes).mono ?_
            rintro y w6 ⟨P', rfl, hrx6, ht6, ho6⟩
            have tie := tie_int HP.out.tie
            have HQ := Lib.hid (HP.out.next hrd5 ho5 hrx6 ht6 ho6 tie.1 tie.2.2 (rdInt_sub _ _))
            rw [tie.2.1]
            clear hrd5 ho5 hrx6 ht6 ho6 tie
            go_wp2_with fail
            refine (end_any r _ _ _ HQ.out.rd).mono ?_
            rintro y w7 ⟨rfl, rfl⟩
            go_wp2_with fail
            refine (xend_any x a0 len0 cap0 z0 _ _ _ HQ.out.rx).mono ?_
            rintro y w8 ⟨rfl, ho8, hrx8⟩
            rw [tie_end HQ.out.tie]
            have HP8 := Lib.hid (HQ.out.endx hrx8 ho8)
            clear hrx8 ho8
            go_wp2_with fail
            go_roundw
            case rel => exact ⟨k + 1, _, _, _, by omega, by go_num, HP8.out⟩
            case measure => simp [intOf]; omega
          · clear hcell
            have HPd := Lib.hid HP.out.drew
            go_wp2_with fail
            refine anyS_start (by kernel_rfl) ?_
            (refine anyS_free (i := 0) (v := ?_) rfl (by kernel_rfl) (by kernel_rfl) (by kernel_rfl) (fun _ _ _ h => h) (fun _ => by simp) (Or.inl ⟨by rfl, fun w' _ => ?_⟩) ?_; rotate_left; (· go_simp; try with_reducible rfl))
            try simp only [Act.put, List.setIfInBounds_toArray, List.set_cons_zero, List.set_cons_succ]
            (refine anyS_free (i := 3) (v := ?_) rfl (by kernel_rfl) (by kernel_rfl) (by kernel_rfl) (fun _ _ _ h => h) (fun _ => by simp) (Or.inl ⟨by rfl, fun w' _ => ?_⟩) ?_; rotate_left; (· go_simp; try with_reducible rfl))
            try simp only [Act.put, List.setIfInBounds_toArray, List.set_cons_zero, List.set_cons_succ]
            refine anyS_one 1 (by kernel_rfl) rfl (fun K hK => ?_)
            go_simp
            go_at_call 24
            (refine (rtext_any r e bs _ HPd.out.rd HPd.out.bytes).mono ?_)
            rintro y w5 ⟨aT, cT, rfl, hrT, hrd5, ho5⟩
            have hX5 := HPd.out.mid ho5
            have hT5 : Conv _ _ _ := conv_reads hrT cT
            have HAT := Lib.hid (reads_apart hX5 hrT)
            have HRT := Lib.hid hrT
            have HX5 := Lib.hid hX5
            obtain ⟨n5, hn5⟩ : ∃ z, z = (rdText e bs).2.2.length := ⟨_, rfl⟩
            rw [← hn5] at hT5 HRT HAT
            rw [← hn5]
            have HN5 := Lib.hid hn5
            clear hrT hX5 hn5
            go_wp2_with fail
            refine hK.out _ _ (by simp) ?_
            clear hK K
            try simp only [Act.put, List.setIfInBounds_toArray, List.set_cons_zero, List.set_cons_succ]
            (refine anyS_takeNew (fun w' => Conv _ _ w') [4, 5] (i := 2) (v := ?_) hT5 rfl (by kernel_rfl) (by kernel_rfl) (by kernel_rfl) (by kernel_rfl) (fun _ _ _ h => h) (fun _ _ => by simp_all) (Or.inl ⟨by rfl, fun w' hw' => ?_⟩) ?_; rotate_left; (· (unfold Conv at hw'; go_simp; try with_reducible rfl)))
            try simp only [Act.put, List.setIfInBounds_toArray, List.set_cons_zero, List.set_cons_succ]
            refine anyS_one 4 (by kernel_rfl) rfl (fun K hK => ?_)
            go_simp
            go_at_call 25
            (refine (xtext_any x a0 len0 cap0 z0 P e _ HX5.out HC.out.bytes (fun h => HC.out.nil h)).mono ?_)
            rintro y w6 ⟨P', aX, cX, rfl, hrX, hrx6, ht6, ho6⟩
            have tie := tie_text HPd.out.tie
            have HQ := Lib.hid (HPd.out.next hrd5 ho5 hrx6 ht6 ho6 tie.1 tie.2.2 (rdText_sub _ _))
            rw [tie.2.1] at hrX
            rw [tie.2.1, ← HN5.out]
            rw [← HN5.out] at hrX
            have hT6 : Conv _ _ _ := conv_reads (reads_only HRT.out ho6 HAT.out) cT
            have hX6 : Conv _ _ _ := conv_reads hrX cX
            clear hrd5 ho5 hrx6 ht6 ho6 tie hrX
            go_wp2_with fail
            refine hK.out _ _ (by simpa using hT6) ?_
            clear hK K
            try simp only [Act.put, List.setIfInBounds_toArray, List.set_cons_zero, List.set_cons_succ]
            (refine anyS_takeNew (fun w' => Conv _ _ w' ∧ Conv _ _ w') [] (i := 5) (v := ?_) ⟨hX6, hT6⟩ rfl (by kernel_rfl) (by kernel_rfl) (by kernel_rfl) (by kernel_rfl) (fun _ _ _ h => h) (fun _ _ => by simp_all) (Or.inl ⟨by rfl, fun w' hw' => ?_⟩) ?_; rotate_left; (· (have hw' := hw'.1; unfold Conv at hw'; go_simp; try with_reducible rfl)))
            try simp only [Act.put, List.setIfInBounds_toArray, List.set_cons_zero, List.set_cons_succ]
            (refine anyS_free (i := 6) (v := ?_) rfl (by kernel_rfl) (by kernel_rfl) (by kernel_rfl) (fun _ _ _ h => h) (fun _ => by simp) (Or.inl ⟨by rfl, fun w' _ => ?_⟩) ?_; rotate_left; (· go_simp; try with_reducible rfl))
            try simp only [Act.put, List.setIfInBounds_toArray, List.set_cons_zero, List.set_cons_succ]
            refine anyS_done (by kernel_rfl) ?_ _
            refine NoPanic.normal ?_
            clear hT5 hT6 hX6
            go_wp2_with fail
            refine (end_any r _ _ _ HQ.out.rd).mono ?_
            rintro y w7 ⟨rfl, rfl⟩
            go_wp2_with fail
            refine (xend_any x a0 len0 cap0 z0 _ _ _ HQ.out.rx).mono ?_
            rintro y w8 ⟨rfl, ho8, hrx8⟩
            rw [tie_end HQ.out.tie]
            have HP8 := Lib.hid (HQ.out.endx hrx8 ho8)
            clear hrx8 ho8
            go_wp2_with fail
            go_roundw
            case rel => exact ⟨k + 1, _, _, _, by omega, by go_num, HP8.out⟩
            case measure => simp [intOf]; omega
          · clear hcell
            have HPd := Lib.hid HP.out.drew
            go_wp2_with fail
            refine anyS_start (by kernel_rfl) ?_
            (refine anyS_free (i := 0) (v := ?_) rfl (by kernel_rfl) (by kernel_rfl) (by kernel_rfl) (fun _ _ _ h => h) (fun _ => by simp) (Or.inl ⟨by rfl, fun w' _ => ?_⟩) ?_; rotate_left; (· go_simp; try with_reducible rfl))
            try simp only [Act.put, List.setIfInBounds_toArray, List.set_cons_zero, List.set_cons_succ]
            (refine anyS_free (i := 3) (v := ?_) rfl (by kernel_rfl) (by kernel_rfl) (by kernel_rfl) (fun _ _ _ h => h) (fun _ => by simp) (Or.inl ⟨by rfl, fun w' _ => ?_⟩) ?_; rotate_left; (· go_simp; try with_reducible rfl))
            try simp only [Act.put, List.setIfInBounds_toArray, List.set_cons_zero, List.set_cons_succ]
            refine anyS_one 1 (by kernel_rfl) rfl (fun K hK => ?_)
            go_simp
            go_at_call 24
            (refine (rtext_any r e bs _ HPd.out.rd HPd.out.bytes).mono ?_)
            rintro y w5 ⟨aT, cT, rfl, hrT, hrd5, ho5⟩
            have hX5 := HPd.out.mid ho5
            have hT5 : Conv _ _ _ := conv_reads hrT cT
            have HAT := Lib.hid (reads_apart hX5 hrT)
            have HRT := Lib.hid hrT
            have HX5 := Lib.hid hX5
            obtain ⟨n5, hn5⟩ : ∃ z, z = (rdText e bs).2.2.length := ⟨_, rfl⟩
            rw [← hn5] at hT5 HRT HAT
            rw [← hn5]
            have HN5 := Lib.hid hn5
            clear hrT hX5 hn5
            go_wp2_with fail
            refine hK.out _ _ (by simp) ?_
            clear hK K
            try simp only [Act.put, List.setIfInBounds_toArray, List.set_cons_zero, List.set_cons_succ]
            (refine anyS_takeNew (fun w' => Conv _ _ w') [4, 5] (i := 2) (v := ?_) hT5 rfl (by kernel_rfl) (by kernel_rfl) (by kernel_rfl) (by kernel_rfl) (fun _ _ _ h => h) (fun _ _ => by simp_all) (Or.inl ⟨by rfl, fun w' hw' => ?_⟩) ?_; rotate_left; (· (unfold Conv at hw'; go_simp; try with_reducible rfl)))
            try simp only [Act.put, List.setIfInBounds_toArray, List.set_cons_zero, List.set_cons_succ]
            refine anyS_one 4 (by kernel_rfl) rfl (fun K hK => ?_)
            go_simp
            go_at_call 25
            (refine (xtext_any x a0 len0 cap0 z0 P e _ HX5.out HC.out.bytes (fun h => HC.out.nil h)).mono ?_)
            rintro y w6 ⟨P', aX, cX, rfl, hrX, hrx6, ht6, ho6⟩
            have tie := tie_text HPd.out.tie
            have HQ := Lib.hid (HPd.out.next hrd5 ho5 hrx6 ht6 ho6 tie.1 tie.2.2 (rdText_sub _ _))
            rw [tie.2.1] at hrX
            rw [tie.2.1, ← HN5.out]
            rw [← HN5.out] at hrX
            have hT6 : Conv _ _ _ := conv_reads (reads_only HRT.out ho6 HAT.out) cT
            have hX6 : Conv _ _ _ := conv_reads hrX cX
            clear hrd5 ho5 hrx6 ht6 ho6 tie hrX
            go_wp2_with fail
            refine hK.out _ _ (by simpa using hT6) ?_
            clear hK K
            try simp only [Act.put, List.setIfInBounds_toArray, List.set_cons_zero, List.set_cons_succ]
            (refine anyS_takeNew (fun w' => Conv _ _ w' ∧ Conv _ _ w') [] (i := 5) (v := ?_) ⟨hX6, hT6⟩ rfl (by kernel_rfl) (by kernel_rfl) (by kernel_rfl) (by kernel_rfl) (fun _ _ _ h => h) (fun _ _ => by simp_all) (Or.inl ⟨by rfl, fun w' hw' => ?_⟩) ?_; rotate_left; (· (have hw' := hw'.1; unfold Conv at hw'; go_simp; try with_reducible rfl)))
            try simp only [Act.put, List.setIfInBounds_toArray, List.set_cons_zero, List.set_cons_succ]
            (refine anyS_free (i := 6) (v := ?_) rfl (by kernel_rfl) (by kernel_rfl) (by kernel_rfl) (fun _ _ _ h => h) (fun _ => by simp) (Or.inl ⟨by rfl, fun w' _ => ?_⟩) ?_; rotate_left; (· go_simp; try with_reducible rfl))
            try simp only [Act.put, List.setIfInBounds_toArray, List.set_cons_zero, List.set_cons_succ]
            refine anyS_done (by kernel_rfl) ?_ _
            refine NoPanic.normal ?_
            clear hT5 hT6 hX6
            go_wp2_with fail
            refine (end_any r _ _ _ HQ.out.rd).mono ?_
            rintro y w7 ⟨rfl, rfl⟩
            go_wp2_with fail
            refine (xend_any x a0 len0 cap0 z0 _ _ _ HQ.out.rx).mono ?_
            rintro y w8 ⟨rfl, ho8, hrx8⟩
            rw [tie_end HQ.out.tie]
            have HP8 := Lib.hid (HQ.out.endx hrx8 ho8)
            clear hrx8 ho8
            go_wp2_with fail
            go_roundw
            case rel => exact ⟨k + 1, _, _, _, by omega, by go_num, HP8.out⟩
            case measure => simp [intOf]; omega
          · clear hcell
            go_wp2_with fail
            refine (rhash_any r e bs _ HP.out.rd HP.out.bytes).mono ?_
            rintro y w5 ⟨dA, rfl, hsA, hrd5, ho5⟩
            have HX5 := Lib.hid (HP.out.mid ho5)
            go_wp2_with fail
            refine (xhash_any x a0 len0 cap0 z0 P e _ HX5.out HC.out.bytes).mono ?_
            rintro y w6 ⟨P', dB, rfl, hsB, hrx6, ht6, ho6⟩
            have tie := tie_hash HP.out.tie
            rw [tie.2.1] at hsB
            obtain rfl := sum_same hsA hsB
            have HQ := Lib.hid (HP.out.next hrd5 ho5 hrx6 ht6 ho6 tie.1 tie.2.2 (rdHash_sub _ _))
            have hq : ∀ w, (binOp .neq 24 (.agg dA) (.agg dA)).run Try.prog w = .ok (.bool false) w := fun w => by rw [neq_sum hsA hsA]; simp
            have hgd := eqGuard_sum
            clear hrd5 ho5 hrx6 ht6 ho6 tie hsA hsB
            go_upto_region 25 with (fail)
            clear hq hgd
            go_wp2_with fail
            refine (end_any r _ _ _ HQ.out.rd).mono ?_
            rintro y w7 ⟨rfl, rfl⟩
            go_wp2_with fail
            refine (xend_any x a0 len0 cap0 z0 _ _ _ HQ.out.rx).mono ?_
            rintro y w8 ⟨rfl, ho8, hrx8⟩
            rw [tie_end HQ.out.tie]
            have HP8 := Lib.hid (HQ.out.endx hrx8 ho8)
            clear hrx8 ho8
            go_wp2_with fail
            go_roundw
            case rel => exact ⟨k + 1, _, _, _, by omega, by go_num, HP8.out⟩
            case measure => simp [intOf]; omega
          · go_wp2_with fail
            refine (within_any _ 20 _ (by omega) (by omega)).mono ?_
            rintro y w5 ⟨rfl, rfl⟩
            obtain ⟨f, hf⟩ : ∃ f, f = wrap64 (z.tdiv 7) % 20 := ⟨_, rfl⟩
            rw [← hf]
            have HF := Lib.hid hf
            clear hf
            go_wp2_with fail
            refine (fail_any r e f bs _ HP.out.rd).mono ?_
            rintro y w5 ⟨rfl, hrd5, ho5⟩
            have HX5 := Lib.hid (HP.out.mid ho5)
            have hcell5 := HCE.out _ (Below.step HP.out.below ho5 HP.out.base (Nat.le_refl _))
            clear hcell
            go_wp2_with fail
            refine (within_any _ 20 _ (by omega) (by omega)).mono ?_
            rintro y w6 ⟨rfl, rfl⟩
            rw [← HF.out]
            go_wp2_with fail
            refine (xfail_any x a0 len0 cap0 z0 P e f _ HX5.out).mono ?_
            rintro y w6 ⟨rfl, hrx6, ho6⟩
            have HQ := Lib.hid (HP.out.next hrd5 ho5 hrx6 (fun _ => rfl) ho6 rfl (fun h0 => (HP.out.tie (by unfold errOf at h0; split at h0; assumption; exact h0)).symm) (fun _ h => h))
            clear hrd5 ho5 hrx6 ho6 hcell5 HF
            go_wp2_with fail
            refine (end_any r _ _ _ HQ.out.rd).mono ?_
            rintro y w7 ⟨rfl, rfl⟩
            go_wp2_with fail
            refine (xend_any x a0 len0 cap0 z0 _ _ _ HQ.out.rx).mono ?_
            rintro y w8 ⟨rfl, ho8, hrx8⟩
            rw [tie_end HQ.out.tie]
            have HP8 := Lib.hid (HQ.out.endx hrx8 ho8)
            clear hrx8 ho8
            go_wp2_with fail
            go_roundw
            case rel => exact ⟨k + 1, _, _, _, by omega, by go_num, HP8.out⟩
            case measure => simp [intOf]; omega
        · go_wp2_with fail
          refine (end_any r e bs _ HP.out.rd).mono ?_
          rintro y w7 ⟨rfl, rfl⟩
          go_wp2_with fail
          refine (xend_any x a0 len0 cap0 z0 P e _ HP.out.rx).mono ?_
          rintro y w8 ⟨rfl, ho8, hrx8⟩
          rw [tie_end HP.out.tie]
          have HP8 := Lib.hid (HP.out.endx hrx8 ho8)
          go_wp2
          go_ret
          exact ⟨rfl, HB1.out.trans (HP8.out.below.mono HB1.out.size)⟩
      · go_wp2_with fail
        refine (end_any r e bs _ HP.out.rd).mono ?_
        rintro y w7 ⟨rfl, rfl⟩
        go_wp2_with fail
        refine (xend_any x a0 len0 cap0 z0 P e _ HP.out.rx).mono ?_
        rintro y w8 ⟨rfl, ho8, hrx8⟩
        rw [tie_end HP.out.tie]
        have HP8 := Lib.hid (HP.out.endx hrx8 ho8)
        go_wp2
        go_ret
        exact ⟨rfl, HB1.out.trans (HP8.out.below.mono HB1.out.size)⟩

end Go.Proofs.Ytlaafpfpoehonaa
