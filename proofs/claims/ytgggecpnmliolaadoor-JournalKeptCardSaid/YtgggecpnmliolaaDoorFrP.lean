/- CRC-32 and frames as the document has them: plain lists of bytes, no program. -/
import Derived.Below
namespace Go.Proofs.YtgggecpnmliolaaDoor.Frm
set_option linter.unusedVariables false

abbrev W := BitVec 32
def poly : W := 3988292384
/-- one bit further -/
def step (c : W) : W := if c.toNat % 2 = 1 then c >>> 1 ^^^ poly else c >>> 1
def steps : Nat → W → W
  | 0, c => c
  | n + 1, c => step (steps n c)
/-- a byte as a number of 32 bits -/
def by32 (n : Int) : W := BitVec.ofNat 32 n.toNat
def upd (c : W) (x : Int) : W := steps 8 (c ^^^ by32 x)
def raw (b : List Int) : W := b.foldl upd 4294967295
def crc (b : List Int) : W := ~~~ raw b

theorem raw_append (a b : List Int) : raw (a ++ b) = b.foldl upd (raw a) := by unfold raw; rw [List.foldl_append]
theorem raw_next {b : List Int} {i : Nat} (hi : i < b.length) : raw (b.take (i + 1)) = upd (raw (b.take i)) (b.getD i 0) := by
  have h : b[i]? = some (b.getD i 0) := by simp [List.getD, hi]
  rw [List.take_add_one, h, raw_append]
  rfl

theorem steps_add (m n : Nat) (c : W) : steps (m + n) c = steps m (steps n c) := by
  induction m with
  | zero => rw [Nat.zero_add]; rfl
  | succ m ih => rw [Nat.succ_add]; show step _ = step _; rw [ih]

theorem odd_bit (c : W) : (c.toNat % 2 = 1) ↔ c.getLsbD 0 = true := by
  rw [← BitVec.testBit_toNat, Nat.testBit_zero]
  simp

theorem step_eq (c : W) : step c = c >>> 1 ^^^ (if c.getLsbD 0 then poly else 0) := by
  unfold step
  by_cases h : c.toNat % 2 = 1
  · rw [if_pos h, if_pos ((odd_bit c).1 h)]
  · rw [if_neg h, if_neg (fun e => h ((odd_bit c).2 e))]
    simp

theorem xor4 (a b c d : W) : (a ^^^ b) ^^^ (c ^^^ d) = (a ^^^ c) ^^^ (b ^^^ d) := by
  ext i
  simp only [BitVec.getElem_xor]
  cases a[i] <;> cases b[i] <;> cases c[i] <;> cases d[i] <;> rfl

theorem step_xor (a b : W) : step (a ^^^ b) = step a ^^^ step b := by
  rw [step_eq, step_eq, step_eq, xor4, BitVec.ushiftRight_xor_distrib]
  congr 1
  rw [BitVec.getLsbD_xor]
  cases a.getLsbD 0 <;> cases b.getLsbD 0 <;> decide

theorem steps_xor (n : Nat) (a b : W) : steps n (a ^^^ b) = steps n a ^^^ steps n b := by
  induction n with
  | zero => rfl
  | succ n ih => show step _ = step _ ^^^ step _; rw [ih, step_xor]

theorem step_even {c : W} (h : c.getLsbD 0 = false) : step c = c >>> 1 := by rw [step_eq, h]; simp

theorem steps4_even {a : W} (h0 : a.getLsbD 0 = false) (h1 : a.getLsbD 1 = false) (h2 : a.getLsbD 2 = false) (h3 : a.getLsbD 3 = false) : steps 4 a = a >>> 4 := by
  show step (step (step (step a))) = _
  have e1 : step a = a >>> 1 := step_even h0
  have e2 : step (a >>> 1) = a >>> 2 := by rw [step_even (by rw [BitVec.getLsbD_ushiftRight]; exact h1), ← BitVec.shiftRight_add]
  have e3 : step (a >>> 2) = a >>> 3 := by rw [step_even (by rw [BitVec.getLsbD_ushiftRight]; exact h2), ← BitVec.shiftRight_add]
  have e4 : step (a >>> 3) = a >>> 4 := by rw [step_even (by rw [BitVec.getLsbD_ushiftRight]; exact h3), ← BitVec.shiftRight_add]
  rw [e1, e2, e3, e4]

def halves : List W := [0, 498536548, 997073096, 651767980, 1994146192, 1802195444, 1303535960, 1342533948, 3988292384, 4027552580, 3604390888, 3412177804, 2607071920, 2262029012, 2685067896, 3183342108]

theorem halves_steps : ∀ n : Fin 16, steps 4 (BitVec.ofNat 32 n.val) = halves.getD n.val 0 := by decide

theorem halved (c : W) : c = (c >>> 4 <<< 4) ^^^ (c &&& 15) := by
  apply BitVec.eq_of_getLsbD_eq
  intro i hi
  have hm : ∀ j, j < 32 → (15 : W).getLsbD j = decide (j < 4) := by decide
  rw [BitVec.getLsbD_xor, BitVec.getLsbD_and, hm i hi, BitVec.getLsbD_shiftLeft, BitVec.getLsbD_ushiftRight]
  by_cases h : i < 4
  · simp [h]
  · have e : 4 + (i - 4) = i := by omega
    simp [h, hi, e]

/-- the program's way: half a byte at a time -/
def nib (c : W) : W := c >>> 4 ^^^ halves.getD (c &&& 15).toNat 0

theorem nib_steps (c : W) : nib c = steps 4 c := by
  have h1 : (c &&& 15).toNat < 16 := by
    rw [BitVec.toNat_and]
    exact Nat.lt_of_le_of_lt Nat.and_le_right (by decide)
  have h2 := halves_steps ⟨(c &&& 15).toNat, h1⟩
  simp only [BitVec.ofNat_toNat, BitVec.setWidth_eq] at h2
  have h3 : steps 4 (c >>> 4 <<< 4) = c >>> 4 := by
    rw [steps4_even (by simp) (by simp) (by simp) (by simp)]
    apply BitVec.eq_of_getLsbD_eq
    intro i hi
    rw [BitVec.getLsbD_ushiftRight, BitVec.getLsbD_shiftLeft, BitVec.getLsbD_ushiftRight, BitVec.getLsbD_ushiftRight]
    by_cases h : 4 + i < 32
    · simp [h]
    · rw [BitVec.getLsbD_of_ge c (4 + i) (by omega)]
      simp [h]
  conv => rhs; rw [halved c, steps_xor, h3, h2]
  rfl

theorem upd_nib (c : W) (x : Int) : upd c x = nib (nib (c ^^^ by32 x)) := by
  rw [nib_steps, nib_steps, ← steps_add]
  rfl

theorem step_zero {d : W} (h : step d = 0) : d = 0 := by
  rw [step_eq] at h
  have h31 := congrArg (fun c : W => c.getLsbD 31) h
  simp only [BitVec.getLsbD_xor, BitVec.getLsbD_ushiftRight] at h31
  have e0 : d.getLsbD (1 + 31) = false := BitVec.getLsbD_of_ge d 32 (by omega)
  rw [e0] at h31
  have hl : d.getLsbD 0 = false := by
    cases hb : d.getLsbD 0 with
    | false => rfl
    | true => rw [hb] at h31; revert h31; decide
  rw [hl] at h
  apply BitVec.eq_of_getLsbD_eq
  intro i hi
  show d.getLsbD i = (0#32).getLsbD i
  rw [BitVec.getLsbD_zero]
  match i with
  | 0 => exact hl
  | j + 1 =>
    have hj := congrArg (fun c : W => c.getLsbD j) h
    simp only [BitVec.getLsbD_xor, BitVec.getLsbD_ushiftRight] at hj
    rw [Nat.add_comm] at hj
    simpa using hj

theorem step_inj {a b : W} (h : step a = step b) : a = b := by
  have h1 : step (a ^^^ b) = 0 := by rw [step_xor, h, BitVec.xor_self]; rfl
  have h2 := step_zero h1
  have h3 : a ^^^ b ^^^ b = b := by rw [h2]; exact BitVec.zero_xor
  rw [BitVec.xor_assoc, BitVec.xor_self, BitVec.xor_zero] at h3
  exact h3

theorem steps_inj {n : Nat} {a b : W} (h : steps n a = steps n b) : a = b := by
  induction n with
  | zero => exact h
  | succ n ih => exact ih (step_inj h)

theorem xor_right_inj {a b c : W} (h : a ^^^ c = b ^^^ c) : a = b := by
  have h' := congrArg (· ^^^ c) h
  simpa [BitVec.xor_assoc] using h'
theorem xor_left_inj {a b c : W} (h : c ^^^ a = c ^^^ b) : a = b := by
  rw [BitVec.xor_comm c a, BitVec.xor_comm c b] at h
  exact xor_right_inj h

theorem upd_inj {a b : W} {x : Int} (h : upd a x = upd b x) : a = b := xor_right_inj (steps_inj h)

theorem fold_inj (s : List Int) : ∀ {a b : W}, s.foldl upd a = s.foldl upd b → a = b := by
  induction s with
  | nil => intro a b h; exact h
  | cons x s ih => intro a b h; exact upd_inj (ih h)

theorem by32_inj {x y : Int} (hx : 0 ≤ x ∧ x < 256) (hy : 0 ≤ y ∧ y < 256) (h : by32 x = by32 y) : x = y := by
  have h' := congrArg BitVec.toNat h
  unfold by32 at h'
  simp only [BitVec.toNat_ofNat] at h'
  omega

/-- one byte turned: another sum -/
theorem crc_turned (p s : List Int) {x y : Int} (hx : 0 ≤ x ∧ x < 256) (hy : 0 ≤ y ∧ y < 256) (hne : x ≠ y) : crc (p ++ x :: s) ≠ crc (p ++ y :: s) := by
  intro h
  have h1 : raw (p ++ x :: s) = raw (p ++ y :: s) := by
    have := congrArg (fun c : W => ~~~ c) h
    simpa [crc] using this
  rw [raw_append, raw_append] at h1
  have h2 : s.foldl upd (upd (raw p) x) = s.foldl upd (upd (raw p) y) := h1
  have h3 := xor_left_inj (steps_inj (fold_inj s h2))
  exact hne (by32_inj hx hy h3)

/-- four bytes of a number, the lowest first -/
def four (n : Nat) : List Int := [((n % 256 : Nat) : Int), ((n / 256 % 256 : Nat) : Int), ((n / 65536 % 256 : Nat) : Int), ((n / 16777216 % 256 : Nat) : Int)]
/-- what the first four bytes say -/
def num (b : List Int) : Nat := (b.getD 0 0).toNat + 256 * (b.getD 1 0).toNat + 65536 * (b.getD 2 0).toNat + 16777216 * (b.getD 3 0).toNat

theorem num_four {n : Nat} (h : n < 4294967296) (s : List Int) : num (four n ++ s) = n := by
  simp [num, four]
  omega
theorem num_lt {b : List Int} (h : ∀ c ∈ b, 0 ≤ c ∧ c < 256) : num b < 4294967296 := by
  have hd : ∀ i, 0 ≤ b.getD i 0 ∧ b.getD i 0 < 256 := by
    intro i
    by_cases hi : i < b.length
    · have : b.getD i 0 = b[i] := by simp [List.getD, hi]
      rw [this]
      exact h _ (List.getElem_mem hi)
    · have : b.getD i 0 = 0 := by simp [List.getD, List.getElem?_eq_none (Nat.le_of_not_lt hi)]
      rw [this]
      omega
  have h0 := hd 0
  have h1 := hd 1
  have h2 := hd 2
  have h3 := hd 3
  unfold num
  omega

def frame (b : List Int) : List Int := four b.length ++ four (crc b).toNat ++ b
theorem four_length (n : Nat) : (four n).length = 4 := rfl
theorem frame_length (b : List Int) : (frame b).length = 8 + b.length := by simp [frame, four_length]; omega
theorem four_byte (n : Nat) : ∀ c ∈ four n, 0 ≤ c ∧ c < 256 := by
  intro c hc
  simp [four] at hc
  omega
theorem frame_byte {b : List Int} (h : ∀ c ∈ b, 0 ≤ c ∧ c < 256) : ∀ c ∈ frame b, 0 ≤ c ∧ c < 256 := by
  intro c hc
  simp only [frame, List.mem_append] at hc
  rcases hc with (hc | hc) | hc
  · exact four_byte _ c hc
  · exact four_byte _ c hc
  · exact h c hc

/-- what the bytes of one frame may be refused for; 0: they are one -/
def oneE (b : List Int) : Nat :=
  if b.length < 8 then 8 else if 4194304 < num b then 5 else if b.length < 8 + num b then 8 else if 8 + num b < b.length then 9
  else if (crc (b.drop 8)).toNat ≠ num (b.drop 4) then 10 else 0
def oneR (b : List Int) : List Int := if oneE b = 0 then b.drop 8 else []

/-- a whole frame stands in front -/
def whole (b : List Int) : Bool :=
  decide (8 ≤ b.length) && decide (num b ≤ 4194304) && decide (8 + num b ≤ b.length) && decide ((crc ((b.drop 8).take (num b))).toNat = num (b.drop 4))

theorem whole_len {b : List Int} (h : whole b = true) : 8 ≤ b.length := by
  simp [whole] at h
  exact h.1.1.1

def scan (b : List Int) : List (List Int) :=
  if h : whole b = true then (b.drop 8).take (num b) :: scan (b.drop (8 + num b)) else []
termination_by b.length
decreasing_by
  have := whole_len h
  rw [List.length_drop]
  omega

/-- how many bytes the frames of records have -/
def bulk : List (List Int) → Nat
  | [] => 0
  | r :: rs => 8 + r.length + bulk rs

def frames : List (List Int) → List Int
  | [] => []
  | r :: rs => frame r ++ frames rs

theorem frames_append (a b : List (List Int)) : frames (a ++ b) = frames a ++ frames b := by
  induction a with
  | nil => rfl
  | cons r a ih => show frame r ++ frames (a ++ b) = frame r ++ frames a ++ frames b; rw [ih, List.append_assoc]
theorem frames_length (a : List (List Int)) : (frames a).length = bulk a := by
  induction a with
  | nil => rfl
  | cons r a ih => show (frame r ++ frames a).length = 8 + r.length + bulk a; rw [List.length_append, frame_length, ih]
theorem bulk_append (a b : List (List Int)) : bulk (a ++ b) = bulk a + bulk b := by
  induction a with
  | nil => simp [bulk]
  | cons r a ih => show 8 + r.length + bulk (a ++ b) = 8 + r.length + bulk a + bulk b; rw [ih]; omega
theorem frames_byte {a : List (List Int)} (h : ∀ r ∈ a, ∀ c ∈ r, 0 ≤ c ∧ c < 256) : ∀ c ∈ frames a, 0 ≤ c ∧ c < 256 := by
  induction a with
  | nil => intro c hc; simp [frames] at hc
  | cons r a ih =>
    intro c hc
    simp only [frames, List.mem_append] at hc
    rcases hc with hc | hc
    · exact frame_byte (h r (by simp)) c hc
    · exact ih (fun q hq => h q (by simp [hq])) c hc

theorem frame_drop8 (b s : List Int) : (frame b ++ s).drop 8 = b ++ s := by simp [frame, four]
theorem frame_drop4 (b s : List Int) : (frame b ++ s).drop 4 = four (crc b).toNat ++ (b ++ s) := by simp [frame, four]
theorem frame_num {b : List Int} (h : b.length < 4294967296) (s : List Int) : num (frame b ++ s) = b.length := by
  unfold frame
  rw [List.append_assoc, List.append_assoc]
  exact num_four h _

theorem whole_frame {b : List Int} (h : b.length ≤ 4194304) (s : List Int) : whole (frame b ++ s) = true := by
  unfold whole
  rw [frame_num (by omega), frame_drop8, frame_drop4, num_four (crc b).isLt]
  simp [frame_length, h]
  omega

theorem scan_frame {b : List Int} (h : b.length ≤ 4194304) (s : List Int) : scan (frame b ++ s) = b :: scan s := by
  rw [scan, dif_pos (whole_frame h s), frame_num (by omega), frame_drop8]
  have e : (frame b ++ s).drop (8 + b.length) = s := by
    rw [← frame_length, List.drop_left]
  rw [e]
  simp

theorem scan_none {b : List Int} (h : whole b = false) : scan b = [] := by rw [scan, dif_neg (by rw [h]; decide)]

theorem scan_frames {a : List (List Int)} (h : ∀ r ∈ a, r.length ≤ 4194304) (s : List Int) : scan (frames a ++ s) = a ++ scan s := by
  induction a with
  | nil => rfl
  | cons r a ih =>
    show scan (frame r ++ frames a ++ s) = _
    rw [List.append_assoc, scan_frame (h r (by simp)), ih (fun q hq => h q (by simp [hq]))]
    rfl

/-- a front of a frame is none -/
theorem front_none {b : List Int} (h : b.length < 4294967296) {k : Nat} (hk : k < 8 + b.length) : whole ((frame b).take k) = false := by
  have hl : ((frame b).take k).length = k := by rw [List.length_take, frame_length]; omega
  unfold whole
  rw [hl]
  by_cases h8 : 8 ≤ k
  · have e : num ((frame b).take k) = b.length := by
      have h1 := frame_num h []
      rw [List.append_nil] at h1
      rw [← h1]
      unfold num
      simp only [List.getD, List.getElem?_take]
      rw [if_pos (by omega), if_pos (by omega), if_pos (by omega), if_pos (by omega)]
    rw [e]
    simp only [Bool.and_eq_false_iff, decide_eq_false_iff_not]
    exact .inl (.inr (by omega))
  · simp [h8]

theorem one_frame {b : List Int} (h : b.length ≤ 4194304) : oneE (frame b) = 0 ∧ oneR (frame b) = b := by
  have e1 := frame_num (b := b) (by omega) []
  have e2 := frame_drop8 b []
  have e3 := frame_drop4 b []
  rw [List.append_nil] at e1 e2 e3
  rw [List.append_nil] at e2
  have h0 : oneE (frame b) = 0 := by
    unfold oneE
    rw [e1, e2, e3, num_four (crc b).isLt, frame_length]
    rw [if_neg (by omega), if_neg (by omega), if_neg (by omega), if_neg (by omega), if_neg (by simp)]
  exact ⟨h0, by unfold oneR; rw [if_pos h0, e2]⟩

end Go.Proofs.YtgggecpnmliolaaDoor.Frm
