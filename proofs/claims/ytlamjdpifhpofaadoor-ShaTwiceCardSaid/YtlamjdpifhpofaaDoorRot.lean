/- The program's turns, choices and mixtures of words, as numbers. -/
import Derived.Test.YtlamjdpifhpofaaDoorRow32
namespace Go.Proofs.YtlamjdpifhpofaaDoor
open Go.RowKit Sha
set_option linter.unusedVariables false
set_option linter.unusedSimpArgs false

theorem left2 (x : W) (w : World) : Calls Tryd.prog 19 #[.int .u32 (x.toNat : Int), .int .i64 (-2)] w fun e w' => e = .returned (.int .u32 ((rotr x 2).toNat : Int)) ∧ w = w' := by
  have E1 : Hid ((x.toNat : Int) / (4 : Int) = ((x >>> 2).toNat : Int)) := shr_val x 2
  have E2 : Hid ((x.toNat : Int) * (1073741824 : Int) % (4294967296 : Int) = ((x <<< 30).toNat : Int)) := shl_val x 30
  have E3 := Lib.hid (bits_or (x <<< 30) (x >>> 2))
  have hs : bits .and .u64 (IntKind.u64.wrap (-2)) 31 = 30 := by decide +kernel
  go_enter Tryd.func19, Tryd.ntmps19
  go_wp2
  go_ret
  refine ⟨?_, rfl⟩
  show Ending.returned (Value.int IntKind.u32 _) = _
  rw [E1.out, E2.out, E3.out, BitVec.or_comm]
  rfl

theorem right2 (x : W) (w : World) : Calls Tryd.prog 18 #[.int .u32 (x.toNat : Int), .int .i64 2] w fun e w' => e = .returned (.int .u32 ((rotr x 2).toNat : Int)) ∧ w = w' := by
  go_enter Tryd.func18, Tryd.ntmps18
  go_wp2_with fail
  refine (left2 x w).mono ?_
  rintro _ _ ⟨rfl, rfl⟩
  go_wp2
  go_ret
  exact ⟨rfl, rfl⟩

theorem left6 (x : W) (w : World) : Calls Tryd.prog 19 #[.int .u32 (x.toNat : Int), .int .i64 (-6)] w fun e w' => e = .returned (.int .u32 ((rotr x 6).toNat : Int)) ∧ w = w' := by
  have E1 : Hid ((x.toNat : Int) / (64 : Int) = ((x >>> 6).toNat : Int)) := shr_val x 6
  have E2 : Hid ((x.toNat : Int) * (67108864 : Int) % (4294967296 : Int) = ((x <<< 26).toNat : Int)) := shl_val x 26
  have E3 := Lib.hid (bits_or (x <<< 26) (x >>> 6))
  have hs : bits .and .u64 (IntKind.u64.wrap (-6)) 31 = 26 := by decide +kernel
  go_enter Tryd.func19, Tryd.ntmps19
  go_wp2
  go_ret
  refine ⟨?_, rfl⟩
  show Ending.returned (Value.int IntKind.u32 _) = _
  rw [E1.out, E2.out, E3.out, BitVec.or_comm]
  rfl

theorem right6 (x : W) (w : World) : Calls Tryd.prog 18 #[.int .u32 (x.toNat : Int), .int .i64 6] w fun e w' => e = .returned (.int .u32 ((rotr x 6).toNat : Int)) ∧ w = w' := by
  go_enter Tryd.func18, Tryd.ntmps18
  go_wp2_with fail
  refine (left6 x w).mono ?_
  rintro _ _ ⟨rfl, rfl⟩
  go_wp2
  go_ret
  exact ⟨rfl, rfl⟩

theorem left7 (x : W) (w : World) : Calls Tryd.prog 19 #[.int .u32 (x.toNat : Int), .int .i64 (-7)] w fun e w' => e = .returned (.int .u32 ((rotr x 7).toNat : Int)) ∧ w = w' := by
  have E1 : Hid ((x.toNat : Int) / (128 : Int) = ((x >>> 7).toNat : Int)) := shr_val x 7
  have E2 : Hid ((x.toNat : Int) * (33554432 : Int) % (4294967296 : Int) = ((x <<< 25).toNat : Int)) := shl_val x 25
  have E3 := Lib.hid (bits_or (x <<< 25) (x >>> 7))
  have hs : bits .and .u64 (IntKind.u64.wrap (-7)) 31 = 25 := by decide +kernel
  go_enter Tryd.func19, Tryd.ntmps19
  go_wp2
  go_ret
  refine ⟨?_, rfl⟩
  show Ending.returned (Value.int IntKind.u32 _) = _
  rw [E1.out, E2.out, E3.out, BitVec.or_comm]
  rfl

theorem right7 (x : W) (w : World) : Calls Tryd.prog 18 #[.int .u32 (x.toNat : Int), .int .i64 7] w fun e w' => e = .returned (.int .u32 ((rotr x 7).toNat : Int)) ∧ w = w' := by
  go_enter Tryd.func18, Tryd.ntmps18
  go_wp2_with fail
  refine (left7 x w).mono ?_
  rintro _ _ ⟨rfl, rfl⟩
  go_wp2
  go_ret
  exact ⟨rfl, rfl⟩

theorem left11 (x : W) (w : World) : Calls Tryd.prog 19 #[.int .u32 (x.toNat : Int), .int .i64 (-11)] w fun e w' => e = .returned (.int .u32 ((rotr x 11).toNat : Int)) ∧ w = w' := by
  have E1 : Hid ((x.toNat : Int) / (2048 : Int) = ((x >>> 11).toNat : Int)) := shr_val x 11
  have E2 : Hid ((x.toNat : Int) * (2097152 : Int) % (4294967296 : Int) = ((x <<< 21).toNat : Int)) := shl_val x 21
  have E3 := Lib.hid (bits_or (x <<< 21) (x >>> 11))
  have hs : bits .and .u64 (IntKind.u64.wrap (-11)) 31 = 21 := by decide +kernel
  go_enter Tryd.func19, Tryd.ntmps19
  go_wp2
  go_ret
  refine ⟨?_, rfl⟩
  show Ending.returned (Value.int IntKind.u32 _) = _
  rw [E1.out, E2.out, E3.out, BitVec.or_comm]
  rfl

theorem right11 (x : W) (w : World) : Calls Tryd.prog 18 #[.int .u32 (x.toNat : Int), .int .i64 11] w fun e w' => e = .returned (.int .u32 ((rotr x 11).toNat : Int)) ∧ w = w' := by
  go_enter Tryd.func18, Tryd.ntmps18
  go_wp2_with fail
  refine (left11 x w).mono ?_
  rintro _ _ ⟨rfl, rfl⟩
  go_wp2
  go_ret
  exact ⟨rfl, rfl⟩

theorem left13 (x : W) (w : World) : Calls Tryd.prog 19 #[.int .u32 (x.toNat : Int), .int .i64 (-13)] w fun e w' => e = .returned (.int .u32 ((rotr x 13).toNat : Int)) ∧ w = w' := by
  have E1 : Hid ((x.toNat : Int) / (8192 : Int) = ((x >>> 13).toNat : Int)) := shr_val x 13
  have E2 : Hid ((x.toNat : Int) * (524288 : Int) % (4294967296 : Int) = ((x <<< 19).toNat : Int)) := shl_val x 19
  have E3 := Lib.hid (bits_or (x <<< 19) (x >>> 13))
  have hs : bits .and .u64 (IntKind.u64.wrap (-13)) 31 = 19 := by decide +kernel
  go_enter Tryd.func19, Tryd.ntmps19
  go_wp2
  go_ret
  refine ⟨?_, rfl⟩
  show Ending.returned (Value.int IntKind.u32 _) = _
  rw [E1.out, E2.out, E3.out, BitVec.or_comm]
  rfl

theorem right13 (x : W) (w : World) : Calls Tryd.prog 18 #[.int .u32 (x.toNat : Int), .int .i64 13] w fun e w' => e = .returned (.int .u32 ((rotr x 13).toNat : Int)) ∧ w = w' := by
  go_enter Tryd.func18, Tryd.ntmps18
  go_wp2_with fail
  refine (left13 x w).mono ?_
  rintro _ _ ⟨rfl, rfl⟩
  go_wp2
  go_ret
  exact ⟨rfl, rfl⟩

theorem left17 (x : W) (w : World) : Calls Tryd.prog 19 #[.int .u32 (x.toNat : Int), .int .i64 (-17)] w fun e w' => e = .returned (.int .u32 ((rotr x 17).toNat : Int)) ∧ w = w' := by
  have E1 : Hid ((x.toNat : Int) / (131072 : Int) = ((x >>> 17).toNat : Int)) := shr_val x 17
  have E2 : Hid ((x.toNat : Int) * (32768 : Int) % (4294967296 : Int) = ((x <<< 15).toNat : Int)) := shl_val x 15
  have E3 := Lib.hid (bits_or (x <<< 15) (x >>> 17))
  have hs : bits .and .u64 (IntKind.u64.wrap (-17)) 31 = 15 := by decide +kernel
  go_enter Tryd.func19, Tryd.ntmps19
  go_wp2
  go_ret
  refine ⟨?_, rfl⟩
  show Ending.returned (Value.int IntKind.u32 _) = _
  rw [E1.out, E2.out, E3.out, BitVec.or_comm]
  rfl

theorem right17 (x : W) (w : World) : Calls Tryd.prog 18 #[.int .u32 (x.toNat : Int), .int .i64 17] w fun e w' => e = .returned (.int .u32 ((rotr x 17).toNat : Int)) ∧ w = w' := by
  go_enter Tryd.func18, Tryd.ntmps18
  go_wp2_with fail
  refine (left17 x w).mono ?_
  rintro _ _ ⟨rfl, rfl⟩
  go_wp2
  go_ret
  exact ⟨rfl, rfl⟩

theorem left18 (x : W) (w : World) : Calls Tryd.prog 19 #[.int .u32 (x.toNat : Int), .int .i64 (-18)] w fun e w' => e = .returned (.int .u32 ((rotr x 18).toNat : Int)) ∧ w = w' := by
  have E1 : Hid ((x.toNat : Int) / (262144 : Int) = ((x >>> 18).toNat : Int)) := shr_val x 18
  have E2 : Hid ((x.toNat : Int) * (16384 : Int) % (4294967296 : Int) = ((x <<< 14).toNat : Int)) := shl_val x 14
  have E3 := Lib.hid (bits_or (x <<< 14) (x >>> 18))
  have hs : bits .and .u64 (IntKind.u64.wrap (-18)) 31 = 14 := by decide +kernel
  go_enter Tryd.func19, Tryd.ntmps19
  go_wp2
  go_ret
  refine ⟨?_, rfl⟩
  show Ending.returned (Value.int IntKind.u32 _) = _
  rw [E1.out, E2.out, E3.out, BitVec.or_comm]
  rfl

theorem right18 (x : W) (w : World) : Calls Tryd.prog 18 #[.int .u32 (x.toNat : Int), .int .i64 18] w fun e w' => e = .returned (.int .u32 ((rotr x 18).toNat : Int)) ∧ w = w' := by
  go_enter Tryd.func18, Tryd.ntmps18
  go_wp2_with fail
  refine (left18 x w).mono ?_
  rintro _ _ ⟨rfl, rfl⟩
  go_wp2
  go_ret
  exact ⟨rfl, rfl⟩

theorem left19 (x : W) (w : World) : Calls Tryd.prog 19 #[.int .u32 (x.toNat : Int), .int .i64 (-19)] w fun e w' => e = .returned (.int .u32 ((rotr x 19).toNat : Int)) ∧ w = w' := by
  have E1 : Hid ((x.toNat : Int) / (524288 : Int) = ((x >>> 19).toNat : Int)) := shr_val x 19
  have E2 : Hid ((x.toNat : Int) * (8192 : Int) % (4294967296 : Int) = ((x <<< 13).toNat : Int)) := shl_val x 13
  have E3 := Lib.hid (bits_or (x <<< 13) (x >>> 19))
  have hs : bits .and .u64 (IntKind.u64.wrap (-19)) 31 = 13 := by decide +kernel
  go_enter Tryd.func19, Tryd.ntmps19
  go_wp2
  go_ret
  refine ⟨?_, rfl⟩
  show Ending.returned (Value.int IntKind.u32 _) = _
  rw [E1.out, E2.out, E3.out, BitVec.or_comm]
  rfl

theorem right19 (x : W) (w : World) : Calls Tryd.prog 18 #[.int .u32 (x.toNat : Int), .int .i64 19] w fun e w' => e = .returned (.int .u32 ((rotr x 19).toNat : Int)) ∧ w = w' := by
  go_enter Tryd.func18, Tryd.ntmps18
  go_wp2_with fail
  refine (left19 x w).mono ?_
  rintro _ _ ⟨rfl, rfl⟩
  go_wp2
  go_ret
  exact ⟨rfl, rfl⟩

theorem left22 (x : W) (w : World) : Calls Tryd.prog 19 #[.int .u32 (x.toNat : Int), .int .i64 (-22)] w fun e w' => e = .returned (.int .u32 ((rotr x 22).toNat : Int)) ∧ w = w' := by
  have E1 : Hid ((x.toNat : Int) / (4194304 : Int) = ((x >>> 22).toNat : Int)) := shr_val x 22
  have E2 : Hid ((x.toNat : Int) * (1024 : Int) % (4294967296 : Int) = ((x <<< 10).toNat : Int)) := shl_val x 10
  have E3 := Lib.hid (bits_or (x <<< 10) (x >>> 22))
  have hs : bits .and .u64 (IntKind.u64.wrap (-22)) 31 = 10 := by decide +kernel
  go_enter Tryd.func19, Tryd.ntmps19
  go_wp2
  go_ret
  refine ⟨?_, rfl⟩
  show Ending.returned (Value.int IntKind.u32 _) = _
  rw [E1.out, E2.out, E3.out, BitVec.or_comm]
  rfl

theorem right22 (x : W) (w : World) : Calls Tryd.prog 18 #[.int .u32 (x.toNat : Int), .int .i64 22] w fun e w' => e = .returned (.int .u32 ((rotr x 22).toNat : Int)) ∧ w = w' := by
  go_enter Tryd.func18, Tryd.ntmps18
  go_wp2_with fail
  refine (left22 x w).mono ?_
  rintro _ _ ⟨rfl, rfl⟩
  go_wp2
  go_ret
  exact ⟨rfl, rfl⟩

theorem left25 (x : W) (w : World) : Calls Tryd.prog 19 #[.int .u32 (x.toNat : Int), .int .i64 (-25)] w fun e w' => e = .returned (.int .u32 ((rotr x 25).toNat : Int)) ∧ w = w' := by
  have E1 : Hid ((x.toNat : Int) / (33554432 : Int) = ((x >>> 25).toNat : Int)) := shr_val x 25
  have E2 : Hid ((x.toNat : Int) * (128 : Int) % (4294967296 : Int) = ((x <<< 7).toNat : Int)) := shl_val x 7
  have E3 := Lib.hid (bits_or (x <<< 7) (x >>> 25))
  have hs : bits .and .u64 (IntKind.u64.wrap (-25)) 31 = 7 := by decide +kernel
  go_enter Tryd.func19, Tryd.ntmps19
  go_wp2
  go_ret
  refine ⟨?_, rfl⟩
  show Ending.returned (Value.int IntKind.u32 _) = _
  rw [E1.out, E2.out, E3.out, BitVec.or_comm]
  rfl

theorem right25 (x : W) (w : World) : Calls Tryd.prog 18 #[.int .u32 (x.toNat : Int), .int .i64 25] w fun e w' => e = .returned (.int .u32 ((rotr x 25).toNat : Int)) ∧ w = w' := by
  go_enter Tryd.func18, Tryd.ntmps18
  go_wp2_with fail
  refine (left25 x w).mono ?_
  rintro _ _ ⟨rfl, rfl⟩
  go_wp2
  go_ret
  exact ⟨rfl, rfl⟩

theorem high0_any (x : W) (w : World) : Calls Tryd.prog 14 #[.int .u32 (x.toNat : Int)] w fun e w' => e = .returned (.int .u32 ((big0 x).toNat : Int)) ∧ w = w' := by
  have E1 := Lib.hid (bits_xor (rotr x 2) (rotr x 13))
  have E2 := Lib.hid (bits_xor (rotr x 2 ^^^ rotr x 13) (rotr x 22))
  go_enter Tryd.func14, Tryd.ntmps14
  go_wp2_with fail
  refine (right2 x w).mono ?_
  rintro _ _ ⟨rfl, rfl⟩
  go_wp2_with fail
  refine (right13 x w).mono ?_
  rintro _ _ ⟨rfl, rfl⟩
  go_wp2_with fail
  refine (right22 x w).mono ?_
  rintro _ _ ⟨rfl, rfl⟩
  go_wp2
  go_ret
  refine ⟨?_, rfl⟩
  show Ending.returned (Value.int IntKind.u32 _) = _
  rw [E1.out, E2.out]
  rfl

theorem high1_any (x : W) (w : World) : Calls Tryd.prog 12 #[.int .u32 (x.toNat : Int)] w fun e w' => e = .returned (.int .u32 ((big1 x).toNat : Int)) ∧ w = w' := by
  have E1 := Lib.hid (bits_xor (rotr x 6) (rotr x 11))
  have E2 := Lib.hid (bits_xor (rotr x 6 ^^^ rotr x 11) (rotr x 25))
  go_enter Tryd.func12, Tryd.ntmps12
  go_wp2_with fail
  refine (right6 x w).mono ?_
  rintro _ _ ⟨rfl, rfl⟩
  go_wp2_with fail
  refine (right11 x w).mono ?_
  rintro _ _ ⟨rfl, rfl⟩
  go_wp2_with fail
  refine (right25 x w).mono ?_
  rintro _ _ ⟨rfl, rfl⟩
  go_wp2
  go_ret
  refine ⟨?_, rfl⟩
  show Ending.returned (Value.int IntKind.u32 _) = _
  rw [E1.out, E2.out]
  rfl

theorem low0_any (x : W) (w : World) : Calls Tryd.prog 17 #[.int .u32 (x.toNat : Int)] w fun e w' => e = .returned (.int .u32 ((sig0 x).toNat : Int)) ∧ w = w' := by
  have E1 := Lib.hid (bits_xor (rotr x 7) (rotr x 18))
  have E2 := Lib.hid (bits_xor (rotr x 7 ^^^ rotr x 18) (x >>> 3))
  have E3 : Hid ((x.toNat : Int) / (8 : Int) = ((x >>> 3).toNat : Int)) := shr_val x 3
  go_enter Tryd.func17, Tryd.ntmps17
  go_wp2_with fail
  refine (right7 x w).mono ?_
  rintro _ _ ⟨rfl, rfl⟩
  go_wp2_with fail
  refine (right18 x w).mono ?_
  rintro _ _ ⟨rfl, rfl⟩
  go_wp2
  go_ret
  refine ⟨?_, rfl⟩
  show Ending.returned (Value.int IntKind.u32 _) = _
  rw [E3.out, E1.out, E2.out]
  rfl

theorem low1_any (x : W) (w : World) : Calls Tryd.prog 16 #[.int .u32 (x.toNat : Int)] w fun e w' => e = .returned (.int .u32 ((sig1 x).toNat : Int)) ∧ w = w' := by
  have E1 := Lib.hid (bits_xor (rotr x 17) (rotr x 19))
  have E2 := Lib.hid (bits_xor (rotr x 17 ^^^ rotr x 19) (x >>> 10))
  have E3 : Hid ((x.toNat : Int) / (1024 : Int) = ((x >>> 10).toNat : Int)) := shr_val x 10
  go_enter Tryd.func16, Tryd.ntmps16
  go_wp2_with fail
  refine (right17 x w).mono ?_
  rintro _ _ ⟨rfl, rfl⟩
  go_wp2_with fail
  refine (right19 x w).mono ?_
  rintro _ _ ⟨rfl, rfl⟩
  go_wp2
  go_ret
  refine ⟨?_, rfl⟩
  show Ending.returned (Value.int IntKind.u32 _) = _
  rw [E3.out, E1.out, E2.out]
  rfl

theorem not_val (x : W) : bits .xor .u32 IntKind.u32.max (x.toNat : Int) = ((~~~x).toNat : Int) := by
  have h := bits_xor (BitVec.allOnes 32) x
  have e : IntKind.u32.max = (((BitVec.allOnes 32).toNat : Nat) : Int) := by decide +kernel
  rw [e, h, BitVec.allOnes_xor]

theorem choice_any (x y z : W) (w : World) : Calls Tryd.prog 13 #[.int .u32 (x.toNat : Int), .int .u32 (y.toNat : Int), .int .u32 (z.toNat : Int)] w fun e w' => e = .returned (.int .u32 ((ch x y z).toNat : Int)) ∧ w = w' := by
  have E1 := Lib.hid (bits_and x y)
  have E2 := Lib.hid (bits_and (~~~x) z)
  have E3 := Lib.hid (bits_xor (x &&& y) (~~~x &&& z))
  have E4 := Lib.hid (not_val x)
  go_enter Tryd.func13, Tryd.ntmps13
  go_wp2
  go_ret
  refine ⟨?_, rfl⟩
  show Ending.returned (Value.int IntKind.u32 _) = _
  rw [E1.out, E4.out, E2.out, E3.out]
  rfl

theorem most_any (x y z : W) (w : World) : Calls Tryd.prog 15 #[.int .u32 (x.toNat : Int), .int .u32 (y.toNat : Int), .int .u32 (z.toNat : Int)] w fun e w' => e = .returned (.int .u32 ((maj x y z).toNat : Int)) ∧ w = w' := by
  have E1 := Lib.hid (bits_and x y)
  have E2 := Lib.hid (bits_and x z)
  have E3 := Lib.hid (bits_xor (x &&& y) (x &&& z))
  have E4 := Lib.hid (bits_and y z)
  have E5 := Lib.hid (bits_xor ((x &&& y) ^^^ (x &&& z)) (y &&& z))
  go_enter Tryd.func15, Tryd.ntmps15
  go_wp2
  go_ret
  refine ⟨?_, rfl⟩
  show Ending.returned (Value.int IntKind.u32 _) = _
  rw [E1.out, E2.out, E3.out, E4.out, E5.out]
  rfl

end Go.Proofs.YtlamjdpifhpofaaDoor
