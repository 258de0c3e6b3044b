/- THE CONTRACTS of the reference of layer 2, on: its number and its Decode. -/
import Derived.Test.YtkamljmopbocnaaGreatDoorRef02
namespace Go.Proofs.YtkamljmopbocnaaGreatDoor
open Go.ChangeShapes Go.WideShapes Go.ChangeAt Go.RowKit
set_option maxRecDepth 100000

set_option maxHeartbeats 2000000
theorem num_I (w : Int) (hw : 0 ≤ w) (W : World) : Calls Tryz.prog 41 #[.int .u32 w, .int .u8 73] W fun e w' => e = .returned (.int .u32 (numV w 1)) ∧ Below W.heap.size W w' := by
  have HW := Lib.hid hw
  clear hw
  go_enter Tryz.func41, Tryz.ntmps41
  go_wp2_with fail
  go_at_call 42
  refine (refF_any w 31 31 1 HW.out (by decide) (by decide) (by decide) rfl _).mono ?_
  rintro e w1 ⟨rfl, b1⟩
  have HB := Lib.hid b1
  clear b1
  go_wp2_with fail
  go_at_call 42
  refine (refF_any w 20 31 12 HW.out (by decide) (by decide) (by decide) rfl _).mono ?_
  rintro e w2 ⟨rfl, b2⟩
  have HB := Lib.hid (HB.out.trans (b2.mono HB.out.size))
  clear b2
  have f1 := fld_lt2 w 20 12
  simp only [show ((2 : Nat) ^ (12 : Int).toNat) = 4096 from rfl] at f1
  go_wp2_with fail
  go_at_call 48
  refine (refSext_any _ 12 (by omega) _).mono ?_
  rintro e w3 ⟨rfl, b3⟩
  have HB := Lib.hid (HB.out.trans (b3.mono HB.out.size))
  clear b3
  go_wp2
  go_ret
  refine ⟨ret_int ?_, HB.out⟩
  show _ = ((sxt (gth w [(20, 12)] * 1 % 4294967296) 12 : Nat) : Int)
  rw [gth_one w 20 12 (by omega)]
  exact congrArg (fun z => ((sxt z 12 : Nat) : Int)) (by omega)
theorem num_S (w : Int) (hw : 0 ≤ w) (W : World) : Calls Tryz.prog 41 #[.int .u32 w, .int .u8 83] W fun e w' => e = .returned (.int .u32 (numV w 3)) ∧ Below W.heap.size W w' := by
  have HW := Lib.hid hw
  clear hw
  go_enter Tryz.func41, Tryz.ntmps41
  go_wp2_with fail
  go_at_call 42
  refine (refF_any w 31 31 1 HW.out (by decide) (by decide) (by decide) rfl _).mono ?_
  rintro e w1 ⟨rfl, b1⟩
  have HB := Lib.hid b1
  clear b1
  go_wp2_with fail
  go_at_call 42
  refine (refF_any w 7 11 5 HW.out (by decide) (by decide) (by decide) rfl _).mono ?_
  rintro e w2 ⟨rfl, b2⟩
  have HB := Lib.hid (HB.out.trans (b2.mono HB.out.size))
  clear b2
  go_wp2_with fail
  go_at_call 42
  refine (refF_any w 25 31 7 HW.out (by decide) (by decide) (by decide) rfl _).mono ?_
  rintro e w2 ⟨rfl, b2⟩
  have HB := Lib.hid (HB.out.trans (b2.mono HB.out.size))
  clear b2
  have f1 := fld_lt2 w 7 5
  have f2 := fld_lt2 w 25 7
  simp only [show ((2 : Nat) ^ (5 : Int).toNat) = 32 from rfl, show ((2 : Nat) ^ (7 : Int).toNat) = 128 from rfl] at f1 f2
  go_wp2_with fail
  go_at_call 48
  refine (refSext_any _ 12 (by omega) _).mono ?_
  rintro e w3 ⟨rfl, b3⟩
  have HB := Lib.hid (HB.out.trans (b3.mono HB.out.size))
  clear b3
  go_wp2
  go_ret
  refine ⟨ret_int ?_, HB.out⟩
  show _ = ((sxt (gth w [(7, 5), (25, 7)] * 1 % 4294967296) 12 : Nat) : Int)
  rw [g_s]
  exact congrArg (fun z => ((sxt z 12 : Nat) : Int)) (by omega)
theorem num_B (w : Int) (hw : 0 ≤ w) (W : World) : Calls Tryz.prog 41 #[.int .u32 w, .int .u8 66] W fun e w' => e = .returned (.int .u32 (numV w 4)) ∧ Below W.heap.size W w' := by
  have HW := Lib.hid hw
  clear hw
  go_enter Tryz.func41, Tryz.ntmps41
  go_wp2_with fail
  go_at_call 42
  refine (refF_any w 31 31 1 HW.out (by decide) (by decide) (by decide) rfl _).mono ?_
  rintro e w1 ⟨rfl, b1⟩
  have HB := Lib.hid b1
  clear b1
  go_wp2_with fail
  go_at_call 42
  refine (refF_any w 8 11 4 HW.out (by decide) (by decide) (by decide) rfl _).mono ?_
  rintro e w2 ⟨rfl, b2⟩
  have HB := Lib.hid (HB.out.trans (b2.mono HB.out.size))
  clear b2
  go_wp2_with fail
  go_at_call 42
  refine (refF_any w 25 30 6 HW.out (by decide) (by decide) (by decide) rfl _).mono ?_
  rintro e w2 ⟨rfl, b2⟩
  have HB := Lib.hid (HB.out.trans (b2.mono HB.out.size))
  clear b2
  go_wp2_with fail
  go_at_call 42
  refine (refF_any w 7 7 1 HW.out (by decide) (by decide) (by decide) rfl _).mono ?_
  rintro e w2 ⟨rfl, b2⟩
  have HB := Lib.hid (HB.out.trans (b2.mono HB.out.size))
  clear b2
  have f1 := fld_lt2 w 8 4
  have f2 := fld_lt2 w 25 6
  have f3 := fld_lt2 w 7 1
  have f4 := fld_lt2 w 31 1
  simp only [show ((2 : Nat) ^ (4 : Int).toNat) = 16 from rfl, show ((2 : Nat) ^ (6 : Int).toNat) = 64 from rfl, show ((2 : Nat) ^ (1 : Int).toNat) = 2 from rfl] at f1 f2 f3 f4
  go_wp2_with fail
  go_at_call 48
  refine (refSext_any _ 13 (by omega) _).mono ?_
  rintro e w3 ⟨rfl, b3⟩
  have HB := Lib.hid (HB.out.trans (b3.mono HB.out.size))
  clear b3
  go_wp2
  go_ret
  refine ⟨ret_int ?_, HB.out⟩
  show _ = ((sxt (gth w [(8, 4), (25, 6), (7, 1), (31, 1)] * 2 % 4294967296) 13 : Nat) : Int)
  rw [g_b]
  exact congrArg (fun z => ((sxt z 13 : Nat) : Int)) (by omega)
theorem num_J (w : Int) (hw : 0 ≤ w) (W : World) : Calls Tryz.prog 41 #[.int .u32 w, .int .u8 74] W fun e w' => e = .returned (.int .u32 (numV w 6)) ∧ Below W.heap.size W w' := by
  have HW := Lib.hid hw
  clear hw
  go_enter Tryz.func41, Tryz.ntmps41
  go_wp2_with fail
  go_at_call 42
  refine (refF_any w 31 31 1 HW.out (by decide) (by decide) (by decide) rfl _).mono ?_
  rintro e w1 ⟨rfl, b1⟩
  have HB := Lib.hid b1
  clear b1
  go_wp2_with fail
  go_at_call 42
  refine (refF_any w 21 30 10 HW.out (by decide) (by decide) (by decide) rfl _).mono ?_
  rintro e w2 ⟨rfl, b2⟩
  have HB := Lib.hid (HB.out.trans (b2.mono HB.out.size))
  clear b2
  go_wp2_with fail
  go_at_call 42
  refine (refF_any w 20 20 1 HW.out (by decide) (by decide) (by decide) rfl _).mono ?_
  rintro e w2 ⟨rfl, b2⟩
  have HB := Lib.hid (HB.out.trans (b2.mono HB.out.size))
  clear b2
  go_wp2_with fail
  go_at_call 42
  refine (refF_any w 12 19 8 HW.out (by decide) (by decide) (by decide) rfl _).mono ?_
  rintro e w2 ⟨rfl, b2⟩
  have HB := Lib.hid (HB.out.trans (b2.mono HB.out.size))
  clear b2
  have f1 := fld_lt2 w 21 10
  have f2 := fld_lt2 w 20 1
  have f3 := fld_lt2 w 12 8
  have f4 := fld_lt2 w 31 1
  simp only [show ((2 : Nat) ^ (10 : Int).toNat) = 1024 from rfl, show ((2 : Nat) ^ (8 : Int).toNat) = 256 from rfl, show ((2 : Nat) ^ (1 : Int).toNat) = 2 from rfl] at f1 f2 f3 f4
  go_wp2_with fail
  go_at_call 48
  refine (refSext_any _ 21 (by omega) _).mono ?_
  rintro e w3 ⟨rfl, b3⟩
  have HB := Lib.hid (HB.out.trans (b3.mono HB.out.size))
  clear b3
  go_wp2
  go_ret
  refine ⟨ret_int ?_, HB.out⟩
  show _ = ((sxt (gth w [(21, 10), (20, 1), (12, 8), (31, 1)] * 2 % 4294967296) 21 : Nat) : Int)
  rw [g_j]
  exact congrArg (fun z => ((sxt z 21 : Nat) : Int)) (by omega)
theorem num_U (w : Int) (hw : 0 ≤ w) (W : World) : Calls Tryz.prog 41 #[.int .u32 w, .int .u8 85] W fun e w' => e = .returned (.int .u32 (numV w 5)) ∧ Below W.heap.size W w' := by
  have HW := Lib.hid hw
  clear hw
  go_enter Tryz.func41, Tryz.ntmps41
  go_wp2_with fail
  go_at_call 42
  refine (refF_any w 31 31 1 HW.out (by decide) (by decide) (by decide) rfl _).mono ?_
  rintro e w1 ⟨rfl, b1⟩
  have HB := Lib.hid b1
  clear b1
  go_wp2_with fail
  go_at_call 42
  refine (refF_any w 12 31 20 HW.out (by decide) (by decide) (by decide) rfl _).mono ?_
  rintro e w2 ⟨rfl, b2⟩
  have HB := Lib.hid (HB.out.trans (b2.mono HB.out.size))
  clear b2
  have f1 := fld_lt2 w 12 20
  simp only [show ((2 : Nat) ^ (20 : Int).toNat) = 1048576 from rfl] at f1
  go_wp2
  go_ret
  refine ⟨ret_int ?_, HB.out⟩
  show _ = ((sxt (gth w [(12, 20)] * 4096 % 4294967296) 0 : Nat) : Int)
  rw [gth_one w 12 20 (by omega), sxt0 _ (by omega)]
  omega
theorem num_T (w : Int) (hw : 0 ≤ w) (W : World) : Calls Tryz.prog 41 #[.int .u32 w, .int .u8 84] W fun e w' => e = .returned (.int .u32 (numV w 2)) ∧ Below W.heap.size W w' := by
  have HW := Lib.hid hw
  clear hw
  go_enter Tryz.func41, Tryz.ntmps41
  go_wp2_with fail
  go_at_call 42
  refine (refF_any w 31 31 1 HW.out (by decide) (by decide) (by decide) rfl _).mono ?_
  rintro e w1 ⟨rfl, b1⟩
  have HB := Lib.hid b1
  clear b1
  go_wp2_with fail
  go_at_call 42
  refine (refF_any w 20 24 5 HW.out (by decide) (by decide) (by decide) rfl _).mono ?_
  rintro e w2 ⟨rfl, b2⟩
  have HB := Lib.hid (HB.out.trans (b2.mono HB.out.size))
  clear b2
  have f1 := fld_lt2 w 20 5
  simp only [show ((2 : Nat) ^ (5 : Int).toNat) = 32 from rfl] at f1
  go_wp2
  go_ret
  refine ⟨ret_int ?_, HB.out⟩
  show _ = ((sxt (gth w [(20, 5)] * 1 % 4294967296) 0 : Nat) : Int)
  rw [gth_one w 20 5 (by omega), sxt0 _ (by omega)]
  omega
theorem num_R (w : Int) (hw : 0 ≤ w) (W : World) : Calls Tryz.prog 41 #[.int .u32 w, .int .u8 82] W fun e w' => e = .returned (.int .u32 (numV w 0)) ∧ Below W.heap.size W w' := by
  have HW := Lib.hid hw
  clear hw
  go_enter Tryz.func41, Tryz.ntmps41
  go_wp2_with fail
  go_at_call 42
  refine (refF_any w 31 31 1 HW.out (by decide) (by decide) (by decide) rfl _).mono ?_
  rintro e w1 ⟨rfl, b1⟩
  have HB := Lib.hid b1
  clear b1
  go_wp2
  go_ret
  exact ⟨ret_int (num_nil _ _ rfl).symm, HB.out⟩
theorem num_W (w : Int) (hw : 0 ≤ w) (W : World) : Calls Tryz.prog 41 #[.int .u32 w, .int .u8 87] W fun e w' => e = .returned (.int .u32 (numV w 7)) ∧ Below W.heap.size W w' := by
  have HW := Lib.hid hw
  clear hw
  go_enter Tryz.func41, Tryz.ntmps41
  go_wp2_with fail
  go_at_call 42
  refine (refF_any w 31 31 1 HW.out (by decide) (by decide) (by decide) rfl _).mono ?_
  rintro e w1 ⟨rfl, b1⟩
  have HB := Lib.hid b1
  clear b1
  go_wp2
  go_ret
  exact ⟨ret_int (num_nil _ _ rfl).symm, HB.out⟩

end Go.Proofs.YtkamljmopbocnaaGreatDoor
