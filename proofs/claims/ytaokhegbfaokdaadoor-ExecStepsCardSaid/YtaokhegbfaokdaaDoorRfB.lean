import Derived.Test.YtaokhegbfaokdaaDoorInstKinds
import Derived.WalkLawsBesides
import Derived.Test.YtaokhegbfaokdaaDoorInstWrites
import Derived.Test.YtaokhegbfaokdaaDoorExecV
import Derived.Test.YtaokhegbfaokdaaDoorAluR
/- THE CONTRACT of auspexref02's Kind, of whatever number. -/
namespace Go.Proofs.YtaokhegbfaokdaaDoor
open Go.ChangeShapes Go.WideShapes Go.ChangeAt Go.RowKit
set_option linter.unusedVariables false
set_option linter.unusedSimpArgs false
set_option maxHeartbeats 4000000
set_option maxRecDepth 100000

def formF (o : Int) : Int := if o < 1 ∨ 48 < o then 0 else if o = 1 ∨ o = 2 then 85 else if o = 3 then 74 else if 5 ≤ o ∧ o ≤ 10 then 66 else if 16 ≤ o ∧ o ≤ 18 then 83 else if 25 ≤ o ∧ o ≤ 27 then 84 else if 46 ≤ o then 87 else if o = 4 ∨ (11 ≤ o ∧ o ≤ 15) ∨ (19 ≤ o ∧ o ≤ 24) then 73 else 82
theorem refForm_in (op : Int) (h : 1 ≤ op ∧ op ≤ 48) (w : World) : Calls Tryd.prog 18 #[.int .i64 op] w fun e w' => e = .returned (.int .u8 (formF op)) ∧ w = w' := by
  have ho : op = 1 ∨ op = 2 ∨ op = 3 ∨ op = 4 ∨ op = 5 ∨ op = 6 ∨ op = 7 ∨ op = 8 ∨ op = 9 ∨ op = 10 ∨ op = 11 ∨ op = 12 ∨ op = 13 ∨ op = 14 ∨ op = 15 ∨ op = 16 ∨ op = 17 ∨ op = 18 ∨ op = 19 ∨ op = 20 ∨ op = 21 ∨ op = 22 ∨ op = 23 ∨ op = 24 ∨ op = 25 ∨ op = 26 ∨ op = 27 ∨ op = 28 ∨ op = 29 ∨ op = 30 ∨ op = 31 ∨ op = 32 ∨ op = 33 ∨ op = 34 ∨ op = 35 ∨ op = 36 ∨ op = 37 ∨ op = 38 ∨ op = 39 ∨ op = 40 ∨ op = 41 ∨ op = 42 ∨ op = 43 ∨ op = 44 ∨ op = 45 ∨ op = 46 ∨ op = 47 ∨ op = 48 := by omega
  clear h
  rcases ho with rfl | rfl | rfl | rfl | rfl | rfl | rfl | rfl | rfl | rfl | rfl | rfl | rfl | rfl | rfl | rfl | rfl | rfl | rfl | rfl | rfl | rfl | rfl | rfl | rfl | rfl | rfl | rfl | rfl | rfl | rfl | rfl | rfl | rfl | rfl | rfl | rfl | rfl | rfl | rfl | rfl | rfl | rfl | rfl | rfl | rfl | rfl | rfl
  all_goals
    go_enter Tryd.func18, Tryd.ntmps18
    go_wp2
    go_ret
    exact ⟨rfl, rfl⟩
theorem refKind_in (op : Int) (h : 1 ≤ op ∧ op ≤ 48) (w : World) : Calls Tryd.prog 5 #[.int .i64 op] w fun e w' => e = .returned (.int .i64 (kindI op)) ∧ w = w' := by
  have ho : op = 1 ∨ op = 2 ∨ op = 3 ∨ op = 4 ∨ op = 5 ∨ op = 6 ∨ op = 7 ∨ op = 8 ∨ op = 9 ∨ op = 10 ∨ op = 11 ∨ op = 12 ∨ op = 13 ∨ op = 14 ∨ op = 15 ∨ op = 16 ∨ op = 17 ∨ op = 18 ∨ op = 19 ∨ op = 20 ∨ op = 21 ∨ op = 22 ∨ op = 23 ∨ op = 24 ∨ op = 25 ∨ op = 26 ∨ op = 27 ∨ op = 28 ∨ op = 29 ∨ op = 30 ∨ op = 31 ∨ op = 32 ∨ op = 33 ∨ op = 34 ∨ op = 35 ∨ op = 36 ∨ op = 37 ∨ op = 38 ∨ op = 39 ∨ op = 40 ∨ op = 41 ∨ op = 42 ∨ op = 43 ∨ op = 44 ∨ op = 45 ∨ op = 46 ∨ op = 47 ∨ op = 48 := by omega
  clear h
  rcases ho with rfl | rfl | rfl | rfl | rfl | rfl | rfl | rfl | rfl | rfl | rfl | rfl | rfl | rfl | rfl | rfl | rfl | rfl | rfl | rfl | rfl | rfl | rfl | rfl | rfl | rfl | rfl | rfl | rfl | rfl | rfl | rfl | rfl | rfl | rfl | rfl | rfl | rfl | rfl | rfl | rfl | rfl | rfl | rfl | rfl | rfl | rfl | rfl
  · have HF := Lib.hid (show ∀ w, Calls Tryd.prog 18 #[.int .i64 1] w fun e w' => e = .returned (.int .u8 85) ∧ w = w' from fun w => refForm_in 1 (by decide) w)
    go_enter Tryd.func5, Tryd.ntmps5
    go_wp2_with (go_at_call 18; refine (HF.out _).mono ?_; rintro e w1 ⟨rfl, rfl⟩)
    go_ret
    exact ⟨rfl, rfl⟩
  · have HF := Lib.hid (show ∀ w, Calls Tryd.prog 18 #[.int .i64 2] w fun e w' => e = .returned (.int .u8 85) ∧ w = w' from fun w => refForm_in 2 (by decide) w)
    go_enter Tryd.func5, Tryd.ntmps5
    go_wp2_with (go_at_call 18; refine (HF.out _).mono ?_; rintro e w1 ⟨rfl, rfl⟩)
    go_ret
    exact ⟨rfl, rfl⟩
  · have HF := Lib.hid (show ∀ w, Calls Tryd.prog 18 #[.int .i64 3] w fun e w' => e = .returned (.int .u8 74) ∧ w = w' from fun w => refForm_in 3 (by decide) w)
    go_enter Tryd.func5, Tryd.ntmps5
    go_wp2_with (go_at_call 18; refine (HF.out _).mono ?_; rintro e w1 ⟨rfl, rfl⟩)
    go_ret
    exact ⟨rfl, rfl⟩
  · have HF := Lib.hid (show ∀ w, Calls Tryd.prog 18 #[.int .i64 4] w fun e w' => e = .returned (.int .u8 73) ∧ w = w' from fun w => refForm_in 4 (by decide) w)
    go_enter Tryd.func5, Tryd.ntmps5
    go_wp2_with (go_at_call 18; refine (HF.out _).mono ?_; rintro e w1 ⟨rfl, rfl⟩)
    go_ret
    exact ⟨rfl, rfl⟩
  · have HF := Lib.hid (show ∀ w, Calls Tryd.prog 18 #[.int .i64 5] w fun e w' => e = .returned (.int .u8 66) ∧ w = w' from fun w => refForm_in 5 (by decide) w)
    go_enter Tryd.func5, Tryd.ntmps5
    go_wp2_with (go_at_call 18; refine (HF.out _).mono ?_; rintro e w1 ⟨rfl, rfl⟩)
    go_ret
    exact ⟨rfl, rfl⟩
  · have HF := Lib.hid (show ∀ w, Calls Tryd.prog 18 #[.int .i64 6] w fun e w' => e = .returned (.int .u8 66) ∧ w = w' from fun w => refForm_in 6 (by decide) w)
    go_enter Tryd.func5, Tryd.ntmps5
    go_wp2_with (go_at_call 18; refine (HF.out _).mono ?_; rintro e w1 ⟨rfl, rfl⟩)
    go_ret
    exact ⟨rfl, rfl⟩
  · have HF := Lib.hid (show ∀ w, Calls Tryd.prog 18 #[.int .i64 7] w fun e w' => e = .returned (.int .u8 66) ∧ w = w' from fun w => refForm_in 7 (by decide) w)
    go_enter Tryd.func5, Tryd.ntmps5
    go_wp2_with (go_at_call 18; refine (HF.out _).mono ?_; rintro e w1 ⟨rfl, rfl⟩)
    go_ret
    exact ⟨rfl, rfl⟩
  · have HF := Lib.hid (show ∀ w, Calls Tryd.prog 18 #[.int .i64 8] w fun e w' => e = .returned (.int .u8 66) ∧ w = w' from fun w => refForm_in 8 (by decide) w)
    go_enter Tryd.func5, Tryd.ntmps5
    go_wp2_with (go_at_call 18; refine (HF.out _).mono ?_; rintro e w1 ⟨rfl, rfl⟩)
    go_ret
    exact ⟨rfl, rfl⟩
  · have HF := Lib.hid (show ∀ w, Calls Tryd.prog 18 #[.int .i64 9] w fun e w' => e = .returned (.int .u8 66) ∧ w = w' from fun w => refForm_in 9 (by decide) w)
    go_enter Tryd.func5, Tryd.ntmps5
    go_wp2_with (go_at_call 18; refine (HF.out _).mono ?_; rintro e w1 ⟨rfl, rfl⟩)
    go_ret
    exact ⟨rfl, rfl⟩
  · have HF := Lib.hid (show ∀ w, Calls Tryd.prog 18 #[.int .i64 10] w fun e w' => e = .returned (.int .u8 66) ∧ w = w' from fun w => refForm_in 10 (by decide) w)
    go_enter Tryd.func5, Tryd.ntmps5
    go_wp2_with (go_at_call 18; refine (HF.out _).mono ?_; rintro e w1 ⟨rfl, rfl⟩)
    go_ret
    exact ⟨rfl, rfl⟩
  · have HF := Lib.hid (show ∀ w, Calls Tryd.prog 18 #[.int .i64 11] w fun e w' => e = .returned (.int .u8 73) ∧ w = w' from fun w => refForm_in 11 (by decide) w)
    go_enter Tryd.func5, Tryd.ntmps5
    go_wp2_with (go_at_call 18; refine (HF.out _).mono ?_; rintro e w1 ⟨rfl, rfl⟩)
    go_ret
    exact ⟨rfl, rfl⟩
  · have HF := Lib.hid (show ∀ w, Calls Tryd.prog 18 #[.int .i64 12] w fun e w' => e = .returned (.int .u8 73) ∧ w = w' from fun w => refForm_in 12 (by decide) w)
    go_enter Tryd.func5, Tryd.ntmps5
    go_wp2_with (go_at_call 18; refine (HF.out _).mono ?_; rintro e w1 ⟨rfl, rfl⟩)
    go_ret
    exact ⟨rfl, rfl⟩
  · have HF := Lib.hid (show ∀ w, Calls Tryd.prog 18 #[.int .i64 13] w fun e w' => e = .returned (.int .u8 73) ∧ w = w' from fun w => refForm_in 13 (by decide) w)
    go_enter Tryd.func5, Tryd.ntmps5
    go_wp2_with (go_at_call 18; refine (HF.out _).mono ?_; rintro e w1 ⟨rfl, rfl⟩)
    go_ret
    exact ⟨rfl, rfl⟩
  · have HF := Lib.hid (show ∀ w, Calls Tryd.prog 18 #[.int .i64 14] w fun e w' => e = .returned (.int .u8 73) ∧ w = w' from fun w => refForm_in 14 (by decide) w)
    go_enter Tryd.func5, Tryd.ntmps5
    go_wp2_with (go_at_call 18; refine (HF.out _).mono ?_; rintro e w1 ⟨rfl, rfl⟩)
    go_ret
    exact ⟨rfl, rfl⟩
  · have HF := Lib.hid (show ∀ w, Calls Tryd.prog 18 #[.int .i64 15] w fun e w' => e = .returned (.int .u8 73) ∧ w = w' from fun w => refForm_in 15 (by decide) w)
    go_enter Tryd.func5, Tryd.ntmps5
    go_wp2_with (go_at_call 18; refine (HF.out _).mono ?_; rintro e w1 ⟨rfl, rfl⟩)
    go_ret
    exact ⟨rfl, rfl⟩
  · have HF := Lib.hid (show ∀ w, Calls Tryd.prog 18 #[.int .i64 16] w fun e w' => e = .returned (.int .u8 83) ∧ w = w' from fun w => refForm_in 16 (by decide) w)
    go_enter Tryd.func5, Tryd.ntmps5
    go_wp2_with (go_at_call 18; refine (HF.out _).mono ?_; rintro e w1 ⟨rfl, rfl⟩)
    go_ret
    exact ⟨rfl, rfl⟩
  · have HF := Lib.hid (show ∀ w, Calls Tryd.prog 18 #[.int .i64 17] w fun e w' => e = .returned (.int .u8 83) ∧ w = w' from fun w => refForm_in 17 (by decide) w)
    go_enter Tryd.func5, Tryd.ntmps5
    go_wp2_with (go_at_call 18; refine (HF.out _).mono ?_; rintro e w1 ⟨rfl, rfl⟩)
    go_ret
    exact ⟨rfl, rfl⟩
  · have HF := Lib.hid (show ∀ w, Calls Tryd.prog 18 #[.int .i64 18] w fun e w' => e = .returned (.int .u8 83) ∧ w = w' from fun w => refForm_in 18 (by decide) w)
    go_enter Tryd.func5, Tryd.ntmps5
    go_wp2_with (go_at_call 18; refine (HF.out _).mono ?_; rintro e w1 ⟨rfl, rfl⟩)
    go_ret
    exact ⟨rfl, rfl⟩
  · have HF := Lib.hid (show ∀ w, Calls Tryd.prog 18 #[.int .i64 19] w fun e w' => e = .returned (.int .u8 73) ∧ w = w' from fun w => refForm_in 19 (by decide) w)
    go_enter Tryd.func5, Tryd.ntmps5
    go_wp2_with (go_at_call 18; refine (HF.out _).mono ?_; rintro e w1 ⟨rfl, rfl⟩)
    go_ret
    exact ⟨rfl, rfl⟩
  · have HF := Lib.hid (show ∀ w, Calls Tryd.prog 18 #[.int .i64 20] w fun e w' => e = .returned (.int .u8 73) ∧ w = w' from fun w => refForm_in 20 (by decide) w)
    go_enter Tryd.func5, Tryd.ntmps5
    go_wp2_with (go_at_call 18; refine (HF.out _).mono ?_; rintro e w1 ⟨rfl, rfl⟩)
    go_ret
    exact ⟨rfl, rfl⟩
  · have HF := Lib.hid (show ∀ w, Calls Tryd.prog 18 #[.int .i64 21] w fun e w' => e = .returned (.int .u8 73) ∧ w = w' from fun w => refForm_in 21 (by decide) w)
    go_enter Tryd.func5, Tryd.ntmps5
    go_wp2_with (go_at_call 18; refine (HF.out _).mono ?_; rintro e w1 ⟨rfl, rfl⟩)
    go_ret
    exact ⟨rfl, rfl⟩
  · have HF := Lib.hid (show ∀ w, Calls Tryd.prog 18 #[.int .i64 22] w fun e w' => e = .returned (.int .u8 73) ∧ w = w' from fun w => refForm_in 22 (by decide) w)
    go_enter Tryd.func5, Tryd.ntmps5
    go_wp2_with (go_at_call 18; refine (HF.out _).mono ?_; rintro e w1 ⟨rfl, rfl⟩)
    go_ret
    exact ⟨rfl, rfl⟩
  · have HF := Lib.hid (show ∀ w, Calls Tryd.prog 18 #[.int .i64 23] w fun e w' => e = .returned (.int .u8 73) ∧ w = w' from fun w => refForm_in 23 (by decide) w)
    go_enter Tryd.func5, Tryd.ntmps5
    go_wp2_with (go_at_call 18; refine (HF.out _).mono ?_; rintro e w1 ⟨rfl, rfl⟩)
    go_ret
    exact ⟨rfl, rfl⟩
  · have HF := Lib.hid (show ∀ w, Calls Tryd.prog 18 #[.int .i64 24] w fun e w' => e = .returned (.int .u8 73) ∧ w = w' from fun w => refForm_in 24 (by decide) w)
    go_enter Tryd.func5, Tryd.ntmps5
    go_wp2_with (go_at_call 18; refine (HF.out _).mono ?_; rintro e w1 ⟨rfl, rfl⟩)
    go_ret
    exact ⟨rfl, rfl⟩
  · have HF := Lib.hid (show ∀ w, Calls Tryd.prog 18 #[.int .i64 25] w fun e w' => e = .returned (.int .u8 84) ∧ w = w' from fun w => refForm_in 25 (by decide) w)
    go_enter Tryd.func5, Tryd.ntmps5
    go_wp2_with (go_at_call 18; refine (HF.out _).mono ?_; rintro e w1 ⟨rfl, rfl⟩)
    go_ret
    exact ⟨rfl, rfl⟩
  · have HF := Lib.hid (show ∀ w, Calls Tryd.prog 18 #[.int .i64 26] w fun e w' => e = .returned (.int .u8 84) ∧ w = w' from fun w => refForm_in 26 (by decide) w)
    go_enter Tryd.func5, Tryd.ntmps5
    go_wp2_with (go_at_call 18; refine (HF.out _).mono ?_; rintro e w1 ⟨rfl, rfl⟩)
    go_ret
    exact ⟨rfl, rfl⟩
  · have HF := Lib.hid (show ∀ w, Calls Tryd.prog 18 #[.int .i64 27] w fun e w' => e = .returned (.int .u8 84) ∧ w = w' from fun w => refForm_in 27 (by decide) w)
    go_enter Tryd.func5, Tryd.ntmps5
    go_wp2_with (go_at_call 18; refine (HF.out _).mono ?_; rintro e w1 ⟨rfl, rfl⟩)
    go_ret
    exact ⟨rfl, rfl⟩
  · have HF := Lib.hid (show ∀ w, Calls Tryd.prog 18 #[.int .i64 28] w fun e w' => e = .returned (.int .u8 82) ∧ w = w' from fun w => refForm_in 28 (by decide) w)
    go_enter Tryd.func5, Tryd.ntmps5
    go_wp2_with (go_at_call 18; refine (HF.out _).mono ?_; rintro e w1 ⟨rfl, rfl⟩)
    go_ret
    exact ⟨rfl, rfl⟩
  · have HF := Lib.hid (show ∀ w, Calls Tryd.prog 18 #[.int .i64 29] w fun e w' => e = .returned (.int .u8 82) ∧ w = w' from fun w => refForm_in 29 (by decide) w)
    go_enter Tryd.func5, Tryd.ntmps5
    go_wp2_with (go_at_call 18; refine (HF.out _).mono ?_; rintro e w1 ⟨rfl, rfl⟩)
    go_ret
    exact ⟨rfl, rfl⟩
  · have HF := Lib.hid (show ∀ w, Calls Tryd.prog 18 #[.int .i64 30] w fun e w' => e = .returned (.int .u8 82) ∧ w = w' from fun w => refForm_in 30 (by decide) w)
    go_enter Tryd.func5, Tryd.ntmps5
    go_wp2_with (go_at_call 18; refine (HF.out _).mono ?_; rintro e w1 ⟨rfl, rfl⟩)
    go_ret
    exact ⟨rfl, rfl⟩
  · have HF := Lib.hid (show ∀ w, Calls Tryd.prog 18 #[.int .i64 31] w fun e w' => e = .returned (.int .u8 82) ∧ w = w' from fun w => refForm_in 31 (by decide) w)
    go_enter Tryd.func5, Tryd.ntmps5
    go_wp2_with (go_at_call 18; refine (HF.out _).mono ?_; rintro e w1 ⟨rfl, rfl⟩)
    go_ret
    exact ⟨rfl, rfl⟩
  · have HF := Lib.hid (show ∀ w, Calls Tryd.prog 18 #[.int .i64 32] w fun e w' => e = .returned (.int .u8 82) ∧ w = w' from fun w => refForm_in 32 (by decide) w)
    go_enter Tryd.func5, Tryd.ntmps5
    go_wp2_with (go_at_call 18; refine (HF.out _).mono ?_; rintro e w1 ⟨rfl, rfl⟩)
    go_ret
    exact ⟨rfl, rfl⟩
  · have HF := Lib.hid (show ∀ w, Calls Tryd.prog 18 #[.int .i64 33] w fun e w' => e = .returned (.int .u8 82) ∧ w = w' from fun w => refForm_in 33 (by decide) w)
    go_enter Tryd.func5, Tryd.ntmps5
    go_wp2_with (go_at_call 18; refine (HF.out _).mono ?_; rintro e w1 ⟨rfl, rfl⟩)
    go_ret
    exact ⟨rfl, rfl⟩
  · have HF := Lib.hid (show ∀ w, Calls Tryd.prog 18 #[.int .i64 34] w fun e w' => e = .returned (.int .u8 82) ∧ w = w' from fun w => refForm_in 34 (by decide) w)
    go_enter Tryd.func5, Tryd.ntmps5
    go_wp2_with (go_at_call 18; refine (HF.out _).mono ?_; rintro e w1 ⟨rfl, rfl⟩)
    go_ret
    exact ⟨rfl, rfl⟩
  · have HF := Lib.hid (show ∀ w, Calls Tryd.prog 18 #[.int .i64 35] w fun e w' => e = .returned (.int .u8 82) ∧ w = w' from fun w => refForm_in 35 (by decide) w)
    go_enter Tryd.func5, Tryd.ntmps5
    go_wp2_with (go_at_call 18; refine (HF.out _).mono ?_; rintro e w1 ⟨rfl, rfl⟩)
    go_ret
    exact ⟨rfl, rfl⟩
  · have HF := Lib.hid (show ∀ w, Calls Tryd.prog 18 #[.int .i64 36] w fun e w' => e = .returned (.int .u8 82) ∧ w = w' from fun w => refForm_in 36 (by decide) w)
    go_enter Tryd.func5, Tryd.ntmps5
    go_wp2_with (go_at_call 18; refine (HF.out _).mono ?_; rintro e w1 ⟨rfl, rfl⟩)
    go_ret
    exact ⟨rfl, rfl⟩
  · have HF := Lib.hid (show ∀ w, Calls Tryd.prog 18 #[.int .i64 37] w fun e w' => e = .returned (.int .u8 82) ∧ w = w' from fun w => refForm_in 37 (by decide) w)
    go_enter Tryd.func5, Tryd.ntmps5
    go_wp2_with (go_at_call 18; refine (HF.out _).mono ?_; rintro e w1 ⟨rfl, rfl⟩)
    go_ret
    exact ⟨rfl, rfl⟩
  · have HF := Lib.hid (show ∀ w, Calls Tryd.prog 18 #[.int .i64 38] w fun e w' => e = .returned (.int .u8 82) ∧ w = w' from fun w => refForm_in 38 (by decide) w)
    go_enter Tryd.func5, Tryd.ntmps5
    go_wp2_with (go_at_call 18; refine (HF.out _).mono ?_; rintro e w1 ⟨rfl, rfl⟩)
    go_ret
    exact ⟨rfl, rfl⟩
  · have HF := Lib.hid (show ∀ w, Calls Tryd.prog 18 #[.int .i64 39] w fun e w' => e = .returned (.int .u8 82) ∧ w = w' from fun w => refForm_in 39 (by decide) w)
    go_enter Tryd.func5, Tryd.ntmps5
    go_wp2_with (go_at_call 18; refine (HF.out _).mono ?_; rintro e w1 ⟨rfl, rfl⟩)
    go_ret
    exact ⟨rfl, rfl⟩
  · have HF := Lib.hid (show ∀ w, Calls Tryd.prog 18 #[.int .i64 40] w fun e w' => e = .returned (.int .u8 82) ∧ w = w' from fun w => refForm_in 40 (by decide) w)
    go_enter Tryd.func5, Tryd.ntmps5
    go_wp2_with (go_at_call 18; refine (HF.out _).mono ?_; rintro e w1 ⟨rfl, rfl⟩)
    go_ret
    exact ⟨rfl, rfl⟩
  · have HF := Lib.hid (show ∀ w, Calls Tryd.prog 18 #[.int .i64 41] w fun e w' => e = .returned (.int .u8 82) ∧ w = w' from fun w => refForm_in 41 (by decide) w)
    go_enter Tryd.func5, Tryd.ntmps5
    go_wp2_with (go_at_call 18; refine (HF.out _).mono ?_; rintro e w1 ⟨rfl, rfl⟩)
    go_ret
    exact ⟨rfl, rfl⟩
  · have HF := Lib.hid (show ∀ w, Calls Tryd.prog 18 #[.int .i64 42] w fun e w' => e = .returned (.int .u8 82) ∧ w = w' from fun w => refForm_in 42 (by decide) w)
    go_enter Tryd.func5, Tryd.ntmps5
    go_wp2_with (go_at_call 18; refine (HF.out _).mono ?_; rintro e w1 ⟨rfl, rfl⟩)
    go_ret
    exact ⟨rfl, rfl⟩
  · have HF := Lib.hid (show ∀ w, Calls Tryd.prog 18 #[.int .i64 43] w fun e w' => e = .returned (.int .u8 82) ∧ w = w' from fun w => refForm_in 43 (by decide) w)
    go_enter Tryd.func5, Tryd.ntmps5
    go_wp2_with (go_at_call 18; refine (HF.out _).mono ?_; rintro e w1 ⟨rfl, rfl⟩)
    go_ret
    exact ⟨rfl, rfl⟩
  · have HF := Lib.hid (show ∀ w, Calls Tryd.prog 18 #[.int .i64 44] w fun e w' => e = .returned (.int .u8 82) ∧ w = w' from fun w => refForm_in 44 (by decide) w)
    go_enter Tryd.func5, Tryd.ntmps5
    go_wp2_with (go_at_call 18; refine (HF.out _).mono ?_; rintro e w1 ⟨rfl, rfl⟩)
    go_ret
    exact ⟨rfl, rfl⟩
  · have HF := Lib.hid (show ∀ w, Calls Tryd.prog 18 #[.int .i64 45] w fun e w' => e = .returned (.int .u8 82) ∧ w = w' from fun w => refForm_in 45 (by decide) w)
    go_enter Tryd.func5, Tryd.ntmps5
    go_wp2_with (go_at_call 18; refine (HF.out _).mono ?_; rintro e w1 ⟨rfl, rfl⟩)
    go_ret
    exact ⟨rfl, rfl⟩
  · have HF := Lib.hid (show ∀ w, Calls Tryd.prog 18 #[.int .i64 46] w fun e w' => e = .returned (.int .u8 87) ∧ w = w' from fun w => refForm_in 46 (by decide) w)
    go_enter Tryd.func5, Tryd.ntmps5
    go_wp2_with (go_at_call 18; refine (HF.out _).mono ?_; rintro e w1 ⟨rfl, rfl⟩)
    go_ret
    exact ⟨rfl, rfl⟩
  · have HF := Lib.hid (show ∀ w, Calls Tryd.prog 18 #[.int .i64 47] w fun e w' => e = .returned (.int .u8 87) ∧ w = w' from fun w => refForm_in 47 (by decide) w)
    go_enter Tryd.func5, Tryd.ntmps5
    go_wp2_with (go_at_call 18; refine (HF.out _).mono ?_; rintro e w1 ⟨rfl, rfl⟩)
    go_ret
    exact ⟨rfl, rfl⟩
  · have HF := Lib.hid (show ∀ w, Calls Tryd.prog 18 #[.int .i64 48] w fun e w' => e = .returned (.int .u8 87) ∧ w = w' from fun w => refForm_in 48 (by decide) w)
    go_enter Tryd.func5, Tryd.ntmps5
    go_wp2_with (go_at_call 18; refine (HF.out _).mono ?_; rintro e w1 ⟨rfl, rfl⟩)
    go_ret
    exact ⟨rfl, rfl⟩
theorem refKind_out (op : Int) (h : ¬ (1 ≤ op ∧ op ≤ 48)) (w : World) : Calls Tryd.prog 5 #[.int .i64 op] w fun e w' => e = .returned (.int .i64 (kindI op)) ∧ w = w' := by
  have hk : kindI op = 0 := by
    unfold kindI
    repeat (rw [if_neg (by omega)])
  rw [hk]
  clear hk
  have q1 : (op == 1) = false := by simp; omega
  have q2 : (op == 2) = false := by simp; omega
  have q3 : (op == 3) = false := by simp; omega
  have q4 : (op == 4) = false := by simp; omega
  have q5 : (op == 5) = false := by simp; omega
  have q6 : (op == 6) = false := by simp; omega
  have q7 : (op == 7) = false := by simp; omega
  have q8 : (op == 8) = false := by simp; omega
  have q9 : (op == 9) = false := by simp; omega
  have q10 : (op == 10) = false := by simp; omega
  have q16 : (op == 16) = false := by simp; omega
  have q17 : (op == 17) = false := by simp; omega
  have q18 : (op == 18) = false := by simp; omega
  have q25 : (op == 25) = false := by simp; omega
  have q26 : (op == 26) = false := by simp; omega
  have q27 : (op == 27) = false := by simp; omega
  have q46 : (op == 46) = false := by simp; omega
  have q47 : (op == 47) = false := by simp; omega
  have q48 : (op == 48) = false := by simp; omega
  by_cases hl : op ≤ 0
  ·
    have d0 : decide (11 ≤ op) = false := by simp; omega
    have d1 : decide (19 ≤ op) = false := by simp; omega
    have d2 : decide (28 ≤ op) = false := by simp; omega
    have d3 : decide (38 ≤ op) = false := by simp; omega
    have d4 : decide (42 ≤ op) = false := by simp; omega
    clear h hl
    have hf : ∀ w, Calls Tryd.prog 18 #[.int .i64 op] w fun e w' => e = .returned (.int .u8 0) ∧ w = w' := by
      intro w
      go_enter Tryd.func18, Tryd.ntmps18
      go_wp2
      go_ret
      exact ⟨rfl, rfl⟩
    have HF := Lib.hid hf
    clear hf
    go_enter Tryd.func5, Tryd.ntmps5
    go_wp2_with (go_at_call 18; refine (HF.out _).mono ?_; rintro e w1 ⟨rfl, rfl⟩)
    go_ret
    exact ⟨rfl, rfl⟩
  ·
    have d0 : decide (11 ≤ op) = true := by simp; omega
    have d1 : decide (19 ≤ op) = true := by simp; omega
    have d2 : decide (28 ≤ op) = true := by simp; omega
    have d3 : decide (38 ≤ op) = true := by simp; omega
    have d4 : decide (42 ≤ op) = true := by simp; omega
    have d5 : decide (op ≤ 15) = false := by simp; omega
    have d6 : decide (op ≤ 24) = false := by simp; omega
    have d7 : decide (op ≤ 45) = false := by simp; omega
    have d8 : decide (op ≤ 41) = false := by simp; omega
    clear h hl
    have hf : ∀ w, Calls Tryd.prog 18 #[.int .i64 op] w fun e w' => e = .returned (.int .u8 0) ∧ w = w' := by
      intro w
      go_enter Tryd.func18, Tryd.ntmps18
      go_wp2
      go_ret
      exact ⟨rfl, rfl⟩
    have HF := Lib.hid hf
    clear hf
    go_enter Tryd.func5, Tryd.ntmps5
    go_wp2_with (go_at_call 18; refine (HF.out _).mono ?_; rintro e w1 ⟨rfl, rfl⟩)
    go_ret
    exact ⟨rfl, rfl⟩
theorem refKind_any (op : Int) (w : World) : Calls Tryd.prog 5 #[.int .i64 op] w fun e w' => e = .returned (.int .i64 (kindI op)) ∧ w = w' := by
  by_cases h : 1 ≤ op ∧ op ≤ 48
  · exact refKind_in op h w
  · exact refKind_out op h w
end Go.Proofs.YtaokhegbfaokdaaDoor

/- THE CONTRACTS of auspexref02's Size, Form (any number), Writes: in the words of package inst's. -/
namespace Go.Proofs.YtaokhegbfaokdaaDoor
open Go.ChangeShapes Go.WideShapes Go.ChangeAt Go.RowKit
set_option linter.unusedVariables false
set_option linter.unusedSimpArgs false
set_option maxHeartbeats 4000000
set_option maxRecDepth 100000

theorem refSize02_any (op : Int) (w : World) : Calls Tryd.prog 11 #[.int .i64 op] w fun e w' => e = .returned (.int .i64 (sizeOp op)) ∧ w = w' := by
  go_enter Tryd.func11, Tryd.ntmps11
  go_wp2
  all_goals
    go_ret
    refine ⟨ret_int ?_, rfl⟩
    (try simp_all [sizeOp])
theorem refForm_any (op : Int) (w : World) : Calls Tryd.prog 18 #[.int .i64 op] w fun e w' => e = .returned (.int .u8 (formF op)) ∧ w = w' := by
  by_cases h : 1 ≤ op ∧ op ≤ 48
  · exact refForm_in op h w
  have hf : formF op = 0 := by unfold formF; rw [if_pos (by omega)]
  rw [hf]
  clear hf
  have q1 : (op == 1) = false := by simp; omega
  have q2 : (op == 2) = false := by simp; omega
  have q3 : (op == 3) = false := by simp; omega
  have q4 : (op == 4) = false := by simp; omega
  have q5 : (op == 5) = false := by simp; omega
  have q6 : (op == 6) = false := by simp; omega
  have q7 : (op == 7) = false := by simp; omega
  have q8 : (op == 8) = false := by simp; omega
  have q9 : (op == 9) = false := by simp; omega
  have q10 : (op == 10) = false := by simp; omega
  have q16 : (op == 16) = false := by simp; omega
  have q17 : (op == 17) = false := by simp; omega
  have q18 : (op == 18) = false := by simp; omega
  have q25 : (op == 25) = false := by simp; omega
  have q26 : (op == 26) = false := by simp; omega
  have q27 : (op == 27) = false := by simp; omega
  have q46 : (op == 46) = false := by simp; omega
  have q47 : (op == 47) = false := by simp; omega
  have q48 : (op == 48) = false := by simp; omega
  by_cases hl : op ≤ 0
  ·
    have d0 : decide (11 ≤ op) = false := by simp; omega
    have d1 : decide (19 ≤ op) = false := by simp; omega
    have d2 : decide (28 ≤ op) = false := by simp; omega
    clear h hl
    go_enter Tryd.func18, Tryd.ntmps18
    go_wp2
    go_ret
    exact ⟨rfl, rfl⟩
  ·
    have d0 : decide (11 ≤ op) = true := by simp; omega
    have d1 : decide (19 ≤ op) = true := by simp; omega
    have d2 : decide (28 ≤ op) = true := by simp; omega
    have d3 : decide (op ≤ 15) = false := by simp; omega
    have d4 : decide (op ≤ 24) = false := by simp; omega
    have d5 : decide (op ≤ 45) = false := by simp; omega
    clear h hl
    go_enter Tryd.func18, Tryd.ntmps18
    go_wp2
    go_ret
    exact ⟨rfl, rfl⟩
def wrF (f : Int) : Bool := f == 82 || f == 73 || f == 84 || f == 85 || f == 74
def wrB (op : Int) : Bool := rowEB op && decide (rdL (rowE op).2.1 ≠ [])
theorem wrB_lit : ∀ k : Nat, k < 48 → wrB ((k : Int) + 1) = wrF (formF ((k : Int) + 1)) := by decide +kernel
theorem wr_same (op rd : Int) : wrI op rd = if wrF (formF op) then rd else 0 := by
  have h : wrB op = wrF (formF op) := by
    by_cases h : 1 ≤ op ∧ op ≤ 48
    · obtain ⟨k, hk⟩ : ∃ k : Nat, op = (k : Int) + 1 := ⟨(op - 1).toNat, by omega⟩
      subst hk
      exact wrB_lit k (by omega)
    · have h1 : formF op = 0 := by unfold formF; rw [if_pos (by omega)]
      have h2 : rowEB op = false := by
        unfold rowEB rowIs
        rw [if_neg (by omega)]
        exact decide_eq_false (by omega)
      rw [h1]
      unfold wrB
      rw [h2]
      rfl
  rw [← h]
  unfold wrI wrB
  by_cases h1 : rowEB op = true <;> by_cases h2 : rdL (rowE op).2.1 = [] <;> simp [h1, h2]
theorem refWrites_any (op rd r1 r2 imm : Int) (w : World) :
    Calls Tryd.prog 23 #[.agg #[.int .i64 op, .int .i64 rd, .int .i64 r1, .int .i64 r2, .int .u32 imm]] w fun e w' => e = .returned (.int .i64 (wrI op rd)) ∧ Below w.heap.size w w' := by
  have HF := Lib.hid (fun w => refForm_any op w)
  have HW := Lib.hid (wr_same op rd)
  obtain ⟨F, hF⟩ : ∃ F, formF op = F := ⟨_, rfl⟩
  rw [hF] at HF HW
  clear hF
  go_enter Tryd.func23, Tryd.ntmps23
  go_wp2_with (go_at_call 18; refine (HF.out _).mono ?_; rintro e w1 ⟨rfl, rfl⟩)
  all_goals
    go_ret
    refine ⟨ret_int ?_, (Below.refl _ _).alloc (Nat.le_refl _) _⟩
    rw [HW.out]
    simp_all [wrF]
end Go.Proofs.YtaokhegbfaokdaaDoor

/- THE CONTRACTS of auspexref06's B and Value: in the words of seq's. -/
namespace Go.Proofs.YtaokhegbfaokdaaDoor
open Go.ChangeShapes Go.WideShapes Go.ChangeAt Go.RowKit
set_option linter.unusedVariables false
set_option linter.unusedSimpArgs false
set_option maxHeartbeats 4000000
set_option maxRecDepth 100000

theorem refB_any (op rd r1 r2 imm b : Int) (w : World) :
    Calls Tryd.prog 49 #[.agg #[.int .i64 op, .int .i64 rd, .int .i64 r1, .int .i64 r2, .int .u32 imm], .int .u32 b] w fun e w' => e = .returned (.int .u32 (if numB op then imm else b)) ∧ Below w.heap.size w w' := by
  by_cases h : 19 ≤ op ∧ op ≤ 27 ∨ op = 1
  · rcases (show op = 19 ∨ op = 20 ∨ op = 21 ∨ op = 22 ∨ op = 23 ∨ op = 24 ∨ op = 25 ∨ op = 26 ∨ op = 27 ∨ op = 1 by omega) with rfl | rfl | rfl | rfl | rfl | rfl | rfl | rfl | rfl | rfl
    · have HF := Lib.hid (show ∀ w, Calls Tryd.prog 18 #[.int .i64 19] w fun e w' => e = .returned (.int .u8 73) ∧ w = w' from fun w => refForm_any 19 w)
      have HK := Lib.hid (show ∀ w, Calls Tryd.prog 5 #[.int .i64 19] w fun e w' => e = .returned (.int .i64 0) ∧ w = w' from fun w => refKind_any 19 w)
      clear h
      go_enter Tryd.func49, Tryd.ntmps49
      go_wp2_with (first
        | (go_at_call 18; refine (HF.out _).mono ?_; rintro e w1 ⟨rfl, rfl⟩)
        | (go_at_call 5; refine (HK.out _).mono ?_; rintro e w1 ⟨rfl, rfl⟩))
      go_ret
      exact ⟨rfl, (Below.refl _ _).alloc (Nat.le_refl _) _⟩
    · have HF := Lib.hid (show ∀ w, Calls Tryd.prog 18 #[.int .i64 20] w fun e w' => e = .returned (.int .u8 73) ∧ w = w' from fun w => refForm_any 20 w)
      have HK := Lib.hid (show ∀ w, Calls Tryd.prog 5 #[.int .i64 20] w fun e w' => e = .returned (.int .i64 0) ∧ w = w' from fun w => refKind_any 20 w)
      clear h
      go_enter Tryd.func49, Tryd.ntmps49
      go_wp2_with (first
        | (go_at_call 18; refine (HF.out _).mono ?_; rintro e w1 ⟨rfl, rfl⟩)
        | (go_at_call 5; refine (HK.out _).mono ?_; rintro e w1 ⟨rfl, rfl⟩))
      go_ret
      exact ⟨rfl, (Below.refl _ _).alloc (Nat.le_refl _) _⟩
    · have HF := Lib.hid (show ∀ w, Calls Tryd.prog 18 #[.int .i64 21] w fun e w' => e = .returned (.int .u8 73) ∧ w = w' from fun w => refForm_any 21 w)
      have HK := Lib.hid (show ∀ w, Calls Tryd.prog 5 #[.int .i64 21] w fun e w' => e = .returned (.int .i64 0) ∧ w = w' from fun w => refKind_any 21 w)
      clear h
      go_enter Tryd.func49, Tryd.ntmps49
      go_wp2_with (first
        | (go_at_call 18; refine (HF.out _).mono ?_; rintro e w1 ⟨rfl, rfl⟩)
        | (go_at_call 5; refine (HK.out _).mono ?_; rintro e w1 ⟨rfl, rfl⟩))
      go_ret
      exact ⟨rfl, (Below.refl _ _).alloc (Nat.le_refl _) _⟩
    · have HF := Lib.hid (show ∀ w, Calls Tryd.prog 18 #[.int .i64 22] w fun e w' => e = .returned (.int .u8 73) ∧ w = w' from fun w => refForm_any 22 w)
      have HK := Lib.hid (show ∀ w, Calls Tryd.prog 5 #[.int .i64 22] w fun e w' => e = .returned (.int .i64 0) ∧ w = w' from fun w => refKind_any 22 w)
      clear h
      go_enter Tryd.func49, Tryd.ntmps49
      go_wp2_with (first
        | (go_at_call 18; refine (HF.out _).mono ?_; rintro e w1 ⟨rfl, rfl⟩)
        | (go_at_call 5; refine (HK.out _).mono ?_; rintro e w1 ⟨rfl, rfl⟩))
      go_ret
      exact ⟨rfl, (Below.refl _ _).alloc (Nat.le_refl _) _⟩
    · have HF := Lib.hid (show ∀ w, Calls Tryd.prog 18 #[.int .i64 23] w fun e w' => e = .returned (.int .u8 73) ∧ w = w' from fun w => refForm_any 23 w)
      have HK := Lib.hid (show ∀ w, Calls Tryd.prog 5 #[.int .i64 23] w fun e w' => e = .returned (.int .i64 0) ∧ w = w' from fun w => refKind_any 23 w)
      clear h
      go_enter Tryd.func49, Tryd.ntmps49
      go_wp2_with (first
        | (go_at_call 18; refine (HF.out _).mono ?_; rintro e w1 ⟨rfl, rfl⟩)
        | (go_at_call 5; refine (HK.out _).mono ?_; rintro e w1 ⟨rfl, rfl⟩))
      go_ret
      exact ⟨rfl, (Below.refl _ _).alloc (Nat.le_refl _) _⟩
    · have HF := Lib.hid (show ∀ w, Calls Tryd.prog 18 #[.int .i64 24] w fun e w' => e = .returned (.int .u8 73) ∧ w = w' from fun w => refForm_any 24 w)
      have HK := Lib.hid (show ∀ w, Calls Tryd.prog 5 #[.int .i64 24] w fun e w' => e = .returned (.int .i64 0) ∧ w = w' from fun w => refKind_any 24 w)
      clear h
      go_enter Tryd.func49, Tryd.ntmps49
      go_wp2_with (first
        | (go_at_call 18; refine (HF.out _).mono ?_; rintro e w1 ⟨rfl, rfl⟩)
        | (go_at_call 5; refine (HK.out _).mono ?_; rintro e w1 ⟨rfl, rfl⟩))
      go_ret
      exact ⟨rfl, (Below.refl _ _).alloc (Nat.le_refl _) _⟩
    · have HF := Lib.hid (show ∀ w, Calls Tryd.prog 18 #[.int .i64 25] w fun e w' => e = .returned (.int .u8 84) ∧ w = w' from fun w => refForm_any 25 w)
      have HK := Lib.hid (show ∀ w, Calls Tryd.prog 5 #[.int .i64 25] w fun e w' => e = .returned (.int .i64 0) ∧ w = w' from fun w => refKind_any 25 w)
      clear h
      go_enter Tryd.func49, Tryd.ntmps49
      go_wp2_with (first
        | (go_at_call 18; refine (HF.out _).mono ?_; rintro e w1 ⟨rfl, rfl⟩)
        | (go_at_call 5; refine (HK.out _).mono ?_; rintro e w1 ⟨rfl, rfl⟩))
      go_ret
      exact ⟨rfl, (Below.refl _ _).alloc (Nat.le_refl _) _⟩
    · have HF := Lib.hid (show ∀ w, Calls Tryd.prog 18 #[.int .i64 26] w fun e w' => e = .returned (.int .u8 84) ∧ w = w' from fun w => refForm_any 26 w)
      have HK := Lib.hid (show ∀ w, Calls Tryd.prog 5 #[.int .i64 26] w fun e w' => e = .returned (.int .i64 0) ∧ w = w' from fun w => refKind_any 26 w)
      clear h
      go_enter Tryd.func49, Tryd.ntmps49
      go_wp2_with (first
        | (go_at_call 18; refine (HF.out _).mono ?_; rintro e w1 ⟨rfl, rfl⟩)
        | (go_at_call 5; refine (HK.out _).mono ?_; rintro e w1 ⟨rfl, rfl⟩))
      go_ret
      exact ⟨rfl, (Below.refl _ _).alloc (Nat.le_refl _) _⟩
    · have HF := Lib.hid (show ∀ w, Calls Tryd.prog 18 #[.int .i64 27] w fun e w' => e = .returned (.int .u8 84) ∧ w = w' from fun w => refForm_any 27 w)
      have HK := Lib.hid (show ∀ w, Calls Tryd.prog 5 #[.int .i64 27] w fun e w' => e = .returned (.int .i64 0) ∧ w = w' from fun w => refKind_any 27 w)
      clear h
      go_enter Tryd.func49, Tryd.ntmps49
      go_wp2_with (first
        | (go_at_call 18; refine (HF.out _).mono ?_; rintro e w1 ⟨rfl, rfl⟩)
        | (go_at_call 5; refine (HK.out _).mono ?_; rintro e w1 ⟨rfl, rfl⟩))
      go_ret
      exact ⟨rfl, (Below.refl _ _).alloc (Nat.le_refl _) _⟩
    · have HF := Lib.hid (show ∀ w, Calls Tryd.prog 18 #[.int .i64 1] w fun e w' => e = .returned (.int .u8 85) ∧ w = w' from fun w => refForm_any 1 w)
      have HK := Lib.hid (show ∀ w, Calls Tryd.prog 5 #[.int .i64 1] w fun e w' => e = .returned (.int .i64 0) ∧ w = w' from fun w => refKind_any 1 w)
      clear h
      go_enter Tryd.func49, Tryd.ntmps49
      go_wp2_with (first
        | (go_at_call 18; refine (HF.out _).mono ?_; rintro e w1 ⟨rfl, rfl⟩)
        | (go_at_call 5; refine (HK.out _).mono ?_; rintro e w1 ⟨rfl, rfl⟩))
      go_ret
      exact ⟨rfl, (Below.refl _ _).alloc (Nat.le_refl _) _⟩
  · by_cases h2 : 11 ≤ op ∧ op ≤ 15 ∨ op = 4
    · rcases (show op = 11 ∨ op = 12 ∨ op = 13 ∨ op = 14 ∨ op = 15 ∨ op = 4 by omega) with rfl | rfl | rfl | rfl | rfl | rfl
      · have HF := Lib.hid (show ∀ w, Calls Tryd.prog 18 #[.int .i64 11] w fun e w' => e = .returned (.int .u8 73) ∧ w = w' from fun w => refForm_any 11 w)
        have HK := Lib.hid (show ∀ w, Calls Tryd.prog 5 #[.int .i64 11] w fun e w' => e = .returned (.int .i64 3) ∧ w = w' from fun w => refKind_any 11 w)
        clear h
        go_enter Tryd.func49, Tryd.ntmps49
        go_wp2_with (first
          | (go_at_call 18; refine (HF.out _).mono ?_; rintro e w1 ⟨rfl, rfl⟩)
          | (go_at_call 5; refine (HK.out _).mono ?_; rintro e w1 ⟨rfl, rfl⟩))
        go_ret
        exact ⟨rfl, (Below.refl _ _).alloc (Nat.le_refl _) _⟩
      · have HF := Lib.hid (show ∀ w, Calls Tryd.prog 18 #[.int .i64 12] w fun e w' => e = .returned (.int .u8 73) ∧ w = w' from fun w => refForm_any 12 w)
        have HK := Lib.hid (show ∀ w, Calls Tryd.prog 5 #[.int .i64 12] w fun e w' => e = .returned (.int .i64 3) ∧ w = w' from fun w => refKind_any 12 w)
        clear h
        go_enter Tryd.func49, Tryd.ntmps49
        go_wp2_with (first
          | (go_at_call 18; refine (HF.out _).mono ?_; rintro e w1 ⟨rfl, rfl⟩)
          | (go_at_call 5; refine (HK.out _).mono ?_; rintro e w1 ⟨rfl, rfl⟩))
        go_ret
        exact ⟨rfl, (Below.refl _ _).alloc (Nat.le_refl _) _⟩
      · have HF := Lib.hid (show ∀ w, Calls Tryd.prog 18 #[.int .i64 13] w fun e w' => e = .returned (.int .u8 73) ∧ w = w' from fun w => refForm_any 13 w)
        have HK := Lib.hid (show ∀ w, Calls Tryd.prog 5 #[.int .i64 13] w fun e w' => e = .returned (.int .i64 3) ∧ w = w' from fun w => refKind_any 13 w)
        clear h
        go_enter Tryd.func49, Tryd.ntmps49
        go_wp2_with (first
          | (go_at_call 18; refine (HF.out _).mono ?_; rintro e w1 ⟨rfl, rfl⟩)
          | (go_at_call 5; refine (HK.out _).mono ?_; rintro e w1 ⟨rfl, rfl⟩))
        go_ret
        exact ⟨rfl, (Below.refl _ _).alloc (Nat.le_refl _) _⟩
      · have HF := Lib.hid (show ∀ w, Calls Tryd.prog 18 #[.int .i64 14] w fun e w' => e = .returned (.int .u8 73) ∧ w = w' from fun w => refForm_any 14 w)
        have HK := Lib.hid (show ∀ w, Calls Tryd.prog 5 #[.int .i64 14] w fun e w' => e = .returned (.int .i64 3) ∧ w = w' from fun w => refKind_any 14 w)
        clear h
        go_enter Tryd.func49, Tryd.ntmps49
        go_wp2_with (first
          | (go_at_call 18; refine (HF.out _).mono ?_; rintro e w1 ⟨rfl, rfl⟩)
          | (go_at_call 5; refine (HK.out _).mono ?_; rintro e w1 ⟨rfl, rfl⟩))
        go_ret
        exact ⟨rfl, (Below.refl _ _).alloc (Nat.le_refl _) _⟩
      · have HF := Lib.hid (show ∀ w, Calls Tryd.prog 18 #[.int .i64 15] w fun e w' => e = .returned (.int .u8 73) ∧ w = w' from fun w => refForm_any 15 w)
        have HK := Lib.hid (show ∀ w, Calls Tryd.prog 5 #[.int .i64 15] w fun e w' => e = .returned (.int .i64 3) ∧ w = w' from fun w => refKind_any 15 w)
        clear h
        go_enter Tryd.func49, Tryd.ntmps49
        go_wp2_with (first
          | (go_at_call 18; refine (HF.out _).mono ?_; rintro e w1 ⟨rfl, rfl⟩)
          | (go_at_call 5; refine (HK.out _).mono ?_; rintro e w1 ⟨rfl, rfl⟩))
        go_ret
        exact ⟨rfl, (Below.refl _ _).alloc (Nat.le_refl _) _⟩
      · have HF := Lib.hid (show ∀ w, Calls Tryd.prog 18 #[.int .i64 4] w fun e w' => e = .returned (.int .u8 73) ∧ w = w' from fun w => refForm_any 4 w)
        have HK := Lib.hid (show ∀ w, Calls Tryd.prog 5 #[.int .i64 4] w fun e w' => e = .returned (.int .i64 5) ∧ w = w' from fun w => refKind_any 4 w)
        clear h
        go_enter Tryd.func49, Tryd.ntmps49
        go_wp2_with (first
          | (go_at_call 18; refine (HF.out _).mono ?_; rintro e w1 ⟨rfl, rfl⟩)
          | (go_at_call 5; refine (HK.out _).mono ?_; rintro e w1 ⟨rfl, rfl⟩))
        go_ret
        exact ⟨rfl, (Below.refl _ _).alloc (Nat.le_refl _) _⟩
    · have hn : numB op = false := decide_eq_false h
      rw [hn]
      have hF : formF op ≠ 84 ∧ formF op ≠ 73 := by
        unfold formF
        repeat' split
        all_goals first | (constructor <;> decide) | (exfalso; omega)
      have HF := Lib.hid (fun w => refForm_any op w)
      obtain ⟨F, hFF⟩ : ∃ F, formF op = F := ⟨_, rfl⟩
      rw [hFF] at HF hF
      have q1 : (op == 1) = false := by simp; omega
      have q2 : (F == 84) = false := by simp; exact hF.1
      have q3 : (F == 73) = false := by simp; exact hF.2
      clear h h2 hn hF hFF
      go_enter Tryd.func49, Tryd.ntmps49
      go_wp2_with (go_at_call 18; refine (HF.out _).mono ?_; rintro e w1 ⟨rfl, rfl⟩)
      go_ret
      exact ⟨rfl, (Below.refl _ _).alloc (Nat.le_refl _) _⟩
theorem num_kind {op : Int} (h : numB op = true) : kindI op = 0 := by
  have h := of_decide_eq_true h
  unfold kindI
  repeat (rw [if_neg (by omega)])
theorem refValue_any (op rd r1 r2 imm pc a b : Int) (hi : 0 ≤ imm) (hi' : imm < 4294967296) (ha : 0 ≤ a) (ha' : a < 4294967296) (hb : 0 ≤ b) (hb' : b < 4294967296) (w : World) :
    Calls Tryd.prog 24 #[.agg #[.int .i64 op, .int .i64 rd, .int .i64 r1, .int .i64 r2, .int .u32 imm], .int .u32 pc, .int .u32 a, .int .u32 b] w fun e w' => e = .returned (.int .u32 (valW op imm pc a b)) ∧ Below w.heap.size w w' := by
  have hn0 : 0 ≤ (if numB op then imm else b) := by split <;> assumption
  have hn1 : (if numB op then imm else b) < 4294967296 := by split <;> assumption
  have HB := Lib.hid (fun w => refB_any op rd r1 r2 imm b w)
  have HK := Lib.hid (fun w => refKind_any op w)
  have HV := Lib.hid (show valW op imm pc a b = if kindI op = 1 then mulW op a (if numB op then imm else b) else if kindI op = 2 then divW op a (if numB op then imm else b) else if op = 2 then (pc + imm) % 4294967296 else if op = 3 ∨ op = 4 then (pc + 4) % 4294967296 else aluDo op a (if numB op then imm else b) by
    unfold valW
    cases hn : numB op
    · simp only [Bool.false_eq_true, if_false]
    · rw [num_kind hn]; simp)
  obtain ⟨n, hn⟩ : ∃ n, (if numB op then imm else b) = n := ⟨_, rfl⟩
  rw [hn] at hn0 hn1 HB HV
  have HM := Lib.hid (fun w => refMul_any op a n ha ha' hn0 hn1 w)
  have HD := Lib.hid (fun w => refDiv_any op a n ha ha' hn0 hn1 w)
  have HA := Lib.hid (fun w => refDo_any op a n ha ha' hn0 hn1 w)
  clear hi hi' ha ha' hb hb' hn hn0 hn1
  obtain ⟨V, hV⟩ : ∃ V, valW op imm pc a b = V := ⟨_, rfl⟩
  rw [hV] at HV ⊢
  clear hV
  obtain ⟨kd, hkd⟩ : ∃ kd, kindI op = kd := ⟨_, rfl⟩
  rw [hkd] at HK HV
  clear hkd
  go_enter Tryd.func24, Tryd.ntmps24
  go_wp2_with fail
  go_at_call 49
  refine (HB.out _).mono ?_
  rintro e w1 ⟨rfl, b1⟩
  have hF := (five_new w 25 (.int .i64 op) (.int .i64 rd) (.int .i64 r1) (.int .i64 r2) (.int .u32 imm)).below b1 (by simp)
  have HB1 := Lib.hid (((Below.refl w.heap.size w).alloc (Nat.le_refl _) (.cells #[.int .i64 op, .int .i64 rd, .int .i64 r1, .int .i64 r2, .int .u32 imm] 25)).trans (b1.mono (by simp)))
  obtain ⟨⟨c0, c1, c2, c3, c4⟩, _⟩ := hF
  clear b1
  by_cases k1 : kd = 1
  · have q1 : (kd == 1) = true := by simpa using k1
    go_wp2_with (first
      | (go_at_call 5; refine (HK.out _).mono ?_; rintro e w2 ⟨rfl, rfl⟩)
      | (go_at_call 50; refine (HM.out _).mono ?_; rintro e w2 ⟨rfl, rfl⟩))
    go_ret
    exact ⟨ret_int (by rw [HV.out, if_pos k1]), HB1.out⟩
  have q1 : (kd == 1) = false := by simpa using k1
  by_cases k2 : kd = 2
  · have q2 : (kd == 2) = true := by simpa using k2
    go_wp2_with (first
      | (go_at_call 5; refine (HK.out _).mono ?_; rintro e w2 ⟨rfl, rfl⟩)
      | (go_at_call 51; refine (HD.out _).mono ?_; rintro e w2 ⟨rfl, rfl⟩))
    go_ret
    exact ⟨ret_int (by rw [HV.out, if_neg k1, if_pos k2]), HB1.out⟩
  have q2 : (kd == 2) = false := by simpa using k2
  by_cases k3 : op = 2
  · have q3 : (op == 2) = true := by simpa using k3
    have K3 := Lib.hid k3
    clear k3
    go_wp2_with (go_at_call 5; refine (HK.out _).mono ?_; rintro e w2 ⟨rfl, rfl⟩)
    go_ret
    exact ⟨ret_int (by rw [HV.out, if_neg k1, if_neg k2, if_pos K3.out]), HB1.out⟩
  have q3 : (op == 2) = false := by simpa using k3
  by_cases k4 : op = 3
  · have q4 : (op == 3) = true := by simpa using k4
    have K4 := Lib.hid k4
    clear k4
    go_wp2_with (go_at_call 5; refine (HK.out _).mono ?_; rintro e w2 ⟨rfl, rfl⟩)
    go_ret
    exact ⟨ret_int (by rw [HV.out, if_neg k1, if_neg k2, if_neg k3, if_pos (Or.inl K4.out)]), HB1.out⟩
  have q4 : (op == 3) = false := by simpa using k4
  by_cases k5 : op = 4
  · have q5 : (op == 4) = true := by simpa using k5
    have K5 := Lib.hid k5
    clear k5
    go_wp2_with (go_at_call 5; refine (HK.out _).mono ?_; rintro e w2 ⟨rfl, rfl⟩)
    go_ret
    exact ⟨ret_int (by rw [HV.out, if_neg k1, if_neg k2, if_neg k3, if_pos (Or.inr K5.out)]), HB1.out⟩
  have q5 : (op == 4) = false := by simpa using k5
  go_wp2_with (first
    | (go_at_call 5; refine (HK.out _).mono ?_; rintro e w2 ⟨rfl, rfl⟩)
    | (go_at_call 52; refine (HA.out _).mono ?_; rintro e w2 ⟨rfl, b2⟩; have HB2 := Lib.hid (HB1.out.trans (b2.mono HB1.out.size)); clear b2))
  go_ret
  exact ⟨ret_int (by rw [HV.out, if_neg k1, if_neg k2, if_neg k3, if_neg (show ¬ (op = 3 ∨ op = 4) from fun h => h.elim k4 k5)]), HB2.out⟩
end Go.Proofs.YtaokhegbfaokdaaDoor
