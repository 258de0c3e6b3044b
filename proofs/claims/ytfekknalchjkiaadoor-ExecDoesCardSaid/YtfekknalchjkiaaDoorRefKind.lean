/- THE CONTRACT of auspexref02's Kind, of whatever number. -/
import Derived.Test.YtfekknalchjkiaaDoorInstKinds
import Derived.WalkLawsBesides
namespace Go.Proofs.YtfekknalchjkiaaDoor
open Go.ChangeShapes Go.WideShapes Go.ChangeAt Go.RowKit
set_option linter.unusedVariables false
set_option linter.unusedSimpArgs false
set_option maxHeartbeats 4000000
set_option maxRecDepth 100000

def formF (o : Int) : Int := if o < 1 ∨ 48 < o then 0 else if o = 1 ∨ o = 2 then 85 else if o = 3 then 74 else if 5 ≤ o ∧ o ≤ 10 then 66 else if 16 ≤ o ∧ o ≤ 18 then 83 else if 25 ≤ o ∧ o ≤ 27 then 84 else if 46 ≤ o then 87 else if o = 4 ∨ (11 ≤ o ∧ o ≤ 15) ∨ (19 ≤ o ∧ o ≤ 24) then 73 else 82
theorem refForm_in (op : Int) (h : 1 ≤ op ∧ op ≤ 48) (w : World) : Calls Tryd.prog 87 #[.int .i64 op] w fun e w' => e = .returned (.int .u8 (formF op)) ∧ w = w' := by
  have ho : op = 1 ∨ op = 2 ∨ op = 3 ∨ op = 4 ∨ op = 5 ∨ op = 6 ∨ op = 7 ∨ op = 8 ∨ op = 9 ∨ op = 10 ∨ op = 11 ∨ op = 12 ∨ op = 13 ∨ op = 14 ∨ op = 15 ∨ op = 16 ∨ op = 17 ∨ op = 18 ∨ op = 19 ∨ op = 20 ∨ op = 21 ∨ op = 22 ∨ op = 23 ∨ op = 24 ∨ op = 25 ∨ op = 26 ∨ op = 27 ∨ op = 28 ∨ op = 29 ∨ op = 30 ∨ op = 31 ∨ op = 32 ∨ op = 33 ∨ op = 34 ∨ op = 35 ∨ op = 36 ∨ op = 37 ∨ op = 38 ∨ op = 39 ∨ op = 40 ∨ op = 41 ∨ op = 42 ∨ op = 43 ∨ op = 44 ∨ op = 45 ∨ op = 46 ∨ op = 47 ∨ op = 48 := by omega
  clear h
  rcases ho with rfl | rfl | rfl | rfl | rfl | rfl | rfl | rfl | rfl | rfl | rfl | rfl | rfl | rfl | rfl | rfl | rfl | rfl | rfl | rfl | rfl | rfl | rfl | rfl | rfl | rfl | rfl | rfl | rfl | rfl | rfl | rfl | rfl | rfl | rfl | rfl | rfl | rfl | rfl | rfl | rfl | rfl | rfl | rfl | rfl | rfl | rfl | rfl
  all_goals
    go_enter Tryd.func87, Tryd.ntmps87
    go_wp2
    go_ret
    exact ⟨rfl, rfl⟩
theorem refKind_in (op : Int) (h : 1 ≤ op ∧ op ≤ 48) (w : World) : Calls Tryd.prog 51 #[.int .i64 op] w fun e w' => e = .returned (.int .i64 (kindI op)) ∧ w = w' := by
  have ho : op = 1 ∨ op = 2 ∨ op = 3 ∨ op = 4 ∨ op = 5 ∨ op = 6 ∨ op = 7 ∨ op = 8 ∨ op = 9 ∨ op = 10 ∨ op = 11 ∨ op = 12 ∨ op = 13 ∨ op = 14 ∨ op = 15 ∨ op = 16 ∨ op = 17 ∨ op = 18 ∨ op = 19 ∨ op = 20 ∨ op = 21 ∨ op = 22 ∨ op = 23 ∨ op = 24 ∨ op = 25 ∨ op = 26 ∨ op = 27 ∨ op = 28 ∨ op = 29 ∨ op = 30 ∨ op = 31 ∨ op = 32 ∨ op = 33 ∨ op = 34 ∨ op = 35 ∨ op = 36 ∨ op = 37 ∨ op = 38 ∨ op = 39 ∨ op = 40 ∨ op = 41 ∨ op = 42 ∨ op = 43 ∨ op = 44 ∨ op = 45 ∨ op = 46 ∨ op = 47 ∨ op = 48 := by omega
  clear h
  rcases ho with rfl | rfl | rfl | rfl | rfl | rfl | rfl | rfl | rfl | rfl | rfl | rfl | rfl | rfl | rfl | rfl | rfl | rfl | rfl | rfl | rfl | rfl | rfl | rfl | rfl | rfl | rfl | rfl | rfl | rfl | rfl | rfl | rfl | rfl | rfl | rfl | rfl | rfl | rfl | rfl | rfl | rfl | rfl | rfl | rfl | rfl | rfl | rfl
  · have HF := Lib.hid (show ∀ w, Calls Tryd.prog 87 #[.int .i64 1] w fun e w' => e = .returned (.int .u8 85) ∧ w = w' from fun w => refForm_in 1 (by decide) w)
    go_enter Tryd.func51, Tryd.ntmps51
    go_wp2_with (go_at_call 87; refine (HF.out _).mono ?_; rintro e w1 ⟨rfl, rfl⟩)
    go_ret
    exact ⟨rfl, rfl⟩
  · have HF := Lib.hid (show ∀ w, Calls Tryd.prog 87 #[.int .i64 2] w fun e w' => e = .returned (.int .u8 85) ∧ w = w' from fun w => refForm_in 2 (by decide) w)
    go_enter Tryd.func51, Tryd.ntmps51
    go_wp2_with (go_at_call 87; refine (HF.out _).mono ?_; rintro e w1 ⟨rfl, rfl⟩)
    go_ret
    exact ⟨rfl, rfl⟩
  · have HF := Lib.hid (show ∀ w, Calls Tryd.prog 87 #[.int .i64 3] w fun e w' => e = .returned (.int .u8 74) ∧ w = w' from fun w => refForm_in 3 (by decide) w)
    go_enter Tryd.func51, Tryd.ntmps51
    go_wp2_with (go_at_call 87; refine (HF.out _).mono ?_; rintro e w1 ⟨rfl, rfl⟩)
    go_ret
    exact ⟨rfl, rfl⟩
  · have HF := Lib.hid (show ∀ w, Calls Tryd.prog 87 #[.int .i64 4] w fun e w' => e = .returned (.int .u8 73) ∧ w = w' from fun w => refForm_in 4 (by decide) w)
    go_enter Tryd.func51, Tryd.ntmps51
    go_wp2_with (go_at_call 87; refine (HF.out _).mono ?_; rintro e w1 ⟨rfl, rfl⟩)
    go_ret
    exact ⟨rfl, rfl⟩
  · have HF := Lib.hid (show ∀ w, Calls Tryd.prog 87 #[.int .i64 5] w fun e w' => e = .returned (.int .u8 66) ∧ w = w' from fun w => refForm_in 5 (by decide) w)
    go_enter Tryd.func51, Tryd.ntmps51
    go_wp2_with (go_at_call 87; refine (HF.out _).mono ?_; rintro e w1 ⟨rfl, rfl⟩)
    go_ret
    exact ⟨rfl, rfl⟩
  · have HF := Lib.hid (show ∀ w, Calls Tryd.prog 87 #[.int .i64 6] w fun e w' => e = .returned (.int .u8 66) ∧ w = w' from fun w => refForm_in 6 (by decide) w)
    go_enter Tryd.func51, Tryd.ntmps51
    go_wp2_with (go_at_call 87; refine (HF.out _).mono ?_; rintro e w1 ⟨rfl, rfl⟩)
    go_ret
    exact ⟨rfl, rfl⟩
  · have HF := Lib.hid (show ∀ w, Calls Tryd.prog 87 #[.int .i64 7] w fun e w' => e = .returned (.int .u8 66) ∧ w = w' from fun w => refForm_in 7 (by decide) w)
    go_enter Tryd.func51, Tryd.ntmps51
    go_wp2_with (go_at_call 87; refine (HF.out _).mono ?_; rintro e w1 ⟨rfl, rfl⟩)
    go_ret
    exact ⟨rfl, rfl⟩
  · have HF := Lib.hid (show ∀ w, Calls Tryd.prog 87 #[.int .i64 8] w fun e w' => e = .returned (.int .u8 66) ∧ w = w' from fun w => refForm_in 8 (by decide) w)
    go_enter Tryd.func51, Tryd.ntmps51
    go_wp2_with (go_at_call 87; refine (HF.out _).mono ?_; rintro e w1 ⟨rfl, rfl⟩)
    go_ret
    exact ⟨rfl, rfl⟩
  · have HF := Lib.hid (show ∀ w, Calls Tryd.prog 87 #[.int .i64 9] w fun e w' => e = .returned (.int .u8 66) ∧ w = w' from fun w => refForm_in 9 (by decide) w)
    go_enter Tryd.func51, Tryd.ntmps51
    go_wp2_with (go_at_call 87; refine (HF.out _).mono ?_; rintro e w1 ⟨rfl, rfl⟩)
    go_ret
    exact ⟨rfl, rfl⟩
  · have HF := Lib.hid (show ∀ w, Calls Tryd.prog 87 #[.int .i64 10] w fun e w' => e = .returned (.int .u8 66) ∧ w = w' from fun w => refForm_in 10 (by decide) w)
    go_enter Tryd.func51, Tryd.ntmps51
    go_wp2_with (go_at_call 87; refine (HF.out _).mono ?_; rintro e w1 ⟨rfl, rfl⟩)
    go_ret
    exact ⟨rfl, rfl⟩
  · have HF := Lib.hid (show ∀ w, Calls Tryd.prog 87 #[.int .i64 11] w fun e w' => e = .returned (.int .u8 73) ∧ w = w' from fun w => refForm_in 11 (by decide) w)
    go_enter Tryd.func51, Tryd.ntmps51
    go_wp2_with (go_at_call 87; refine (HF.out _).mono ?_; rintro e w1 ⟨rfl, rfl⟩)
    go_ret
    exact ⟨rfl, rfl⟩
  · have HF := Lib.hid (show ∀ w, Calls Tryd.prog 87 #[.int .i64 12] w fun e w' => e = .returned (.int .u8 73) ∧ w = w' from fun w => refForm_in 12 (by decide) w)
    go_enter Tryd.func51, Tryd.ntmps51
    go_wp2_with (go_at_call 87; refine (HF.out _).mono ?_; rintro e w1 ⟨rfl, rfl⟩)
    go_ret
    exact ⟨rfl, rfl⟩
  · have HF := Lib.hid (show ∀ w, Calls Tryd.prog 87 #[.int .i64 13] w fun e w' => e = .returned (.int .u8 73) ∧ w = w' from fun w => refForm_in 13 (by decide) w)
    go_enter Tryd.func51, Tryd.ntmps51
    go_wp2_with (go_at_call 87; refine (HF.out _).mono ?_; rintro e w1 ⟨rfl, rfl⟩)
    go_ret
    exact ⟨rfl, rfl⟩
  · have HF := Lib.hid (show ∀ w, Calls Tryd.prog 87 #[.int .i64 14] w fun e w' => e = .returned (.int .u8 73) ∧ w = w' from fun w => refForm_in 14 (by decide) w)
    go_enter Tryd.func51, Tryd.ntmps51
    go_wp2_with (go_at_call 87; refine (HF.out _).mono ?_; rintro e w1 ⟨rfl, rfl⟩)
    go_ret
    exact ⟨rfl, rfl⟩
  · have HF := Lib.hid (show ∀ w, Calls Tryd.prog 87 #[.int .i64 15] w fun e w' => e = .returned (.int .u8 73) ∧ w = w' from fun w => refForm_in 15 (by decide) w)
    go_enter Tryd.func51, Tryd.ntmps51
    go_wp2_with (go_at_call 87; refine (HF.out _).mono ?_; rintro e w1 ⟨rfl, rfl⟩)
    go_ret
    exact ⟨rfl, rfl⟩
  · have HF := Lib.hid (show ∀ w, Calls Tryd.prog 87 #[.int .i64 16] w fun e w' => e = .returned (.int .u8 83) ∧ w = w' from fun w => refForm_in 16 (by decide) w)
    go_enter Tryd.func51, Tryd.ntmps51
    go_wp2_with (go_at_call 87; refine (HF.out _).mono ?_; rintro e w1 ⟨rfl, rfl⟩)
    go_ret
    exact ⟨rfl, rfl⟩
  · have HF := Lib.hid (show ∀ w, Calls Tryd.prog 87 #[.int .i64 17] w fun e w' => e = .returned (.int .u8 83) ∧ w = w' from fun w => refForm_in 17 (by decide) w)
    go_enter Tryd.func51, Tryd.ntmps51
    go_wp2_with (go_at_call 87; refine (HF.out _).mono ?_; rintro e w1 ⟨rfl, rfl⟩)
    go_ret
    exact ⟨rfl, rfl⟩
  · have HF := Lib.hid (show ∀ w, Calls Tryd.prog 87 #[.int .i64 18] w fun e w' => e = .returned (.int .u8 83) ∧ w = w' from fun w => refForm_in 18 (by decide) w)
    go_enter Tryd.func51, Tryd.ntmps51
    go_wp2_with (go_at_call 87; refine (HF.out _).mono ?_; rintro e w1 ⟨rfl, rfl⟩)
    go_ret
    exact ⟨rfl, rfl⟩
  · have HF := Lib.hid (show ∀ w, Calls Tryd.prog 87 #[.int .i64 19] w fun e w' => e = .returned (.int .u8 73) ∧ w = w' from fun w => refForm_in 19 (by decide) w)
    go_enter Tryd.func51, Tryd.ntmps51
    go_wp2_with (go_at_call 87; refine (HF.out _).mono ?_; rintro e w1 ⟨rfl, rfl⟩)
    go_ret
    exact ⟨rfl, rfl⟩
  · have HF := Lib.hid (show ∀ w, Calls Tryd.prog 87 #[.int .i64 20] w fun e w' => e = .returned (.int .u8 73) ∧ w = w' from fun w => refForm_in 20 (by decide) w)
    go_enter Tryd.func51, Tryd.ntmps51
    go_wp2_with (go_at_call 87; refine (HF.out _).mono ?_; rintro e w1 ⟨rfl, rfl⟩)
    go_ret
    exact ⟨rfl, rfl⟩
  · have HF := Lib.hid (show ∀ w, Calls Tryd.prog 87 #[.int .i64 21] w fun e w' => e = .returned (.int .u8 73) ∧ w = w' from fun w => refForm_in 21 (by decide) w)
    go_enter Tryd.func51, Tryd.ntmps51
    go_wp2_with (go_at_call 87; refine (HF.out _).mono ?_; rintro e w1 ⟨rfl, rfl⟩)
    go_ret
    exact ⟨rfl, rfl⟩
  · have HF := Lib.hid (show ∀ w, Calls Tryd.prog 87 #[.int .i64 22] w fun e w' => e = .returned (.int .u8 73) ∧ w = w' from fun w => refForm_in 22 (by decide) w)
    go_enter Tryd.func51, Tryd.ntmps51
    go_wp2_with (go_at_call 87; refine (HF.out _).mono ?_; rintro e w1 ⟨rfl, rfl⟩)
    go_ret
    exact ⟨rfl, rfl⟩
  · have HF := Lib.hid (show ∀ w, Calls Tryd.prog 87 #[.int .i64 23] w fun e w' => e = .returned (.int .u8 73) ∧ w = w' from fun w => refForm_in 23 (by decide) w)
    go_enter Tryd.func51, Tryd.ntmps51
    go_wp2_with (go_at_call 87; refine (HF.out _).mono ?_; rintro e w1 ⟨rfl, rfl⟩)
    go_ret
    exact ⟨rfl, rfl⟩
  · have HF := Lib.hid (show ∀ w, Calls Tryd.prog 87 #[.int .i64 24] w fun e w' => e = .returned (.int .u8 73) ∧ w = w' from fun w => refForm_in 24 (by decide) w)
    go_enter Tryd.func51, Tryd.ntmps51
    go_wp2_with (go_at_call 87; refine (HF.out _).mono ?_; rintro e w1 ⟨rfl, rfl⟩)
    go_ret
    exact ⟨rfl, rfl⟩
  · have HF := Lib.hid (show ∀ w, Calls Tryd.prog 87 #[.int .i64 25] w fun e w' => e = .returned (.int .u8 84) ∧ w = w' from fun w => refForm_in 25 (by decide) w)
    go_enter Tryd.func51, Tryd.ntmps51
    go_wp2_with (go_at_call 87; refine (HF.out _).mono ?_; rintro e w1 ⟨rfl, rfl⟩)
    go_ret
    exact ⟨rfl, rfl⟩
  · have HF := Lib.hid (show ∀ w, Calls Tryd.prog 87 #[.int .i64 26] w fun e w' => e = .returned (.int .u8 84) ∧ w = w' from fun w => refForm_in 26 (by decide) w)
    go_enter Tryd.func51, Tryd.ntmps51
    go_wp2_with (go_at_call 87; refine (HF.out _).mono ?_; rintro e w1 ⟨rfl, rfl⟩)
    go_ret
    exact ⟨rfl, rfl⟩
  · have HF := Lib.hid (show ∀ w, Calls Tryd.prog 87 #[.int .i64 27] w fun e w' => e = .returned (.int .u8 84) ∧ w = w' from fun w => refForm_in 27 (by decide) w)
    go_enter Tryd.func51, Tryd.ntmps51
    go_wp2_with (go_at_call 87; refine (HF.out _).mono ?_; rintro e w1 ⟨rfl, rfl⟩)
    go_ret
    exact ⟨rfl, rfl⟩
  · have HF := Lib.hid (show ∀ w, Calls Tryd.prog 87 #[.int .i64 28] w fun e w' => e = .returned (.int .u8 82) ∧ w = w' from fun w => refForm_in 28 (by decide) w)
    go_enter Tryd.func51, Tryd.ntmps51
    go_wp2_with (go_at_call 87; refine (HF.out _).mono ?_; rintro e w1 ⟨rfl, rfl⟩)
    go_ret
    exact ⟨rfl, rfl⟩
  · have HF := Lib.hid (show ∀ w, Calls Tryd.prog 87 #[.int .i64 29] w fun e w' => e = .returned (.int .u8 82) ∧ w = w' from fun w => refForm_in 29 (by decide) w)
    go_enter Tryd.func51, Tryd.ntmps51
    go_wp2_with (go_at_call 87; refine (HF.out _).mono ?_; rintro e w1 ⟨rfl, rfl⟩)
    go_ret
    exact ⟨rfl, rfl⟩
  · have HF := Lib.hid (show ∀ w, Calls Tryd.prog 87 #[.int .i64 30] w fun e w' => e = .returned (.int .u8 82) ∧ w = w' from fun w => refForm_in 30 (by decide) w)
    go_enter Tryd.func51, Tryd.ntmps51
    go_wp2_with (go_at_call 87; refine (HF.out _).mono ?_; rintro e w1 ⟨rfl, rfl⟩)
    go_ret
    exact ⟨rfl, rfl⟩
  · have HF := Lib.hid (show ∀ w, Calls Tryd.prog 87 #[.int .i64 31] w fun e w' => e = .returned (.int .u8 82) ∧ w = w' from fun w => refForm_in 31 (by decide) w)
    go_enter Tryd.func51, Tryd.ntmps51
    go_wp2_with (go_at_call 87; refine (HF.out _).mono ?_; rintro e w1 ⟨rfl, rfl⟩)
    go_ret
    exact ⟨rfl, rfl⟩
  · have HF := Lib.hid (show ∀ w, Calls Tryd.prog 87 #[.int .i64 32] w fun e w' => e = .returned (.int .u8 82) ∧ w = w' from fun w => refForm_in 32 (by decide) w)
    go_enter Tryd.func51, Tryd.ntmps51
    go_wp2_with (go_at_call 87; refine (HF.out _).mono ?_; rintro e w1 ⟨rfl, rfl⟩)
    go_ret
    exact ⟨rfl, rfl⟩
  · have HF := Lib.hid (show ∀ w, Calls Tryd.prog 87 #[.int .i64 33] w fun e w' => e = .returned (.int .u8 82) ∧ w = w' from fun w => refForm_in 33 (by decide) w)
    go_enter Tryd.func51, Tryd.ntmps51
    go_wp2_with (go_at_call 87; refine (HF.out _).mono ?_; rintro e w1 ⟨rfl, rfl⟩)
    go_ret
    exact ⟨rfl, rfl⟩
  · have HF := Lib.hid (show ∀ w, Calls Tryd.prog 87 #[.int .i64 34] w fun e w' => e = .returned (.int .u8 82) ∧ w = w' from fun w => refForm_in 34 (by decide) w)
    go_enter Tryd.func51, Tryd.ntmps51
    go_wp2_with (go_at_call 87; refine (HF.out _).mono ?_; rintro e w1 ⟨rfl, rfl⟩)
    go_ret
    exact ⟨rfl, rfl⟩
  · have HF := Lib.hid (show ∀ w, Calls Tryd.prog 87 #[.int .i64 35] w fun e w' => e = .returned (.int .u8 82) ∧ w = w' from fun w => refForm_in 35 (by decide) w)
    go_enter Tryd.func51, Tryd.ntmps51
    go_wp2_with (go_at_call 87; refine (HF.out _).mono ?_; rintro e w1 ⟨rfl, rfl⟩)
    go_ret
    exact ⟨rfl, rfl⟩
  · have HF := Lib.hid (show ∀ w, Calls Tryd.prog 87 #[.int .i64 36] w fun e w' => e = .returned (.int .u8 82) ∧ w = w' from fun w => refForm_in 36 (by decide) w)
    go_enter Tryd.func51, Tryd.ntmps51
    go_wp2_with (go_at_call 87; refine (HF.out _).mono ?_; rintro e w1 ⟨rfl, rfl⟩)
    go_ret
    exact ⟨rfl, rfl⟩
  · have HF := Lib.hid (show ∀ w, Calls Tryd.prog 87 #[.int .i64 37] w fun e w' => e = .returned (.int .u8 82) ∧ w = w' from fun w => refForm_in 37 (by decide) w)
    go_enter Tryd.func51, Tryd.ntmps51
    go_wp2_with (go_at_call 87; refine (HF.out _).mono ?_; rintro e w1 ⟨rfl, rfl⟩)
    go_ret
    exact ⟨rfl, rfl⟩
  · have HF := Lib.hid (show ∀ w, Calls Tryd.prog 87 #[.int .i64 38] w fun e w' => e = .returned (.int .u8 82) ∧ w = w' from fun w => refForm_in 38 (by decide) w)
    go_enter Tryd.func51, Tryd.ntmps51
    go_wp2_with (go_at_call 87; refine (HF.out _).mono ?_; rintro e w1 ⟨rfl, rfl⟩)
    go_ret
    exact ⟨rfl, rfl⟩
  · have HF := Lib.hid (show ∀ w, Calls Tryd.prog 87 #[.int .i64 39] w fun e w' => e = .returned (.int .u8 82) ∧ w = w' from fun w => refForm_in 39 (by decide) w)
    go_enter Tryd.func51, Tryd.ntmps51
    go_wp2_with (go_at_call 87; refine (HF.out _).mono ?_; rintro e w1 ⟨rfl, rfl⟩)
    go_ret
    exact ⟨rfl, rfl⟩
  · have HF := Lib.hid (show ∀ w, Calls Tryd.prog 87 #[.int .i64 40] w fun e w' => e = .returned (.int .u8 82) ∧ w = w' from fun w => refForm_in 40 (by decide) w)
    go_enter Tryd.func51, Tryd.ntmps51
    go_wp2_with (go_at_call 87; refine (HF.out _).mono ?_; rintro e w1 ⟨rfl, rfl⟩)
    go_ret
    exact ⟨rfl, rfl⟩
  · have HF := Lib.hid (show ∀ w, Calls Tryd.prog 87 #[.int .i64 41] w fun e w' => e = .returned (.int .u8 82) ∧ w = w' from fun w => refForm_in 41 (by decide) w)
    go_enter Tryd.func51, Tryd.ntmps51
    go_wp2_with (go_at_call 87; refine (HF.out _).mono ?_; rintro e w1 ⟨rfl, rfl⟩)
    go_ret
    exact ⟨rfl, rfl⟩
  · have HF := Lib.hid (show ∀ w, Calls Tryd.prog 87 #[.int .i64 42] w fun e w' => e = .returned (.int .u8 82) ∧ w = w' from fun w => refForm_in 42 (by decide) w)
    go_enter Tryd.func51, Tryd.ntmps51
    go_wp2_with (go_at_call 87; refine (HF.out _).mono ?_; rintro e w1 ⟨rfl, rfl⟩)
    go_ret
    exact ⟨rfl, rfl⟩
  · have HF := Lib.hid (show ∀ w, Calls Tryd.prog 87 #[.int .i64 43] w fun e w' => e = .returned (.int .u8 82) ∧ w = w' from fun w => refForm_in 43 (by decide) w)
    go_enter Tryd.func51, Tryd.ntmps51
    go_wp2_with (go_at_call 87; refine (HF.out _).mono ?_; rintro e w1 ⟨rfl, rfl⟩)
    go_ret
    exact ⟨rfl, rfl⟩
  · have HF := Lib.hid (show ∀ w, Calls Tryd.prog 87 #[.int .i64 44] w fun e w' => e = .returned (.int .u8 82) ∧ w = w' from fun w => refForm_in 44 (by decide) w)
    go_enter Tryd.func51, Tryd.ntmps51
    go_wp2_with (go_at_call 87; refine (HF.out _).mono ?_; rintro e w1 ⟨rfl, rfl⟩)
    go_ret
    exact ⟨rfl, rfl⟩
  · have HF := Lib.hid (show ∀ w, Calls Tryd.prog 87 #[.int .i64 45] w fun e w' => e = .returned (.int .u8 82) ∧ w = w' from fun w => refForm_in 45 (by decide) w)
    go_enter Tryd.func51, Tryd.ntmps51
    go_wp2_with (go_at_call 87; refine (HF.out _).mono ?_; rintro e w1 ⟨rfl, rfl⟩)
    go_ret
    exact ⟨rfl, rfl⟩
  · have HF := Lib.hid (show ∀ w, Calls Tryd.prog 87 #[.int .i64 46] w fun e w' => e = .returned (.int .u8 87) ∧ w = w' from fun w => refForm_in 46 (by decide) w)
    go_enter Tryd.func51, Tryd.ntmps51
    go_wp2_with (go_at_call 87; refine (HF.out _).mono ?_; rintro e w1 ⟨rfl, rfl⟩)
    go_ret
    exact ⟨rfl, rfl⟩
  · have HF := Lib.hid (show ∀ w, Calls Tryd.prog 87 #[.int .i64 47] w fun e w' => e = .returned (.int .u8 87) ∧ w = w' from fun w => refForm_in 47 (by decide) w)
    go_enter Tryd.func51, Tryd.ntmps51
    go_wp2_with (go_at_call 87; refine (HF.out _).mono ?_; rintro e w1 ⟨rfl, rfl⟩)
    go_ret
    exact ⟨rfl, rfl⟩
  · have HF := Lib.hid (show ∀ w, Calls Tryd.prog 87 #[.int .i64 48] w fun e w' => e = .returned (.int .u8 87) ∧ w = w' from fun w => refForm_in 48 (by decide) w)
    go_enter Tryd.func51, Tryd.ntmps51
    go_wp2_with (go_at_call 87; refine (HF.out _).mono ?_; rintro e w1 ⟨rfl, rfl⟩)
    go_ret
    exact ⟨rfl, rfl⟩
theorem refKind_out (op : Int) (h : ¬ (1 ≤ op ∧ op ≤ 48)) (w : World) : Calls Tryd.prog 51 #[.int .i64 op] w fun e w' => e = .returned (.int .i64 (kindI op)) ∧ w = w' := by
  have hk : kindI op = 0 := by
    unfold kindI
    repeat (rw [if_neg (by omega)])
  rw [hk]
  clear hk
  have q1 : (op == 1) = false := by simp; omega
  have q2 : (op == 2) = false := by simp; omega
  have q3 : (op == 3) = false := by simp; omega
  have q4 : (op == 4) = false := by simp; omega
  have q5 : (op == 5) = false := by simp; omega
  have q6 : (op == 6) = false := by simp; omega
  have q7 : (op == 7) = false := by simp; omega
  have q8 : (op == 8) = false := by simp; omega
  have q9 : (op == 9) = false := by simp; omega
  have q10 : (op == 10) = false := by simp; omega
  have q16 : (op == 16) = false := by simp; omega
  have q17 : (op == 17) = false := by simp; omega
  have q18 : (op == 18) = false := by simp; omega
  have q25 : (op == 25) = false := by simp; omega
  have q26 : (op == 26) = false := by simp; omega
  have q27 : (op == 27) = false := by simp; omega
  have q46 : (op == 46) = false := by simp; omega
  have q47 : (op == 47) = false := by simp; omega
  have q48 : (op == 48) = false := by simp; omega
  by_cases hl : op ≤ 0
  ·
    have d0 : decide (11 ≤ op) = false := by simp; omega
    have d1 : decide (19 ≤ op) = false := by simp; omega
    have d2 : decide (28 ≤ op) = false := by simp; omega
    have d3 : decide (38 ≤ op) = false := by simp; omega
    have d4 : decide (42 ≤ op) = false := by simp; omega
    clear h hl
    have hf : ∀ w, Calls Tryd.prog 87 #[.int .i64 op] w fun e w' => e = .returned (.int .u8 0) ∧ w = w' := by
      intro w
      go_enter Tryd.func87, Tryd.ntmps87
      go_wp2
      go_ret
      exact ⟨rfl, rfl⟩
    have HF := Lib.hid hf
    clear hf
    go_enter Tryd.func51, Tryd.ntmps51
    go_wp2_with (go_at_call 87; refine (HF.out _).mono ?_; rintro e w1 ⟨rfl, rfl⟩)
    go_ret
    exact ⟨rfl, rfl⟩
  ·
    have d0 : decide (11 ≤ op) = true := by simp; omega
    have d1 : decide (19 ≤ op) = true := by simp; omega
    have d2 : decide (28 ≤ op) = true := by simp; omega
    have d3 : decide (38 ≤ op) = true := by simp; omega
    have d4 : decide (42 ≤ op) = true := by simp; omega
    have d5 : decide (op ≤ 15) = false := by simp; omega
    have d6 : decide (op ≤ 24) = false := by simp; omega
    have d7 : decide (op ≤ 45) = false := by simp; omega
    have d8 : decide (op ≤ 41) = false := by simp; omega
    clear h hl
    have hf : ∀ w, Calls Tryd.prog 87 #[.int .i64 op] w fun e w' => e = .returned (.int .u8 0) ∧ w = w' := by
      intro w
      go_enter Tryd.func87, Tryd.ntmps87
      go_wp2
      go_ret
      exact ⟨rfl, rfl⟩
    have HF := Lib.hid hf
    clear hf
    go_enter Tryd.func51, Tryd.ntmps51
    go_wp2_with (go_at_call 87; refine (HF.out _).mono ?_; rintro e w1 ⟨rfl, rfl⟩)
    go_ret
    exact ⟨rfl, rfl⟩
theorem refKind_any (op : Int) (w : World) : Calls Tryd.prog 51 #[.int .i64 op] w fun e w' => e = .returned (.int .i64 (kindI op)) ∧ w = w' := by
  by_cases h : 1 ≤ op ∧ op ≤ 48
  · exact refKind_in op h w
  · exact refKind_out op h w
end Go.Proofs.YtfekknalchjkiaaDoor
