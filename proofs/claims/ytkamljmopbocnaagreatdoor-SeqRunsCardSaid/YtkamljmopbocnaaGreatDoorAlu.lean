/- THE CONTRACTS of package alu and of auspexref03. -/
import Derived.Test.YtkamljmopbocnaaGreatDoorWordZ
import Derived.Test.YtkamljmopbocnaaGreatDoorMathB
import Derived.WalkLawsBesides
namespace Go.Proofs.YtkamljmopbocnaaGreatDoor
open Go.ChangeShapes Go.WideShapes Go.ChangeAt Go.RowKit
set_option maxRecDepth 100000

theorem truth_any (c : Bool) (w : World) :
    Calls Tryz.prog 95 #[.bool c] w fun e w' => e = .returned (.int .u32 (bif c then 1 else 0)) ∧ w = w' := by
  cases c
  all_goals
    go_enter Tryz.func95, Tryz.ntmps95
    go_wp2
    go_ret
    exact ⟨rfl, rfl⟩

theorem shift_any (op a s : Int) (hs : 0 ≤ s) (hs' : s ≤ 31) (w : World) :
    Calls Tryz.prog 96 #[.int .i64 op, .int .u32 a, .int .u32 s] w fun e w' => e = .returned (.int .u32 (aluSh op a s)) ∧ w = w' := by
  go_enter Tryz.func96, Tryz.ntmps96
  go_wp2
  all_goals go_ret
  all_goals refine ⟨ret_int ?_, rfl⟩
  all_goals simp_all [aluSh]

theorem aluDo_any (op a b : Int) (hb : 0 ≤ b) (hb' : b < 4294967296) (w : World) :
    Calls Tryz.prog 65 #[.int .i64 op, .int .u32 a, .int .u32 b] w fun e w' => e = .returned (.int .u32 (aluDo op a b)) ∧ w = w' := by
  have H31 := Lib.hid (and31 b hb hb')
  go_enter Tryz.func65, Tryz.ntmps65
  go_wp2_with (first
    | (go_at_call 95; refine (truth_any _ _).mono ?_; rintro e w' ⟨rfl, rfl⟩)
    | (go_at_call 96; rw [H31.out]; refine (shift_any _ _ _ (by omega) (by omega) _).mono ?_; rintro e w' ⟨rfl, rfl⟩))
  all_goals go_ret
  all_goals refine ⟨ret_int ?_, rfl⟩
  all_goals clear H31 hb hb'
  all_goals simp_all [aluDo]

theorem high_any (p : Int) (w : World) :
    Calls Tryz.prog 91 #[.int .u64 p] w fun e w' => e = .returned (.int .u32 (p / 4294967296 % 4294967296)) ∧ w = w' := by
  go_enter Tryz.func91, Tryz.ntmps91
  go_wp2
  go_ret
  exact ⟨rfl, rfl⟩

theorem mul_any (op a b : Int) (ha : 0 ≤ a) (ha' : a < 4294967296) (hb : 0 ≤ b) (hb' : b < 4294967296) (w : World) :
    Calls Tryz.prog 62 #[.int .i64 op, .int .u32 a, .int .u32 b] w fun e w' => e = .returned (.int .u32 (mulW op a b)) ∧ w = w' := by
  have H39 := hi_39 a b
  have H40 := hi_40 a b hb hb'
  have H41 := hi_41 a b ha ha' hb hb'
  clear ha ha' hb hb'
  have G39 := Lib.hid H39
  have G40 := Lib.hid H40
  have G41 := Lib.hid H41
  clear H39 H40 H41
  go_enter Tryz.func62, Tryz.ntmps62
  go_wp2_with (first
    | (go_at_call 91; refine (high_any _ _).mono ?_; rintro e w' ⟨rfl, rfl⟩))
  all_goals go_ret
  all_goals refine ⟨ret_int ?_, rfl⟩
  all_goals have H39 := G39.out
  all_goals have H40 := G40.out
  all_goals have H41 := G41.out
  all_goals clear G39 G40 G41
  all_goals (simp_all [mulW]; done)

theorem taken_any (op a b : Int) (w : World) :
    Calls Tryz.prog 88 #[.int .i64 op, .int .u32 a, .int .u32 b] w fun e w' => e = .returned (.bool (takenB op a b)) ∧ w = w' := by
  go_enter Tryz.func88, Tryz.ntmps88
  go_wp2
  all_goals go_ret
  all_goals refine ⟨ret_bool ?_, rfl⟩
  all_goals (simp_all [takenB, beq_dec, bne_dec]; done)

theorem next_any (op rd r1 r2 imm pc a b : Int) (w : World) :
    Calls Tryz.prog 60 #[.agg #[.int .i64 op, .int .i64 rd, .int .i64 r1, .int .i64 r2, .int .u32 imm], .int .u32 pc, .int .u32 a, .int .u32 b] w fun e w' => e = .returned (.int .u32 (nextW op imm pc a b)) ∧ Below w.heap.size w w' := by
  go_enter Tryz.func60, Tryz.ntmps60
  go_wp2_with (first
    | (go_at_call 88; refine (taken_any _ _ _ _).mono ?_; rintro e w' ⟨rfl, rfl⟩))
  all_goals go_ret
  all_goals refine ⟨ret_int ?_, (Below.refl _ _).alloc (Nat.le_refl _) _⟩
  all_goals (simp_all [nextW, taken4, andNot1]; done)

theorem one_any (c : Bool) (w : World) :
    Calls Tryz.prog 78 #[.bool c] w fun e w' => e = .returned (.int .u32 (bif c then 1 else 0)) ∧ w = w' := by
  cases c
  all_goals
    go_enter Tryz.func78, Tryz.ntmps78
    go_wp2
    go_ret
    exact ⟨rfl, rfl⟩

theorem signed_any (a : Int) (ha : 0 ≤ a) (ha' : a < 4294967296) (w : World) :
    Calls Tryz.prog 73 #[.int .u32 a] w fun e w' => e = .returned (.int .i64 (wrap32 a)) ∧ w = w' := by
  go_enter Tryz.func73, Tryz.ntmps73
  go_wp2
  all_goals go_ret
  all_goals exact ⟨ret_int (by unfold wrap32; omega), rfl⟩

theorem refTaken_any (op a b : Int) (ha : 0 ≤ a) (ha' : a < 4294967296) (hb : 0 ≤ b) (hb' : b < 4294967296) (w : World) :
    Calls Tryz.prog 49 #[.int .i64 op, .int .u32 a, .int .u32 b] w fun e w' => e = .returned (.bool (takenB op a b)) ∧ w = w' := by
  go_enter Tryz.func49, Tryz.ntmps49
  go_wp2_with (first
    | (go_at_call 73; refine (signed_any _ (by omega) (by omega) _).mono ?_; rintro e w' ⟨rfl, rfl⟩))
  all_goals go_ret
  all_goals refine ⟨ret_bool ?_, rfl⟩
  all_goals (clear ha ha' hb hb'; simp_all [takenB, beq_dec, nle_dec]; done)

theorem refNext_any (op rd r1 r2 imm pc a b : Int) (ha : 0 ≤ a) (ha' : a < 4294967296) (hb : 0 ≤ b) (hb' : b < 4294967296) (w : World) :
    Calls Tryz.prog 29 #[.agg #[.int .i64 op, .int .i64 rd, .int .i64 r1, .int .i64 r2, .int .u32 imm], .int .u32 pc, .int .u32 a, .int .u32 b] w fun e w' => e = .returned (.int .u32 (nextW op imm pc a b)) ∧ Below w.heap.size w w' := by
  go_enter Tryz.func29, Tryz.ntmps29
  go_wp2_with (first
    | (go_at_call 49; refine (refTaken_any _ _ _ ha ha' hb hb' _).mono ?_; rintro e w' ⟨rfl, rfl⟩))
  all_goals go_ret
  all_goals refine ⟨ret_int ?_, (Below.refl _ _).alloc (Nat.le_refl _) _⟩
  all_goals (simp_all [nextW, taken4]; done)

end Go.Proofs.YtkamljmopbocnaaGreatDoor
