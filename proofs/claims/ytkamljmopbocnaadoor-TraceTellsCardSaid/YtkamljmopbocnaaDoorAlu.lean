/- THE CONTRACTS of package alu and of auspexref03. -/
import Derived.Test.YtkamljmopbocnaaDoorWordZ
import Derived.Test.YtkamljmopbocnaaDoorMathB
import Derived.WalkLawsBesides
namespace Go.Proofs.YtkamljmopbocnaaDoor
open Go.ChangeShapes Go.WideShapes Go.ChangeAt Go.RowKit
set_option maxRecDepth 100000

theorem truth_any (c : Bool) (w : World) :
    Calls Tryd.prog 102 #[.bool c] w fun e w' => e = .returned (.int .u32 (bif c then 1 else 0)) ∧ w = w' := by
  cases c
  all_goals
    go_enter Tryd.func102, Tryd.ntmps102
    go_wp2
    go_ret
    exact ⟨rfl, rfl⟩

theorem shift_any (op a s : Int) (hs : 0 ≤ s) (hs' : s ≤ 31) (w : World) :
    Calls Tryd.prog 103 #[.int .i64 op, .int .u32 a, .int .u32 s] w fun e w' => e = .returned (.int .u32 (aluSh op a s)) ∧ w = w' := by
  go_enter Tryd.func103, Tryd.ntmps103
  go_wp2
  all_goals go_ret
  all_goals refine ⟨ret_int ?_, rfl⟩
  all_goals simp_all [aluSh]

theorem aluDo_any (op a b : Int) (hb : 0 ≤ b) (hb' : b < 4294967296) (w : World) :
    Calls Tryd.prog 75 #[.int .i64 op, .int .u32 a, .int .u32 b] w fun e w' => e = .returned (.int .u32 (aluDo op a b)) ∧ w = w' := by
  have H31 := Lib.hid (and31 b hb hb')
  go_enter Tryd.func75, Tryd.ntmps75
  go_wp2_with (first
    | (go_at_call 102; refine (truth_any _ _).mono ?_; rintro e w' ⟨rfl, rfl⟩)
    | (go_at_call 103; rw [H31.out]; refine (shift_any _ _ _ (by omega) (by omega) _).mono ?_; rintro e w' ⟨rfl, rfl⟩))
  all_goals go_ret
  all_goals refine ⟨ret_int ?_, rfl⟩
  all_goals clear H31 hb hb'
  all_goals simp_all [aluDo]

theorem high_any (p : Int) (w : World) :
    Calls Tryd.prog 98 #[.int .u64 p] w fun e w' => e = .returned (.int .u32 (p / 4294967296 % 4294967296)) ∧ w = w' := by
  go_enter Tryd.func98, Tryd.ntmps98
  go_wp2
  go_ret
  exact ⟨rfl, rfl⟩

theorem mul_any (op a b : Int) (ha : 0 ≤ a) (ha' : a < 4294967296) (hb : 0 ≤ b) (hb' : b < 4294967296) (w : World) :
    Calls Tryd.prog 72 #[.int .i64 op, .int .u32 a, .int .u32 b] w fun e w' => e = .returned (.int .u32 (mulW op a b)) ∧ w = w' := by
  have H39 := hi_39 a b
  have H40 := hi_40 a b hb hb'
  have H41 := hi_41 a b ha ha' hb hb'
  clear ha ha' hb hb'
  have G39 := Lib.hid H39
  have G40 := Lib.hid H40
  have G41 := Lib.hid H41
  clear H39 H40 H41
  go_enter Tryd.func72, Tryd.ntmps72
  go_wp2_with (first
    | (go_at_call 98; refine (high_any _ _).mono ?_; rintro e w' ⟨rfl, rfl⟩))
  all_goals go_ret
  all_goals refine ⟨ret_int ?_, rfl⟩
  all_goals have H39 := G39.out
  all_goals have H40 := G40.out
  all_goals have H41 := G41.out
  all_goals clear G39 G40 G41
  all_goals (simp_all [mulW]; done)

theorem taken_any (op a b : Int) (w : World) :
    Calls Tryd.prog 104 #[.int .i64 op, .int .u32 a, .int .u32 b] w fun e w' => e = .returned (.bool (takenB op a b)) ∧ w = w' := by
  go_enter Tryd.func104, Tryd.ntmps104
  go_wp2
  all_goals go_ret
  all_goals refine ⟨ret_bool ?_, rfl⟩
  all_goals (simp_all [takenB, beq_dec, bne_dec]; done)

theorem next_any (op rd r1 r2 imm pc a b : Int) (w : World) :
    Calls Tryd.prog 79 #[.agg #[.int .i64 op, .int .i64 rd, .int .i64 r1, .int .i64 r2, .int .u32 imm], .int .u32 pc, .int .u32 a, .int .u32 b] w fun e w' => e = .returned (.int .u32 (nextW op imm pc a b)) ∧ Below w.heap.size w w' := by
  go_enter Tryd.func79, Tryd.ntmps79
  go_wp2_with (first
    | (go_at_call 104; refine (taken_any _ _ _ _).mono ?_; rintro e w' ⟨rfl, rfl⟩))
  all_goals go_ret
  all_goals refine ⟨ret_int ?_, (Below.refl _ _).alloc (Nat.le_refl _) _⟩
  all_goals (simp_all [nextW, taken4, andNot1]; done)

theorem one_any (c : Bool) (w : World) :
    Calls Tryd.prog 97 #[.bool c] w fun e w' => e = .returned (.int .u32 (bif c then 1 else 0)) ∧ w = w' := by
  cases c
  all_goals
    go_enter Tryd.func97, Tryd.ntmps97
    go_wp2
    go_ret
    exact ⟨rfl, rfl⟩

theorem signed_any (a : Int) (ha : 0 ≤ a) (ha' : a < 4294967296) (w : World) :
    Calls Tryd.prog 93 #[.int .u32 a] w fun e w' => e = .returned (.int .i64 (wrap32 a)) ∧ w = w' := by
  go_enter Tryd.func93, Tryd.ntmps93
  go_wp2
  all_goals go_ret
  all_goals exact ⟨ret_int (by unfold wrap32; omega), rfl⟩

theorem refTaken_any (op a b : Int) (ha : 0 ≤ a) (ha' : a < 4294967296) (hb : 0 ≤ b) (hb' : b < 4294967296) (w : World) :
    Calls Tryd.prog 69 #[.int .i64 op, .int .u32 a, .int .u32 b] w fun e w' => e = .returned (.bool (takenB op a b)) ∧ w = w' := by
  go_enter Tryd.func69, Tryd.ntmps69
  go_wp2_with (first
    | (go_at_call 93; refine (signed_any _ (by omega) (by omega) _).mono ?_; rintro e w' ⟨rfl, rfl⟩))
  all_goals go_ret
  all_goals refine ⟨ret_bool ?_, rfl⟩
  all_goals (clear ha ha' hb hb'; simp_all [takenB, beq_dec, nle_dec]; done)

theorem refNext_any (op rd r1 r2 imm pc a b : Int) (ha : 0 ≤ a) (ha' : a < 4294967296) (hb : 0 ≤ b) (hb' : b < 4294967296) (w : World) :
    Calls Tryd.prog 44 #[.agg #[.int .i64 op, .int .i64 rd, .int .i64 r1, .int .i64 r2, .int .u32 imm], .int .u32 pc, .int .u32 a, .int .u32 b] w fun e w' => e = .returned (.int .u32 (nextW op imm pc a b)) ∧ Below w.heap.size w w' := by
  go_enter Tryd.func44, Tryd.ntmps44
  go_wp2_with (first
    | (go_at_call 69; refine (refTaken_any _ _ _ ha ha' hb hb' _).mono ?_; rintro e w' ⟨rfl, rfl⟩))
  all_goals go_ret
  all_goals refine ⟨ret_int ?_, (Below.refl _ _).alloc (Nat.le_refl _) _⟩
  all_goals (simp_all [nextW, taken4]; done)

end Go.Proofs.YtkamljmopbocnaaDoor
