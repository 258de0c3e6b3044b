/- THE CONTRACTS of auspexref02's Size, Form (any number), Writes: in the words of package inst's. -/
import Derived.Test.YtfekknalchjkiaaDoorRefKind
import Derived.Test.YtfekknalchjkiaaDoorInstWrites
namespace Go.Proofs.YtfekknalchjkiaaDoor
open Go.ChangeShapes Go.WideShapes Go.ChangeAt Go.RowKit
set_option linter.unusedVariables false
set_option linter.unusedSimpArgs false
set_option maxHeartbeats 4000000
set_option maxRecDepth 100000

theorem refSize02_any (op : Int) (w : World) : Calls Tryd.prog 54 #[.int .i64 op] w fun e w' => e = .returned (.int .i64 (sizeOp op)) ∧ w = w' := by
  go_enter Tryd.func54, Tryd.ntmps54
  go_wp2
  all_goals
    go_ret
    refine ⟨ret_int ?_, rfl⟩
    (try simp_all [sizeOp])
theorem refForm_any (op : Int) (w : World) : Calls Tryd.prog 87 #[.int .i64 op] w fun e w' => e = .returned (.int .u8 (formF op)) ∧ w = w' := by
  by_cases h : 1 ≤ op ∧ op ≤ 48
  · exact refForm_in op h w
  have hf : formF op = 0 := by unfold formF; rw [if_pos (by omega)]
  rw [hf]
  clear hf
  have q1 : (op == 1) = false := by simp; omega
  have q2 : (op == 2) = false := by simp; omega
  have q3 : (op == 3) = false := by simp; omega
  have q4 : (op == 4) = false := by simp; omega
  have q5 : (op == 5) = false := by simp; omega
  have q6 : (op == 6) = false := by simp; omega
  have q7 : (op == 7) = false := by simp; omega
  have q8 : (op == 8) = false := by simp; omega
  have q9 : (op == 9) = false := by simp; omega
  have q10 : (op == 10) = false := by simp; omega
  have q16 : (op == 16) = false := by simp; omega
  have q17 : (op == 17) = false := by simp; omega
  have q18 : (op == 18) = false := by simp; omega
  have q25 : (op == 25) = false := by simp; omega
  have q26 : (op == 26) = false := by simp; omega
  have q27 : (op == 27) = false := by simp; omega
  have q46 : (op == 46) = false := by simp; omega
  have q47 : (op == 47) = false := by simp; omega
  have q48 : (op == 48) = false := by simp; omega
  by_cases hl : op ≤ 0
  ·
    have d0 : decide (11 ≤ op) = false := by simp; omega
    have d1 : decide (19 ≤ op) = false := by simp; omega
    have d2 : decide (28 ≤ op) = false := by simp; omega
    clear h hl
    go_enter Tryd.func87, Tryd.ntmps87
    go_wp2
    go_ret
    exact ⟨rfl, rfl⟩
  ·
    have d0 : decide (11 ≤ op) = true := by simp; omega
    have d1 : decide (19 ≤ op) = true := by simp; omega
    have d2 : decide (28 ≤ op) = true := by simp; omega
    have d3 : decide (op ≤ 15) = false := by simp; omega
    have d4 : decide (op ≤ 24) = false := by simp; omega
    have d5 : decide (op ≤ 45) = false := by simp; omega
    clear h hl
    go_enter Tryd.func87, Tryd.ntmps87
    go_wp2
    go_ret
    exact ⟨rfl, rfl⟩
def wrF (f : Int) : Bool := f == 82 || f == 73 || f == 84 || f == 85 || f == 74
def wrB (op : Int) : Bool := rowEB op && decide (rdL (rowE op).2.1 ≠ [])
theorem wrB_lit : ∀ k : Nat, k < 48 → wrB ((k : Int) + 1) = wrF (formF ((k : Int) + 1)) := by decide +kernel
theorem wr_same (op rd : Int) : wrI op rd = if wrF (formF op) then rd else 0 := by
  have h : wrB op = wrF (formF op) := by
    by_cases h : 1 ≤ op ∧ op ≤ 48
    · obtain ⟨k, hk⟩ : ∃ k : Nat, op = (k : Int) + 1 := ⟨(op - 1).toNat, by omega⟩
      subst hk
      exact wrB_lit k (by omega)
    · have h1 : formF op = 0 := by unfold formF; rw [if_pos (by omega)]
      have h2 : rowEB op = false := by
        unfold rowEB rowIs
        rw [if_neg (by omega)]
        exact decide_eq_false (by omega)
      rw [h1]
      unfold wrB
      rw [h2]
      rfl
  rw [← h]
  unfold wrI wrB
  by_cases h1 : rowEB op = true <;> by_cases h2 : rdL (rowE op).2.1 = [] <;> simp [h1, h2]
theorem refWrites_any (op rd r1 r2 imm : Int) (w : World) :
    Calls Tryd.prog 92 #[.agg #[.int .i64 op, .int .i64 rd, .int .i64 r1, .int .i64 r2, .int .u32 imm]] w fun e w' => e = .returned (.int .i64 (wrI op rd)) ∧ Below w.heap.size w w' := by
  have HF := Lib.hid (fun w => refForm_any op w)
  have HW := Lib.hid (wr_same op rd)
  obtain ⟨F, hF⟩ : ∃ F, formF op = F := ⟨_, rfl⟩
  rw [hF] at HF HW
  clear hF
  go_enter Tryd.func92, Tryd.ntmps92
  go_wp2_with (go_at_call 87; refine (HF.out _).mono ?_; rintro e w1 ⟨rfl, rfl⟩)
  all_goals
    go_ret
    refine ⟨ret_int ?_, (Below.refl _ _).alloc (Nat.le_refl _) _⟩
    rw [HW.out]
    simp_all [wrF]
end Go.Proofs.YtfekknalchjkiaaDoor
