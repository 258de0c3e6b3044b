/- THE CONTRACTS of Kind and Size, of package inst. -/
import Derived.Test.YtaokhegbfaokdaaDoorWordZ
import Derived.WalkLawsBesides
namespace Go.Proofs.YtaokhegbfaokdaaDoor
open Go.ChangeShapes Go.WideShapes Go.ChangeAt Go.RowKit
set_option maxRecDepth 100000

def kindI (op : Int) : Int := if op = 38 ∨ op = 39 ∨ op = 40 ∨ op = 41 then 1 else if op = 42 ∨ op = 43 ∨ op = 44 ∨ op = 45 then 2 else if op = 11 ∨ op = 12 ∨ op = 13 ∨ op = 14 ∨ op = 15 then 3 else if op = 16 ∨ op = 17 ∨ op = 18 then 4 else if op = 3 ∨ op = 4 ∨ op = 5 ∨ op = 6 ∨ op = 7 ∨ op = 8 ∨ op = 9 ∨ op = 10 then 5 else if op = 47 ∨ op = 48 then 6 else 0
def sizeOp (op : Int) : Int := if op = 11 ∨ op = 14 ∨ op = 16 then 1 else if op = 12 ∨ op = 15 ∨ op = 17 then 2 else if op = 13 ∨ op = 18 then 4 else 0

set_option maxHeartbeats 2000000
theorem size_any (op rd rs1 rs2 imm : Int) (w : World) :
    Calls Tryd.prog 34 #[.agg #[.int .i64 op, .int .i64 rd, .int .i64 rs1, .int .i64 rs2, .int .u32 imm]] w fun e w' => e = .returned (.int .i64 (sizeOp op)) ∧ Below w.heap.size w w' := by
  go_enter Tryd.func34, Tryd.ntmps34
  go_wp2
  all_goals
    go_ret
    refine ⟨ret_int ?_, (Below.refl _ _).alloc (Nat.le_refl _) _⟩
    (try simp_all [sizeOp])
theorem kind_any (op rd rs1 rs2 imm : Int) (w : World) :
    Calls Tryd.prog 32 #[.agg #[.int .i64 op, .int .i64 rd, .int .i64 rs1, .int .i64 rs2, .int .u32 imm]] w fun e w' => e = .returned (.int .i64 (kindI op)) ∧ Below w.heap.size w w' := by
  go_enter Tryd.func32, Tryd.ntmps32
  go_wp2
  all_goals
    go_ret
    refine ⟨ret_int ?_, (Below.refl _ _).alloc (Nat.le_refl _) _⟩
    (try simp_all [kindI])

end Go.Proofs.YtaokhegbfaokdaaDoor
