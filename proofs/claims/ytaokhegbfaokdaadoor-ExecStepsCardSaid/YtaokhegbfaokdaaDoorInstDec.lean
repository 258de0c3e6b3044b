/- THE CONTRACT of Decode. -/
import Derived.Test.YtaokhegbfaokdaaDoorInstPB
import Derived.Test.YtaokhegbfaokdaaDoorInstChosenW
import Derived.WalkLawsBesides
namespace Go.Proofs.YtaokhegbfaokdaaDoor
open Go.ChangeShapes Go.WideShapes Go.ChangeAt Go.RowKit
set_option maxRecDepth 100000

def decAgg (op : Int) (a form : Int) : Value := .agg #[.int .i64 op, .int .i64 (gth a (rdL form)), .int .i64 (gth a (rs1L form)), .int .i64 (gth a (rs2L form)), .int .u32 (numV a form)]
def zeroAgg : Value := .agg #[.int .i64 0, .int .i64 0, .int .i64 0, .int .i64 0, .int .u32 0]
theorem regsAgg_eq (a form : Int) : regsAgg a form = .agg #[.int .i64 0, .int .i64 (gth a (rdL form)), .int .i64 (gth a (rs1L form)), .int .i64 (gth a (rs2L form)), .int .u32 0] := rfl

set_option maxHeartbeats 1000000
/-- what Decode answers -/
def decV (a : Int) : Value := if chB a = true then decAgg (chR a).1 a (chR a).2.1 else zeroAgg
def decE (a : Int) : Int := if chB a = true then 0 else 20
theorem decV_yes {a : Int} (h : chB a = true) : decV a = decAgg (chR a).1 a (chR a).2.1 ∧ decE a = 0 := by unfold decV decE; rw [if_pos h, if_pos h]; exact ⟨rfl, rfl⟩
theorem decV_no {a : Int} (h : chB a = false) : decV a = zeroAgg ∧ decE a = 20 := by unfold decV decE; rw [if_neg (by simp [h]), if_neg (by simp [h])]; exact ⟨rfl, rfl⟩
end Go.Proofs.YtaokhegbfaokdaaDoor
