/- THE CONTRACT of chosen. -/
import Derived.Test.YtaokhegbfaokdaaDoorInstChosenA
import Derived.Test.YtaokhegbfaokdaaDoorInstChosenB
import Derived.Test.YtaokhegbfaokdaaDoorInstChosenC
import Derived.Test.YtaokhegbfaokdaaDoorInstChosenD
import Derived.Test.YtaokhegbfaokdaaDoorInstChosenE
namespace Go.Proofs.YtaokhegbfaokdaaDoor
open Go.ChangeShapes Go.WideShapes Go.ChangeAt Go.RowKit
set_option maxRecDepth 100000

theorem ch_eq (a : Int) (h1 : a ≠ 15) (h2 : a ≠ 115) (h3 : a ≠ 1048691) :
    chR a = selR (cOf a) (f3Of (cOf a) (fld a 12 3 : Nat)) (f7Of (cOf a) (fld a 12 3 : Nat) (fld a 25 7 : Nat)) ∧ chB a = selB (cOf a) (f3Of (cOf a) (fld a 12 3 : Nat)) (f7Of (cOf a) (fld a 12 3 : Nat) (fld a 25 7 : Nat)) := by
  unfold chR chB
  rw [if_neg h1, if_neg h2, if_neg h3, if_neg (by omega)]
  exact ⟨rfl, rfl⟩

set_option maxHeartbeats 1000000
end Go.Proofs.YtaokhegbfaokdaaDoor
