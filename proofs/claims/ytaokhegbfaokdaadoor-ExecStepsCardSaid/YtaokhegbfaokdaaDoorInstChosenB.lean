/- THE CONTRACT of chosen, word by word. -/
import Derived.Test.YtaokhegbfaokdaaDoorInstChosen
namespace Go.Proofs.YtaokhegbfaokdaaDoor
open Go.ChangeShapes Go.WideShapes Go.ChangeAt Go.RowKit
set_option maxRecDepth 100000

end Go.Proofs.YtaokhegbfaokdaaDoor
