/- THE CONTRACTS of exec.Go; auspexref02's Kind; alive. -/
import Derived.Test.YtkamljmopbocnaaGreatDoorExec
namespace Go.Proofs.YtkamljmopbocnaaGreatDoor
open Go.ChangeShapes Go.WideShapes Go.ChangeAt Go.RowKit
set_option linter.unusedVariables false
set_option linter.unusedSimpArgs false
set_option maxHeartbeats 2000000
set_option maxRecDepth 100000

def goE (e : En) : En :=
  if e.is ≠ 1 then e else if 0 < e.left - 1 then { e with left := e.left - 1 } else { e with left := 0, is := 3, known := if kindI e.op = 5 ∧ e.halt = 0 then true else e.known }
end Go.Proofs.YtkamljmopbocnaaGreatDoor
