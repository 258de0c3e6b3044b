/- THE CONTRACTS of exec.Take, exec.Store. -/
import Derived.Test.YtkamljmopbocnaaGreatDoorExecGo
import Derived.Test.YtkamljmopbocnaaGreatDoorExecL
namespace Go.Proofs.YtkamljmopbocnaaGreatDoor
open Go.ChangeShapes Go.WideShapes Go.ChangeAt Go.RowKit
set_option linter.unusedVariables false
set_option linter.unusedSimpArgs false
set_option maxHeartbeats 2000000
set_option maxRecDepth 100000

def takeE (e : En) (s : ByteArray) : En :=
  if kindI e.op ≠ 3 ∨ e.known = false ∨ (e.is ≠ 0 ∧ e.is ≠ 2) then e else { e with is := 1, left := 1, value := if wrI e.op e.rd = 0 then 0 else ldV e.op s }
/-- what a store's bytes are; joined -/
def stoS (b n : Int) : ByteArray := if 0 ≤ n ∧ n ≤ 4 then strOfNums (bytL b n.toNat) else ByteArray.empty
def stoV (b n : Int) : Int := ((if (stoS b n).size ≤ 4 then joinN (stoS b n).data.toList else 0 : Nat) : Int)
theorem stoS_size (b n : Int) : (stoS b n).size ≤ 9223372036854775807 := by
  unfold stoS
  split
  · rename_i h
    have h1 : (strOfNums (bytL b n.toNat)).size = n.toNat := by simp [strOfNums, bytL, ByteArray.size]
    omega
  · simp
def storeE (e : En) (b : Int) : En :=
  if kindI e.op ≠ 4 ∨ e.known = false ∨ e.is ≠ 0 then e else { e with is := 3, value := stoV b (sizeOp e.op) }
end Go.Proofs.YtkamljmopbocnaaGreatDoor
