/- THE CONTRACTS of exec.Start, exec.Go. -/
import Derived.Test.YtkamljmopbocnaaGreatDoorExecV
import Derived.Test.YtkamljmopbocnaaGreatDoorEntries
import Derived.Test.YtkamljmopbocnaaGreatDoorOwnB
import Derived.Deep.RegionLaw
import Derived.Deep.RegionWith
import Derived.Deep.Cut
import Derived.Deep.CutRange
namespace Go.Proofs.YtkamljmopbocnaaGreatDoor
open Go.ChangeShapes Go.WideShapes Go.ChangeAt Go.RowKit
set_option linter.unusedVariables false
set_option linter.unusedSimpArgs false
set_option maxHeartbeats 2000000
set_option maxRecDepth 100000

theorem kindI_cases (op : Int) : kindI op = 0 ∨ kindI op = 1 ∨ kindI op = 2 ∨ kindI op = 3 ∨ kindI op = 4 ∨ kindI op = 5 ∨ kindI op = 6 := by
  unfold kindI
  repeat' split
  all_goals simp
theorem Blk.drw {w : World} {b : Nat} {cs : List Value} (h : Blk w b cs) : Blk w.drew b cs := h
theorem below_undrew {w w' : World} (h : Below w.drew.heap.size w.drew w') : Below w.heap.size w w' := ⟨h.os, h.tape, h.output, h.size, h.block⟩
/-- what Start makes of an entry that waits and is no load and no store -/
def startG (e : En) (a b : Int) : En :=
  let e1 : En := { e with is := 1, left := 1, next := (e.pc + 4) % 4294967296, value := if wrI e.op e.rd = 0 then 0 else valW e.op e.imm e.pc a b }
  if kindI e.op = 1 then { e1 with left := 3 }
  else if kindI e.op = 2 then { e1 with took := tookW e.op a b, left := tookW e.op a b }
  else if kindI e.op = 5 then (if nextW e.op e.imm e.pc a b % 4 = 0 then { e1 with next := nextW e.op e.imm e.pc a b } else { e1 with halt := 3, value := 0 })
  else e1
def startE (e : En) (a b : Int) : En := if e.is ≠ 0 ∨ kindI e.op = 3 ∨ kindI e.op = 4 then e else startG e a b

end Go.Proofs.YtkamljmopbocnaaGreatDoor
