/-
  No cell of these rows narrows 'for every input' (looked for: loops, veiled, ifaces, maps, wideKeys, modest, calm, conditions, laid).
  DERIVED. THE GIVEN ROWS OF THIS SEAT. 5 by the template 'for every input the law returns true; each argument reads behind the call as it read before'; 0 by the template 'total and deterministic' (their statements: YtjhkebabbldfcaaTotals.lean).
  GIVEN WITH THE SEED: the statements are not yours to turn. If you find one false, say at which input.
  Laid BY PROGRAM, IN A SANDBOX (cutbox-rows.mjs): the forced cells as the released guide's own fill.sh prints them over the translation d9a87a9599077e90… (all of the seat's roots in one cut). By AI agents, Wed Nov 11 2026. No macro, syntax, notation, axiom, sorry.
-/
import Derived.Test.YtjhkebabbldfcaaChecked
import GoSem.Claim
import GoSem.ClaimJoined
import GoSem.ClaimMapViews
import Derived.JoinedTies
import Derived.KernelRfl
namespace Go.Proofs.Ytjhkebabbldfcaa
/- THE CELL 'sum', in the pinned program and in every row, IS THE sha256 OF THE DUMP (.gsa) THAT YtjhkebabbldfcaaProg.lean LOADS. Nothing in Lean hashes anything: it is a label: what it is worth is what the hold of that sum in a sandbox is worth. -/
noncomputable def Try.pinned : Pinned := { name := "ytjhkebabbldfcaa", sum := "d9a87a9599077e9022b2116220cab62c846f3882f98132c5d0554a8ae7073ead", checked := Try.checked }
namespace Rows
def none {H : Type} : Left H := { results := [], args := [] }

/-- 'auspexlaw07.TraceOf': WHATEVER THE INPUT: true; the input reads as it did. -/
def traceOfSpec : ChangeSpec := { name := "traceOf", fn := fun _ => fun
  | [d1, d2, d3] => { results := [.lit (.bool true)], args := [d1, d2, d3] }
  | _ => none }
def traceOfRow : OpenClaim := { program := "ytjhkebabbldfcaa", sum := "d9a87a9599077e9022b2116220cab62c846f3882f98132c5d0554a8ae7073ead", func := "auspex/auspexlaw07.TraceOf", spec := "traceOf", apart := false }
def TraceOfSaid : Prop := traceOfRow.holds Try.pinned (OpenSpec.ofChange traceOfSpec)

/-- ITS FALSE NEIGHBOUR: 'it returns false'. Refute it at one input. -/
def traceOfWrong : ChangeSpec := { name := "traceOf", fn := fun _ => fun
  | [d1, d2, d3] => { results := [.lit (.bool false)], args := [d1, d2, d3] }
  | _ => none }
def TraceOfWrongFalsely : Prop := traceOfRow.holds Try.pinned (OpenSpec.ofChange traceOfWrong)

/-- 'auspexlaw07.TraceLess': WHATEVER THE INPUT: true; the input reads as it did. -/
def traceLessSpec : ChangeSpec := { name := "traceLess", fn := fun _ => fun
  | [d1, d2] => { results := [.lit (.bool true)], args := [d1, d2] }
  | _ => none }
def traceLessRow : OpenClaim := { program := "ytjhkebabbldfcaa", sum := "d9a87a9599077e9022b2116220cab62c846f3882f98132c5d0554a8ae7073ead", func := "auspex/auspexlaw07.TraceLess", spec := "traceLess", apart := false }
def TraceLessSaid : Prop := traceLessRow.holds Try.pinned (OpenSpec.ofChange traceLessSpec)

/-- ITS FALSE NEIGHBOUR: 'it returns false'. Refute it at one input. -/
def traceLessWrong : ChangeSpec := { name := "traceLess", fn := fun _ => fun
  | [d1, d2] => { results := [.lit (.bool false)], args := [d1, d2] }
  | _ => none }
def TraceLessWrongFalsely : Prop := traceLessRow.holds Try.pinned (OpenSpec.ofChange traceLessWrong)

/-- 'auspexlaw14.TaintFront': WHATEVER THE INPUT: true; the input reads as it did. -/
def taintFrontSpec : ChangeSpec := { name := "taintFront", fn := fun _ => fun
  | [d] => { results := [.lit (.bool true)], args := [d] }
  | _ => none }
def taintFrontRow : OpenClaim := { program := "ytjhkebabbldfcaa", sum := "d9a87a9599077e9022b2116220cab62c846f3882f98132c5d0554a8ae7073ead", func := "auspex/auspexlaw14.TaintFront", spec := "taintFront", apart := false }
def TaintFrontSaid : Prop := taintFrontRow.holds Try.pinned (OpenSpec.ofChange taintFrontSpec)

/-- ITS FALSE NEIGHBOUR: 'it returns false'. Refute it at one input. -/
def taintFrontWrong : ChangeSpec := { name := "taintFront", fn := fun _ => fun
  | [d] => { results := [.lit (.bool false)], args := [d] }
  | _ => none }
def TaintFrontWrongFalsely : Prop := taintFrontRow.holds Try.pinned (OpenSpec.ofChange taintFrontWrong)

/-- 'auspexlaw20.RetireSteps': WHATEVER THE INPUT: true; the input reads as it did. -/
def retireStepsSpec : ChangeSpec := { name := "retireSteps", fn := fun _ => fun
  | [d1, d2] => { results := [.lit (.bool true)], args := [d1, d2] }
  | _ => none }
def retireStepsRow : OpenClaim := { program := "ytjhkebabbldfcaa", sum := "d9a87a9599077e9022b2116220cab62c846f3882f98132c5d0554a8ae7073ead", func := "auspex/auspexlaw20.RetireSteps", spec := "retireSteps", apart := false }
def RetireStepsSaid : Prop := retireStepsRow.holds Try.pinned (OpenSpec.ofChange retireStepsSpec)

/-- ITS FALSE NEIGHBOUR: 'it returns false'. Refute it at one input. -/
def retireStepsWrong : ChangeSpec := { name := "retireSteps", fn := fun _ => fun
  | [d1, d2] => { results := [.lit (.bool false)], args := [d1, d2] }
  | _ => none }
def RetireStepsWrongFalsely : Prop := retireStepsRow.holds Try.pinned (OpenSpec.ofChange retireStepsWrong)

/-- 'auspexlaw20.RetireZero': WHATEVER THE INPUT: true; the input reads as it did. -/
def retireZeroSpec : ChangeSpec := { name := "retireZero", fn := fun _ => fun
  | [d1, d2] => { results := [.lit (.bool true)], args := [d1, d2] }
  | _ => none }
def retireZeroRow : OpenClaim := { program := "ytjhkebabbldfcaa", sum := "d9a87a9599077e9022b2116220cab62c846f3882f98132c5d0554a8ae7073ead", func := "auspex/auspexlaw20.RetireZero", spec := "retireZero", apart := false }
def RetireZeroSaid : Prop := retireZeroRow.holds Try.pinned (OpenSpec.ofChange retireZeroSpec)

/-- ITS FALSE NEIGHBOUR: 'it returns false'. Refute it at one input. -/
def retireZeroWrong : ChangeSpec := { name := "retireZero", fn := fun _ => fun
  | [d1, d2] => { results := [.lit (.bool false)], args := [d1, d2] }
  | _ => none }
def RetireZeroWrongFalsely : Prop := retireZeroRow.holds Try.pinned (OpenSpec.ofChange retireZeroWrong)

/- THE SECOND FORM. 'bulk': how many values and letters a reading holds, each counted each time it is reached (what is shared counts as often as it is met; a slice's spare places count too). A statement '..UptoSaid' is the law's where the arguments, and the package variables that the reading takes, are together of bulk at most 1048576: NARROWER than '..Said'. Prove '..Said' where nothing that the law and all that it calls make is longer than what came in: it says more and counts as full. Else prove '..UptoSaid'. A law counts once. -/
mutual
def uptoBulk {H : Type} : DataW H → Nat
  | .lit (.string bytes) => bytes.length + 1
  | .lit _ => 1
  | .nil => 1
  | .ptr d => uptoBulk d + 1
  | .slice elems spare => uptoBulkAll elems + uptoBulkAll spare + 1
  | .agg parts => uptoBulkAll parts + 1
  | .iface _ d => uptoBulk d + 1
  | .map entries => uptoBulkEntries entries + 1
  | .held _ => 1
def uptoBulkAll {H : Type} : List (DataW H) → Nat
  | [] => 0
  | d :: r => uptoBulk d + uptoBulkAll r
def uptoBulkEntries {H : Type} : List (Lit × DataW H) → Nat
  | [] => 0
  | x :: r => uptoBulkEntry x + uptoBulkEntries r
def uptoBulkEntry {H : Type} : Lit × DataW H → Nat
  | (.string bytes, d) => bytes.length + uptoBulk d + 1
  | (_, d) => uptoBulk d + 1
 end
def uptoSmall : (H : Type) → List (DataW H) → Bool := fun _ ds => decide (uptoBulkAll ds ≤ 1048576)
def OpenSpec.upto (s : _root_.Go.ChangeSpec) : _root_.Go.OpenSpec := { _root_.Go.OpenSpec.ofChange s with cond := some uptoSmall }

/-- 'auspexlaw07.TraceOf', WHERE WHAT IT READS IS OF BULK AT MOST 1048576: true; the input reads as it did. -/
def traceOfUptoRow : OpenClaim := { program := "ytjhkebabbldfcaa", sum := "d9a87a9599077e9022b2116220cab62c846f3882f98132c5d0554a8ae7073ead", func := "auspex/auspexlaw07.TraceOf", spec := "traceOf", apart := false, narrowed := true }
def TraceOfUptoSaid : Prop := traceOfUptoRow.holds Try.pinned (OpenSpec.upto traceOfSpec)

/-- 'auspexlaw07.TraceLess', WHERE WHAT IT READS IS OF BULK AT MOST 1048576: true; the input reads as it did. -/
def traceLessUptoRow : OpenClaim := { program := "ytjhkebabbldfcaa", sum := "d9a87a9599077e9022b2116220cab62c846f3882f98132c5d0554a8ae7073ead", func := "auspex/auspexlaw07.TraceLess", spec := "traceLess", apart := false, narrowed := true }
def TraceLessUptoSaid : Prop := traceLessUptoRow.holds Try.pinned (OpenSpec.upto traceLessSpec)

/-- 'auspexlaw14.TaintFront', WHERE WHAT IT READS IS OF BULK AT MOST 1048576: true; the input reads as it did. -/
def taintFrontUptoRow : OpenClaim := { program := "ytjhkebabbldfcaa", sum := "d9a87a9599077e9022b2116220cab62c846f3882f98132c5d0554a8ae7073ead", func := "auspex/auspexlaw14.TaintFront", spec := "taintFront", apart := false, narrowed := true }
def TaintFrontUptoSaid : Prop := taintFrontUptoRow.holds Try.pinned (OpenSpec.upto taintFrontSpec)

/-- 'auspexlaw20.RetireSteps', WHERE WHAT IT READS IS OF BULK AT MOST 1048576: true; the input reads as it did. -/
def retireStepsUptoRow : OpenClaim := { program := "ytjhkebabbldfcaa", sum := "d9a87a9599077e9022b2116220cab62c846f3882f98132c5d0554a8ae7073ead", func := "auspex/auspexlaw20.RetireSteps", spec := "retireSteps", apart := false, narrowed := true }
def RetireStepsUptoSaid : Prop := retireStepsUptoRow.holds Try.pinned (OpenSpec.upto retireStepsSpec)

/-- 'auspexlaw20.RetireZero', WHERE WHAT IT READS IS OF BULK AT MOST 1048576: true; the input reads as it did. -/
def retireZeroUptoRow : OpenClaim := { program := "ytjhkebabbldfcaa", sum := "d9a87a9599077e9022b2116220cab62c846f3882f98132c5d0554a8ae7073ead", func := "auspex/auspexlaw20.RetireZero", spec := "retireZero", apart := false, narrowed := true }
def RetireZeroUptoSaid : Prop := retireZeroUptoRow.holds Try.pinned (OpenSpec.upto retireZeroSpec)

end Rows
end Go.Proofs.Ytjhkebabbldfcaa
