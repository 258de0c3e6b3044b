/-
  No cell of these rows narrows 'for every input' (looked for: loops, veiled, ifaces, maps, wideKeys, modest, calm, conditions, laid).
  DERIVED. THE GIVEN ROWS OF THIS SEAT. 5 by the template 'for every input the law returns true; each argument reads behind the call as it read before'; 0 by the template 'total and deterministic' (their statements: YtlfdhdioaglieaaTotals.lean).
  GIVEN WITH THE SEED: the statements are not yours to turn. If you find one false, say at which input.
  Laid BY PROGRAM, IN A SANDBOX (cutbox-rows.mjs): the forced cells as the released guide's own fill.sh prints them over the translation 681c820e01429623… (all of the seat's roots in one cut). By AI agents, Wed Nov 11 2026. No macro, syntax, notation, axiom, sorry.
-/
import Derived.Test.YtlfdhdioaglieaaChecked
import GoSem.Claim
import GoSem.ClaimJoined
import GoSem.ClaimMapViews
import Derived.JoinedTies
import Derived.KernelRfl
namespace Go.Proofs.Ytlfdhdioaglieaa
/- THE CELL 'sum', in the pinned program and in every row, IS THE sha256 OF THE DUMP (.gsa) THAT YtlfdhdioaglieaaProg.lean LOADS. Nothing in Lean hashes anything: it is a label: what it is worth is what the hold of that sum in a sandbox is worth. -/
noncomputable def Try.pinned : Pinned := { name := "ytlfdhdioaglieaa", sum := "681c820e0142962305a474e2269bf535cfda193cf3c32148beb130e2e1f591ef", checked := Try.checked }
namespace Rows
def none {H : Type} : Left H := { results := [], args := [] }

/-- 'auspexlaw05.MemCalls': WHATEVER THE INPUT: true; the input reads as it did. -/
def memCallsSpec : ChangeSpec := { name := "memCalls", fn := fun _ => fun
  | [d1, d2, d3, d4] => { results := [.lit (.bool true)], args := [d1, d2, d3, d4] }
  | _ => none }
def memCallsRow : OpenClaim := { program := "ytlfdhdioaglieaa", sum := "681c820e0142962305a474e2269bf535cfda193cf3c32148beb130e2e1f591ef", func := "auspex/auspexlaw05.MemCalls", spec := "memCalls", apart := false }
def MemCallsSaid : Prop := memCallsRow.holds Try.pinned (OpenSpec.ofChange memCallsSpec)

/-- ITS FALSE NEIGHBOUR: 'it returns false'. Refute it at one input. -/
def memCallsWrong : ChangeSpec := { name := "memCalls", fn := fun _ => fun
  | [d1, d2, d3, d4] => { results := [.lit (.bool false)], args := [d1, d2, d3, d4] }
  | _ => none }
def MemCallsWrongFalsely : Prop := memCallsRow.holds Try.pinned (OpenSpec.ofChange memCallsWrong)

/-- 'auspexlaw05.MemBack': WHATEVER THE INPUT: true; the input reads as it did. -/
def memBackSpec : ChangeSpec := { name := "memBack", fn := fun _ => fun
  | [d1, d2, d3, d4] => { results := [.lit (.bool true)], args := [d1, d2, d3, d4] }
  | _ => none }
def memBackRow : OpenClaim := { program := "ytlfdhdioaglieaa", sum := "681c820e0142962305a474e2269bf535cfda193cf3c32148beb130e2e1f591ef", func := "auspex/auspexlaw05.MemBack", spec := "memBack", apart := false }
def MemBackSaid : Prop := memBackRow.holds Try.pinned (OpenSpec.ofChange memBackSpec)

/-- ITS FALSE NEIGHBOUR: 'it returns false'. Refute it at one input. -/
def memBackWrong : ChangeSpec := { name := "memBack", fn := fun _ => fun
  | [d1, d2, d3, d4] => { results := [.lit (.bool false)], args := [d1, d2, d3, d4] }
  | _ => none }
def MemBackWrongFalsely : Prop := memBackRow.holds Try.pinned (OpenSpec.ofChange memBackWrong)

/-- 'auspexlaw05.MemTwo': WHATEVER THE INPUT: true; the input reads as it did. -/
def memTwoSpec : ChangeSpec := { name := "memTwo", fn := fun _ => fun
  | [d1, d2, d3, d4, d5] => { results := [.lit (.bool true)], args := [d1, d2, d3, d4, d5] }
  | _ => none }
def memTwoRow : OpenClaim := { program := "ytlfdhdioaglieaa", sum := "681c820e0142962305a474e2269bf535cfda193cf3c32148beb130e2e1f591ef", func := "auspex/auspexlaw05.MemTwo", spec := "memTwo", apart := false }
def MemTwoSaid : Prop := memTwoRow.holds Try.pinned (OpenSpec.ofChange memTwoSpec)

/-- ITS FALSE NEIGHBOUR: 'it returns false'. Refute it at one input. -/
def memTwoWrong : ChangeSpec := { name := "memTwo", fn := fun _ => fun
  | [d1, d2, d3, d4, d5] => { results := [.lit (.bool false)], args := [d1, d2, d3, d4, d5] }
  | _ => none }
def MemTwoWrongFalsely : Prop := memTwoRow.holds Try.pinned (OpenSpec.ofChange memTwoWrong)

/-- 'auspexlaw05.MemParts': WHATEVER THE INPUT: true; the input reads as it did. -/
def memPartsSpec : ChangeSpec := { name := "memParts", fn := fun _ => fun
  | [d1, d2] => { results := [.lit (.bool true)], args := [d1, d2] }
  | _ => none }
def memPartsRow : OpenClaim := { program := "ytlfdhdioaglieaa", sum := "681c820e0142962305a474e2269bf535cfda193cf3c32148beb130e2e1f591ef", func := "auspex/auspexlaw05.MemParts", spec := "memParts", apart := false }
def MemPartsSaid : Prop := memPartsRow.holds Try.pinned (OpenSpec.ofChange memPartsSpec)

/-- ITS FALSE NEIGHBOUR: 'it returns false'. Refute it at one input. -/
def memPartsWrong : ChangeSpec := { name := "memParts", fn := fun _ => fun
  | [d1, d2] => { results := [.lit (.bool false)], args := [d1, d2] }
  | _ => none }
def MemPartsWrongFalsely : Prop := memPartsRow.holds Try.pinned (OpenSpec.ofChange memPartsWrong)

/-- 'auspexlaw05.MemFetches': WHATEVER THE INPUT: true; the input reads as it did. -/
def memFetchesSpec : ChangeSpec := { name := "memFetches", fn := fun _ => fun
  | [d1, d2, d3] => { results := [.lit (.bool true)], args := [d1, d2, d3] }
  | _ => none }
def memFetchesRow : OpenClaim := { program := "ytlfdhdioaglieaa", sum := "681c820e0142962305a474e2269bf535cfda193cf3c32148beb130e2e1f591ef", func := "auspex/auspexlaw05.MemFetches", spec := "memFetches", apart := false }
def MemFetchesSaid : Prop := memFetchesRow.holds Try.pinned (OpenSpec.ofChange memFetchesSpec)

/-- ITS FALSE NEIGHBOUR: 'it returns false'. Refute it at one input. -/
def memFetchesWrong : ChangeSpec := { name := "memFetches", fn := fun _ => fun
  | [d1, d2, d3] => { results := [.lit (.bool false)], args := [d1, d2, d3] }
  | _ => none }
def MemFetchesWrongFalsely : Prop := memFetchesRow.holds Try.pinned (OpenSpec.ofChange memFetchesWrong)

/- THE SECOND FORM. 'bulk': how many values and letters a reading holds, each counted each time it is reached (what is shared counts as often as it is met; a slice's spare places count too). A statement '..UptoSaid' is the law's where the arguments, and the package variables that the reading takes, are together of bulk at most 1048576: NARROWER than '..Said'. Prove '..Said' where nothing that the law and all that it calls make is longer than what came in: it says more and counts as full. Else prove '..UptoSaid'. A law counts once. -/
mutual
def uptoBulk {H : Type} : DataW H → Nat
  | .lit (.string bytes) => bytes.length + 1
  | .lit _ => 1
  | .nil => 1
  | .ptr d => uptoBulk d + 1
  | .slice elems spare => uptoBulkAll elems + uptoBulkAll spare + 1
  | .agg parts => uptoBulkAll parts + 1
  | .iface _ d => uptoBulk d + 1
  | .map entries => uptoBulkEntries entries + 1
  | .held _ => 1
def uptoBulkAll {H : Type} : List (DataW H) → Nat
  | [] => 0
  | d :: r => uptoBulk d + uptoBulkAll r
def uptoBulkEntries {H : Type} : List (Lit × DataW H) → Nat
  | [] => 0
  | x :: r => uptoBulkEntry x + uptoBulkEntries r
def uptoBulkEntry {H : Type} : Lit × DataW H → Nat
  | (.string bytes, d) => bytes.length + uptoBulk d + 1
  | (_, d) => uptoBulk d + 1
 end
def uptoSmall : (H : Type) → List (DataW H) → Bool := fun _ ds => decide (uptoBulkAll ds ≤ 1048576)
def OpenSpec.upto (s : _root_.Go.ChangeSpec) : _root_.Go.OpenSpec := { _root_.Go.OpenSpec.ofChange s with cond := some uptoSmall }

/-- 'auspexlaw05.MemCalls', WHERE WHAT IT READS IS OF BULK AT MOST 1048576: true; the input reads as it did. -/
def memCallsUptoRow : OpenClaim := { program := "ytlfdhdioaglieaa", sum := "681c820e0142962305a474e2269bf535cfda193cf3c32148beb130e2e1f591ef", func := "auspex/auspexlaw05.MemCalls", spec := "memCalls", apart := false, narrowed := true }
def MemCallsUptoSaid : Prop := memCallsUptoRow.holds Try.pinned (OpenSpec.upto memCallsSpec)

/-- 'auspexlaw05.MemBack', WHERE WHAT IT READS IS OF BULK AT MOST 1048576: true; the input reads as it did. -/
def memBackUptoRow : OpenClaim := { program := "ytlfdhdioaglieaa", sum := "681c820e0142962305a474e2269bf535cfda193cf3c32148beb130e2e1f591ef", func := "auspex/auspexlaw05.MemBack", spec := "memBack", apart := false, narrowed := true }
def MemBackUptoSaid : Prop := memBackUptoRow.holds Try.pinned (OpenSpec.upto memBackSpec)

/-- 'auspexlaw05.MemTwo', WHERE WHAT IT READS IS OF BULK AT MOST 1048576: true; the input reads as it did. -/
def memTwoUptoRow : OpenClaim := { program := "ytlfdhdioaglieaa", sum := "681c820e0142962305a474e2269bf535cfda193cf3c32148beb130e2e1f591ef", func := "auspex/auspexlaw05.MemTwo", spec := "memTwo", apart := false, narrowed := true }
def MemTwoUptoSaid : Prop := memTwoUptoRow.holds Try.pinned (OpenSpec.upto memTwoSpec)

/-- 'auspexlaw05.MemParts', WHERE WHAT IT READS IS OF BULK AT MOST 1048576: true; the input reads as it did. -/
def memPartsUptoRow : OpenClaim := { program := "ytlfdhdioaglieaa", sum := "681c820e0142962305a474e2269bf535cfda193cf3c32148beb130e2e1f591ef", func := "auspex/auspexlaw05.MemParts", spec := "memParts", apart := false, narrowed := true }
def MemPartsUptoSaid : Prop := memPartsUptoRow.holds Try.pinned (OpenSpec.upto memPartsSpec)

/-- 'auspexlaw05.MemFetches', WHERE WHAT IT READS IS OF BULK AT MOST 1048576: true; the input reads as it did. -/
def memFetchesUptoRow : OpenClaim := { program := "ytlfdhdioaglieaa", sum := "681c820e0142962305a474e2269bf535cfda193cf3c32148beb130e2e1f591ef", func := "auspex/auspexlaw05.MemFetches", spec := "memFetches", apart := false, narrowed := true }
def MemFetchesUptoSaid : Prop := memFetchesUptoRow.holds Try.pinned (OpenSpec.upto memFetchesSpec)

end Rows
end Go.Proofs.Ytlfdhdioaglieaa
