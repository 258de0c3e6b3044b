/-
  No cell of these rows narrows 'for every input' (looked for: loops, veiled, ifaces, maps, wideKeys, modest, calm, conditions, laid).
  DERIVED. THE GIVEN ROWS OF THIS SEAT. 2 by the template 'for every input the law returns true; each argument reads behind the call as it read before'; 0 by the template 'total and deterministic' (their statements: YtkamljmopbocnaaTotals.lean).
  GIVEN WITH THE SEED: the statements are not yours to turn. If you find one false, say at which input.
  Laid BY PROGRAM, IN A SANDBOX (cutbox-rows.mjs): the forced cells as the released guide's own fill.sh prints them over the translation b54599c19874e28b… (all of the seat's roots in one cut). By AI agents, Wed Nov 11 2026. No macro, syntax, notation, axiom, sorry.
-/
import Derived.Test.YtkamljmopbocnaaChecked
import GoSem.Claim
import GoSem.ClaimJoined
import GoSem.ClaimMapViews
import Derived.JoinedTies
import Derived.KernelRfl
namespace Go.Proofs.Ytkamljmopbocnaa
/- THE CELL 'sum', in the pinned program and in every row, IS THE sha256 OF THE DUMP (.gsa) THAT YtkamljmopbocnaaProg.lean LOADS. Nothing in Lean hashes anything: it is a label: what it is worth is what the hold of that sum in a sandbox is worth. -/
noncomputable def Try.pinned : Pinned := { name := "ytkamljmopbocnaa", sum := "b54599c19874e28bd659c75bb71a2464164d8bed8a598f7229885cc3bd07e370", checked := Try.checked }
namespace Rows
def none {H : Type} : Left H := { results := [], args := [] }

/-- 'auspexlaw12.GuessKeeps': WHATEVER THE INPUT: true; the input reads as it did. -/
def guessKeepsSpec : ChangeSpec := { name := "guessKeeps", fn := fun _ => fun
  | [d1, d2, d3, d4] => { results := [.lit (.bool true)], args := [d1, d2, d3, d4] }
  | _ => none }
def guessKeepsRow : OpenClaim := { program := "ytkamljmopbocnaa", sum := "b54599c19874e28bd659c75bb71a2464164d8bed8a598f7229885cc3bd07e370", func := "auspex/auspexlaw12.GuessKeeps", spec := "guessKeeps", apart := false }
def GuessKeepsSaid : Prop := guessKeepsRow.holds Try.pinned (OpenSpec.ofChange guessKeepsSpec)

/-- ITS FALSE NEIGHBOUR: 'it returns false'. Refute it at one input. -/
def guessKeepsWrong : ChangeSpec := { name := "guessKeeps", fn := fun _ => fun
  | [d1, d2, d3, d4] => { results := [.lit (.bool false)], args := [d1, d2, d3, d4] }
  | _ => none }
def GuessKeepsWrongFalsely : Prop := guessKeepsRow.holds Try.pinned (OpenSpec.ofChange guessKeepsWrong)

/-- 'auspexlaw12.GuessOutcomes': WHATEVER THE INPUT: true; the input reads as it did. -/
def guessOutcomesSpec : ChangeSpec := { name := "guessOutcomes", fn := fun _ => fun
  | [d1, d2, d3] => { results := [.lit (.bool true)], args := [d1, d2, d3] }
  | _ => none }
def guessOutcomesRow : OpenClaim := { program := "ytkamljmopbocnaa", sum := "b54599c19874e28bd659c75bb71a2464164d8bed8a598f7229885cc3bd07e370", func := "auspex/auspexlaw12.GuessOutcomes", spec := "guessOutcomes", apart := false }
def GuessOutcomesSaid : Prop := guessOutcomesRow.holds Try.pinned (OpenSpec.ofChange guessOutcomesSpec)

/-- ITS FALSE NEIGHBOUR: 'it returns false'. Refute it at one input. -/
def guessOutcomesWrong : ChangeSpec := { name := "guessOutcomes", fn := fun _ => fun
  | [d1, d2, d3] => { results := [.lit (.bool false)], args := [d1, d2, d3] }
  | _ => none }
def GuessOutcomesWrongFalsely : Prop := guessOutcomesRow.holds Try.pinned (OpenSpec.ofChange guessOutcomesWrong)

/- THE SECOND FORM. 'bulk': how many values and letters a reading holds, each counted each time it is reached (what is shared counts as often as it is met; a slice's spare places count too). A statement '..UptoSaid' is the law's where the arguments, and the package variables that the reading takes, are together of bulk at most 1048576: NARROWER than '..Said'. Prove '..Said' where nothing that the law and all that it calls make is longer than what came in: it says more and counts as full. Else prove '..UptoSaid'. A law counts once. -/
mutual
def uptoBulk {H : Type} : DataW H → Nat
  | .lit (.string bytes) => bytes.length + 1
  | .lit _ => 1
  | .nil => 1
  | .ptr d => uptoBulk d + 1
  | .slice elems spare => uptoBulkAll elems + uptoBulkAll spare + 1
  | .agg parts => uptoBulkAll parts + 1
  | .iface _ d => uptoBulk d + 1
  | .map entries => uptoBulkEntries entries + 1
  | .held _ => 1
def uptoBulkAll {H : Type} : List (DataW H) → Nat
  | [] => 0
  | d :: r => uptoBulk d + uptoBulkAll r
def uptoBulkEntries {H : Type} : List (Lit × DataW H) → Nat
  | [] => 0
  | x :: r => uptoBulkEntry x + uptoBulkEntries r
def uptoBulkEntry {H : Type} : Lit × DataW H → Nat
  | (.string bytes, d) => bytes.length + uptoBulk d + 1
  | (_, d) => uptoBulk d + 1
 end
def uptoSmall : (H : Type) → List (DataW H) → Bool := fun _ ds => decide (uptoBulkAll ds ≤ 1048576)
def OpenSpec.upto (s : _root_.Go.ChangeSpec) : _root_.Go.OpenSpec := { _root_.Go.OpenSpec.ofChange s with cond := some uptoSmall }

/-- 'auspexlaw12.GuessKeeps', WHERE WHAT IT READS IS OF BULK AT MOST 1048576: true; the input reads as it did. -/
def guessKeepsUptoRow : OpenClaim := { program := "ytkamljmopbocnaa", sum := "b54599c19874e28bd659c75bb71a2464164d8bed8a598f7229885cc3bd07e370", func := "auspex/auspexlaw12.GuessKeeps", spec := "guessKeeps", apart := false, narrowed := true }
def GuessKeepsUptoSaid : Prop := guessKeepsUptoRow.holds Try.pinned (OpenSpec.upto guessKeepsSpec)

/-- 'auspexlaw12.GuessOutcomes', WHERE WHAT IT READS IS OF BULK AT MOST 1048576: true; the input reads as it did. -/
def guessOutcomesUptoRow : OpenClaim := { program := "ytkamljmopbocnaa", sum := "b54599c19874e28bd659c75bb71a2464164d8bed8a598f7229885cc3bd07e370", func := "auspex/auspexlaw12.GuessOutcomes", spec := "guessOutcomes", apart := false, narrowed := true }
def GuessOutcomesUptoSaid : Prop := guessOutcomesUptoRow.holds Try.pinned (OpenSpec.upto guessOutcomesSpec)

end Rows
end Go.Proofs.Ytkamljmopbocnaa
