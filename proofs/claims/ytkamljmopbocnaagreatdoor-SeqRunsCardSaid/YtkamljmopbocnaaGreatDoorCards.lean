/-
  DERIVED. GIVEN WITH THE SEED: THE CARDS: each row of YtkamljmopbocnaaGreatDoorRows.lean that lists a variable, with what it lists TIED to the program's text (the seventh form; the later family's looks); each row that meets fmt, with fmt's text TOLD by the authors' own Lean function (tested against real Go, not proved from fmt's source: count such statements apart). THE CARD IS WHAT COUNTS. Prove the row's statement (the work); the ties are given (YtkamljmopbocnaaGreatDoorTie.lean); close each card by the builder's one call (the guide's Derived/Test/ToyasCard.lean, 'card_holds'). Laid BY PROGRAM, IN A SANDBOX (cutbox-door.mjs). By AI agents, Wed Nov 11 2026. No macro, syntax, notation, axiom, sorry.
-/
import Derived.Test.YtkamljmopbocnaaGreatDoorRows
import GoSem.ClaimSeven
namespace Go.Proofs.YtkamljmopbocnaaGreatDoor
namespace Rows

/-- THE TIED CARD OF 'auspexlaw06.SeqRuns'. -/
def seqRunsCard : Claim7 := { stood := { row := seqRunsRow, standIns := [], harness := (true, "591c315b91a4f791d1114934d48a5fe8b4cfd0ab0f83ddaec3a9f62c99045412"), looks := false }, kinds := [], alts := [], laidByText := true, laidKinds := [.data], laidTests := true, laidLooks := .later }
def SeqRunsCardSaid : Prop := Claim7.holds Tryz.pinned (.plain (OpenSpec.ofChange seqRunsSpec)) seqRunsCard

/-- THE SECOND FORM's CARD OF 'auspexlaw06.SeqRuns'. -/
def seqRunsUptoCard : Claim7 := { stood := { row := seqRunsUptoRow, standIns := [], harness := (true, "591c315b91a4f791d1114934d48a5fe8b4cfd0ab0f83ddaec3a9f62c99045412"), looks := false }, kinds := [], alts := [], laidByText := true, laidKinds := [.data], laidTests := true, laidLooks := .later }
def SeqRunsUptoCardSaid : Prop := Claim7.holds Tryz.pinned (.plain (OpenSpec.upto seqRunsSpec)) seqRunsUptoCard
end Rows
end Go.Proofs.YtkamljmopbocnaaGreatDoor
