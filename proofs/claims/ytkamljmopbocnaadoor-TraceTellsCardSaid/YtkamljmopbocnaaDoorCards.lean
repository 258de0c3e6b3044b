/-
  DERIVED. GIVEN WITH THE SEED: THE CARDS: each row of YtkamljmopbocnaaDoorRows.lean that lists a variable, with what it lists TIED to the program's text (the seventh form; the later family's looks); each row that meets fmt, with fmt's text TOLD by the authors' own Lean function (tested against real Go, not proved from fmt's source: count such statements apart). THE CARD IS WHAT COUNTS. Prove the row's statement (the work); the ties are given (YtkamljmopbocnaaDoorTie.lean); close each card by the builder's one call (the guide's Derived/Test/ToyasCard.lean, 'card_holds'). Laid BY PROGRAM, IN A SANDBOX (cutbox-door.mjs). By AI agents, Wed Nov 11 2026. No macro, syntax, notation, axiom, sorry.
-/
import Derived.Test.YtkamljmopbocnaaDoorRows
import GoSem.ClaimSeven
namespace Go.Proofs.YtkamljmopbocnaaDoor
namespace Rows

/-- THE TIED CARD OF 'auspexlaw06.SeqReads'. -/
def seqReadsCard : Claim7 := { stood := { row := seqReadsRow, standIns := [], harness := (true, "09c68285b38e4bd8e678d2651e28cd3e400035a949c55f349aa4832b230fe7d7"), looks := false }, kinds := [], alts := [], laidByText := true, laidKinds := [.data], laidTests := true, laidLooks := .later }
def SeqReadsCardSaid : Prop := Claim7.holds Tryd.pinned (.plain (OpenSpec.ofChange seqReadsSpec)) seqReadsCard

/-- THE TIED CARD OF 'auspexlaw06.SeqAdds'. -/
def seqAddsCard : Claim7 := { stood := { row := seqAddsRow, standIns := [], harness := (true, "09c68285b38e4bd8e678d2651e28cd3e400035a949c55f349aa4832b230fe7d7"), looks := false }, kinds := [], alts := [], laidByText := true, laidKinds := [.data], laidTests := true, laidLooks := .later }
def SeqAddsCardSaid : Prop := Claim7.holds Tryd.pinned (.plain (OpenSpec.ofChange seqAddsSpec)) seqAddsCard

/-- THE TIED CARD OF 'auspexlaw07.TraceTells'. -/
def traceTellsCard : Claim7 := { stood := { row := traceTellsRow, standIns := [], harness := (true, "09c68285b38e4bd8e678d2651e28cd3e400035a949c55f349aa4832b230fe7d7"), looks := false }, kinds := [], alts := [], laidByText := true, laidKinds := [.data], laidTests := true, laidLooks := .later }
def TraceTellsCardSaid : Prop := Claim7.holds Tryd.pinned (.plain (OpenSpec.ofChange traceTellsSpec)) traceTellsCard

/-- THE TIED CARD OF 'auspexlaw18.ExecSteps'. -/
def execStepsCard : Claim7 := { stood := { row := execStepsRow, standIns := [], harness := (true, "09c68285b38e4bd8e678d2651e28cd3e400035a949c55f349aa4832b230fe7d7"), looks := false }, kinds := [], alts := [], laidByText := true, laidKinds := [.data], laidTests := true, laidLooks := .later }
def ExecStepsCardSaid : Prop := Claim7.holds Tryd.pinned (.plain (OpenSpec.ofChange execStepsSpec)) execStepsCard

/-- THE SECOND FORM's CARD OF 'auspexlaw06.SeqReads'. -/
def seqReadsUptoCard : Claim7 := { stood := { row := seqReadsUptoRow, standIns := [], harness := (true, "09c68285b38e4bd8e678d2651e28cd3e400035a949c55f349aa4832b230fe7d7"), looks := false }, kinds := [], alts := [], laidByText := true, laidKinds := [.data], laidTests := true, laidLooks := .later }
def SeqReadsUptoCardSaid : Prop := Claim7.holds Tryd.pinned (.plain (OpenSpec.upto seqReadsSpec)) seqReadsUptoCard

/-- THE SECOND FORM's CARD OF 'auspexlaw06.SeqAdds'. -/
def seqAddsUptoCard : Claim7 := { stood := { row := seqAddsUptoRow, standIns := [], harness := (true, "09c68285b38e4bd8e678d2651e28cd3e400035a949c55f349aa4832b230fe7d7"), looks := false }, kinds := [], alts := [], laidByText := true, laidKinds := [.data], laidTests := true, laidLooks := .later }
def SeqAddsUptoCardSaid : Prop := Claim7.holds Tryd.pinned (.plain (OpenSpec.upto seqAddsSpec)) seqAddsUptoCard

/-- THE SECOND FORM's CARD OF 'auspexlaw07.TraceTells'. -/
def traceTellsUptoCard : Claim7 := { stood := { row := traceTellsUptoRow, standIns := [], harness := (true, "09c68285b38e4bd8e678d2651e28cd3e400035a949c55f349aa4832b230fe7d7"), looks := false }, kinds := [], alts := [], laidByText := true, laidKinds := [.data], laidTests := true, laidLooks := .later }
def TraceTellsUptoCardSaid : Prop := Claim7.holds Tryd.pinned (.plain (OpenSpec.upto traceTellsSpec)) traceTellsUptoCard

/-- THE SECOND FORM's CARD OF 'auspexlaw18.ExecSteps'. -/
def execStepsUptoCard : Claim7 := { stood := { row := execStepsUptoRow, standIns := [], harness := (true, "09c68285b38e4bd8e678d2651e28cd3e400035a949c55f349aa4832b230fe7d7"), looks := false }, kinds := [], alts := [], laidByText := true, laidKinds := [.data], laidTests := true, laidLooks := .later }
def ExecStepsUptoCardSaid : Prop := Claim7.holds Tryd.pinned (.plain (OpenSpec.upto execStepsSpec)) execStepsUptoCard
end Rows
end Go.Proofs.YtkamljmopbocnaaDoor
