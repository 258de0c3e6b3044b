/-
  DERIVED. GIVEN WITH THE SEED: THE CARDS: each row of YtaanbolpgfmihaaDoorRows.lean that lists a variable, with what it lists TIED to the program's text (the seventh form; the later family's looks); each row that meets fmt, with fmt's text TOLD by the authors' own Lean function (tested against real Go, not proved from fmt's source: count such statements apart). THE CARD IS WHAT COUNTS. Prove the row's statement (the work); the ties are given (YtaanbolpgfmihaaDoorTie.lean); close each card by the builder's one call (the guide's Derived/Test/ToyasCard.lean, 'card_holds'). Laid BY PROGRAM, IN A SANDBOX (cutbox-door.mjs). By AI agents, Wed Nov 11 2026. No macro, syntax, notation, axiom, sorry.
-/
import Derived.Test.YtaanbolpgfmihaaDoorRows
import GoSem.ClaimSeven
namespace Go.Proofs.YtaanbolpgfmihaaDoor
namespace Rows

/-- THE TIED CARD OF 'auspexlaw06.SeqGoes'. -/
def seqGoesCard : Claim7 := { stood := { row := seqGoesRow, standIns := [], harness := (true, "ebb988c23a2fc119744680dd2b7cc44d9679bba1fb26de8f8ee887647337c47c"), looks := false }, kinds := [], alts := [], laidByText := true, laidKinds := [.data], laidTests := true, laidLooks := .later }
def SeqGoesCardSaid : Prop := Claim7.holds Tryd.pinned (.plain (OpenSpec.ofChange seqGoesSpec)) seqGoesCard

/-- THE TIED CARD OF 'auspexlaw06.SeqReads'. -/
def seqReadsCard : Claim7 := { stood := { row := seqReadsRow, standIns := [], harness := (true, "ebb988c23a2fc119744680dd2b7cc44d9679bba1fb26de8f8ee887647337c47c"), looks := false }, kinds := [], alts := [], laidByText := true, laidKinds := [.data], laidTests := true, laidLooks := .later }
def SeqReadsCardSaid : Prop := Claim7.holds Tryd.pinned (.plain (OpenSpec.ofChange seqReadsSpec)) seqReadsCard

/-- THE TIED CARD OF 'auspexlaw06.SeqStops'. -/
def seqStopsCard : Claim7 := { stood := { row := seqStopsRow, standIns := [], harness := (true, "ebb988c23a2fc119744680dd2b7cc44d9679bba1fb26de8f8ee887647337c47c"), looks := false }, kinds := [], alts := [], laidByText := true, laidKinds := [.data], laidTests := true, laidLooks := .later }
def SeqStopsCardSaid : Prop := Claim7.holds Tryd.pinned (.plain (OpenSpec.ofChange seqStopsSpec)) seqStopsCard

/-- THE TIED CARD OF 'auspexlaw06.SeqAdds'. -/
def seqAddsCard : Claim7 := { stood := { row := seqAddsRow, standIns := [], harness := (true, "ebb988c23a2fc119744680dd2b7cc44d9679bba1fb26de8f8ee887647337c47c"), looks := false }, kinds := [], alts := [], laidByText := true, laidKinds := [.data], laidTests := true, laidLooks := .later }
def SeqAddsCardSaid : Prop := Claim7.holds Tryd.pinned (.plain (OpenSpec.ofChange seqAddsSpec)) seqAddsCard

/-- THE TIED CARD OF 'auspexlaw07.TraceRuns'. -/
def traceRunsCard : Claim7 := { stood := { row := traceRunsRow, standIns := [], harness := (true, "ebb988c23a2fc119744680dd2b7cc44d9679bba1fb26de8f8ee887647337c47c"), looks := false }, kinds := [], alts := [], laidByText := true, laidKinds := [.data], laidTests := true, laidLooks := .later }
def TraceRunsCardSaid : Prop := Claim7.holds Tryd.pinned (.plain (OpenSpec.ofChange traceRunsSpec)) traceRunsCard

/-- THE TIED CARD OF 'auspexlaw07.TraceTells'. -/
def traceTellsCard : Claim7 := { stood := { row := traceTellsRow, standIns := [], harness := (true, "ebb988c23a2fc119744680dd2b7cc44d9679bba1fb26de8f8ee887647337c47c"), looks := false }, kinds := [], alts := [], laidByText := true, laidKinds := [.data], laidTests := true, laidLooks := .later }
def TraceTellsCardSaid : Prop := Claim7.holds Tryd.pinned (.plain (OpenSpec.ofChange traceTellsSpec)) traceTellsCard

/-- THE TIED CARD OF 'auspexlaw18.ExecSteps'. -/
def execStepsCard : Claim7 := { stood := { row := execStepsRow, standIns := [], harness := (true, "ebb988c23a2fc119744680dd2b7cc44d9679bba1fb26de8f8ee887647337c47c"), looks := false }, kinds := [], alts := [], laidByText := true, laidKinds := [.data], laidTests := true, laidLooks := .later }
def ExecStepsCardSaid : Prop := Claim7.holds Tryd.pinned (.plain (OpenSpec.ofChange execStepsSpec)) execStepsCard

/-- THE SECOND FORM's CARD OF 'auspexlaw06.SeqGoes'. -/
def seqGoesUptoCard : Claim7 := { stood := { row := seqGoesUptoRow, standIns := [], harness := (true, "ebb988c23a2fc119744680dd2b7cc44d9679bba1fb26de8f8ee887647337c47c"), looks := false }, kinds := [], alts := [], laidByText := true, laidKinds := [.data], laidTests := true, laidLooks := .later }
def SeqGoesUptoCardSaid : Prop := Claim7.holds Tryd.pinned (.plain (OpenSpec.upto seqGoesSpec)) seqGoesUptoCard

/-- THE SECOND FORM's CARD OF 'auspexlaw06.SeqReads'. -/
def seqReadsUptoCard : Claim7 := { stood := { row := seqReadsUptoRow, standIns := [], harness := (true, "ebb988c23a2fc119744680dd2b7cc44d9679bba1fb26de8f8ee887647337c47c"), looks := false }, kinds := [], alts := [], laidByText := true, laidKinds := [.data], laidTests := true, laidLooks := .later }
def SeqReadsUptoCardSaid : Prop := Claim7.holds Tryd.pinned (.plain (OpenSpec.upto seqReadsSpec)) seqReadsUptoCard

/-- THE SECOND FORM's CARD OF 'auspexlaw06.SeqStops'. -/
def seqStopsUptoCard : Claim7 := { stood := { row := seqStopsUptoRow, standIns := [], harness := (true, "ebb988c23a2fc119744680dd2b7cc44d9679bba1fb26de8f8ee887647337c47c"), looks := false }, kinds := [], alts := [], laidByText := true, laidKinds := [.data], laidTests := true, laidLooks := .later }
def SeqStopsUptoCardSaid : Prop := Claim7.holds Tryd.pinned (.plain (OpenSpec.upto seqStopsSpec)) seqStopsUptoCard

/-- THE SECOND FORM's CARD OF 'auspexlaw06.SeqAdds'. -/
def seqAddsUptoCard : Claim7 := { stood := { row := seqAddsUptoRow, standIns := [], harness := (true, "ebb988c23a2fc119744680dd2b7cc44d9679bba1fb26de8f8ee887647337c47c"), looks := false }, kinds := [], alts := [], laidByText := true, laidKinds := [.data], laidTests := true, laidLooks := .later }
def SeqAddsUptoCardSaid : Prop := Claim7.holds Tryd.pinned (.plain (OpenSpec.upto seqAddsSpec)) seqAddsUptoCard

/-- THE SECOND FORM's CARD OF 'auspexlaw07.TraceRuns'. -/
def traceRunsUptoCard : Claim7 := { stood := { row := traceRunsUptoRow, standIns := [], harness := (true, "ebb988c23a2fc119744680dd2b7cc44d9679bba1fb26de8f8ee887647337c47c"), looks := false }, kinds := [], alts := [], laidByText := true, laidKinds := [.data], laidTests := true, laidLooks := .later }
def TraceRunsUptoCardSaid : Prop := Claim7.holds Tryd.pinned (.plain (OpenSpec.upto traceRunsSpec)) traceRunsUptoCard

/-- THE SECOND FORM's CARD OF 'auspexlaw07.TraceTells'. -/
def traceTellsUptoCard : Claim7 := { stood := { row := traceTellsUptoRow, standIns := [], harness := (true, "ebb988c23a2fc119744680dd2b7cc44d9679bba1fb26de8f8ee887647337c47c"), looks := false }, kinds := [], alts := [], laidByText := true, laidKinds := [.data], laidTests := true, laidLooks := .later }
def TraceTellsUptoCardSaid : Prop := Claim7.holds Tryd.pinned (.plain (OpenSpec.upto traceTellsSpec)) traceTellsUptoCard

/-- THE SECOND FORM's CARD OF 'auspexlaw18.ExecSteps'. -/
def execStepsUptoCard : Claim7 := { stood := { row := execStepsUptoRow, standIns := [], harness := (true, "ebb988c23a2fc119744680dd2b7cc44d9679bba1fb26de8f8ee887647337c47c"), looks := false }, kinds := [], alts := [], laidByText := true, laidKinds := [.data], laidTests := true, laidLooks := .later }
def ExecStepsUptoCardSaid : Prop := Claim7.holds Tryd.pinned (.plain (OpenSpec.upto execStepsSpec)) execStepsUptoCard
end Rows
end Go.Proofs.YtaanbolpgfmihaaDoor
