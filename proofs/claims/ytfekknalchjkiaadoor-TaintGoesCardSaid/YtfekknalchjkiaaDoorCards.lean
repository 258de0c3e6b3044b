/-
  DERIVED. GIVEN WITH THE SEED: THE CARDS: each row of YtfekknalchjkiaaDoorRows.lean that lists a variable, with what it lists TIED to the program's text (the seventh form; the later family's looks); each row that meets fmt, with fmt's text TOLD by the authors' own Lean function (tested against real Go, not proved from fmt's source: count such statements apart). THE CARD IS WHAT COUNTS. Prove the row's statement (the work); the ties are given (YtfekknalchjkiaaDoorTie.lean); close each card by the builder's one call (the guide's Derived/Test/ToyasCard.lean, 'card_holds'). Laid BY PROGRAM, IN A SANDBOX (cutbox-door.mjs). By AI agents, Wed Nov 11 2026. No macro, syntax, notation, axiom, sorry.
-/
import Derived.Test.YtfekknalchjkiaaDoorRows
import GoSem.ClaimSeven
namespace Go.Proofs.YtfekknalchjkiaaDoor
namespace Rows

/-- THE TIED CARD OF 'auspexlaw06.SeqGoes'. -/
def seqGoesCard : Claim7 := { stood := { row := seqGoesRow, standIns := [], harness := (true, "5a5c9296b4a7cd6158222aaac308b5d4fb1ab2e54d557319eb34ba3c840e0603"), looks := false }, kinds := [], alts := [], laidByText := true, laidKinds := [.data], laidTests := true, laidLooks := .later }
def SeqGoesCardSaid : Prop := Claim7.holds Tryd.pinned (.plain (OpenSpec.ofChange seqGoesSpec)) seqGoesCard

/-- THE TIED CARD OF 'auspexlaw06.SeqReads'. -/
def seqReadsCard : Claim7 := { stood := { row := seqReadsRow, standIns := [], harness := (true, "5a5c9296b4a7cd6158222aaac308b5d4fb1ab2e54d557319eb34ba3c840e0603"), looks := false }, kinds := [], alts := [], laidByText := true, laidKinds := [.data], laidTests := true, laidLooks := .later }
def SeqReadsCardSaid : Prop := Claim7.holds Tryd.pinned (.plain (OpenSpec.ofChange seqReadsSpec)) seqReadsCard

/-- THE TIED CARD OF 'auspexlaw06.SeqStops'. -/
def seqStopsCard : Claim7 := { stood := { row := seqStopsRow, standIns := [], harness := (true, "5a5c9296b4a7cd6158222aaac308b5d4fb1ab2e54d557319eb34ba3c840e0603"), looks := false }, kinds := [], alts := [], laidByText := true, laidKinds := [.data], laidTests := true, laidLooks := .later }
def SeqStopsCardSaid : Prop := Claim7.holds Tryd.pinned (.plain (OpenSpec.ofChange seqStopsSpec)) seqStopsCard

/-- THE TIED CARD OF 'auspexlaw06.SeqAdds'. -/
def seqAddsCard : Claim7 := { stood := { row := seqAddsRow, standIns := [], harness := (true, "5a5c9296b4a7cd6158222aaac308b5d4fb1ab2e54d557319eb34ba3c840e0603"), looks := false }, kinds := [], alts := [], laidByText := true, laidKinds := [.data], laidTests := true, laidLooks := .later }
def SeqAddsCardSaid : Prop := Claim7.holds Tryd.pinned (.plain (OpenSpec.ofChange seqAddsSpec)) seqAddsCard

/-- THE TIED CARD OF 'auspexlaw07.TraceRuns'. -/
def traceRunsCard : Claim7 := { stood := { row := traceRunsRow, standIns := [], harness := (true, "5a5c9296b4a7cd6158222aaac308b5d4fb1ab2e54d557319eb34ba3c840e0603"), looks := false }, kinds := [], alts := [], laidByText := true, laidKinds := [.data], laidTests := true, laidLooks := .later }
def TraceRunsCardSaid : Prop := Claim7.holds Tryd.pinned (.plain (OpenSpec.ofChange traceRunsSpec)) traceRunsCard

/-- THE TIED CARD OF 'auspexlaw07.TraceTells'. -/
def traceTellsCard : Claim7 := { stood := { row := traceTellsRow, standIns := [], harness := (true, "5a5c9296b4a7cd6158222aaac308b5d4fb1ab2e54d557319eb34ba3c840e0603"), looks := false }, kinds := [], alts := [], laidByText := true, laidKinds := [.data], laidTests := true, laidLooks := .later }
def TraceTellsCardSaid : Prop := Claim7.holds Tryd.pinned (.plain (OpenSpec.ofChange traceTellsSpec)) traceTellsCard

/-- THE TIED CARD OF 'auspexlaw14.TaintVisible'. -/
def taintVisibleCard : Claim7 := { stood := { row := taintVisibleRow, standIns := [], harness := (true, "5a5c9296b4a7cd6158222aaac308b5d4fb1ab2e54d557319eb34ba3c840e0603"), looks := false }, kinds := [], alts := [], laidByText := true, laidKinds := [.data], laidTests := true, laidLooks := .later }
def TaintVisibleCardSaid : Prop := Claim7.holds Tryd.pinned (.plain (OpenSpec.ofChange taintVisibleSpec)) taintVisibleCard

/-- THE TIED CARD OF 'auspexlaw14.TaintGoes'. -/
def taintGoesCard : Claim7 := { stood := { row := taintGoesRow, standIns := [], harness := (true, "5a5c9296b4a7cd6158222aaac308b5d4fb1ab2e54d557319eb34ba3c840e0603"), looks := false }, kinds := [], alts := [], laidByText := true, laidKinds := [.data], laidTests := true, laidLooks := .later }
def TaintGoesCardSaid : Prop := Claim7.holds Tryd.pinned (.plain (OpenSpec.ofChange taintGoesSpec)) taintGoesCard

/-- THE TIED CARD OF 'auspexlaw14.TaintNone'. -/
def taintNoneCard : Claim7 := { stood := { row := taintNoneRow, standIns := [], harness := (true, "5a5c9296b4a7cd6158222aaac308b5d4fb1ab2e54d557319eb34ba3c840e0603"), looks := false }, kinds := [], alts := [], laidByText := true, laidKinds := [.data], laidTests := true, laidLooks := .later }
def TaintNoneCardSaid : Prop := Claim7.holds Tryd.pinned (.plain (OpenSpec.ofChange taintNoneSpec)) taintNoneCard

/-- THE TIED CARD OF 'auspexlaw15.GateOrder'. -/
def gateOrderCard : Claim7 := { stood := { row := gateOrderRow, standIns := [], harness := (true, "5a5c9296b4a7cd6158222aaac308b5d4fb1ab2e54d557319eb34ba3c840e0603"), looks := false }, kinds := [], alts := [], laidByText := true, laidKinds := [.data], laidTests := true, laidLooks := .later }
def GateOrderCardSaid : Prop := Claim7.holds Tryd.pinned (.plain (OpenSpec.ofChange gateOrderSpec)) gateOrderCard

/-- THE TIED CARD OF 'auspexlaw15.GatePlain'. -/
def gatePlainCard : Claim7 := { stood := { row := gatePlainRow, standIns := [], harness := (true, "5a5c9296b4a7cd6158222aaac308b5d4fb1ab2e54d557319eb34ba3c840e0603"), looks := false }, kinds := [], alts := [], laidByText := true, laidKinds := [.data], laidTests := true, laidLooks := .later }
def GatePlainCardSaid : Prop := Claim7.holds Tryd.pinned (.plain (OpenSpec.ofChange gatePlainSpec)) gatePlainCard

/-- THE TIED CARD OF 'auspexlaw18.ExecDoes'. -/
def execDoesCard : Claim7 := { stood := { row := execDoesRow, standIns := [], harness := (true, "5a5c9296b4a7cd6158222aaac308b5d4fb1ab2e54d557319eb34ba3c840e0603"), looks := false }, kinds := [], alts := [], laidByText := true, laidKinds := [.data], laidTests := true, laidLooks := .later }
def ExecDoesCardSaid : Prop := Claim7.holds Tryd.pinned (.plain (OpenSpec.ofChange execDoesSpec)) execDoesCard

/-- THE TIED CARD OF 'auspexlaw18.ExecSteps'. -/
def execStepsCard : Claim7 := { stood := { row := execStepsRow, standIns := [], harness := (true, "5a5c9296b4a7cd6158222aaac308b5d4fb1ab2e54d557319eb34ba3c840e0603"), looks := false }, kinds := [], alts := [], laidByText := true, laidKinds := [.data], laidTests := true, laidLooks := .later }
def ExecStepsCardSaid : Prop := Claim7.holds Tryd.pinned (.plain (OpenSpec.ofChange execStepsSpec)) execStepsCard

/-- THE TIED CARD OF 'auspexlaw18.ExecStays'. -/
def execStaysCard : Claim7 := { stood := { row := execStaysRow, standIns := [], harness := (true, "5a5c9296b4a7cd6158222aaac308b5d4fb1ab2e54d557319eb34ba3c840e0603"), looks := false }, kinds := [], alts := [], laidByText := true, laidKinds := [.data], laidTests := true, laidLooks := .later }
def ExecStaysCardSaid : Prop := Claim7.holds Tryd.pinned (.plain (OpenSpec.ofChange execStaysSpec)) execStaysCard

/-- THE SECOND FORM's CARD OF 'auspexlaw06.SeqGoes'. -/
def seqGoesUptoCard : Claim7 := { stood := { row := seqGoesUptoRow, standIns := [], harness := (true, "5a5c9296b4a7cd6158222aaac308b5d4fb1ab2e54d557319eb34ba3c840e0603"), looks := false }, kinds := [], alts := [], laidByText := true, laidKinds := [.data], laidTests := true, laidLooks := .later }
def SeqGoesUptoCardSaid : Prop := Claim7.holds Tryd.pinned (.plain (OpenSpec.upto seqGoesSpec)) seqGoesUptoCard

/-- THE SECOND FORM's CARD OF 'auspexlaw06.SeqReads'. -/
def seqReadsUptoCard : Claim7 := { stood := { row := seqReadsUptoRow, standIns := [], harness := (true, "5a5c9296b4a7cd6158222aaac308b5d4fb1ab2e54d557319eb34ba3c840e0603"), looks := false }, kinds := [], alts := [], laidByText := true, laidKinds := [.data], laidTests := true, laidLooks := .later }
def SeqReadsUptoCardSaid : Prop := Claim7.holds Tryd.pinned (.plain (OpenSpec.upto seqReadsSpec)) seqReadsUptoCard

/-- THE SECOND FORM's CARD OF 'auspexlaw06.SeqStops'. -/
def seqStopsUptoCard : Claim7 := { stood := { row := seqStopsUptoRow, standIns := [], harness := (true, "5a5c9296b4a7cd6158222aaac308b5d4fb1ab2e54d557319eb34ba3c840e0603"), looks := false }, kinds := [], alts := [], laidByText := true, laidKinds := [.data], laidTests := true, laidLooks := .later }
def SeqStopsUptoCardSaid : Prop := Claim7.holds Tryd.pinned (.plain (OpenSpec.upto seqStopsSpec)) seqStopsUptoCard

/-- THE SECOND FORM's CARD OF 'auspexlaw06.SeqAdds'. -/
def seqAddsUptoCard : Claim7 := { stood := { row := seqAddsUptoRow, standIns := [], harness := (true, "5a5c9296b4a7cd6158222aaac308b5d4fb1ab2e54d557319eb34ba3c840e0603"), looks := false }, kinds := [], alts := [], laidByText := true, laidKinds := [.data], laidTests := true, laidLooks := .later }
def SeqAddsUptoCardSaid : Prop := Claim7.holds Tryd.pinned (.plain (OpenSpec.upto seqAddsSpec)) seqAddsUptoCard

/-- THE SECOND FORM's CARD OF 'auspexlaw07.TraceRuns'. -/
def traceRunsUptoCard : Claim7 := { stood := { row := traceRunsUptoRow, standIns := [], harness := (true, "5a5c9296b4a7cd6158222aaac308b5d4fb1ab2e54d557319eb34ba3c840e0603"), looks := false }, kinds := [], alts := [], laidByText := true, laidKinds := [.data], laidTests := true, laidLooks := .later }
def TraceRunsUptoCardSaid : Prop := Claim7.holds Tryd.pinned (.plain (OpenSpec.upto traceRunsSpec)) traceRunsUptoCard

/-- THE SECOND FORM's CARD OF 'auspexlaw07.TraceTells'. -/
def traceTellsUptoCard : Claim7 := { stood := { row := traceTellsUptoRow, standIns := [], harness := (true, "5a5c9296b4a7cd6158222aaac308b5d4fb1ab2e54d557319eb34ba3c840e0603"), looks := false }, kinds := [], alts := [], laidByText := true, laidKinds := [.data], laidTests := true, laidLooks := .later }
def TraceTellsUptoCardSaid : Prop := Claim7.holds Tryd.pinned (.plain (OpenSpec.upto traceTellsSpec)) traceTellsUptoCard

/-- THE SECOND FORM's CARD OF 'auspexlaw14.TaintVisible'. -/
def taintVisibleUptoCard : Claim7 := { stood := { row := taintVisibleUptoRow, standIns := [], harness := (true, "5a5c9296b4a7cd6158222aaac308b5d4fb1ab2e54d557319eb34ba3c840e0603"), looks := false }, kinds := [], alts := [], laidByText := true, laidKinds := [.data], laidTests := true, laidLooks := .later }
def TaintVisibleUptoCardSaid : Prop := Claim7.holds Tryd.pinned (.plain (OpenSpec.upto taintVisibleSpec)) taintVisibleUptoCard

/-- THE SECOND FORM's CARD OF 'auspexlaw14.TaintGoes'. -/
def taintGoesUptoCard : Claim7 := { stood := { row := taintGoesUptoRow, standIns := [], harness := (true, "5a5c9296b4a7cd6158222aaac308b5d4fb1ab2e54d557319eb34ba3c840e0603"), looks := false }, kinds := [], alts := [], laidByText := true, laidKinds := [.data], laidTests := true, laidLooks := .later }
def TaintGoesUptoCardSaid : Prop := Claim7.holds Tryd.pinned (.plain (OpenSpec.upto taintGoesSpec)) taintGoesUptoCard

/-- THE SECOND FORM's CARD OF 'auspexlaw14.TaintNone'. -/
def taintNoneUptoCard : Claim7 := { stood := { row := taintNoneUptoRow, standIns := [], harness := (true, "5a5c9296b4a7cd6158222aaac308b5d4fb1ab2e54d557319eb34ba3c840e0603"), looks := false }, kinds := [], alts := [], laidByText := true, laidKinds := [.data], laidTests := true, laidLooks := .later }
def TaintNoneUptoCardSaid : Prop := Claim7.holds Tryd.pinned (.plain (OpenSpec.upto taintNoneSpec)) taintNoneUptoCard

/-- THE SECOND FORM's CARD OF 'auspexlaw15.GateOrder'. -/
def gateOrderUptoCard : Claim7 := { stood := { row := gateOrderUptoRow, standIns := [], harness := (true, "5a5c9296b4a7cd6158222aaac308b5d4fb1ab2e54d557319eb34ba3c840e0603"), looks := false }, kinds := [], alts := [], laidByText := true, laidKinds := [.data], laidTests := true, laidLooks := .later }
def GateOrderUptoCardSaid : Prop := Claim7.holds Tryd.pinned (.plain (OpenSpec.upto gateOrderSpec)) gateOrderUptoCard

/-- THE SECOND FORM's CARD OF 'auspexlaw15.GatePlain'. -/
def gatePlainUptoCard : Claim7 := { stood := { row := gatePlainUptoRow, standIns := [], harness := (true, "5a5c9296b4a7cd6158222aaac308b5d4fb1ab2e54d557319eb34ba3c840e0603"), looks := false }, kinds := [], alts := [], laidByText := true, laidKinds := [.data], laidTests := true, laidLooks := .later }
def GatePlainUptoCardSaid : Prop := Claim7.holds Tryd.pinned (.plain (OpenSpec.upto gatePlainSpec)) gatePlainUptoCard

/-- THE SECOND FORM's CARD OF 'auspexlaw18.ExecDoes'. -/
def execDoesUptoCard : Claim7 := { stood := { row := execDoesUptoRow, standIns := [], harness := (true, "5a5c9296b4a7cd6158222aaac308b5d4fb1ab2e54d557319eb34ba3c840e0603"), looks := false }, kinds := [], alts := [], laidByText := true, laidKinds := [.data], laidTests := true, laidLooks := .later }
def ExecDoesUptoCardSaid : Prop := Claim7.holds Tryd.pinned (.plain (OpenSpec.upto execDoesSpec)) execDoesUptoCard

/-- THE SECOND FORM's CARD OF 'auspexlaw18.ExecSteps'. -/
def execStepsUptoCard : Claim7 := { stood := { row := execStepsUptoRow, standIns := [], harness := (true, "5a5c9296b4a7cd6158222aaac308b5d4fb1ab2e54d557319eb34ba3c840e0603"), looks := false }, kinds := [], alts := [], laidByText := true, laidKinds := [.data], laidTests := true, laidLooks := .later }
def ExecStepsUptoCardSaid : Prop := Claim7.holds Tryd.pinned (.plain (OpenSpec.upto execStepsSpec)) execStepsUptoCard

/-- THE SECOND FORM's CARD OF 'auspexlaw18.ExecStays'. -/
def execStaysUptoCard : Claim7 := { stood := { row := execStaysUptoRow, standIns := [], harness := (true, "5a5c9296b4a7cd6158222aaac308b5d4fb1ab2e54d557319eb34ba3c840e0603"), looks := false }, kinds := [], alts := [], laidByText := true, laidKinds := [.data], laidTests := true, laidLooks := .later }
def ExecStaysUptoCardSaid : Prop := Claim7.holds Tryd.pinned (.plain (OpenSpec.upto execStaysSpec)) execStaysUptoCard
end Rows
end Go.Proofs.YtfekknalchjkiaaDoor
