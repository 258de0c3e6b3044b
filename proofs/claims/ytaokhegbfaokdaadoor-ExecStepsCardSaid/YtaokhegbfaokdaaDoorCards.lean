/-
  DERIVED. GIVEN WITH THE SEED: THE CARDS: each row of YtaokhegbfaokdaaDoorRows.lean that lists a variable, with what it lists TIED to the program's text (the seventh form; the later family's looks); each row that meets fmt, with fmt's text TOLD by the authors' own Lean function (tested against real Go, not proved from fmt's source: count such statements apart). THE CARD IS WHAT COUNTS. Prove the row's statement (the work); the ties are given (YtaokhegbfaokdaaDoorTie.lean); close each card by the builder's one call (the guide's Derived/Test/ToyasCard.lean, 'card_holds'). Laid BY PROGRAM, IN A SANDBOX (cutbox-door.mjs). By AI agents, Wed Nov 11 2026. No macro, syntax, notation, axiom, sorry.
-/
import Derived.Test.YtaokhegbfaokdaaDoorRows
import GoSem.ClaimSeven
namespace Go.Proofs.YtaokhegbfaokdaaDoor
namespace Rows

/-- THE TIED CARD OF 'auspexlaw18.ExecSteps'. -/
def execStepsCard : Claim7 := { stood := { row := execStepsRow, standIns := [], harness := (true, "540d486d2fc2da61094bc60ea3085f18ecd727e6b1a07f4683aa48fb7fcf1a63"), looks := false }, kinds := [], alts := [], laidByText := true, laidKinds := [.data], laidTests := true, laidLooks := .later }
def ExecStepsCardSaid : Prop := Claim7.holds Tryd.pinned (.plain (OpenSpec.ofChange execStepsSpec)) execStepsCard

/-- THE SECOND FORM's CARD OF 'auspexlaw18.ExecSteps'. -/
def execStepsUptoCard : Claim7 := { stood := { row := execStepsUptoRow, standIns := [], harness := (true, "540d486d2fc2da61094bc60ea3085f18ecd727e6b1a07f4683aa48fb7fcf1a63"), looks := false }, kinds := [], alts := [], laidByText := true, laidKinds := [.data], laidTests := true, laidLooks := .later }
def ExecStepsUptoCardSaid : Prop := Claim7.holds Tryd.pinned (.plain (OpenSpec.upto execStepsSpec)) execStepsUptoCard
end Rows
end Go.Proofs.YtaokhegbfaokdaaDoor
