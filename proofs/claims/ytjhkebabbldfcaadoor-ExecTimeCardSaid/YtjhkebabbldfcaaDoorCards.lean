/-
  DERIVED. GIVEN WITH THE SEED: THE CARDS: each row of YtjhkebabbldfcaaDoorRows.lean that lists a variable, with what it lists TIED to the program's text (the seventh form; the later family's looks); each row that meets fmt, with fmt's text TOLD by the authors' own Lean function (tested against real Go, not proved from fmt's source: count such statements apart). THE CARD IS WHAT COUNTS. Prove the row's statement (the work); the ties are given (YtjhkebabbldfcaaDoorTie.lean); close each card by the builder's one call (the guide's Derived/Test/ToyasCard.lean, 'card_holds'). Laid BY PROGRAM, IN A SANDBOX (cutbox-door.mjs). By AI agents, Wed Nov 11 2026. No macro, syntax, notation, axiom, sorry.
-/
import Derived.Test.YtjhkebabbldfcaaDoorRows
import GoSem.ClaimSeven
namespace Go.Proofs.YtjhkebabbldfcaaDoor
namespace Rows

/-- THE TIED CARD OF 'auspexlaw14.TaintVisible'. -/
def taintVisibleCard : Claim7 := { stood := { row := taintVisibleRow, standIns := [], harness := (true, "c3591471d98ac0fa8076b37f262a5324cdad464447dbe42a3e50d39fc13acba9"), looks := false }, kinds := [], alts := [], laidByText := true, laidKinds := [.data], laidTests := true, laidLooks := .later }
def TaintVisibleCardSaid : Prop := Claim7.holds Tryd.pinned (.plain (OpenSpec.ofChange taintVisibleSpec)) taintVisibleCard

/-- THE TIED CARD OF 'auspexlaw14.TaintGoes'. -/
def taintGoesCard : Claim7 := { stood := { row := taintGoesRow, standIns := [], harness := (true, "c3591471d98ac0fa8076b37f262a5324cdad464447dbe42a3e50d39fc13acba9"), looks := false }, kinds := [], alts := [], laidByText := true, laidKinds := [.data], laidTests := true, laidLooks := .later }
def TaintGoesCardSaid : Prop := Claim7.holds Tryd.pinned (.plain (OpenSpec.ofChange taintGoesSpec)) taintGoesCard

/-- THE TIED CARD OF 'auspexlaw14.TaintNone'. -/
def taintNoneCard : Claim7 := { stood := { row := taintNoneRow, standIns := [], harness := (true, "c3591471d98ac0fa8076b37f262a5324cdad464447dbe42a3e50d39fc13acba9"), looks := false }, kinds := [], alts := [], laidByText := true, laidKinds := [.data], laidTests := true, laidLooks := .later }
def TaintNoneCardSaid : Prop := Claim7.holds Tryd.pinned (.plain (OpenSpec.ofChange taintNoneSpec)) taintNoneCard

/-- THE TIED CARD OF 'auspexlaw15.GateOrder'. -/
def gateOrderCard : Claim7 := { stood := { row := gateOrderRow, standIns := [], harness := (true, "c3591471d98ac0fa8076b37f262a5324cdad464447dbe42a3e50d39fc13acba9"), looks := false }, kinds := [], alts := [], laidByText := true, laidKinds := [.data], laidTests := true, laidLooks := .later }
def GateOrderCardSaid : Prop := Claim7.holds Tryd.pinned (.plain (OpenSpec.ofChange gateOrderSpec)) gateOrderCard

/-- THE TIED CARD OF 'auspexlaw15.GatePlain'. -/
def gatePlainCard : Claim7 := { stood := { row := gatePlainRow, standIns := [], harness := (true, "c3591471d98ac0fa8076b37f262a5324cdad464447dbe42a3e50d39fc13acba9"), looks := false }, kinds := [], alts := [], laidByText := true, laidKinds := [.data], laidTests := true, laidLooks := .later }
def GatePlainCardSaid : Prop := Claim7.holds Tryd.pinned (.plain (OpenSpec.ofChange gatePlainSpec)) gatePlainCard

/-- THE TIED CARD OF 'auspexlaw18.ExecDoes'. -/
def execDoesCard : Claim7 := { stood := { row := execDoesRow, standIns := [], harness := (true, "c3591471d98ac0fa8076b37f262a5324cdad464447dbe42a3e50d39fc13acba9"), looks := false }, kinds := [], alts := [], laidByText := true, laidKinds := [.data], laidTests := true, laidLooks := .later }
def ExecDoesCardSaid : Prop := Claim7.holds Tryd.pinned (.plain (OpenSpec.ofChange execDoesSpec)) execDoesCard

/-- THE TIED CARD OF 'auspexlaw18.ExecTime'. -/
def execTimeCard : Claim7 := { stood := { row := execTimeRow, standIns := [], harness := (true, "c3591471d98ac0fa8076b37f262a5324cdad464447dbe42a3e50d39fc13acba9"), looks := false }, kinds := [], alts := [], laidByText := true, laidKinds := [.data], laidTests := true, laidLooks := .later }
def ExecTimeCardSaid : Prop := Claim7.holds Tryd.pinned (.plain (OpenSpec.ofChange execTimeSpec)) execTimeCard

/-- THE TIED CARD OF 'auspexlaw18.ExecStays'. -/
def execStaysCard : Claim7 := { stood := { row := execStaysRow, standIns := [], harness := (true, "c3591471d98ac0fa8076b37f262a5324cdad464447dbe42a3e50d39fc13acba9"), looks := false }, kinds := [], alts := [], laidByText := true, laidKinds := [.data], laidTests := true, laidLooks := .later }
def ExecStaysCardSaid : Prop := Claim7.holds Tryd.pinned (.plain (OpenSpec.ofChange execStaysSpec)) execStaysCard

/-- THE SECOND FORM's CARD OF 'auspexlaw14.TaintVisible'. -/
def taintVisibleUptoCard : Claim7 := { stood := { row := taintVisibleUptoRow, standIns := [], harness := (true, "c3591471d98ac0fa8076b37f262a5324cdad464447dbe42a3e50d39fc13acba9"), looks := false }, kinds := [], alts := [], laidByText := true, laidKinds := [.data], laidTests := true, laidLooks := .later }
def TaintVisibleUptoCardSaid : Prop := Claim7.holds Tryd.pinned (.plain (OpenSpec.upto taintVisibleSpec)) taintVisibleUptoCard

/-- THE SECOND FORM's CARD OF 'auspexlaw14.TaintGoes'. -/
def taintGoesUptoCard : Claim7 := { stood := { row := taintGoesUptoRow, standIns := [], harness := (true, "c3591471d98ac0fa8076b37f262a5324cdad464447dbe42a3e50d39fc13acba9"), looks := false }, kinds := [], alts := [], laidByText := true, laidKinds := [.data], laidTests := true, laidLooks := .later }
def TaintGoesUptoCardSaid : Prop := Claim7.holds Tryd.pinned (.plain (OpenSpec.upto taintGoesSpec)) taintGoesUptoCard

/-- THE SECOND FORM's CARD OF 'auspexlaw14.TaintNone'. -/
def taintNoneUptoCard : Claim7 := { stood := { row := taintNoneUptoRow, standIns := [], harness := (true, "c3591471d98ac0fa8076b37f262a5324cdad464447dbe42a3e50d39fc13acba9"), looks := false }, kinds := [], alts := [], laidByText := true, laidKinds := [.data], laidTests := true, laidLooks := .later }
def TaintNoneUptoCardSaid : Prop := Claim7.holds Tryd.pinned (.plain (OpenSpec.upto taintNoneSpec)) taintNoneUptoCard

/-- THE SECOND FORM's CARD OF 'auspexlaw15.GateOrder'. -/
def gateOrderUptoCard : Claim7 := { stood := { row := gateOrderUptoRow, standIns := [], harness := (true, "c3591471d98ac0fa8076b37f262a5324cdad464447dbe42a3e50d39fc13acba9"), looks := false }, kinds := [], alts := [], laidByText := true, laidKinds := [.data], laidTests := true, laidLooks := .later }
def GateOrderUptoCardSaid : Prop := Claim7.holds Tryd.pinned (.plain (OpenSpec.upto gateOrderSpec)) gateOrderUptoCard

/-- THE SECOND FORM's CARD OF 'auspexlaw15.GatePlain'. -/
def gatePlainUptoCard : Claim7 := { stood := { row := gatePlainUptoRow, standIns := [], harness := (true, "c3591471d98ac0fa8076b37f262a5324cdad464447dbe42a3e50d39fc13acba9"), looks := false }, kinds := [], alts := [], laidByText := true, laidKinds := [.data], laidTests := true, laidLooks := .later }
def GatePlainUptoCardSaid : Prop := Claim7.holds Tryd.pinned (.plain (OpenSpec.upto gatePlainSpec)) gatePlainUptoCard

/-- THE SECOND FORM's CARD OF 'auspexlaw18.ExecDoes'. -/
def execDoesUptoCard : Claim7 := { stood := { row := execDoesUptoRow, standIns := [], harness := (true, "c3591471d98ac0fa8076b37f262a5324cdad464447dbe42a3e50d39fc13acba9"), looks := false }, kinds := [], alts := [], laidByText := true, laidKinds := [.data], laidTests := true, laidLooks := .later }
def ExecDoesUptoCardSaid : Prop := Claim7.holds Tryd.pinned (.plain (OpenSpec.upto execDoesSpec)) execDoesUptoCard

/-- THE SECOND FORM's CARD OF 'auspexlaw18.ExecTime'. -/
def execTimeUptoCard : Claim7 := { stood := { row := execTimeUptoRow, standIns := [], harness := (true, "c3591471d98ac0fa8076b37f262a5324cdad464447dbe42a3e50d39fc13acba9"), looks := false }, kinds := [], alts := [], laidByText := true, laidKinds := [.data], laidTests := true, laidLooks := .later }
def ExecTimeUptoCardSaid : Prop := Claim7.holds Tryd.pinned (.plain (OpenSpec.upto execTimeSpec)) execTimeUptoCard

/-- THE SECOND FORM's CARD OF 'auspexlaw18.ExecStays'. -/
def execStaysUptoCard : Claim7 := { stood := { row := execStaysUptoRow, standIns := [], harness := (true, "c3591471d98ac0fa8076b37f262a5324cdad464447dbe42a3e50d39fc13acba9"), looks := false }, kinds := [], alts := [], laidByText := true, laidKinds := [.data], laidTests := true, laidLooks := .later }
def ExecStaysUptoCardSaid : Prop := Claim7.holds Tryd.pinned (.plain (OpenSpec.upto execStaysSpec)) execStaysUptoCard
end Rows
end Go.Proofs.YtjhkebabbldfcaaDoor
