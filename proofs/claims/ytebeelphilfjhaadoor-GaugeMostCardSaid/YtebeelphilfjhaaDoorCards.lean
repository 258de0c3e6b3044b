/-
  DERIVED. GIVEN WITH THE SEED: THE CARDS: each row of YtebeelphilfjhaaDoorRows.lean that lists a variable, with what it lists TIED to the program's text (the seventh form; the later family's looks); each row that meets fmt, with fmt's text TOLD by the authors' own Lean function (tested against real Go, not proved from fmt's source: count such statements apart). THE CARD IS WHAT COUNTS. Prove the row's statement (the work); the ties are given (YtebeelphilfjhaaDoorTie.lean); close each card by the builder's one call (the guide's Derived/Test/ToyasCard.lean, 'card_holds'). Laid BY PROGRAM, IN A SANDBOX (cutbox-door.mjs). By AI agents, Wed Nov 11 2026. No macro, syntax, notation, axiom, sorry.
-/
import Derived.Test.YtebeelphilfjhaaDoorRows
import GoSem.ClaimSeven
namespace Go.Proofs.YtebeelphilfjhaaDoor
namespace Rows

/-- THE TIED CARD OF 'auspexlaw24.GaugeRates'. -/
def gaugeRatesCard : Claim7 := { stood := { row := gaugeRatesRow, standIns := [], harness := (true, "b0d1a7f12652d13f467e82abf3d0f836e18264804f6d149e653f098c25d391f6"), looks := false }, kinds := [], alts := [], laidByText := true, laidKinds := [.data, .data, .data], laidTests := true, laidLooks := .later }
def GaugeRatesCardSaid : Prop := Claim7.holds Tryd.pinned (.plain (OpenSpec.ofChange gaugeRatesSpec)) gaugeRatesCard

/-- THE TIED CARD OF 'auspexlaw24.GaugeMeans'. -/
def gaugeMeansCard : Claim7 := { stood := { row := gaugeMeansRow, standIns := [], harness := (true, "b0d1a7f12652d13f467e82abf3d0f836e18264804f6d149e653f098c25d391f6"), looks := false }, kinds := [], alts := [], laidByText := true, laidKinds := [.data, .data, .data], laidTests := true, laidLooks := .later }
def GaugeMeansCardSaid : Prop := Claim7.holds Tryd.pinned (.plain (OpenSpec.ofChange gaugeMeansSpec)) gaugeMeansCard

/-- THE TIED CARD OF 'auspexlaw24.GaugeOrder'. -/
def gaugeOrderCard : Claim7 := { stood := { row := gaugeOrderRow, standIns := [], harness := (true, "b0d1a7f12652d13f467e82abf3d0f836e18264804f6d149e653f098c25d391f6"), looks := false }, kinds := [], alts := [], laidByText := true, laidKinds := [.data, .data, .data], laidTests := true, laidLooks := .later }
def GaugeOrderCardSaid : Prop := Claim7.holds Tryd.pinned (.plain (OpenSpec.ofChange gaugeOrderSpec)) gaugeOrderCard

/-- THE TIED CARD OF 'auspexlaw24.GaugeMost'. -/
def gaugeMostCard : Claim7 := { stood := { row := gaugeMostRow, standIns := [], harness := (true, "b0d1a7f12652d13f467e82abf3d0f836e18264804f6d149e653f098c25d391f6"), looks := false }, kinds := [], alts := [], laidByText := true, laidKinds := [.data, .data, .data], laidTests := true, laidLooks := .later }
def GaugeMostCardSaid : Prop := Claim7.holds Tryd.pinned (.plain (OpenSpec.ofChange gaugeMostSpec)) gaugeMostCard

/-- THE TIED CARD OF 'auspexlaw24.GaugeCores'. -/
def gaugeCoresCard : Claim7 := { stood := { row := gaugeCoresRow, standIns := [], harness := (true, "b0d1a7f12652d13f467e82abf3d0f836e18264804f6d149e653f098c25d391f6"), looks := false }, kinds := [], alts := [], laidByText := true, laidKinds := [.data, .data, .data], laidTests := true, laidLooks := .later }
def GaugeCoresCardSaid : Prop := Claim7.holds Tryd.pinned (.plain (OpenSpec.ofChange gaugeCoresSpec)) gaugeCoresCard

/-- THE TIED CARD OF 'auspexlaw24.GaugeSigns'. -/
def gaugeSignsCard : Claim7 := { stood := { row := gaugeSignsRow, standIns := [], harness := (true, "b0d1a7f12652d13f467e82abf3d0f836e18264804f6d149e653f098c25d391f6"), looks := false }, kinds := [], alts := [], laidByText := true, laidKinds := [.data, .data, .data], laidTests := true, laidLooks := .later }
def GaugeSignsCardSaid : Prop := Claim7.holds Tryd.pinned (.plain (OpenSpec.ofChange gaugeSignsSpec)) gaugeSignsCard

/-- THE TIED CARD OF 'auspexlaw24.GaugeWhole'. -/
def gaugeWholeCard : Claim7 := { stood := { row := gaugeWholeRow, standIns := [], harness := (true, "b0d1a7f12652d13f467e82abf3d0f836e18264804f6d149e653f098c25d391f6"), looks := false }, kinds := [], alts := [], laidByText := true, laidKinds := [.data, .data, .data], laidTests := true, laidLooks := .later }
def GaugeWholeCardSaid : Prop := Claim7.holds Tryd.pinned (.plain (OpenSpec.ofChange gaugeWholeSpec)) gaugeWholeCard

/-- THE SECOND FORM's CARD OF 'auspexlaw24.GaugeRates'. -/
def gaugeRatesUptoCard : Claim7 := { stood := { row := gaugeRatesUptoRow, standIns := [], harness := (true, "b0d1a7f12652d13f467e82abf3d0f836e18264804f6d149e653f098c25d391f6"), looks := false }, kinds := [], alts := [], laidByText := true, laidKinds := [.data, .data, .data], laidTests := true, laidLooks := .later }
def GaugeRatesUptoCardSaid : Prop := Claim7.holds Tryd.pinned (.plain (OpenSpec.upto gaugeRatesSpec)) gaugeRatesUptoCard

/-- THE SECOND FORM's CARD OF 'auspexlaw24.GaugeMeans'. -/
def gaugeMeansUptoCard : Claim7 := { stood := { row := gaugeMeansUptoRow, standIns := [], harness := (true, "b0d1a7f12652d13f467e82abf3d0f836e18264804f6d149e653f098c25d391f6"), looks := false }, kinds := [], alts := [], laidByText := true, laidKinds := [.data, .data, .data], laidTests := true, laidLooks := .later }
def GaugeMeansUptoCardSaid : Prop := Claim7.holds Tryd.pinned (.plain (OpenSpec.upto gaugeMeansSpec)) gaugeMeansUptoCard

/-- THE SECOND FORM's CARD OF 'auspexlaw24.GaugeOrder'. -/
def gaugeOrderUptoCard : Claim7 := { stood := { row := gaugeOrderUptoRow, standIns := [], harness := (true, "b0d1a7f12652d13f467e82abf3d0f836e18264804f6d149e653f098c25d391f6"), looks := false }, kinds := [], alts := [], laidByText := true, laidKinds := [.data, .data, .data], laidTests := true, laidLooks := .later }
def GaugeOrderUptoCardSaid : Prop := Claim7.holds Tryd.pinned (.plain (OpenSpec.upto gaugeOrderSpec)) gaugeOrderUptoCard

/-- THE SECOND FORM's CARD OF 'auspexlaw24.GaugeMost'. -/
def gaugeMostUptoCard : Claim7 := { stood := { row := gaugeMostUptoRow, standIns := [], harness := (true, "b0d1a7f12652d13f467e82abf3d0f836e18264804f6d149e653f098c25d391f6"), looks := false }, kinds := [], alts := [], laidByText := true, laidKinds := [.data, .data, .data], laidTests := true, laidLooks := .later }
def GaugeMostUptoCardSaid : Prop := Claim7.holds Tryd.pinned (.plain (OpenSpec.upto gaugeMostSpec)) gaugeMostUptoCard

/-- THE SECOND FORM's CARD OF 'auspexlaw24.GaugeCores'. -/
def gaugeCoresUptoCard : Claim7 := { stood := { row := gaugeCoresUptoRow, standIns := [], harness := (true, "b0d1a7f12652d13f467e82abf3d0f836e18264804f6d149e653f098c25d391f6"), looks := false }, kinds := [], alts := [], laidByText := true, laidKinds := [.data, .data, .data], laidTests := true, laidLooks := .later }
def GaugeCoresUptoCardSaid : Prop := Claim7.holds Tryd.pinned (.plain (OpenSpec.upto gaugeCoresSpec)) gaugeCoresUptoCard

/-- THE SECOND FORM's CARD OF 'auspexlaw24.GaugeSigns'. -/
def gaugeSignsUptoCard : Claim7 := { stood := { row := gaugeSignsUptoRow, standIns := [], harness := (true, "b0d1a7f12652d13f467e82abf3d0f836e18264804f6d149e653f098c25d391f6"), looks := false }, kinds := [], alts := [], laidByText := true, laidKinds := [.data, .data, .data], laidTests := true, laidLooks := .later }
def GaugeSignsUptoCardSaid : Prop := Claim7.holds Tryd.pinned (.plain (OpenSpec.upto gaugeSignsSpec)) gaugeSignsUptoCard

/-- THE SECOND FORM's CARD OF 'auspexlaw24.GaugeWhole'. -/
def gaugeWholeUptoCard : Claim7 := { stood := { row := gaugeWholeUptoRow, standIns := [], harness := (true, "b0d1a7f12652d13f467e82abf3d0f836e18264804f6d149e653f098c25d391f6"), looks := false }, kinds := [], alts := [], laidByText := true, laidKinds := [.data, .data, .data], laidTests := true, laidLooks := .later }
def GaugeWholeUptoCardSaid : Prop := Claim7.holds Tryd.pinned (.plain (OpenSpec.upto gaugeWholeSpec)) gaugeWholeUptoCard
end Rows
end Go.Proofs.YtebeelphilfjhaaDoor
