/-
  No cell of these rows narrows 'for every input' (looked for: loops, veiled, ifaces, maps, wideKeys, modest, calm, conditions, laid).
  DERIVED. THE GIVEN ROWS OF THIS SEAT. 21 by the template 'for every input the law returns true; each argument reads behind the call as it read before'; 0 by the template 'total and deterministic' (their statements: YtbpafbogjhbogaaTotals.lean).
  GIVEN WITH THE SEED: the statements are not yours to turn. If you find one false, say at which input.
  Laid BY PROGRAM, IN A SANDBOX (cutbox-rows.mjs): the forced cells as the released guide's own fill.sh prints them over the translation e154151dd232e310… (all of the seat's roots in one cut). By AI agents, Wed Nov 11 2026. No macro, syntax, notation, axiom, sorry.
-/
import Derived.Test.YtbpafbogjhbogaaChecked
import GoSem.Claim
import GoSem.ClaimJoined
import GoSem.ClaimMapViews
import Derived.JoinedTies
import Derived.KernelRfl
namespace Go.Proofs.Ytbpafbogjhbogaa
/- THE CELL 'sum', in the pinned program and in every row, IS THE sha256 OF THE DUMP (.gsa) THAT YtbpafbogjhbogaaProg.lean LOADS. Nothing in Lean hashes anything: it is a label: what it is worth is what the hold of that sum in a sandbox is worth. -/
noncomputable def Try.pinned : Pinned := { name := "ytbpafbogjhbogaa", sum := "e154151dd232e310fc3d8827951a14a524f0781f117273f4c65e0b4f9e23c072", checked := Try.checked }
namespace Rows
def none {H : Type} : Left H := { results := [], args := [] }

/-- 'auspexlaw01.WordFields': WHATEVER THE INPUT: true; the input reads as it did. -/
def wordFieldsSpec : ChangeSpec := { name := "wordFields", fn := fun _ => fun
  | [d1, d2, d3, d4] => { results := [.lit (.bool true)], args := [d1, d2, d3, d4] }
  | _ => none }
def wordFieldsRow : OpenClaim := { program := "ytbpafbogjhbogaa", sum := "e154151dd232e310fc3d8827951a14a524f0781f117273f4c65e0b4f9e23c072", func := "auspex/auspexlaw01.WordFields", spec := "wordFields", apart := false }
def WordFieldsSaid : Prop := wordFieldsRow.holds Try.pinned (OpenSpec.ofChange wordFieldsSpec)

/-- ITS FALSE NEIGHBOUR: 'it returns false'. Refute it at one input. -/
def wordFieldsWrong : ChangeSpec := { name := "wordFields", fn := fun _ => fun
  | [d1, d2, d3, d4] => { results := [.lit (.bool false)], args := [d1, d2, d3, d4] }
  | _ => none }
def WordFieldsWrongFalsely : Prop := wordFieldsRow.holds Try.pinned (OpenSpec.ofChange wordFieldsWrong)

/-- 'auspexlaw01.WordBytes': WHATEVER THE INPUT: true; the input reads as it did. -/
def wordBytesSpec : ChangeSpec := { name := "wordBytes", fn := fun _ => fun
  | [d1, d2, d3] => { results := [.lit (.bool true)], args := [d1, d2, d3] }
  | _ => none }
def wordBytesRow : OpenClaim := { program := "ytbpafbogjhbogaa", sum := "e154151dd232e310fc3d8827951a14a524f0781f117273f4c65e0b4f9e23c072", func := "auspex/auspexlaw01.WordBytes", spec := "wordBytes", apart := false }
def WordBytesSaid : Prop := wordBytesRow.holds Try.pinned (OpenSpec.ofChange wordBytesSpec)

/-- ITS FALSE NEIGHBOUR: 'it returns false'. Refute it at one input. -/
def wordBytesWrong : ChangeSpec := { name := "wordBytes", fn := fun _ => fun
  | [d1, d2, d3] => { results := [.lit (.bool false)], args := [d1, d2, d3] }
  | _ => none }
def WordBytesWrongFalsely : Prop := wordBytesRow.holds Try.pinned (OpenSpec.ofChange wordBytesWrong)

/-- 'auspexlaw01.WordSets': WHATEVER THE INPUT: true; the input reads as it did. -/
def wordSetsSpec : ChangeSpec := { name := "wordSets", fn := fun _ => fun
  | [d1, d2, d3, d4, d5, d6] => { results := [.lit (.bool true)], args := [d1, d2, d3, d4, d5, d6] }
  | _ => none }
def wordSetsRow : OpenClaim := { program := "ytbpafbogjhbogaa", sum := "e154151dd232e310fc3d8827951a14a524f0781f117273f4c65e0b4f9e23c072", func := "auspex/auspexlaw01.WordSets", spec := "wordSets", apart := false }
def WordSetsSaid : Prop := wordSetsRow.holds Try.pinned (OpenSpec.ofChange wordSetsSpec)

/-- ITS FALSE NEIGHBOUR: 'it returns false'. Refute it at one input. -/
def wordSetsWrong : ChangeSpec := { name := "wordSets", fn := fun _ => fun
  | [d1, d2, d3, d4, d5, d6] => { results := [.lit (.bool false)], args := [d1, d2, d3, d4, d5, d6] }
  | _ => none }
def WordSetsWrongFalsely : Prop := wordSetsRow.holds Try.pinned (OpenSpec.ofChange wordSetsWrong)

/-- 'auspexlaw01.WordJoins': WHATEVER THE INPUT: true; the input reads as it did. -/
def wordJoinsSpec : ChangeSpec := { name := "wordJoins", fn := fun _ => fun
  | [d1, d2, d3] => { results := [.lit (.bool true)], args := [d1, d2, d3] }
  | _ => none }
def wordJoinsRow : OpenClaim := { program := "ytbpafbogjhbogaa", sum := "e154151dd232e310fc3d8827951a14a524f0781f117273f4c65e0b4f9e23c072", func := "auspex/auspexlaw01.WordJoins", spec := "wordJoins", apart := false }
def WordJoinsSaid : Prop := wordJoinsRow.holds Try.pinned (OpenSpec.ofChange wordJoinsSpec)

/-- ITS FALSE NEIGHBOUR: 'it returns false'. Refute it at one input. -/
def wordJoinsWrong : ChangeSpec := { name := "wordJoins", fn := fun _ => fun
  | [d1, d2, d3] => { results := [.lit (.bool false)], args := [d1, d2, d3] }
  | _ => none }
def WordJoinsWrongFalsely : Prop := wordJoinsRow.holds Try.pinned (OpenSpec.ofChange wordJoinsWrong)

/-- 'auspexlaw01.WordOver': WHATEVER THE INPUT: true; the input reads as it did. -/
def wordOverSpec : ChangeSpec := { name := "wordOver", fn := fun _ => fun
  | [d1, d2, d3, d4, d5] => { results := [.lit (.bool true)], args := [d1, d2, d3, d4, d5] }
  | _ => none }
def wordOverRow : OpenClaim := { program := "ytbpafbogjhbogaa", sum := "e154151dd232e310fc3d8827951a14a524f0781f117273f4c65e0b4f9e23c072", func := "auspex/auspexlaw01.WordOver", spec := "wordOver", apart := false }
def WordOverSaid : Prop := wordOverRow.holds Try.pinned (OpenSpec.ofChange wordOverSpec)

/-- ITS FALSE NEIGHBOUR: 'it returns false'. Refute it at one input. -/
def wordOverWrong : ChangeSpec := { name := "wordOver", fn := fun _ => fun
  | [d1, d2, d3, d4, d5] => { results := [.lit (.bool false)], args := [d1, d2, d3, d4, d5] }
  | _ => none }
def WordOverWrongFalsely : Prop := wordOverRow.holds Try.pinned (OpenSpec.ofChange wordOverWrong)

/-- 'auspexlaw01.WordTwice': WHATEVER THE INPUT: true; the input reads as it did. -/
def wordTwiceSpec : ChangeSpec := { name := "wordTwice", fn := fun _ => fun
  | [d1, d2, d3, d4, d5, d6, d7] => { results := [.lit (.bool true)], args := [d1, d2, d3, d4, d5, d6, d7] }
  | _ => none }
def wordTwiceRow : OpenClaim := { program := "ytbpafbogjhbogaa", sum := "e154151dd232e310fc3d8827951a14a524f0781f117273f4c65e0b4f9e23c072", func := "auspex/auspexlaw01.WordTwice", spec := "wordTwice", apart := false }
def WordTwiceSaid : Prop := wordTwiceRow.holds Try.pinned (OpenSpec.ofChange wordTwiceSpec)

/-- ITS FALSE NEIGHBOUR: 'it returns false'. Refute it at one input. -/
def wordTwiceWrong : ChangeSpec := { name := "wordTwice", fn := fun _ => fun
  | [d1, d2, d3, d4, d5, d6, d7] => { results := [.lit (.bool false)], args := [d1, d2, d3, d4, d5, d6, d7] }
  | _ => none }
def WordTwiceWrongFalsely : Prop := wordTwiceRow.holds Try.pinned (OpenSpec.ofChange wordTwiceWrong)

/-- 'auspexlaw03.AluDoes': WHATEVER THE INPUT: true; the input reads as it did. -/
def aluDoesSpec : ChangeSpec := { name := "aluDoes", fn := fun _ => fun
  | [d1, d2, d3] => { results := [.lit (.bool true)], args := [d1, d2, d3] }
  | _ => none }
def aluDoesRow : OpenClaim := { program := "ytbpafbogjhbogaa", sum := "e154151dd232e310fc3d8827951a14a524f0781f117273f4c65e0b4f9e23c072", func := "auspex/auspexlaw03.AluDoes", spec := "aluDoes", unfollowed := true, recurses := true, apart := false }
def AluDoesSaid : Prop := aluDoesRow.holds Try.pinned (OpenSpec.ofChange aluDoesSpec)

/-- ITS FALSE NEIGHBOUR: 'it returns false'. Refute it at one input. -/
def aluDoesWrong : ChangeSpec := { name := "aluDoes", fn := fun _ => fun
  | [d1, d2, d3] => { results := [.lit (.bool false)], args := [d1, d2, d3] }
  | _ => none }
def AluDoesWrongFalsely : Prop := aluDoesRow.holds Try.pinned (OpenSpec.ofChange aluDoesWrong)

/-- 'auspexlaw03.AluMuls': WHATEVER THE INPUT: true; the input reads as it did. -/
def aluMulsSpec : ChangeSpec := { name := "aluMuls", fn := fun _ => fun
  | [d1, d2, d3] => { results := [.lit (.bool true)], args := [d1, d2, d3] }
  | _ => none }
def aluMulsRow : OpenClaim := { program := "ytbpafbogjhbogaa", sum := "e154151dd232e310fc3d8827951a14a524f0781f117273f4c65e0b4f9e23c072", func := "auspex/auspexlaw03.AluMuls", spec := "aluMuls", unfollowed := true, recurses := true, apart := false }
def AluMulsSaid : Prop := aluMulsRow.holds Try.pinned (OpenSpec.ofChange aluMulsSpec)

/-- ITS FALSE NEIGHBOUR: 'it returns false'. Refute it at one input. -/
def aluMulsWrong : ChangeSpec := { name := "aluMuls", fn := fun _ => fun
  | [d1, d2, d3] => { results := [.lit (.bool false)], args := [d1, d2, d3] }
  | _ => none }
def AluMulsWrongFalsely : Prop := aluMulsRow.holds Try.pinned (OpenSpec.ofChange aluMulsWrong)

/-- 'auspexlaw03.AluJumps': WHATEVER THE INPUT: true; the input reads as it did. -/
def aluJumpsSpec : ChangeSpec := { name := "aluJumps", fn := fun _ => fun
  | [d1, d2, d3, d4] => { results := [.lit (.bool true)], args := [d1, d2, d3, d4] }
  | _ => none }
def aluJumpsRow : OpenClaim := { program := "ytbpafbogjhbogaa", sum := "e154151dd232e310fc3d8827951a14a524f0781f117273f4c65e0b4f9e23c072", func := "auspex/auspexlaw03.AluJumps", spec := "aluJumps", unfollowed := true, recurses := true, apart := false }
def AluJumpsSaid : Prop := aluJumpsRow.holds Try.pinned (OpenSpec.ofChange aluJumpsSpec)

/-- ITS FALSE NEIGHBOUR: 'it returns false'. Refute it at one input. -/
def aluJumpsWrong : ChangeSpec := { name := "aluJumps", fn := fun _ => fun
  | [d1, d2, d3, d4] => { results := [.lit (.bool false)], args := [d1, d2, d3, d4] }
  | _ => none }
def AluJumpsWrongFalsely : Prop := aluJumpsRow.holds Try.pinned (OpenSpec.ofChange aluJumpsWrong)

/-- 'auspexlaw03.AluRules': WHATEVER THE INPUT: true; the input reads as it did. -/
def aluRulesSpec : ChangeSpec := { name := "aluRules", fn := fun _ => fun
  | [d1, d2] => { results := [.lit (.bool true)], args := [d1, d2] }
  | _ => none }
def aluRulesRow : OpenClaim := { program := "ytbpafbogjhbogaa", sum := "e154151dd232e310fc3d8827951a14a524f0781f117273f4c65e0b4f9e23c072", func := "auspex/auspexlaw03.AluRules", spec := "aluRules", unfollowed := true, recurses := true, apart := false }
def AluRulesSaid : Prop := aluRulesRow.holds Try.pinned (OpenSpec.ofChange aluRulesSpec)

/-- ITS FALSE NEIGHBOUR: 'it returns false'. Refute it at one input. -/
def aluRulesWrong : ChangeSpec := { name := "aluRules", fn := fun _ => fun
  | [d1, d2] => { results := [.lit (.bool false)], args := [d1, d2] }
  | _ => none }
def AluRulesWrongFalsely : Prop := aluRulesRow.holds Try.pinned (OpenSpec.ofChange aluRulesWrong)

/-- 'auspexlaw03.AluHalves': WHATEVER THE INPUT: true; the input reads as it did. -/
def aluHalvesSpec : ChangeSpec := { name := "aluHalves", fn := fun _ => fun
  | [d1, d2] => { results := [.lit (.bool true)], args := [d1, d2] }
  | _ => none }
def aluHalvesRow : OpenClaim := { program := "ytbpafbogjhbogaa", sum := "e154151dd232e310fc3d8827951a14a524f0781f117273f4c65e0b4f9e23c072", func := "auspex/auspexlaw03.AluHalves", spec := "aluHalves", unfollowed := true, recurses := true, apart := false }
def AluHalvesSaid : Prop := aluHalvesRow.holds Try.pinned (OpenSpec.ofChange aluHalvesSpec)

/-- ITS FALSE NEIGHBOUR: 'it returns false'. Refute it at one input. -/
def aluHalvesWrong : ChangeSpec := { name := "aluHalves", fn := fun _ => fun
  | [d1, d2] => { results := [.lit (.bool false)], args := [d1, d2] }
  | _ => none }
def AluHalvesWrongFalsely : Prop := aluHalvesRow.holds Try.pinned (OpenSpec.ofChange aluHalvesWrong)

/-- 'auspexlaw03.AluShifts': WHATEVER THE INPUT: true; the input reads as it did. -/
def aluShiftsSpec : ChangeSpec := { name := "aluShifts", fn := fun _ => fun
  | [d1, d2, d3] => { results := [.lit (.bool true)], args := [d1, d2, d3] }
  | _ => none }
def aluShiftsRow : OpenClaim := { program := "ytbpafbogjhbogaa", sum := "e154151dd232e310fc3d8827951a14a524f0781f117273f4c65e0b4f9e23c072", func := "auspex/auspexlaw03.AluShifts", spec := "aluShifts", unfollowed := true, recurses := true, apart := false }
def AluShiftsSaid : Prop := aluShiftsRow.holds Try.pinned (OpenSpec.ofChange aluShiftsSpec)

/-- ITS FALSE NEIGHBOUR: 'it returns false'. Refute it at one input. -/
def aluShiftsWrong : ChangeSpec := { name := "aluShifts", fn := fun _ => fun
  | [d1, d2, d3] => { results := [.lit (.bool false)], args := [d1, d2, d3] }
  | _ => none }
def AluShiftsWrongFalsely : Prop := aluShiftsRow.holds Try.pinned (OpenSpec.ofChange aluShiftsWrong)

/-- 'auspexlaw03.AluSums': WHATEVER THE INPUT: true; the input reads as it did. -/
def aluSumsSpec : ChangeSpec := { name := "aluSums", fn := fun _ => fun
  | [d1, d2, d3] => { results := [.lit (.bool true)], args := [d1, d2, d3] }
  | _ => none }
def aluSumsRow : OpenClaim := { program := "ytbpafbogjhbogaa", sum := "e154151dd232e310fc3d8827951a14a524f0781f117273f4c65e0b4f9e23c072", func := "auspex/auspexlaw03.AluSums", spec := "aluSums", unfollowed := true, recurses := true, apart := false }
def AluSumsSaid : Prop := aluSumsRow.holds Try.pinned (OpenSpec.ofChange aluSumsSpec)

/-- ITS FALSE NEIGHBOUR: 'it returns false'. Refute it at one input. -/
def aluSumsWrong : ChangeSpec := { name := "aluSums", fn := fun _ => fun
  | [d1, d2, d3] => { results := [.lit (.bool false)], args := [d1, d2, d3] }
  | _ => none }
def AluSumsWrongFalsely : Prop := aluSumsRow.holds Try.pinned (OpenSpec.ofChange aluSumsWrong)

/-- 'auspexlaw03.AluBranches': WHATEVER THE INPUT: true; the input reads as it did. -/
def aluBranchesSpec : ChangeSpec := { name := "aluBranches", fn := fun _ => fun
  | [d1, d2] => { results := [.lit (.bool true)], args := [d1, d2] }
  | _ => none }
def aluBranchesRow : OpenClaim := { program := "ytbpafbogjhbogaa", sum := "e154151dd232e310fc3d8827951a14a524f0781f117273f4c65e0b4f9e23c072", func := "auspex/auspexlaw03.AluBranches", spec := "aluBranches", unfollowed := true, recurses := true, apart := false }
def AluBranchesSaid : Prop := aluBranchesRow.holds Try.pinned (OpenSpec.ofChange aluBranchesSpec)

/-- ITS FALSE NEIGHBOUR: 'it returns false'. Refute it at one input. -/
def aluBranchesWrong : ChangeSpec := { name := "aluBranches", fn := fun _ => fun
  | [d1, d2] => { results := [.lit (.bool false)], args := [d1, d2] }
  | _ => none }
def AluBranchesWrongFalsely : Prop := aluBranchesRow.holds Try.pinned (OpenSpec.ofChange aluBranchesWrong)

/-- 'auspexlaw03.AluHigh': WHATEVER THE INPUT: true; the input reads as it did. -/
def aluHighSpec : ChangeSpec := { name := "aluHigh", fn := fun _ => fun
  | [d1, d2] => { results := [.lit (.bool true)], args := [d1, d2] }
  | _ => none }
def aluHighRow : OpenClaim := { program := "ytbpafbogjhbogaa", sum := "e154151dd232e310fc3d8827951a14a524f0781f117273f4c65e0b4f9e23c072", func := "auspex/auspexlaw03.AluHigh", spec := "aluHigh", unfollowed := true, recurses := true, apart := false }
def AluHighSaid : Prop := aluHighRow.holds Try.pinned (OpenSpec.ofChange aluHighSpec)

/-- ITS FALSE NEIGHBOUR: 'it returns false'. Refute it at one input. -/
def aluHighWrong : ChangeSpec := { name := "aluHigh", fn := fun _ => fun
  | [d1, d2] => { results := [.lit (.bool false)], args := [d1, d2] }
  | _ => none }
def AluHighWrongFalsely : Prop := aluHighRow.holds Try.pinned (OpenSpec.ofChange aluHighWrong)

/-- 'auspexlaw04.DivideDoes': WHATEVER THE INPUT: true; the input reads as it did. -/
def divideDoesSpec : ChangeSpec := { name := "divideDoes", fn := fun _ => fun
  | [d1, d2, d3] => { results := [.lit (.bool true)], args := [d1, d2, d3] }
  | _ => none }
def divideDoesRow : OpenClaim := { program := "ytbpafbogjhbogaa", sum := "e154151dd232e310fc3d8827951a14a524f0781f117273f4c65e0b4f9e23c072", func := "auspex/auspexlaw04.DivideDoes", spec := "divideDoes", unfollowed := true, recurses := true, apart := false }
def DivideDoesSaid : Prop := divideDoesRow.holds Try.pinned (OpenSpec.ofChange divideDoesSpec)

/-- ITS FALSE NEIGHBOUR: 'it returns false'. Refute it at one input. -/
def divideDoesWrong : ChangeSpec := { name := "divideDoes", fn := fun _ => fun
  | [d1, d2, d3] => { results := [.lit (.bool false)], args := [d1, d2, d3] }
  | _ => none }
def DivideDoesWrongFalsely : Prop := divideDoesRow.holds Try.pinned (OpenSpec.ofChange divideDoesWrong)

/-- 'auspexlaw04.DivideBack': WHATEVER THE INPUT: true; the input reads as it did. -/
def divideBackSpec : ChangeSpec := { name := "divideBack", fn := fun _ => fun
  | [d1, d2] => { results := [.lit (.bool true)], args := [d1, d2] }
  | _ => none }
def divideBackRow : OpenClaim := { program := "ytbpafbogjhbogaa", sum := "e154151dd232e310fc3d8827951a14a524f0781f117273f4c65e0b4f9e23c072", func := "auspex/auspexlaw04.DivideBack", spec := "divideBack", unfollowed := true, recurses := true, apart := false }
def DivideBackSaid : Prop := divideBackRow.holds Try.pinned (OpenSpec.ofChange divideBackSpec)

/-- ITS FALSE NEIGHBOUR: 'it returns false'. Refute it at one input. -/
def divideBackWrong : ChangeSpec := { name := "divideBack", fn := fun _ => fun
  | [d1, d2] => { results := [.lit (.bool false)], args := [d1, d2] }
  | _ => none }
def DivideBackWrongFalsely : Prop := divideBackRow.holds Try.pinned (OpenSpec.ofChange divideBackWrong)

/-- 'auspexlaw04.DivideTook': WHATEVER THE INPUT: true; the input reads as it did. -/
def divideTookSpec : ChangeSpec := { name := "divideTook", fn := fun _ => fun
  | [d1, d2] => { results := [.lit (.bool true)], args := [d1, d2] }
  | _ => none }
def divideTookRow : OpenClaim := { program := "ytbpafbogjhbogaa", sum := "e154151dd232e310fc3d8827951a14a524f0781f117273f4c65e0b4f9e23c072", func := "auspex/auspexlaw04.DivideTook", spec := "divideTook", unfollowed := true, recurses := true, apart := false }
def DivideTookSaid : Prop := divideTookRow.holds Try.pinned (OpenSpec.ofChange divideTookSpec)

/-- ITS FALSE NEIGHBOUR: 'it returns false'. Refute it at one input. -/
def divideTookWrong : ChangeSpec := { name := "divideTook", fn := fun _ => fun
  | [d1, d2] => { results := [.lit (.bool false)], args := [d1, d2] }
  | _ => none }
def DivideTookWrongFalsely : Prop := divideTookRow.holds Try.pinned (OpenSpec.ofChange divideTookWrong)

/-- 'auspexlaw04.DivideSigns': WHATEVER THE INPUT: true; the input reads as it did. -/
def divideSignsSpec : ChangeSpec := { name := "divideSigns", fn := fun _ => fun
  | [d1, d2] => { results := [.lit (.bool true)], args := [d1, d2] }
  | _ => none }
def divideSignsRow : OpenClaim := { program := "ytbpafbogjhbogaa", sum := "e154151dd232e310fc3d8827951a14a524f0781f117273f4c65e0b4f9e23c072", func := "auspex/auspexlaw04.DivideSigns", spec := "divideSigns", unfollowed := true, recurses := true, apart := false }
def DivideSignsSaid : Prop := divideSignsRow.holds Try.pinned (OpenSpec.ofChange divideSignsSpec)

/-- ITS FALSE NEIGHBOUR: 'it returns false'. Refute it at one input. -/
def divideSignsWrong : ChangeSpec := { name := "divideSigns", fn := fun _ => fun
  | [d1, d2] => { results := [.lit (.bool false)], args := [d1, d2] }
  | _ => none }
def DivideSignsWrongFalsely : Prop := divideSignsRow.holds Try.pinned (OpenSpec.ofChange divideSignsWrong)

/-- 'auspexlaw04.DivideSmall': WHATEVER THE INPUT: true; the input reads as it did. -/
def divideSmallSpec : ChangeSpec := { name := "divideSmall", fn := fun _ => fun
  | [d1, d2, d3] => { results := [.lit (.bool true)], args := [d1, d2, d3] }
  | _ => none }
def divideSmallRow : OpenClaim := { program := "ytbpafbogjhbogaa", sum := "e154151dd232e310fc3d8827951a14a524f0781f117273f4c65e0b4f9e23c072", func := "auspex/auspexlaw04.DivideSmall", spec := "divideSmall", unfollowed := true, recurses := true, apart := false }
def DivideSmallSaid : Prop := divideSmallRow.holds Try.pinned (OpenSpec.ofChange divideSmallSpec)

/-- ITS FALSE NEIGHBOUR: 'it returns false'. Refute it at one input. -/
def divideSmallWrong : ChangeSpec := { name := "divideSmall", fn := fun _ => fun
  | [d1, d2, d3] => { results := [.lit (.bool false)], args := [d1, d2, d3] }
  | _ => none }
def DivideSmallWrongFalsely : Prop := divideSmallRow.holds Try.pinned (OpenSpec.ofChange divideSmallWrong)

/-- 'auspexlaw04.DivideBits': WHATEVER THE INPUT: true; the input reads as it did. -/
def divideBitsSpec : ChangeSpec := { name := "divideBits", fn := fun _ => fun
  | [d] => { results := [.lit (.bool true)], args := [d] }
  | _ => none }
def divideBitsRow : OpenClaim := { program := "ytbpafbogjhbogaa", sum := "e154151dd232e310fc3d8827951a14a524f0781f117273f4c65e0b4f9e23c072", func := "auspex/auspexlaw04.DivideBits", spec := "divideBits", unfollowed := true, recurses := true, apart := false }
def DivideBitsSaid : Prop := divideBitsRow.holds Try.pinned (OpenSpec.ofChange divideBitsSpec)

/-- ITS FALSE NEIGHBOUR: 'it returns false'. Refute it at one input. -/
def divideBitsWrong : ChangeSpec := { name := "divideBits", fn := fun _ => fun
  | [d] => { results := [.lit (.bool false)], args := [d] }
  | _ => none }
def DivideBitsWrongFalsely : Prop := divideBitsRow.holds Try.pinned (OpenSpec.ofChange divideBitsWrong)

/- THE SECOND FORM. 'bulk': how many values and letters a reading holds, each counted each time it is reached (what is shared counts as often as it is met; a slice's spare places count too). A statement '..UptoSaid' is the law's where the arguments, and the package variables that the reading takes, are together of bulk at most 1048576: NARROWER than '..Said'. Prove '..Said' where nothing that the law and all that it calls make is longer than what came in: it says more and counts as full. Else prove '..UptoSaid'. A law counts once. -/
mutual
def uptoBulk {H : Type} : DataW H → Nat
  | .lit (.string bytes) => bytes.length + 1
  | .lit _ => 1
  | .nil => 1
  | .ptr d => uptoBulk d + 1
  | .slice elems spare => uptoBulkAll elems + uptoBulkAll spare + 1
  | .agg parts => uptoBulkAll parts + 1
  | .iface _ d => uptoBulk d + 1
  | .map entries => uptoBulkEntries entries + 1
  | .held _ => 1
def uptoBulkAll {H : Type} : List (DataW H) → Nat
  | [] => 0
  | d :: r => uptoBulk d + uptoBulkAll r
def uptoBulkEntries {H : Type} : List (Lit × DataW H) → Nat
  | [] => 0
  | x :: r => uptoBulkEntry x + uptoBulkEntries r
def uptoBulkEntry {H : Type} : Lit × DataW H → Nat
  | (.string bytes, d) => bytes.length + uptoBulk d + 1
  | (_, d) => uptoBulk d + 1
 end
def uptoSmall : (H : Type) → List (DataW H) → Bool := fun _ ds => decide (uptoBulkAll ds ≤ 1048576)
def OpenSpec.upto (s : _root_.Go.ChangeSpec) : _root_.Go.OpenSpec := { _root_.Go.OpenSpec.ofChange s with cond := some uptoSmall }

/-- 'auspexlaw01.WordFields', WHERE WHAT IT READS IS OF BULK AT MOST 1048576: true; the input reads as it did. -/
def wordFieldsUptoRow : OpenClaim := { program := "ytbpafbogjhbogaa", sum := "e154151dd232e310fc3d8827951a14a524f0781f117273f4c65e0b4f9e23c072", func := "auspex/auspexlaw01.WordFields", spec := "wordFields", apart := false, narrowed := true }
def WordFieldsUptoSaid : Prop := wordFieldsUptoRow.holds Try.pinned (OpenSpec.upto wordFieldsSpec)

/-- 'auspexlaw01.WordBytes', WHERE WHAT IT READS IS OF BULK AT MOST 1048576: true; the input reads as it did. -/
def wordBytesUptoRow : OpenClaim := { program := "ytbpafbogjhbogaa", sum := "e154151dd232e310fc3d8827951a14a524f0781f117273f4c65e0b4f9e23c072", func := "auspex/auspexlaw01.WordBytes", spec := "wordBytes", apart := false, narrowed := true }
def WordBytesUptoSaid : Prop := wordBytesUptoRow.holds Try.pinned (OpenSpec.upto wordBytesSpec)

/-- 'auspexlaw01.WordSets', WHERE WHAT IT READS IS OF BULK AT MOST 1048576: true; the input reads as it did. -/
def wordSetsUptoRow : OpenClaim := { program := "ytbpafbogjhbogaa", sum := "e154151dd232e310fc3d8827951a14a524f0781f117273f4c65e0b4f9e23c072", func := "auspex/auspexlaw01.WordSets", spec := "wordSets", apart := false, narrowed := true }
def WordSetsUptoSaid : Prop := wordSetsUptoRow.holds Try.pinned (OpenSpec.upto wordSetsSpec)

/-- 'auspexlaw01.WordJoins', WHERE WHAT IT READS IS OF BULK AT MOST 1048576: true; the input reads as it did. -/
def wordJoinsUptoRow : OpenClaim := { program := "ytbpafbogjhbogaa", sum := "e154151dd232e310fc3d8827951a14a524f0781f117273f4c65e0b4f9e23c072", func := "auspex/auspexlaw01.WordJoins", spec := "wordJoins", apart := false, narrowed := true }
def WordJoinsUptoSaid : Prop := wordJoinsUptoRow.holds Try.pinned (OpenSpec.upto wordJoinsSpec)

/-- 'auspexlaw01.WordOver', WHERE WHAT IT READS IS OF BULK AT MOST 1048576: true; the input reads as it did. -/
def wordOverUptoRow : OpenClaim := { program := "ytbpafbogjhbogaa", sum := "e154151dd232e310fc3d8827951a14a524f0781f117273f4c65e0b4f9e23c072", func := "auspex/auspexlaw01.WordOver", spec := "wordOver", apart := false, narrowed := true }
def WordOverUptoSaid : Prop := wordOverUptoRow.holds Try.pinned (OpenSpec.upto wordOverSpec)

/-- 'auspexlaw01.WordTwice', WHERE WHAT IT READS IS OF BULK AT MOST 1048576: true; the input reads as it did. -/
def wordTwiceUptoRow : OpenClaim := { program := "ytbpafbogjhbogaa", sum := "e154151dd232e310fc3d8827951a14a524f0781f117273f4c65e0b4f9e23c072", func := "auspex/auspexlaw01.WordTwice", spec := "wordTwice", apart := false, narrowed := true }
def WordTwiceUptoSaid : Prop := wordTwiceUptoRow.holds Try.pinned (OpenSpec.upto wordTwiceSpec)

/-- 'auspexlaw03.AluDoes', WHERE WHAT IT READS IS OF BULK AT MOST 1048576: true; the input reads as it did. -/
def aluDoesUptoRow : OpenClaim := { program := "ytbpafbogjhbogaa", sum := "e154151dd232e310fc3d8827951a14a524f0781f117273f4c65e0b4f9e23c072", func := "auspex/auspexlaw03.AluDoes", spec := "aluDoes", unfollowed := true, recurses := true, apart := false, narrowed := true }
def AluDoesUptoSaid : Prop := aluDoesUptoRow.holds Try.pinned (OpenSpec.upto aluDoesSpec)

/-- 'auspexlaw03.AluMuls', WHERE WHAT IT READS IS OF BULK AT MOST 1048576: true; the input reads as it did. -/
def aluMulsUptoRow : OpenClaim := { program := "ytbpafbogjhbogaa", sum := "e154151dd232e310fc3d8827951a14a524f0781f117273f4c65e0b4f9e23c072", func := "auspex/auspexlaw03.AluMuls", spec := "aluMuls", unfollowed := true, recurses := true, apart := false, narrowed := true }
def AluMulsUptoSaid : Prop := aluMulsUptoRow.holds Try.pinned (OpenSpec.upto aluMulsSpec)

/-- 'auspexlaw03.AluJumps', WHERE WHAT IT READS IS OF BULK AT MOST 1048576: true; the input reads as it did. -/
def aluJumpsUptoRow : OpenClaim := { program := "ytbpafbogjhbogaa", sum := "e154151dd232e310fc3d8827951a14a524f0781f117273f4c65e0b4f9e23c072", func := "auspex/auspexlaw03.AluJumps", spec := "aluJumps", unfollowed := true, recurses := true, apart := false, narrowed := true }
def AluJumpsUptoSaid : Prop := aluJumpsUptoRow.holds Try.pinned (OpenSpec.upto aluJumpsSpec)

/-- 'auspexlaw03.AluRules', WHERE WHAT IT READS IS OF BULK AT MOST 1048576: true; the input reads as it did. -/
def aluRulesUptoRow : OpenClaim := { program := "ytbpafbogjhbogaa", sum := "e154151dd232e310fc3d8827951a14a524f0781f117273f4c65e0b4f9e23c072", func := "auspex/auspexlaw03.AluRules", spec := "aluRules", unfollowed := true, recurses := true, apart := false, narrowed := true }
def AluRulesUptoSaid : Prop := aluRulesUptoRow.holds Try.pinned (OpenSpec.upto aluRulesSpec)

/-- 'auspexlaw03.AluHalves', WHERE WHAT IT READS IS OF BULK AT MOST 1048576: true; the input reads as it did. -/
def aluHalvesUptoRow : OpenClaim := { program := "ytbpafbogjhbogaa", sum := "e154151dd232e310fc3d8827951a14a524f0781f117273f4c65e0b4f9e23c072", func := "auspex/auspexlaw03.AluHalves", spec := "aluHalves", unfollowed := true, recurses := true, apart := false, narrowed := true }
def AluHalvesUptoSaid : Prop := aluHalvesUptoRow.holds Try.pinned (OpenSpec.upto aluHalvesSpec)

/-- 'auspexlaw03.AluShifts', WHERE WHAT IT READS IS OF BULK AT MOST 1048576: true; the input reads as it did. -/
def aluShiftsUptoRow : OpenClaim := { program := "ytbpafbogjhbogaa", sum := "e154151dd232e310fc3d8827951a14a524f0781f117273f4c65e0b4f9e23c072", func := "auspex/auspexlaw03.AluShifts", spec := "aluShifts", unfollowed := true, recurses := true, apart := false, narrowed := true }
def AluShiftsUptoSaid : Prop := aluShiftsUptoRow.holds Try.pinned (OpenSpec.upto aluShiftsSpec)

/-- 'auspexlaw03.AluSums', WHERE WHAT IT READS IS OF BULK AT MOST 1048576: true; the input reads as it did. -/
def aluSumsUptoRow : OpenClaim := { program := "ytbpafbogjhbogaa", sum := "e154151dd232e310fc3d8827951a14a524f0781f117273f4c65e0b4f9e23c072", func := "auspex/auspexlaw03.AluSums", spec := "aluSums", unfollowed := true, recurses := true, apart := false, narrowed := true }
def AluSumsUptoSaid : Prop := aluSumsUptoRow.holds Try.pinned (OpenSpec.upto aluSumsSpec)

/-- 'auspexlaw03.AluBranches', WHERE WHAT IT READS IS OF BULK AT MOST 1048576: true; the input reads as it did. -/
def aluBranchesUptoRow : OpenClaim := { program := "ytbpafbogjhbogaa", sum := "e154151dd232e310fc3d8827951a14a524f0781f117273f4c65e0b4f9e23c072", func := "auspex/auspexlaw03.AluBranches", spec := "aluBranches", unfollowed := true, recurses := true, apart := false, narrowed := true }
def AluBranchesUptoSaid : Prop := aluBranchesUptoRow.holds Try.pinned (OpenSpec.upto aluBranchesSpec)

/-- 'auspexlaw03.AluHigh', WHERE WHAT IT READS IS OF BULK AT MOST 1048576: true; the input reads as it did. -/
def aluHighUptoRow : OpenClaim := { program := "ytbpafbogjhbogaa", sum := "e154151dd232e310fc3d8827951a14a524f0781f117273f4c65e0b4f9e23c072", func := "auspex/auspexlaw03.AluHigh", spec := "aluHigh", unfollowed := true, recurses := true, apart := false, narrowed := true }
def AluHighUptoSaid : Prop := aluHighUptoRow.holds Try.pinned (OpenSpec.upto aluHighSpec)

/-- 'auspexlaw04.DivideDoes', WHERE WHAT IT READS IS OF BULK AT MOST 1048576: true; the input reads as it did. -/
def divideDoesUptoRow : OpenClaim := { program := "ytbpafbogjhbogaa", sum := "e154151dd232e310fc3d8827951a14a524f0781f117273f4c65e0b4f9e23c072", func := "auspex/auspexlaw04.DivideDoes", spec := "divideDoes", unfollowed := true, recurses := true, apart := false, narrowed := true }
def DivideDoesUptoSaid : Prop := divideDoesUptoRow.holds Try.pinned (OpenSpec.upto divideDoesSpec)

/-- 'auspexlaw04.DivideBack', WHERE WHAT IT READS IS OF BULK AT MOST 1048576: true; the input reads as it did. -/
def divideBackUptoRow : OpenClaim := { program := "ytbpafbogjhbogaa", sum := "e154151dd232e310fc3d8827951a14a524f0781f117273f4c65e0b4f9e23c072", func := "auspex/auspexlaw04.DivideBack", spec := "divideBack", unfollowed := true, recurses := true, apart := false, narrowed := true }
def DivideBackUptoSaid : Prop := divideBackUptoRow.holds Try.pinned (OpenSpec.upto divideBackSpec)

/-- 'auspexlaw04.DivideTook', WHERE WHAT IT READS IS OF BULK AT MOST 1048576: true; the input reads as it did. -/
def divideTookUptoRow : OpenClaim := { program := "ytbpafbogjhbogaa", sum := "e154151dd232e310fc3d8827951a14a524f0781f117273f4c65e0b4f9e23c072", func := "auspex/auspexlaw04.DivideTook", spec := "divideTook", unfollowed := true, recurses := true, apart := false, narrowed := true }
def DivideTookUptoSaid : Prop := divideTookUptoRow.holds Try.pinned (OpenSpec.upto divideTookSpec)

/-- 'auspexlaw04.DivideSigns', WHERE WHAT IT READS IS OF BULK AT MOST 1048576: true; the input reads as it did. -/
def divideSignsUptoRow : OpenClaim := { program := "ytbpafbogjhbogaa", sum := "e154151dd232e310fc3d8827951a14a524f0781f117273f4c65e0b4f9e23c072", func := "auspex/auspexlaw04.DivideSigns", spec := "divideSigns", unfollowed := true, recurses := true, apart := false, narrowed := true }
def DivideSignsUptoSaid : Prop := divideSignsUptoRow.holds Try.pinned (OpenSpec.upto divideSignsSpec)

/-- 'auspexlaw04.DivideSmall', WHERE WHAT IT READS IS OF BULK AT MOST 1048576: true; the input reads as it did. -/
def divideSmallUptoRow : OpenClaim := { program := "ytbpafbogjhbogaa", sum := "e154151dd232e310fc3d8827951a14a524f0781f117273f4c65e0b4f9e23c072", func := "auspex/auspexlaw04.DivideSmall", spec := "divideSmall", unfollowed := true, recurses := true, apart := false, narrowed := true }
def DivideSmallUptoSaid : Prop := divideSmallUptoRow.holds Try.pinned (OpenSpec.upto divideSmallSpec)

/-- 'auspexlaw04.DivideBits', WHERE WHAT IT READS IS OF BULK AT MOST 1048576: true; the input reads as it did. -/
def divideBitsUptoRow : OpenClaim := { program := "ytbpafbogjhbogaa", sum := "e154151dd232e310fc3d8827951a14a524f0781f117273f4c65e0b4f9e23c072", func := "auspex/auspexlaw04.DivideBits", spec := "divideBits", unfollowed := true, recurses := true, apart := false, narrowed := true }
def DivideBitsUptoSaid : Prop := divideBitsUptoRow.holds Try.pinned (OpenSpec.upto divideBitsSpec)

end Rows
end Go.Proofs.Ytbpafbogjhbogaa
