/-
  NARROWER THAN 'FOR EVERY INPUT', by the rows' own cells (each row's printed sentence says how): InstDecodes: laid · InstEncodes: laid · InstBack: laid · InstClean: laid · InstNumbers: laid · InstOne: laid · InstTurns: laid.
  DERIVED. THE GIVEN ROWS OF THIS SEAT. 7 by the template 'for every input the law returns true; each argument reads behind the call as it read before'; 0 by the template 'total and deterministic' (their statements: YtbpafbogjhbogaaDoorTotals.lean).
  GIVEN WITH THE SEED: the statements are not yours to turn. If you find one false, say at which input.
  Laid BY PROGRAM, IN A SANDBOX (cutbox-rows.mjs): the forced cells as the released guide's own fill.sh prints them over the translation fbd20e76b49b3b73… (all of the seat's roots in one cut). By AI agents, Wed Nov 11 2026. No macro, syntax, notation, axiom, sorry.
-/
import Derived.Test.YtbpafbogjhbogaaDoorChecked
import GoSem.Claim
import GoSem.ClaimJoined
import GoSem.ClaimMapViews
import Derived.JoinedTies
import Derived.KernelRfl
namespace Go.Proofs.YtbpafbogjhbogaaDoor
/- THE CELL 'sum', in the pinned program and in every row, IS THE sha256 OF THE DUMP (.gsa) THAT YtbpafbogjhbogaaDoorProg.lean LOADS. Nothing in Lean hashes anything: it is a label: what it is worth is what the hold of that sum in a sandbox is worth. -/
noncomputable def Tryd.pinned : Pinned := { name := "ytbpafbogjhbogaadoor", sum := "fbd20e76b49b3b7311b5f287acc75d14845eed510091bb05ce55eae9a3007af4", checked := Tryd.checked }
namespace Rows
def none {H : Type} : Left H := { results := [], args := [] }

/- WHAT THE LISTED PACKAGE-LEVEL VARIABLES READ AS WHEN THE CALL BEGINS. Each datum BY PROGRAM (the guide's laid-datum.mjs) off the statement by which the dump's own 'gosem.cut.vars' lays the variable. In a bare row this is a premise. The card (YtbpafbogjhbogaaDoorCards.lean) ties it to the program's text. -/
def laid_auspex_inst_rows {H : Type} : DataW H := .agg [.agg [.lit (.int .i64 1), .lit (.int .i64 5), .lit (.int .u32 55), .lit (.int .u32 0), .lit (.int .u32 0)], .agg [.lit (.int .i64 2), .lit (.int .i64 5), .lit (.int .u32 23), .lit (.int .u32 0), .lit (.int .u32 0)], .agg [.lit (.int .i64 3), .lit (.int .i64 6), .lit (.int .u32 111), .lit (.int .u32 0), .lit (.int .u32 0)], .agg [.lit (.int .i64 4), .lit (.int .i64 1), .lit (.int .u32 103), .lit (.int .u32 0), .lit (.int .u32 0)], .agg [.lit (.int .i64 5), .lit (.int .i64 4), .lit (.int .u32 99), .lit (.int .u32 0), .lit (.int .u32 0)], .agg [.lit (.int .i64 6), .lit (.int .i64 4), .lit (.int .u32 99), .lit (.int .u32 1), .lit (.int .u32 0)], .agg [.lit (.int .i64 7), .lit (.int .i64 4), .lit (.int .u32 99), .lit (.int .u32 4), .lit (.int .u32 0)], .agg [.lit (.int .i64 8), .lit (.int .i64 4), .lit (.int .u32 99), .lit (.int .u32 5), .lit (.int .u32 0)], .agg [.lit (.int .i64 9), .lit (.int .i64 4), .lit (.int .u32 99), .lit (.int .u32 6), .lit (.int .u32 0)], .agg [.lit (.int .i64 10), .lit (.int .i64 4), .lit (.int .u32 99), .lit (.int .u32 7), .lit (.int .u32 0)], .agg [.lit (.int .i64 11), .lit (.int .i64 1), .lit (.int .u32 3), .lit (.int .u32 0), .lit (.int .u32 0)], .agg [.lit (.int .i64 12), .lit (.int .i64 1), .lit (.int .u32 3), .lit (.int .u32 1), .lit (.int .u32 0)], .agg [.lit (.int .i64 13), .lit (.int .i64 1), .lit (.int .u32 3), .lit (.int .u32 2), .lit (.int .u32 0)], .agg [.lit (.int .i64 14), .lit (.int .i64 1), .lit (.int .u32 3), .lit (.int .u32 4), .lit (.int .u32 0)], .agg [.lit (.int .i64 15), .lit (.int .i64 1), .lit (.int .u32 3), .lit (.int .u32 5), .lit (.int .u32 0)], .agg [.lit (.int .i64 16), .lit (.int .i64 3), .lit (.int .u32 35), .lit (.int .u32 0), .lit (.int .u32 0)], .agg [.lit (.int .i64 17), .lit (.int .i64 3), .lit (.int .u32 35), .lit (.int .u32 1), .lit (.int .u32 0)], .agg [.lit (.int .i64 18), .lit (.int .i64 3), .lit (.int .u32 35), .lit (.int .u32 2), .lit (.int .u32 0)], .agg [.lit (.int .i64 19), .lit (.int .i64 1), .lit (.int .u32 19), .lit (.int .u32 0), .lit (.int .u32 0)], .agg [.lit (.int .i64 20), .lit (.int .i64 1), .lit (.int .u32 19), .lit (.int .u32 2), .lit (.int .u32 0)], .agg [.lit (.int .i64 21), .lit (.int .i64 1), .lit (.int .u32 19), .lit (.int .u32 3), .lit (.int .u32 0)], .agg [.lit (.int .i64 22), .lit (.int .i64 1), .lit (.int .u32 19), .lit (.int .u32 4), .lit (.int .u32 0)], .agg [.lit (.int .i64 23), .lit (.int .i64 1), .lit (.int .u32 19), .lit (.int .u32 6), .lit (.int .u32 0)], .agg [.lit (.int .i64 24), .lit (.int .i64 1), .lit (.int .u32 19), .lit (.int .u32 7), .lit (.int .u32 0)], .agg [.lit (.int .i64 25), .lit (.int .i64 2), .lit (.int .u32 19), .lit (.int .u32 1), .lit (.int .u32 0)], .agg [.lit (.int .i64 26), .lit (.int .i64 2), .lit (.int .u32 19), .lit (.int .u32 5), .lit (.int .u32 0)], .agg [.lit (.int .i64 27), .lit (.int .i64 2), .lit (.int .u32 19), .lit (.int .u32 5), .lit (.int .u32 32)], .agg [.lit (.int .i64 28), .lit (.int .i64 0), .lit (.int .u32 51), .lit (.int .u32 0), .lit (.int .u32 0)], .agg [.lit (.int .i64 29), .lit (.int .i64 0), .lit (.int .u32 51), .lit (.int .u32 0), .lit (.int .u32 32)], .agg [.lit (.int .i64 30), .lit (.int .i64 0), .lit (.int .u32 51), .lit (.int .u32 1), .lit (.int .u32 0)], .agg [.lit (.int .i64 31), .lit (.int .i64 0), .lit (.int .u32 51), .lit (.int .u32 2), .lit (.int .u32 0)], .agg [.lit (.int .i64 32), .lit (.int .i64 0), .lit (.int .u32 51), .lit (.int .u32 3), .lit (.int .u32 0)], .agg [.lit (.int .i64 33), .lit (.int .i64 0), .lit (.int .u32 51), .lit (.int .u32 4), .lit (.int .u32 0)], .agg [.lit (.int .i64 34), .lit (.int .i64 0), .lit (.int .u32 51), .lit (.int .u32 5), .lit (.int .u32 0)], .agg [.lit (.int .i64 35), .lit (.int .i64 0), .lit (.int .u32 51), .lit (.int .u32 5), .lit (.int .u32 32)], .agg [.lit (.int .i64 36), .lit (.int .i64 0), .lit (.int .u32 51), .lit (.int .u32 6), .lit (.int .u32 0)], .agg [.lit (.int .i64 37), .lit (.int .i64 0), .lit (.int .u32 51), .lit (.int .u32 7), .lit (.int .u32 0)], .agg [.lit (.int .i64 38), .lit (.int .i64 0), .lit (.int .u32 51), .lit (.int .u32 0), .lit (.int .u32 1)], .agg [.lit (.int .i64 39), .lit (.int .i64 0), .lit (.int .u32 51), .lit (.int .u32 1), .lit (.int .u32 1)], .agg [.lit (.int .i64 40), .lit (.int .i64 0), .lit (.int .u32 51), .lit (.int .u32 2), .lit (.int .u32 1)], .agg [.lit (.int .i64 41), .lit (.int .i64 0), .lit (.int .u32 51), .lit (.int .u32 3), .lit (.int .u32 1)], .agg [.lit (.int .i64 42), .lit (.int .i64 0), .lit (.int .u32 51), .lit (.int .u32 4), .lit (.int .u32 1)], .agg [.lit (.int .i64 43), .lit (.int .i64 0), .lit (.int .u32 51), .lit (.int .u32 5), .lit (.int .u32 1)], .agg [.lit (.int .i64 44), .lit (.int .i64 0), .lit (.int .u32 51), .lit (.int .u32 6), .lit (.int .u32 1)], .agg [.lit (.int .i64 45), .lit (.int .i64 0), .lit (.int .u32 51), .lit (.int .u32 7), .lit (.int .u32 1)]]

/-- 'auspexlaw02.InstDecodes': WHATEVER THE INPUT: true; the input reads as it did. -/
def instDecodesSpec : ChangeSpec := { name := "instDecodes", fn := fun _ => fun
  | [d] => { results := [.lit (.bool true)], args := [d] }
  | _ => none }
def instDecodesRow : OpenClaim := { program := "ytbpafbogjhbogaadoor", sum := "fbd20e76b49b3b7311b5f287acc75d14845eed510091bb05ce55eae9a3007af4", func := "auspex/auspexlaw02.InstDecodes", spec := "instDecodes", named := ["auspex/inst.rows"], apart := false, laid := [("auspex/inst.rows", laid_auspex_inst_rows)] }
def InstDecodesSaid : Prop := instDecodesRow.holds Tryd.pinned (OpenSpec.ofChange instDecodesSpec)

/-- ITS FALSE NEIGHBOUR: 'it returns false'. Refute it at one input. -/
def instDecodesWrong : ChangeSpec := { name := "instDecodes", fn := fun _ => fun
  | [d] => { results := [.lit (.bool false)], args := [d] }
  | _ => none }
def InstDecodesWrongFalsely : Prop := instDecodesRow.holds Tryd.pinned (OpenSpec.ofChange instDecodesWrong)

/-- 'auspexlaw02.InstEncodes': WHATEVER THE INPUT: true; the input reads as it did. -/
def instEncodesSpec : ChangeSpec := { name := "instEncodes", fn := fun _ => fun
  | [d1, d2] => { results := [.lit (.bool true)], args := [d1, d2] }
  | _ => none }
def instEncodesRow : OpenClaim := { program := "ytbpafbogjhbogaadoor", sum := "fbd20e76b49b3b7311b5f287acc75d14845eed510091bb05ce55eae9a3007af4", func := "auspex/auspexlaw02.InstEncodes", spec := "instEncodes", named := ["auspex/inst.rows"], apart := false, laid := [("auspex/inst.rows", laid_auspex_inst_rows)] }
def InstEncodesSaid : Prop := instEncodesRow.holds Tryd.pinned (OpenSpec.ofChange instEncodesSpec)

/-- ITS FALSE NEIGHBOUR: 'it returns false'. Refute it at one input. -/
def instEncodesWrong : ChangeSpec := { name := "instEncodes", fn := fun _ => fun
  | [d1, d2] => { results := [.lit (.bool false)], args := [d1, d2] }
  | _ => none }
def InstEncodesWrongFalsely : Prop := instEncodesRow.holds Tryd.pinned (OpenSpec.ofChange instEncodesWrong)

/-- 'auspexlaw02.InstBack': WHATEVER THE INPUT: true; the input reads as it did. -/
def instBackSpec : ChangeSpec := { name := "instBack", fn := fun _ => fun
  | [d1, d2] => { results := [.lit (.bool true)], args := [d1, d2] }
  | _ => none }
def instBackRow : OpenClaim := { program := "ytbpafbogjhbogaadoor", sum := "fbd20e76b49b3b7311b5f287acc75d14845eed510091bb05ce55eae9a3007af4", func := "auspex/auspexlaw02.InstBack", spec := "instBack", named := ["auspex/inst.rows"], apart := false, laid := [("auspex/inst.rows", laid_auspex_inst_rows)] }
def InstBackSaid : Prop := instBackRow.holds Tryd.pinned (OpenSpec.ofChange instBackSpec)

/-- ITS FALSE NEIGHBOUR: 'it returns false'. Refute it at one input. -/
def instBackWrong : ChangeSpec := { name := "instBack", fn := fun _ => fun
  | [d1, d2] => { results := [.lit (.bool false)], args := [d1, d2] }
  | _ => none }
def InstBackWrongFalsely : Prop := instBackRow.holds Tryd.pinned (OpenSpec.ofChange instBackWrong)

/-- 'auspexlaw02.InstClean': WHATEVER THE INPUT: true; the input reads as it did. -/
def instCleanSpec : ChangeSpec := { name := "instClean", fn := fun _ => fun
  | [d] => { results := [.lit (.bool true)], args := [d] }
  | _ => none }
def instCleanRow : OpenClaim := { program := "ytbpafbogjhbogaadoor", sum := "fbd20e76b49b3b7311b5f287acc75d14845eed510091bb05ce55eae9a3007af4", func := "auspex/auspexlaw02.InstClean", spec := "instClean", unfollowed := true, recurses := true, named := ["auspex/inst.rows"], apart := false, laid := [("auspex/inst.rows", laid_auspex_inst_rows)] }
def InstCleanSaid : Prop := instCleanRow.holds Tryd.pinned (OpenSpec.ofChange instCleanSpec)

/-- ITS FALSE NEIGHBOUR: 'it returns false'. Refute it at one input. -/
def instCleanWrong : ChangeSpec := { name := "instClean", fn := fun _ => fun
  | [d] => { results := [.lit (.bool false)], args := [d] }
  | _ => none }
def InstCleanWrongFalsely : Prop := instCleanRow.holds Tryd.pinned (OpenSpec.ofChange instCleanWrong)

/-- 'auspexlaw02.InstNumbers': WHATEVER THE INPUT: true; the input reads as it did. -/
def instNumbersSpec : ChangeSpec := { name := "instNumbers", fn := fun _ => fun
  | [d] => { results := [.lit (.bool true)], args := [d] }
  | _ => none }
def instNumbersRow : OpenClaim := { program := "ytbpafbogjhbogaadoor", sum := "fbd20e76b49b3b7311b5f287acc75d14845eed510091bb05ce55eae9a3007af4", func := "auspex/auspexlaw02.InstNumbers", spec := "instNumbers", named := ["auspex/inst.rows"], apart := false, laid := [("auspex/inst.rows", laid_auspex_inst_rows)] }
def InstNumbersSaid : Prop := instNumbersRow.holds Tryd.pinned (OpenSpec.ofChange instNumbersSpec)

/-- ITS FALSE NEIGHBOUR: 'it returns false'. Refute it at one input. -/
def instNumbersWrong : ChangeSpec := { name := "instNumbers", fn := fun _ => fun
  | [d] => { results := [.lit (.bool false)], args := [d] }
  | _ => none }
def InstNumbersWrongFalsely : Prop := instNumbersRow.holds Tryd.pinned (OpenSpec.ofChange instNumbersWrong)

/-- 'auspexlaw02.InstOne': WHATEVER THE INPUT: true; the input reads as it did. -/
def instOneSpec : ChangeSpec := { name := "instOne", fn := fun _ => fun
  | [d1, d2] => { results := [.lit (.bool true)], args := [d1, d2] }
  | _ => none }
def instOneRow : OpenClaim := { program := "ytbpafbogjhbogaadoor", sum := "fbd20e76b49b3b7311b5f287acc75d14845eed510091bb05ce55eae9a3007af4", func := "auspex/auspexlaw02.InstOne", spec := "instOne", named := ["auspex/inst.rows"], apart := false, laid := [("auspex/inst.rows", laid_auspex_inst_rows)] }
def InstOneSaid : Prop := instOneRow.holds Tryd.pinned (OpenSpec.ofChange instOneSpec)

/-- ITS FALSE NEIGHBOUR: 'it returns false'. Refute it at one input. -/
def instOneWrong : ChangeSpec := { name := "instOne", fn := fun _ => fun
  | [d1, d2] => { results := [.lit (.bool false)], args := [d1, d2] }
  | _ => none }
def InstOneWrongFalsely : Prop := instOneRow.holds Tryd.pinned (OpenSpec.ofChange instOneWrong)

/-- 'auspexlaw02.InstTurns': WHATEVER THE INPUT: true; the input reads as it did. -/
def instTurnsSpec : ChangeSpec := { name := "instTurns", fn := fun _ => fun
  | [d1, d2] => { results := [.lit (.bool true)], args := [d1, d2] }
  | _ => none }
def instTurnsRow : OpenClaim := { program := "ytbpafbogjhbogaadoor", sum := "fbd20e76b49b3b7311b5f287acc75d14845eed510091bb05ce55eae9a3007af4", func := "auspex/auspexlaw02.InstTurns", spec := "instTurns", named := ["auspex/inst.rows"], apart := false, laid := [("auspex/inst.rows", laid_auspex_inst_rows)] }
def InstTurnsSaid : Prop := instTurnsRow.holds Tryd.pinned (OpenSpec.ofChange instTurnsSpec)

/-- ITS FALSE NEIGHBOUR: 'it returns false'. Refute it at one input. -/
def instTurnsWrong : ChangeSpec := { name := "instTurns", fn := fun _ => fun
  | [d1, d2] => { results := [.lit (.bool false)], args := [d1, d2] }
  | _ => none }
def InstTurnsWrongFalsely : Prop := instTurnsRow.holds Tryd.pinned (OpenSpec.ofChange instTurnsWrong)

/- THE SECOND FORM. 'bulk': how many values and letters a reading holds, each counted each time it is reached (what is shared counts as often as it is met; a slice's spare places count too). A statement '..UptoSaid' is the law's where the arguments, and the package variables that the reading takes, are together of bulk at most 1048576: NARROWER than '..Said'. Prove '..Said' where nothing that the law and all that it calls make is longer than what came in: it says more and counts as full. Else prove '..UptoSaid'. A law counts once. -/
mutual
def uptoBulk {H : Type} : DataW H → Nat
  | .lit (.string bytes) => bytes.length + 1
  | .lit _ => 1
  | .nil => 1
  | .ptr d => uptoBulk d + 1
  | .slice elems spare => uptoBulkAll elems + uptoBulkAll spare + 1
  | .agg parts => uptoBulkAll parts + 1
  | .iface _ d => uptoBulk d + 1
  | .map entries => uptoBulkEntries entries + 1
  | .held _ => 1
def uptoBulkAll {H : Type} : List (DataW H) → Nat
  | [] => 0
  | d :: r => uptoBulk d + uptoBulkAll r
def uptoBulkEntries {H : Type} : List (Lit × DataW H) → Nat
  | [] => 0
  | x :: r => uptoBulkEntry x + uptoBulkEntries r
def uptoBulkEntry {H : Type} : Lit × DataW H → Nat
  | (.string bytes, d) => bytes.length + uptoBulk d + 1
  | (_, d) => uptoBulk d + 1
 end
def uptoSmall : (H : Type) → List (DataW H) → Bool := fun _ ds => decide (uptoBulkAll ds ≤ 1048576)
def OpenSpec.upto (s : _root_.Go.ChangeSpec) : _root_.Go.OpenSpec := { _root_.Go.OpenSpec.ofChange s with cond := some uptoSmall }

/-- 'auspexlaw02.InstDecodes', WHERE WHAT IT READS IS OF BULK AT MOST 1048576: true; the input reads as it did. -/
def instDecodesUptoRow : OpenClaim := { program := "ytbpafbogjhbogaadoor", sum := "fbd20e76b49b3b7311b5f287acc75d14845eed510091bb05ce55eae9a3007af4", func := "auspex/auspexlaw02.InstDecodes", spec := "instDecodes", named := ["auspex/inst.rows"], apart := false, laid := [("auspex/inst.rows", laid_auspex_inst_rows)], narrowed := true }
def InstDecodesUptoSaid : Prop := instDecodesUptoRow.holds Tryd.pinned (OpenSpec.upto instDecodesSpec)

/-- 'auspexlaw02.InstEncodes', WHERE WHAT IT READS IS OF BULK AT MOST 1048576: true; the input reads as it did. -/
def instEncodesUptoRow : OpenClaim := { program := "ytbpafbogjhbogaadoor", sum := "fbd20e76b49b3b7311b5f287acc75d14845eed510091bb05ce55eae9a3007af4", func := "auspex/auspexlaw02.InstEncodes", spec := "instEncodes", named := ["auspex/inst.rows"], apart := false, laid := [("auspex/inst.rows", laid_auspex_inst_rows)], narrowed := true }
def InstEncodesUptoSaid : Prop := instEncodesUptoRow.holds Tryd.pinned (OpenSpec.upto instEncodesSpec)

/-- 'auspexlaw02.InstBack', WHERE WHAT IT READS IS OF BULK AT MOST 1048576: true; the input reads as it did. -/
def instBackUptoRow : OpenClaim := { program := "ytbpafbogjhbogaadoor", sum := "fbd20e76b49b3b7311b5f287acc75d14845eed510091bb05ce55eae9a3007af4", func := "auspex/auspexlaw02.InstBack", spec := "instBack", named := ["auspex/inst.rows"], apart := false, laid := [("auspex/inst.rows", laid_auspex_inst_rows)], narrowed := true }
def InstBackUptoSaid : Prop := instBackUptoRow.holds Tryd.pinned (OpenSpec.upto instBackSpec)

/-- 'auspexlaw02.InstClean', WHERE WHAT IT READS IS OF BULK AT MOST 1048576: true; the input reads as it did. -/
def instCleanUptoRow : OpenClaim := { program := "ytbpafbogjhbogaadoor", sum := "fbd20e76b49b3b7311b5f287acc75d14845eed510091bb05ce55eae9a3007af4", func := "auspex/auspexlaw02.InstClean", spec := "instClean", unfollowed := true, recurses := true, named := ["auspex/inst.rows"], apart := false, laid := [("auspex/inst.rows", laid_auspex_inst_rows)], narrowed := true }
def InstCleanUptoSaid : Prop := instCleanUptoRow.holds Tryd.pinned (OpenSpec.upto instCleanSpec)

/-- 'auspexlaw02.InstNumbers', WHERE WHAT IT READS IS OF BULK AT MOST 1048576: true; the input reads as it did. -/
def instNumbersUptoRow : OpenClaim := { program := "ytbpafbogjhbogaadoor", sum := "fbd20e76b49b3b7311b5f287acc75d14845eed510091bb05ce55eae9a3007af4", func := "auspex/auspexlaw02.InstNumbers", spec := "instNumbers", named := ["auspex/inst.rows"], apart := false, laid := [("auspex/inst.rows", laid_auspex_inst_rows)], narrowed := true }
def InstNumbersUptoSaid : Prop := instNumbersUptoRow.holds Tryd.pinned (OpenSpec.upto instNumbersSpec)

/-- 'auspexlaw02.InstOne', WHERE WHAT IT READS IS OF BULK AT MOST 1048576: true; the input reads as it did. -/
def instOneUptoRow : OpenClaim := { program := "ytbpafbogjhbogaadoor", sum := "fbd20e76b49b3b7311b5f287acc75d14845eed510091bb05ce55eae9a3007af4", func := "auspex/auspexlaw02.InstOne", spec := "instOne", named := ["auspex/inst.rows"], apart := false, laid := [("auspex/inst.rows", laid_auspex_inst_rows)], narrowed := true }
def InstOneUptoSaid : Prop := instOneUptoRow.holds Tryd.pinned (OpenSpec.upto instOneSpec)

/-- 'auspexlaw02.InstTurns', WHERE WHAT IT READS IS OF BULK AT MOST 1048576: true; the input reads as it did. -/
def instTurnsUptoRow : OpenClaim := { program := "ytbpafbogjhbogaadoor", sum := "fbd20e76b49b3b7311b5f287acc75d14845eed510091bb05ce55eae9a3007af4", func := "auspex/auspexlaw02.InstTurns", spec := "instTurns", named := ["auspex/inst.rows"], apart := false, laid := [("auspex/inst.rows", laid_auspex_inst_rows)], narrowed := true }
def InstTurnsUptoSaid : Prop := instTurnsUptoRow.holds Tryd.pinned (OpenSpec.upto instTurnsSpec)

end Rows
end Go.Proofs.YtbpafbogjhbogaaDoor
