/-
  No cell of these rows narrows 'for every input' (looked for: loops, veiled, ifaces, maps, wideKeys, modest, calm, conditions, laid).
  DERIVED. THE GIVEN ROWS OF THIS SEAT. 17 by the template 'for every input the law returns true; each argument reads behind the call as it read before'; 0 by the template 'total and deterministic' (their statements: YtebeelphilfjhaaTotals.lean).
  GIVEN WITH THE SEED: the statements are not yours to turn. If you find one false, say at which input.
  Laid BY PROGRAM, IN A SANDBOX (cutbox-rows.mjs): the forced cells as the released guide's own fill.sh prints them over the translation 836ac315b12f4bca… (all of the seat's roots in one cut). By AI agents, Wed Nov 11 2026. No macro, syntax, notation, axiom, sorry.
-/
import Derived.Test.YtebeelphilfjhaaChecked
import GoSem.Claim
import GoSem.ClaimJoined
import GoSem.ClaimMapViews
import Derived.JoinedTies
import Derived.KernelRfl
namespace Go.Proofs.Ytebeelphilfjhaa
/- THE CELL 'sum', in the pinned program and in every row, IS THE sha256 OF THE DUMP (.gsa) THAT YtebeelphilfjhaaProg.lean LOADS. Nothing in Lean hashes anything: it is a label: what it is worth is what the hold of that sum in a sandbox is worth. -/
noncomputable def Try.pinned : Pinned := { name := "ytebeelphilfjhaa", sum := "836ac315b12f4bca9d3f36acf536f074411cf5551ddaf9ca7e7d06258d441970", checked := Try.checked }
namespace Rows
def none {H : Type} : Left H := { results := [], args := [] }

/-- 'auspexlaw08.ConfCleans': WHATEVER THE INPUT: true; the input reads as it did. -/
def confCleansSpec : ChangeSpec := { name := "confCleans", fn := fun _ => fun
  | [d] => { results := [.lit (.bool true)], args := [d] }
  | _ => none }
def confCleansRow : OpenClaim := { program := "ytebeelphilfjhaa", sum := "836ac315b12f4bca9d3f36acf536f074411cf5551ddaf9ca7e7d06258d441970", func := "auspex/auspexlaw08.ConfCleans", spec := "confCleans", unfollowed := true, recurses := true, apart := false }
def ConfCleansSaid : Prop := confCleansRow.holds Try.pinned (OpenSpec.ofChange confCleansSpec)

/-- ITS FALSE NEIGHBOUR: 'it returns false'. Refute it at one input. -/
def confCleansWrong : ChangeSpec := { name := "confCleans", fn := fun _ => fun
  | [d] => { results := [.lit (.bool false)], args := [d] }
  | _ => none }
def ConfCleansWrongFalsely : Prop := confCleansRow.holds Try.pinned (OpenSpec.ofChange confCleansWrong)

/-- 'auspexlaw08.ConfTapes': WHATEVER THE INPUT: true; the input reads as it did. -/
def confTapesSpec : ChangeSpec := { name := "confTapes", fn := fun _ => fun
  | [d1, d2, d3] => { results := [.lit (.bool true)], args := [d1, d2, d3] }
  | _ => none }
def confTapesRow : OpenClaim := { program := "ytebeelphilfjhaa", sum := "836ac315b12f4bca9d3f36acf536f074411cf5551ddaf9ca7e7d06258d441970", func := "auspex/auspexlaw08.ConfTapes", spec := "confTapes", unfollowed := true, recurses := true, apart := false }
def ConfTapesSaid : Prop := confTapesRow.holds Try.pinned (OpenSpec.ofChange confTapesSpec)

/-- ITS FALSE NEIGHBOUR: 'it returns false'. Refute it at one input. -/
def confTapesWrong : ChangeSpec := { name := "confTapes", fn := fun _ => fun
  | [d1, d2, d3] => { results := [.lit (.bool false)], args := [d1, d2, d3] }
  | _ => none }
def ConfTapesWrongFalsely : Prop := confTapesRow.holds Try.pinned (OpenSpec.ofChange confTapesWrong)

/-- 'auspexlaw08.ConfStays': WHATEVER THE INPUT: true; the input reads as it did. -/
def confStaysSpec : ChangeSpec := { name := "confStays", fn := fun _ => fun
  | [d1, d2] => { results := [.lit (.bool true)], args := [d1, d2] }
  | _ => none }
def confStaysRow : OpenClaim := { program := "ytebeelphilfjhaa", sum := "836ac315b12f4bca9d3f36acf536f074411cf5551ddaf9ca7e7d06258d441970", func := "auspex/auspexlaw08.ConfStays", spec := "confStays", unfollowed := true, recurses := true, apart := false }
def ConfStaysSaid : Prop := confStaysRow.holds Try.pinned (OpenSpec.ofChange confStaysSpec)

/-- ITS FALSE NEIGHBOUR: 'it returns false'. Refute it at one input. -/
def confStaysWrong : ChangeSpec := { name := "confStays", fn := fun _ => fun
  | [d1, d2] => { results := [.lit (.bool false)], args := [d1, d2] }
  | _ => none }
def ConfStaysWrongFalsely : Prop := confStaysRow.holds Try.pinned (OpenSpec.ofChange confStaysWrong)

/-- 'auspexlaw08.ConfRises': WHATEVER THE INPUT: true; the input reads as it did. -/
def confRisesSpec : ChangeSpec := { name := "confRises", fn := fun _ => fun
  | [d1, d2] => { results := [.lit (.bool true)], args := [d1, d2] }
  | _ => none }
def confRisesRow : OpenClaim := { program := "ytebeelphilfjhaa", sum := "836ac315b12f4bca9d3f36acf536f074411cf5551ddaf9ca7e7d06258d441970", func := "auspex/auspexlaw08.ConfRises", spec := "confRises", unfollowed := true, recurses := true, apart := false }
def ConfRisesSaid : Prop := confRisesRow.holds Try.pinned (OpenSpec.ofChange confRisesSpec)

/-- ITS FALSE NEIGHBOUR: 'it returns false'. Refute it at one input. -/
def confRisesWrong : ChangeSpec := { name := "confRises", fn := fun _ => fun
  | [d1, d2] => { results := [.lit (.bool false)], args := [d1, d2] }
  | _ => none }
def ConfRisesWrongFalsely : Prop := confRisesRow.holds Try.pinned (OpenSpec.ofChange confRisesWrong)

/-- 'auspexlaw08.ConfTurns': WHATEVER THE INPUT: true; the input reads as it did. -/
def confTurnsSpec : ChangeSpec := { name := "confTurns", fn := fun _ => fun
  | [d1, d2, d3] => { results := [.lit (.bool true)], args := [d1, d2, d3] }
  | _ => none }
def confTurnsRow : OpenClaim := { program := "ytebeelphilfjhaa", sum := "836ac315b12f4bca9d3f36acf536f074411cf5551ddaf9ca7e7d06258d441970", func := "auspex/auspexlaw08.ConfTurns", spec := "confTurns", unfollowed := true, recurses := true, apart := false }
def ConfTurnsSaid : Prop := confTurnsRow.holds Try.pinned (OpenSpec.ofChange confTurnsSpec)

/-- ITS FALSE NEIGHBOUR: 'it returns false'. Refute it at one input. -/
def confTurnsWrong : ChangeSpec := { name := "confTurns", fn := fun _ => fun
  | [d1, d2, d3] => { results := [.lit (.bool false)], args := [d1, d2, d3] }
  | _ => none }
def ConfTurnsWrongFalsely : Prop := confTurnsRow.holds Try.pinned (OpenSpec.ofChange confTurnsWrong)

/-- 'auspexlaw09.BusOrder': WHATEVER THE INPUT: true; the input reads as it did. -/
def busOrderSpec : ChangeSpec := { name := "busOrder", fn := fun _ => fun
  | [d] => { results := [.lit (.bool true)], args := [d] }
  | _ => none }
def busOrderRow : OpenClaim := { program := "ytebeelphilfjhaa", sum := "836ac315b12f4bca9d3f36acf536f074411cf5551ddaf9ca7e7d06258d441970", func := "auspex/auspexlaw09.BusOrder", spec := "busOrder", apart := false }
def BusOrderSaid : Prop := busOrderRow.holds Try.pinned (OpenSpec.ofChange busOrderSpec)

/-- ITS FALSE NEIGHBOUR: 'it returns false'. Refute it at one input. -/
def busOrderWrong : ChangeSpec := { name := "busOrder", fn := fun _ => fun
  | [d] => { results := [.lit (.bool false)], args := [d] }
  | _ => none }
def BusOrderWrongFalsely : Prop := busOrderRow.holds Try.pinned (OpenSpec.ofChange busOrderWrong)

/-- 'auspexlaw09.BusKeeps': WHATEVER THE INPUT: true; the input reads as it did. -/
def busKeepsSpec : ChangeSpec := { name := "busKeeps", fn := fun _ => fun
  | [d1, d2, d3, d4] => { results := [.lit (.bool true)], args := [d1, d2, d3, d4] }
  | _ => none }
def busKeepsRow : OpenClaim := { program := "ytebeelphilfjhaa", sum := "836ac315b12f4bca9d3f36acf536f074411cf5551ddaf9ca7e7d06258d441970", func := "auspex/auspexlaw09.BusKeeps", spec := "busKeeps", apart := false }
def BusKeepsSaid : Prop := busKeepsRow.holds Try.pinned (OpenSpec.ofChange busKeepsSpec)

/-- ITS FALSE NEIGHBOUR: 'it returns false'. Refute it at one input. -/
def busKeepsWrong : ChangeSpec := { name := "busKeeps", fn := fun _ => fun
  | [d1, d2, d3, d4] => { results := [.lit (.bool false)], args := [d1, d2, d3, d4] }
  | _ => none }
def BusKeepsWrongFalsely : Prop := busKeepsRow.holds Try.pinned (OpenSpec.ofChange busKeepsWrong)

/-- 'auspexlaw09.BusHas': WHATEVER THE INPUT: true; the input reads as it did. -/
def busHasSpec : ChangeSpec := { name := "busHas", fn := fun _ => fun
  | [d1, d2, d3, d4] => { results := [.lit (.bool true)], args := [d1, d2, d3, d4] }
  | _ => none }
def busHasRow : OpenClaim := { program := "ytebeelphilfjhaa", sum := "836ac315b12f4bca9d3f36acf536f074411cf5551ddaf9ca7e7d06258d441970", func := "auspex/auspexlaw09.BusHas", spec := "busHas", apart := false }
def BusHasSaid : Prop := busHasRow.holds Try.pinned (OpenSpec.ofChange busHasSpec)

/-- ITS FALSE NEIGHBOUR: 'it returns false'. Refute it at one input. -/
def busHasWrong : ChangeSpec := { name := "busHas", fn := fun _ => fun
  | [d1, d2, d3, d4] => { results := [.lit (.bool false)], args := [d1, d2, d3, d4] }
  | _ => none }
def BusHasWrongFalsely : Prop := busHasRow.holds Try.pinned (OpenSpec.ofChange busHasWrong)

/-- 'auspexlaw10.CacheFinds': WHATEVER THE INPUT: true; the input reads as it did. -/
def cacheFindsSpec : ChangeSpec := { name := "cacheFinds", fn := fun _ => fun
  | [d1, d2, d3, d4] => { results := [.lit (.bool true)], args := [d1, d2, d3, d4] }
  | _ => none }
def cacheFindsRow : OpenClaim := { program := "ytebeelphilfjhaa", sum := "836ac315b12f4bca9d3f36acf536f074411cf5551ddaf9ca7e7d06258d441970", func := "auspex/auspexlaw10.CacheFinds", spec := "cacheFinds", unfollowed := true, recurses := true, apart := false }
def CacheFindsSaid : Prop := cacheFindsRow.holds Try.pinned (OpenSpec.ofChange cacheFindsSpec)

/-- ITS FALSE NEIGHBOUR: 'it returns false'. Refute it at one input. -/
def cacheFindsWrong : ChangeSpec := { name := "cacheFinds", fn := fun _ => fun
  | [d1, d2, d3, d4] => { results := [.lit (.bool false)], args := [d1, d2, d3, d4] }
  | _ => none }
def CacheFindsWrongFalsely : Prop := cacheFindsRow.holds Try.pinned (OpenSpec.ofChange cacheFindsWrong)

/-- 'auspexlaw10.CachePuts': WHATEVER THE INPUT: true; the input reads as it did. -/
def cachePutsSpec : ChangeSpec := { name := "cachePuts", fn := fun _ => fun
  | [d1, d2, d3, d4] => { results := [.lit (.bool true)], args := [d1, d2, d3, d4] }
  | _ => none }
def cachePutsRow : OpenClaim := { program := "ytebeelphilfjhaa", sum := "836ac315b12f4bca9d3f36acf536f074411cf5551ddaf9ca7e7d06258d441970", func := "auspex/auspexlaw10.CachePuts", spec := "cachePuts", unfollowed := true, recurses := true, apart := false }
def CachePutsSaid : Prop := cachePutsRow.holds Try.pinned (OpenSpec.ofChange cachePutsSpec)

/-- ITS FALSE NEIGHBOUR: 'it returns false'. Refute it at one input. -/
def cachePutsWrong : ChangeSpec := { name := "cachePuts", fn := fun _ => fun
  | [d1, d2, d3, d4] => { results := [.lit (.bool false)], args := [d1, d2, d3, d4] }
  | _ => none }
def CachePutsWrongFalsely : Prop := cachePutsRow.holds Try.pinned (OpenSpec.ofChange cachePutsWrong)

/-- 'auspexlaw10.CacheWrites': WHATEVER THE INPUT: true; the input reads as it did. -/
def cacheWritesSpec : ChangeSpec := { name := "cacheWrites", fn := fun _ => fun
  | [d1, d2, d3] => { results := [.lit (.bool true)], args := [d1, d2, d3] }
  | _ => none }
def cacheWritesRow : OpenClaim := { program := "ytebeelphilfjhaa", sum := "836ac315b12f4bca9d3f36acf536f074411cf5551ddaf9ca7e7d06258d441970", func := "auspex/auspexlaw10.CacheWrites", spec := "cacheWrites", unfollowed := true, recurses := true, apart := false }
def CacheWritesSaid : Prop := cacheWritesRow.holds Try.pinned (OpenSpec.ofChange cacheWritesSpec)

/-- ITS FALSE NEIGHBOUR: 'it returns false'. Refute it at one input. -/
def cacheWritesWrong : ChangeSpec := { name := "cacheWrites", fn := fun _ => fun
  | [d1, d2, d3] => { results := [.lit (.bool false)], args := [d1, d2, d3] }
  | _ => none }
def CacheWritesWrongFalsely : Prop := cacheWritesRow.holds Try.pinned (OpenSpec.ofChange cacheWritesWrong)

/-- 'auspexlaw10.CacheLast': WHATEVER THE INPUT: true; the input reads as it did. -/
def cacheLastSpec : ChangeSpec := { name := "cacheLast", fn := fun _ => fun
  | [d1, d2, d3] => { results := [.lit (.bool true)], args := [d1, d2, d3] }
  | _ => none }
def cacheLastRow : OpenClaim := { program := "ytebeelphilfjhaa", sum := "836ac315b12f4bca9d3f36acf536f074411cf5551ddaf9ca7e7d06258d441970", func := "auspex/auspexlaw10.CacheLast", spec := "cacheLast", unfollowed := true, recurses := true, apart := false }
def CacheLastSaid : Prop := cacheLastRow.holds Try.pinned (OpenSpec.ofChange cacheLastSpec)

/-- ITS FALSE NEIGHBOUR: 'it returns false'. Refute it at one input. -/
def cacheLastWrong : ChangeSpec := { name := "cacheLast", fn := fun _ => fun
  | [d1, d2, d3] => { results := [.lit (.bool false)], args := [d1, d2, d3] }
  | _ => none }
def CacheLastWrongFalsely : Prop := cacheLastRow.holds Try.pinned (OpenSpec.ofChange cacheLastWrong)

/-- 'auspexlaw10.CacheHas': WHATEVER THE INPUT: true; the input reads as it did. -/
def cacheHasSpec : ChangeSpec := { name := "cacheHas", fn := fun _ => fun
  | [d1, d2, d3, d4] => { results := [.lit (.bool true)], args := [d1, d2, d3, d4] }
  | _ => none }
def cacheHasRow : OpenClaim := { program := "ytebeelphilfjhaa", sum := "836ac315b12f4bca9d3f36acf536f074411cf5551ddaf9ca7e7d06258d441970", func := "auspex/auspexlaw10.CacheHas", spec := "cacheHas", unfollowed := true, recurses := true, apart := false }
def CacheHasSaid : Prop := cacheHasRow.holds Try.pinned (OpenSpec.ofChange cacheHasSpec)

/-- ITS FALSE NEIGHBOUR: 'it returns false'. Refute it at one input. -/
def cacheHasWrong : ChangeSpec := { name := "cacheHas", fn := fun _ => fun
  | [d1, d2, d3, d4] => { results := [.lit (.bool false)], args := [d1, d2, d3, d4] }
  | _ => none }
def CacheHasWrongFalsely : Prop := cacheHasRow.holds Try.pinned (OpenSpec.ofChange cacheHasWrong)

/-- 'auspexlaw10.CacheData': WHATEVER THE INPUT: true; the input reads as it did. -/
def cacheDataSpec : ChangeSpec := { name := "cacheData", fn := fun _ => fun
  | [d1, d2, d3] => { results := [.lit (.bool true)], args := [d1, d2, d3] }
  | _ => none }
def cacheDataRow : OpenClaim := { program := "ytebeelphilfjhaa", sum := "836ac315b12f4bca9d3f36acf536f074411cf5551ddaf9ca7e7d06258d441970", func := "auspex/auspexlaw10.CacheData", spec := "cacheData", unfollowed := true, recurses := true, apart := false }
def CacheDataSaid : Prop := cacheDataRow.holds Try.pinned (OpenSpec.ofChange cacheDataSpec)

/-- ITS FALSE NEIGHBOUR: 'it returns false'. Refute it at one input. -/
def cacheDataWrong : ChangeSpec := { name := "cacheData", fn := fun _ => fun
  | [d1, d2, d3] => { results := [.lit (.bool false)], args := [d1, d2, d3] }
  | _ => none }
def CacheDataWrongFalsely : Prop := cacheDataRow.holds Try.pinned (OpenSpec.ofChange cacheDataWrong)

/-- 'auspexlaw17.PickTakes': WHATEVER THE INPUT: true; the input reads as it did. -/
def pickTakesSpec : ChangeSpec := { name := "pickTakes", fn := fun _ => fun
  | [d1, d2, d3, d4] => { results := [.lit (.bool true)], args := [d1, d2, d3, d4] }
  | _ => none }
def pickTakesRow : OpenClaim := { program := "ytebeelphilfjhaa", sum := "836ac315b12f4bca9d3f36acf536f074411cf5551ddaf9ca7e7d06258d441970", func := "auspex/auspexlaw17.PickTakes", spec := "pickTakes", apart := false }
def PickTakesSaid : Prop := pickTakesRow.holds Try.pinned (OpenSpec.ofChange pickTakesSpec)

/-- ITS FALSE NEIGHBOUR: 'it returns false'. Refute it at one input. -/
def pickTakesWrong : ChangeSpec := { name := "pickTakes", fn := fun _ => fun
  | [d1, d2, d3, d4] => { results := [.lit (.bool false)], args := [d1, d2, d3, d4] }
  | _ => none }
def PickTakesWrongFalsely : Prop := pickTakesRow.holds Try.pinned (OpenSpec.ofChange pickTakesWrong)

/-- 'auspexlaw17.PickFirst': WHATEVER THE INPUT: true; the input reads as it did. -/
def pickFirstSpec : ChangeSpec := { name := "pickFirst", fn := fun _ => fun
  | [d1, d2, d3, d4, d5] => { results := [.lit (.bool true)], args := [d1, d2, d3, d4, d5] }
  | _ => none }
def pickFirstRow : OpenClaim := { program := "ytebeelphilfjhaa", sum := "836ac315b12f4bca9d3f36acf536f074411cf5551ddaf9ca7e7d06258d441970", func := "auspex/auspexlaw17.PickFirst", spec := "pickFirst", unfollowed := true, recurses := true, apart := false }
def PickFirstSaid : Prop := pickFirstRow.holds Try.pinned (OpenSpec.ofChange pickFirstSpec)

/-- ITS FALSE NEIGHBOUR: 'it returns false'. Refute it at one input. -/
def pickFirstWrong : ChangeSpec := { name := "pickFirst", fn := fun _ => fun
  | [d1, d2, d3, d4, d5] => { results := [.lit (.bool false)], args := [d1, d2, d3, d4, d5] }
  | _ => none }
def PickFirstWrongFalsely : Prop := pickFirstRow.holds Try.pinned (OpenSpec.ofChange pickFirstWrong)

/-- 'auspexlaw17.PickAll': WHATEVER THE INPUT: true; the input reads as it did. -/
def pickAllSpec : ChangeSpec := { name := "pickAll", fn := fun _ => fun
  | [d1, d2, d3, d4] => { results := [.lit (.bool true)], args := [d1, d2, d3, d4] }
  | _ => none }
def pickAllRow : OpenClaim := { program := "ytebeelphilfjhaa", sum := "836ac315b12f4bca9d3f36acf536f074411cf5551ddaf9ca7e7d06258d441970", func := "auspex/auspexlaw17.PickAll", spec := "pickAll", apart := false }
def PickAllSaid : Prop := pickAllRow.holds Try.pinned (OpenSpec.ofChange pickAllSpec)

/-- ITS FALSE NEIGHBOUR: 'it returns false'. Refute it at one input. -/
def pickAllWrong : ChangeSpec := { name := "pickAll", fn := fun _ => fun
  | [d1, d2, d3, d4] => { results := [.lit (.bool false)], args := [d1, d2, d3, d4] }
  | _ => none }
def PickAllWrongFalsely : Prop := pickAllRow.holds Try.pinned (OpenSpec.ofChange pickAllWrong)

/- THE SECOND FORM. 'bulk': how many values and letters a reading holds, each counted each time it is reached (what is shared counts as often as it is met; a slice's spare places count too). A statement '..UptoSaid' is the law's where the arguments, and the package variables that the reading takes, are together of bulk at most 1048576: NARROWER than '..Said'. Prove '..Said' where nothing that the law and all that it calls make is longer than what came in: it says more and counts as full. Else prove '..UptoSaid'. A law counts once. -/
mutual
def uptoBulk {H : Type} : DataW H → Nat
  | .lit (.string bytes) => bytes.length + 1
  | .lit _ => 1
  | .nil => 1
  | .ptr d => uptoBulk d + 1
  | .slice elems spare => uptoBulkAll elems + uptoBulkAll spare + 1
  | .agg parts => uptoBulkAll parts + 1
  | .iface _ d => uptoBulk d + 1
  | .map entries => uptoBulkEntries entries + 1
  | .held _ => 1
def uptoBulkAll {H : Type} : List (DataW H) → Nat
  | [] => 0
  | d :: r => uptoBulk d + uptoBulkAll r
def uptoBulkEntries {H : Type} : List (Lit × DataW H) → Nat
  | [] => 0
  | x :: r => uptoBulkEntry x + uptoBulkEntries r
def uptoBulkEntry {H : Type} : Lit × DataW H → Nat
  | (.string bytes, d) => bytes.length + uptoBulk d + 1
  | (_, d) => uptoBulk d + 1
 end
def uptoSmall : (H : Type) → List (DataW H) → Bool := fun _ ds => decide (uptoBulkAll ds ≤ 1048576)
def OpenSpec.upto (s : _root_.Go.ChangeSpec) : _root_.Go.OpenSpec := { _root_.Go.OpenSpec.ofChange s with cond := some uptoSmall }

/-- 'auspexlaw08.ConfCleans', WHERE WHAT IT READS IS OF BULK AT MOST 1048576: true; the input reads as it did. -/
def confCleansUptoRow : OpenClaim := { program := "ytebeelphilfjhaa", sum := "836ac315b12f4bca9d3f36acf536f074411cf5551ddaf9ca7e7d06258d441970", func := "auspex/auspexlaw08.ConfCleans", spec := "confCleans", unfollowed := true, recurses := true, apart := false, narrowed := true }
def ConfCleansUptoSaid : Prop := confCleansUptoRow.holds Try.pinned (OpenSpec.upto confCleansSpec)

/-- 'auspexlaw08.ConfTapes', WHERE WHAT IT READS IS OF BULK AT MOST 1048576: true; the input reads as it did. -/
def confTapesUptoRow : OpenClaim := { program := "ytebeelphilfjhaa", sum := "836ac315b12f4bca9d3f36acf536f074411cf5551ddaf9ca7e7d06258d441970", func := "auspex/auspexlaw08.ConfTapes", spec := "confTapes", unfollowed := true, recurses := true, apart := false, narrowed := true }
def ConfTapesUptoSaid : Prop := confTapesUptoRow.holds Try.pinned (OpenSpec.upto confTapesSpec)

/-- 'auspexlaw08.ConfStays', WHERE WHAT IT READS IS OF BULK AT MOST 1048576: true; the input reads as it did. -/
def confStaysUptoRow : OpenClaim := { program := "ytebeelphilfjhaa", sum := "836ac315b12f4bca9d3f36acf536f074411cf5551ddaf9ca7e7d06258d441970", func := "auspex/auspexlaw08.ConfStays", spec := "confStays", unfollowed := true, recurses := true, apart := false, narrowed := true }
def ConfStaysUptoSaid : Prop := confStaysUptoRow.holds Try.pinned (OpenSpec.upto confStaysSpec)

/-- 'auspexlaw08.ConfRises', WHERE WHAT IT READS IS OF BULK AT MOST 1048576: true; the input reads as it did. -/
def confRisesUptoRow : OpenClaim := { program := "ytebeelphilfjhaa", sum := "836ac315b12f4bca9d3f36acf536f074411cf5551ddaf9ca7e7d06258d441970", func := "auspex/auspexlaw08.ConfRises", spec := "confRises", unfollowed := true, recurses := true, apart := false, narrowed := true }
def ConfRisesUptoSaid : Prop := confRisesUptoRow.holds Try.pinned (OpenSpec.upto confRisesSpec)

/-- 'auspexlaw08.ConfTurns', WHERE WHAT IT READS IS OF BULK AT MOST 1048576: true; the input reads as it did. -/
def confTurnsUptoRow : OpenClaim := { program := "ytebeelphilfjhaa", sum := "836ac315b12f4bca9d3f36acf536f074411cf5551ddaf9ca7e7d06258d441970", func := "auspex/auspexlaw08.ConfTurns", spec := "confTurns", unfollowed := true, recurses := true, apart := false, narrowed := true }
def ConfTurnsUptoSaid : Prop := confTurnsUptoRow.holds Try.pinned (OpenSpec.upto confTurnsSpec)

/-- 'auspexlaw09.BusOrder', WHERE WHAT IT READS IS OF BULK AT MOST 1048576: true; the input reads as it did. -/
def busOrderUptoRow : OpenClaim := { program := "ytebeelphilfjhaa", sum := "836ac315b12f4bca9d3f36acf536f074411cf5551ddaf9ca7e7d06258d441970", func := "auspex/auspexlaw09.BusOrder", spec := "busOrder", apart := false, narrowed := true }
def BusOrderUptoSaid : Prop := busOrderUptoRow.holds Try.pinned (OpenSpec.upto busOrderSpec)

/-- 'auspexlaw09.BusKeeps', WHERE WHAT IT READS IS OF BULK AT MOST 1048576: true; the input reads as it did. -/
def busKeepsUptoRow : OpenClaim := { program := "ytebeelphilfjhaa", sum := "836ac315b12f4bca9d3f36acf536f074411cf5551ddaf9ca7e7d06258d441970", func := "auspex/auspexlaw09.BusKeeps", spec := "busKeeps", apart := false, narrowed := true }
def BusKeepsUptoSaid : Prop := busKeepsUptoRow.holds Try.pinned (OpenSpec.upto busKeepsSpec)

/-- 'auspexlaw09.BusHas', WHERE WHAT IT READS IS OF BULK AT MOST 1048576: true; the input reads as it did. -/
def busHasUptoRow : OpenClaim := { program := "ytebeelphilfjhaa", sum := "836ac315b12f4bca9d3f36acf536f074411cf5551ddaf9ca7e7d06258d441970", func := "auspex/auspexlaw09.BusHas", spec := "busHas", apart := false, narrowed := true }
def BusHasUptoSaid : Prop := busHasUptoRow.holds Try.pinned (OpenSpec.upto busHasSpec)

/-- 'auspexlaw10.CacheFinds', WHERE WHAT IT READS IS OF BULK AT MOST 1048576: true; the input reads as it did. -/
def cacheFindsUptoRow : OpenClaim := { program := "ytebeelphilfjhaa", sum := "836ac315b12f4bca9d3f36acf536f074411cf5551ddaf9ca7e7d06258d441970", func := "auspex/auspexlaw10.CacheFinds", spec := "cacheFinds", unfollowed := true, recurses := true, apart := false, narrowed := true }
def CacheFindsUptoSaid : Prop := cacheFindsUptoRow.holds Try.pinned (OpenSpec.upto cacheFindsSpec)

/-- 'auspexlaw10.CachePuts', WHERE WHAT IT READS IS OF BULK AT MOST 1048576: true; the input reads as it did. -/
def cachePutsUptoRow : OpenClaim := { program := "ytebeelphilfjhaa", sum := "836ac315b12f4bca9d3f36acf536f074411cf5551ddaf9ca7e7d06258d441970", func := "auspex/auspexlaw10.CachePuts", spec := "cachePuts", unfollowed := true, recurses := true, apart := false, narrowed := true }
def CachePutsUptoSaid : Prop := cachePutsUptoRow.holds Try.pinned (OpenSpec.upto cachePutsSpec)

/-- 'auspexlaw10.CacheWrites', WHERE WHAT IT READS IS OF BULK AT MOST 1048576: true; the input reads as it did. -/
def cacheWritesUptoRow : OpenClaim := { program := "ytebeelphilfjhaa", sum := "836ac315b12f4bca9d3f36acf536f074411cf5551ddaf9ca7e7d06258d441970", func := "auspex/auspexlaw10.CacheWrites", spec := "cacheWrites", unfollowed := true, recurses := true, apart := false, narrowed := true }
def CacheWritesUptoSaid : Prop := cacheWritesUptoRow.holds Try.pinned (OpenSpec.upto cacheWritesSpec)

/-- 'auspexlaw10.CacheLast', WHERE WHAT IT READS IS OF BULK AT MOST 1048576: true; the input reads as it did. -/
def cacheLastUptoRow : OpenClaim := { program := "ytebeelphilfjhaa", sum := "836ac315b12f4bca9d3f36acf536f074411cf5551ddaf9ca7e7d06258d441970", func := "auspex/auspexlaw10.CacheLast", spec := "cacheLast", unfollowed := true, recurses := true, apart := false, narrowed := true }
def CacheLastUptoSaid : Prop := cacheLastUptoRow.holds Try.pinned (OpenSpec.upto cacheLastSpec)

/-- 'auspexlaw10.CacheHas', WHERE WHAT IT READS IS OF BULK AT MOST 1048576: true; the input reads as it did. -/
def cacheHasUptoRow : OpenClaim := { program := "ytebeelphilfjhaa", sum := "836ac315b12f4bca9d3f36acf536f074411cf5551ddaf9ca7e7d06258d441970", func := "auspex/auspexlaw10.CacheHas", spec := "cacheHas", unfollowed := true, recurses := true, apart := false, narrowed := true }
def CacheHasUptoSaid : Prop := cacheHasUptoRow.holds Try.pinned (OpenSpec.upto cacheHasSpec)

/-- 'auspexlaw10.CacheData', WHERE WHAT IT READS IS OF BULK AT MOST 1048576: true; the input reads as it did. -/
def cacheDataUptoRow : OpenClaim := { program := "ytebeelphilfjhaa", sum := "836ac315b12f4bca9d3f36acf536f074411cf5551ddaf9ca7e7d06258d441970", func := "auspex/auspexlaw10.CacheData", spec := "cacheData", unfollowed := true, recurses := true, apart := false, narrowed := true }
def CacheDataUptoSaid : Prop := cacheDataUptoRow.holds Try.pinned (OpenSpec.upto cacheDataSpec)

/-- 'auspexlaw17.PickTakes', WHERE WHAT IT READS IS OF BULK AT MOST 1048576: true; the input reads as it did. -/
def pickTakesUptoRow : OpenClaim := { program := "ytebeelphilfjhaa", sum := "836ac315b12f4bca9d3f36acf536f074411cf5551ddaf9ca7e7d06258d441970", func := "auspex/auspexlaw17.PickTakes", spec := "pickTakes", apart := false, narrowed := true }
def PickTakesUptoSaid : Prop := pickTakesUptoRow.holds Try.pinned (OpenSpec.upto pickTakesSpec)

/-- 'auspexlaw17.PickFirst', WHERE WHAT IT READS IS OF BULK AT MOST 1048576: true; the input reads as it did. -/
def pickFirstUptoRow : OpenClaim := { program := "ytebeelphilfjhaa", sum := "836ac315b12f4bca9d3f36acf536f074411cf5551ddaf9ca7e7d06258d441970", func := "auspex/auspexlaw17.PickFirst", spec := "pickFirst", unfollowed := true, recurses := true, apart := false, narrowed := true }
def PickFirstUptoSaid : Prop := pickFirstUptoRow.holds Try.pinned (OpenSpec.upto pickFirstSpec)

/-- 'auspexlaw17.PickAll', WHERE WHAT IT READS IS OF BULK AT MOST 1048576: true; the input reads as it did. -/
def pickAllUptoRow : OpenClaim := { program := "ytebeelphilfjhaa", sum := "836ac315b12f4bca9d3f36acf536f074411cf5551ddaf9ca7e7d06258d441970", func := "auspex/auspexlaw17.PickAll", spec := "pickAll", apart := false, narrowed := true }
def PickAllUptoSaid : Prop := pickAllUptoRow.holds Try.pinned (OpenSpec.upto pickAllSpec)

end Rows
end Go.Proofs.Ytebeelphilfjhaa
