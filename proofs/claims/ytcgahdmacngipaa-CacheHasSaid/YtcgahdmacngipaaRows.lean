/-
  No cell of these rows narrows 'for every input' (looked for: loops, veiled, ifaces, maps, wideKeys, modest, calm, conditions, laid).
  DERIVED. THE GIVEN ROWS OF THIS SEAT. 6 by the template 'for every input the law returns true; each argument reads behind the call as it read before'; 0 by the template 'total and deterministic' (their statements: YtcgahdmacngipaaTotals.lean).
  GIVEN WITH THE SEED: the statements are not yours to turn. If you find one false, say at which input.
  Laid BY PROGRAM, IN A SANDBOX (cutbox-rows.mjs): the forced cells as the released guide's own fill.sh prints them over the translation 8672d53cd7b16452… (all of the seat's roots in one cut). By AI agents, Wed Nov 11 2026. No macro, syntax, notation, axiom, sorry.
-/
import Derived.Test.YtcgahdmacngipaaChecked
import GoSem.Claim
import GoSem.ClaimJoined
import GoSem.ClaimMapViews
import Derived.JoinedTies
import Derived.KernelRfl
namespace Go.Proofs.Ytcgahdmacngipaa
/- THE CELL 'sum', in the pinned program and in every row, IS THE sha256 OF THE DUMP (.gsa) THAT YtcgahdmacngipaaProg.lean LOADS. Nothing in Lean hashes anything: it is a label: what it is worth is what the hold of that sum in a sandbox is worth. -/
noncomputable def Try.pinned : Pinned := { name := "ytcgahdmacngipaa", sum := "8672d53cd7b164520235433b6148001f51e577bdcb7660ded0dab504d0a50e27", checked := Try.checked }
namespace Rows
def none {H : Type} : Left H := { results := [], args := [] }

/-- 'auspexlaw10.CacheFinds': WHATEVER THE INPUT: true; the input reads as it did. -/
def cacheFindsSpec : ChangeSpec := { name := "cacheFinds", fn := fun _ => fun
  | [d1, d2, d3, d4] => { results := [.lit (.bool true)], args := [d1, d2, d3, d4] }
  | _ => none }
def cacheFindsRow : OpenClaim := { program := "ytcgahdmacngipaa", sum := "8672d53cd7b164520235433b6148001f51e577bdcb7660ded0dab504d0a50e27", func := "auspex/auspexlaw10.CacheFinds", spec := "cacheFinds", unfollowed := true, recurses := true, apart := false }
def CacheFindsSaid : Prop := cacheFindsRow.holds Try.pinned (OpenSpec.ofChange cacheFindsSpec)

/-- ITS FALSE NEIGHBOUR: 'it returns false'. Refute it at one input. -/
def cacheFindsWrong : ChangeSpec := { name := "cacheFinds", fn := fun _ => fun
  | [d1, d2, d3, d4] => { results := [.lit (.bool false)], args := [d1, d2, d3, d4] }
  | _ => none }
def CacheFindsWrongFalsely : Prop := cacheFindsRow.holds Try.pinned (OpenSpec.ofChange cacheFindsWrong)

/-- 'auspexlaw10.CachePuts': WHATEVER THE INPUT: true; the input reads as it did. -/
def cachePutsSpec : ChangeSpec := { name := "cachePuts", fn := fun _ => fun
  | [d1, d2, d3, d4] => { results := [.lit (.bool true)], args := [d1, d2, d3, d4] }
  | _ => none }
def cachePutsRow : OpenClaim := { program := "ytcgahdmacngipaa", sum := "8672d53cd7b164520235433b6148001f51e577bdcb7660ded0dab504d0a50e27", func := "auspex/auspexlaw10.CachePuts", spec := "cachePuts", unfollowed := true, recurses := true, apart := false }
def CachePutsSaid : Prop := cachePutsRow.holds Try.pinned (OpenSpec.ofChange cachePutsSpec)

/-- ITS FALSE NEIGHBOUR: 'it returns false'. Refute it at one input. -/
def cachePutsWrong : ChangeSpec := { name := "cachePuts", fn := fun _ => fun
  | [d1, d2, d3, d4] => { results := [.lit (.bool false)], args := [d1, d2, d3, d4] }
  | _ => none }
def CachePutsWrongFalsely : Prop := cachePutsRow.holds Try.pinned (OpenSpec.ofChange cachePutsWrong)

/-- 'auspexlaw10.CacheWrites': WHATEVER THE INPUT: true; the input reads as it did. -/
def cacheWritesSpec : ChangeSpec := { name := "cacheWrites", fn := fun _ => fun
  | [d1, d2, d3] => { results := [.lit (.bool true)], args := [d1, d2, d3] }
  | _ => none }
def cacheWritesRow : OpenClaim := { program := "ytcgahdmacngipaa", sum := "8672d53cd7b164520235433b6148001f51e577bdcb7660ded0dab504d0a50e27", func := "auspex/auspexlaw10.CacheWrites", spec := "cacheWrites", unfollowed := true, recurses := true, apart := false }
def CacheWritesSaid : Prop := cacheWritesRow.holds Try.pinned (OpenSpec.ofChange cacheWritesSpec)

/-- ITS FALSE NEIGHBOUR: 'it returns false'. Refute it at one input. -/
def cacheWritesWrong : ChangeSpec := { name := "cacheWrites", fn := fun _ => fun
  | [d1, d2, d3] => { results := [.lit (.bool false)], args := [d1, d2, d3] }
  | _ => none }
def CacheWritesWrongFalsely : Prop := cacheWritesRow.holds Try.pinned (OpenSpec.ofChange cacheWritesWrong)

/-- 'auspexlaw10.CacheLast': WHATEVER THE INPUT: true; the input reads as it did. -/
def cacheLastSpec : ChangeSpec := { name := "cacheLast", fn := fun _ => fun
  | [d1, d2, d3] => { results := [.lit (.bool true)], args := [d1, d2, d3] }
  | _ => none }
def cacheLastRow : OpenClaim := { program := "ytcgahdmacngipaa", sum := "8672d53cd7b164520235433b6148001f51e577bdcb7660ded0dab504d0a50e27", func := "auspex/auspexlaw10.CacheLast", spec := "cacheLast", unfollowed := true, recurses := true, apart := false }
def CacheLastSaid : Prop := cacheLastRow.holds Try.pinned (OpenSpec.ofChange cacheLastSpec)

/-- ITS FALSE NEIGHBOUR: 'it returns false'. Refute it at one input. -/
def cacheLastWrong : ChangeSpec := { name := "cacheLast", fn := fun _ => fun
  | [d1, d2, d3] => { results := [.lit (.bool false)], args := [d1, d2, d3] }
  | _ => none }
def CacheLastWrongFalsely : Prop := cacheLastRow.holds Try.pinned (OpenSpec.ofChange cacheLastWrong)

/-- 'auspexlaw10.CacheHas': WHATEVER THE INPUT: true; the input reads as it did. -/
def cacheHasSpec : ChangeSpec := { name := "cacheHas", fn := fun _ => fun
  | [d1, d2, d3, d4] => { results := [.lit (.bool true)], args := [d1, d2, d3, d4] }
  | _ => none }
def cacheHasRow : OpenClaim := { program := "ytcgahdmacngipaa", sum := "8672d53cd7b164520235433b6148001f51e577bdcb7660ded0dab504d0a50e27", func := "auspex/auspexlaw10.CacheHas", spec := "cacheHas", unfollowed := true, recurses := true, apart := false }
def CacheHasSaid : Prop := cacheHasRow.holds Try.pinned (OpenSpec.ofChange cacheHasSpec)

/-- ITS FALSE NEIGHBOUR: 'it returns false'. Refute it at one input. -/
def cacheHasWrong : ChangeSpec := { name := "cacheHas", fn := fun _ => fun
  | [d1, d2, d3, d4] => { results := [.lit (.bool false)], args := [d1, d2, d3, d4] }
  | _ => none }
def CacheHasWrongFalsely : Prop := cacheHasRow.holds Try.pinned (OpenSpec.ofChange cacheHasWrong)

/-- 'auspexlaw10.CacheData': WHATEVER THE INPUT: true; the input reads as it did. -/
def cacheDataSpec : ChangeSpec := { name := "cacheData", fn := fun _ => fun
  | [d1, d2, d3] => { results := [.lit (.bool true)], args := [d1, d2, d3] }
  | _ => none }
def cacheDataRow : OpenClaim := { program := "ytcgahdmacngipaa", sum := "8672d53cd7b164520235433b6148001f51e577bdcb7660ded0dab504d0a50e27", func := "auspex/auspexlaw10.CacheData", spec := "cacheData", unfollowed := true, recurses := true, apart := false }
def CacheDataSaid : Prop := cacheDataRow.holds Try.pinned (OpenSpec.ofChange cacheDataSpec)

/-- ITS FALSE NEIGHBOUR: 'it returns false'. Refute it at one input. -/
def cacheDataWrong : ChangeSpec := { name := "cacheData", fn := fun _ => fun
  | [d1, d2, d3] => { results := [.lit (.bool false)], args := [d1, d2, d3] }
  | _ => none }
def CacheDataWrongFalsely : Prop := cacheDataRow.holds Try.pinned (OpenSpec.ofChange cacheDataWrong)

/- THE SECOND FORM. 'bulk': how many values and letters a reading holds, each counted each time it is reached (what is shared counts as often as it is met; a slice's spare places count too). A statement '..UptoSaid' is the law's where the arguments, and the package variables that the reading takes, are together of bulk at most 1048576: NARROWER than '..Said'. Prove '..Said' where nothing that the law and all that it calls make is longer than what came in: it says more and counts as full. Else prove '..UptoSaid'. A law counts once. -/
mutual
def uptoBulk {H : Type} : DataW H → Nat
  | .lit (.string bytes) => bytes.length + 1
  | .lit _ => 1
  | .nil => 1
  | .ptr d => uptoBulk d + 1
  | .slice elems spare => uptoBulkAll elems + uptoBulkAll spare + 1
  | .agg parts => uptoBulkAll parts + 1
  | .iface _ d => uptoBulk d + 1
  | .map entries => uptoBulkEntries entries + 1
  | .held _ => 1
def uptoBulkAll {H : Type} : List (DataW H) → Nat
  | [] => 0
  | d :: r => uptoBulk d + uptoBulkAll r
def uptoBulkEntries {H : Type} : List (Lit × DataW H) → Nat
  | [] => 0
  | x :: r => uptoBulkEntry x + uptoBulkEntries r
def uptoBulkEntry {H : Type} : Lit × DataW H → Nat
  | (.string bytes, d) => bytes.length + uptoBulk d + 1
  | (_, d) => uptoBulk d + 1
 end
def uptoSmall : (H : Type) → List (DataW H) → Bool := fun _ ds => decide (uptoBulkAll ds ≤ 1048576)
def OpenSpec.upto (s : _root_.Go.ChangeSpec) : _root_.Go.OpenSpec := { _root_.Go.OpenSpec.ofChange s with cond := some uptoSmall }

/-- 'auspexlaw10.CacheFinds', WHERE WHAT IT READS IS OF BULK AT MOST 1048576: true; the input reads as it did. -/
def cacheFindsUptoRow : OpenClaim := { program := "ytcgahdmacngipaa", sum := "8672d53cd7b164520235433b6148001f51e577bdcb7660ded0dab504d0a50e27", func := "auspex/auspexlaw10.CacheFinds", spec := "cacheFinds", unfollowed := true, recurses := true, apart := false, narrowed := true }
def CacheFindsUptoSaid : Prop := cacheFindsUptoRow.holds Try.pinned (OpenSpec.upto cacheFindsSpec)

/-- 'auspexlaw10.CachePuts', WHERE WHAT IT READS IS OF BULK AT MOST 1048576: true; the input reads as it did. -/
def cachePutsUptoRow : OpenClaim := { program := "ytcgahdmacngipaa", sum := "8672d53cd7b164520235433b6148001f51e577bdcb7660ded0dab504d0a50e27", func := "auspex/auspexlaw10.CachePuts", spec := "cachePuts", unfollowed := true, recurses := true, apart := false, narrowed := true }
def CachePutsUptoSaid : Prop := cachePutsUptoRow.holds Try.pinned (OpenSpec.upto cachePutsSpec)

/-- 'auspexlaw10.CacheWrites', WHERE WHAT IT READS IS OF BULK AT MOST 1048576: true; the input reads as it did. -/
def cacheWritesUptoRow : OpenClaim := { program := "ytcgahdmacngipaa", sum := "8672d53cd7b164520235433b6148001f51e577bdcb7660ded0dab504d0a50e27", func := "auspex/auspexlaw10.CacheWrites", spec := "cacheWrites", unfollowed := true, recurses := true, apart := false, narrowed := true }
def CacheWritesUptoSaid : Prop := cacheWritesUptoRow.holds Try.pinned (OpenSpec.upto cacheWritesSpec)

/-- 'auspexlaw10.CacheLast', WHERE WHAT IT READS IS OF BULK AT MOST 1048576: true; the input reads as it did. -/
def cacheLastUptoRow : OpenClaim := { program := "ytcgahdmacngipaa", sum := "8672d53cd7b164520235433b6148001f51e577bdcb7660ded0dab504d0a50e27", func := "auspex/auspexlaw10.CacheLast", spec := "cacheLast", unfollowed := true, recurses := true, apart := false, narrowed := true }
def CacheLastUptoSaid : Prop := cacheLastUptoRow.holds Try.pinned (OpenSpec.upto cacheLastSpec)

/-- 'auspexlaw10.CacheHas', WHERE WHAT IT READS IS OF BULK AT MOST 1048576: true; the input reads as it did. -/
def cacheHasUptoRow : OpenClaim := { program := "ytcgahdmacngipaa", sum := "8672d53cd7b164520235433b6148001f51e577bdcb7660ded0dab504d0a50e27", func := "auspex/auspexlaw10.CacheHas", spec := "cacheHas", unfollowed := true, recurses := true, apart := false, narrowed := true }
def CacheHasUptoSaid : Prop := cacheHasUptoRow.holds Try.pinned (OpenSpec.upto cacheHasSpec)

/-- 'auspexlaw10.CacheData', WHERE WHAT IT READS IS OF BULK AT MOST 1048576: true; the input reads as it did. -/
def cacheDataUptoRow : OpenClaim := { program := "ytcgahdmacngipaa", sum := "8672d53cd7b164520235433b6148001f51e577bdcb7660ded0dab504d0a50e27", func := "auspex/auspexlaw10.CacheData", spec := "cacheData", unfollowed := true, recurses := true, apart := false, narrowed := true }
def CacheDataUptoSaid : Prop := cacheDataUptoRow.holds Try.pinned (OpenSpec.upto cacheDataSpec)

end Rows
end Go.Proofs.Ytcgahdmacngipaa
