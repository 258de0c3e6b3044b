/- STORES OVER A BLOCK THAT IS KNOWN; results that lie in a block; two blocks made (as in RetireA, for other seats). -/
import Derived.Test.YtkamljmopbocnaaDoorOwn
namespace Go.Proofs.YtkamljmopbocnaaDoor
open Go.ChangeShapes Go.WideShapes Go.ChangeAt Go.RowKit
set_option linter.unusedVariables false
set_option linter.unusedSimpArgs false
set_option maxHeartbeats 2000000
set_option maxRecDepth 100000

/-- a whole value is stored over a block that is known -/
theorem wpList_store_blk {P : Program} {ops : Array Oper} {rest : List Oper} {op : Oper} {a : Act} {w : World} {Q : Exit → Act → World → Prop} (hgd : op.guard = none) (ty : TypeId) (x y : Operand) (ho : op.op = .store ty x y)
    (b : Nat) (zs : List Value) (cells : Array Value) (hB : Blk w b zs) (hz : zs.length = cells.size) (hx : a.eval x = .pointer (some ⟨b, 0, none⟩)) (hy : a.eval y = .agg cells)
    (hi : (P.info? ty).map (·.size) = some cells.size) (h1 : cells.all (·.oneCell') = true)
    (h : ∀ W2, Blk W2 b cells.toList → (∀ b' cs, b' ≠ b → Blk w b' cs → Blk W2 b' cs) → (∀ B, B ≤ b → Below B w W2) → W2.heap.size = w.heap.size → wpList P ops Q rest (a.put op.dst undef) W2) :
    wpList P ops Q (op :: rest) a w := by
  have hth : w.there b 0 cells.size := fun j hj => by
    rw [Nat.zero_add, hB.2.1 j (zs[j]'(by omega)) (List.getElem?_eq_getElem (by omega)), hB.2.2 j (by omega)]
    exact ⟨rfl, rfl⟩
  refine wpList_store_mid hgd ty x y ho b 0 cells hx hy hth hi h1 (h _ ?_ ?_ ?_ ?_)
  · refine ⟨by rw [setCells_size]; exact hB.1, fun i v hv => ?_, fun i hi => ?_⟩
    · have := World.rangeAt_setCells_same w b 0 cells.toList (by simpa using hth) i v hv
      rwa [Nat.zero_add] at this
    · rw [setCells_frozen]
      exact hB.2.2 i (by simp at hi; omega)
  · intro b' cs hne hb'
    refine ⟨by rw [setCells_size]; exact hb'.1, fun i v hv => ?_, fun i hi => ?_⟩
    · have := World.rangeAt_setCells_apart hb'.range b 0 cells.toList (.inl hne) i v hv
      rwa [Nat.zero_add] at this
    · rw [setCells_frozen]
      exact hb'.2.2 i hi
  · exact fun B hBb => setCells_below _ hBb _ _ _
  · exact setCells_size _ _ _ _

/-- a result that lies in a block, read whole -/
theorem results_cell_blk {P : Program} {fn : Func} {p : Tmp} {ty : TypeId} (h : fn.results = #[.cell p ty]) (tmps : Array Value) (w : World) (b : Nat) (cs : List Value) (d : TypeDesc)
    (hp : tmps.getD p undef = .pointer (some ⟨b, 0, none⟩)) (hB : Blk w b cs) (hu : P.underlying ty = some d) (hd : d.isRow = true) (hi : (P.info? ty).map (·.size) = some cs.length) :
    (results fn tmps).run P w = .ok (.agg cs.toArray) w := by
  have hp' : tmps[p]?.getD undef = .pointer (some ⟨b, 0, none⟩) := by simpa using hp
  simp [results, h, hp', asAddr, run_loadVar_mid w b 0 ty cs d hB.range hu hd hi]

theorem two_new (w : World) (X Y : List Value) (t u : TypeId) :
    Blk ((w.alloc (.cells X.toArray t)).alloc (.cells Y.toArray u)) w.heap.size X ∧ Blk ((w.alloc (.cells X.toArray t)).alloc (.cells Y.toArray u)) (w.heap.size + 1) Y ∧ Below w.heap.size w ((w.alloc (.cells X.toArray t)).alloc (.cells Y.toArray u)) ∧
    ((w.alloc (.cells X.toArray t)).alloc (.cells Y.toArray u)).heap.size = w.heap.size + 1 + 1 := by
  have s1 : (w.alloc (.cells X.toArray t)).heap.size = w.heap.size + 1 := by simp
  have b1 : Below (w.heap.size + 1) (w.alloc (.cells X.toArray t)) ((w.alloc (.cells X.toArray t)).alloc (.cells Y.toArray u)) := (Below.refl _ _).alloc (by rw [s1]; exact Nat.le_refl _) _
  refine ⟨(Blk.new w t X).below b1 (Nat.lt_succ_self _), ?_, ?_, by simp⟩
  · have := Blk.new (w.alloc (.cells X.toArray t)) u Y
    rwa [s1] at this
  · exact ((Below.refl _ _).alloc (Nat.le_refl _) _).alloc (by rw [s1]; omega) _

end Go.Proofs.YtkamljmopbocnaaDoor
