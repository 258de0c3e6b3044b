/- A BLOCK OF THE CALL'S OWN, cell by cell (as in Conf). -/
import Derived.WalkKit
import Derived.ChangeSlices
import Derived.ChangeAt
import Derived.OwnWalk
import Derived.Below
import Derived.Lib.Hide
import Derived.Laws.NewBlocks
namespace Go.Proofs.YtkamljmopbocnaaDoor
open Go.ChangeShapes Go.WideShapes Go.ChangeAt Go.RowKit
set_option maxRecDepth 100000
set_option linter.unusedVariables false
set_option linter.unusedSimpArgs false

/-- a block of the call's own, cell by cell -/
def Blk (w : World) (b : Nat) (cs : List Value) : Prop := b < w.heap.size ∧ (∀ (i : Nat) v, cs[i]? = some v → w.cell? ⟨b, i, none⟩ = some v) ∧ ∀ (i : Nat), i < cs.length → w.frozen? ⟨b, i, none⟩ = false
theorem Blk.new (w : World) (t : TypeId) (cs : List Value) : Blk (w.alloc (.cells cs.toArray t)) w.heap.size cs :=
  ⟨by simp, fun i v hv => by rw [World.cell?_alloc_at _ _ _ _ rfl]; simpa using hv, fun i hi => World.frozen?_alloc_at _ _ _ _ rfl⟩
theorem Blk.below {w w' : World} {b B : Nat} {cs : List Value} (h : Blk w b cs) (hb : Below B w w') (hB : b < B) : Blk w' b cs :=
  ⟨Nat.lt_of_lt_of_le h.1 hb.size, fun i v hv => (hb.cell hB).trans (h.2.1 i v hv), fun i hi => (hb.frozen hB).trans (h.2.2 i hi)⟩
theorem Blk.set {w : World} {b : Nat} {cs : List Value} (h : Blk w b cs) {i : Nat} {v : Value} (hi : i < cs.length) : Blk (w.setCell ⟨b, i, none⟩ v) b (cs.set i v) := by
  refine ⟨by simpa using h.1, fun j u hu => ?_, fun j hj => ?_⟩
  · by_cases e : i = j
    · subst e
      rw [List.getElem?_set_self hi] at hu
      have hc := h.2.1 i cs[i] (List.getElem?_eq_getElem hi)
      rw [World.cell?_setCell_same w _ _ hc]
      exact hu
    · rw [List.getElem?_set_ne e] at hu
      rw [World.cell?_setCell_other _ _ _ _ (fun h' => e (by injection h'))]
      exact h.2.1 j u hu
  · rw [World.frozen?_setCell]
    exact h.2.2 j (by simpa using hj)
theorem Blk.other {w : World} {b : Nat} {cs : List Value} (h : Blk w b cs) {p : Addr} {v : Value} (hp : p.block ≠ b) : Blk (w.setCell p v) b cs :=
  ⟨by simpa using h.1, fun j u hu => by rw [World.cell?_setCell_other _ _ _ _ (fun e => hp (by rw [e]))]; exact h.2.1 j u hu, fun j hj => by rw [World.frozen?_setCell]; exact h.2.2 j hj⟩

theorem retb {a b : Bool} (h : a = b) : Ending.returned (.bool a) = .returned (.bool b) := by rw [h]
end Go.Proofs.YtkamljmopbocnaaDoor
