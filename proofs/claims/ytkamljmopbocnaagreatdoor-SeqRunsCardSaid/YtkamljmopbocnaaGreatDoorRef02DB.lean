/- Five cells behind a store, for the reference's Decode. -/
import Derived.Test.YtkamljmopbocnaaGreatDoorRef02N
import Derived.WalkLawsBesides
namespace Go.Proofs.YtkamljmopbocnaaGreatDoor
open Go.ChangeShapes Go.WideShapes Go.ChangeAt Go.RowKit
set_option maxRecDepth 100000

theorem fset1 {w : World} {b : Nat} {v0 v1 v2 v3 v4 : Value} (h : Five w b v0 v1 v2 v3 v4) (u : Value) : Five (w.setCell ⟨b, 1, none⟩ u) b v0 u v2 v3 v4 := by
  obtain ⟨⟨a0, a1, a2, a3, a4⟩, f⟩ := h
  refine ⟨⟨?_, ?_, ?_, ?_, ?_⟩, ?_⟩
  all_goals first
    | exact World.cell?_setCell_same w _ _ ‹w.cell? ⟨b, 1, none⟩ = some v1›
    | (rw [World.cell?_setCell_other w _ _ _ (by simp)]; assumption)
    | (simp only [World.frozen?_setCell]; exact f)
theorem fset2 {w : World} {b : Nat} {v0 v1 v2 v3 v4 : Value} (h : Five w b v0 v1 v2 v3 v4) (u : Value) : Five (w.setCell ⟨b, 2, none⟩ u) b v0 v1 u v3 v4 := by
  obtain ⟨⟨a0, a1, a2, a3, a4⟩, f⟩ := h
  refine ⟨⟨?_, ?_, ?_, ?_, ?_⟩, ?_⟩
  all_goals first
    | exact World.cell?_setCell_same w _ _ ‹w.cell? ⟨b, 2, none⟩ = some v2›
    | (rw [World.cell?_setCell_other w _ _ _ (by simp)]; assumption)
    | (simp only [World.frozen?_setCell]; exact f)
theorem fset3 {w : World} {b : Nat} {v0 v1 v2 v3 v4 : Value} (h : Five w b v0 v1 v2 v3 v4) (u : Value) : Five (w.setCell ⟨b, 3, none⟩ u) b v0 v1 v2 u v4 := by
  obtain ⟨⟨a0, a1, a2, a3, a4⟩, f⟩ := h
  refine ⟨⟨?_, ?_, ?_, ?_, ?_⟩, ?_⟩
  all_goals first
    | exact World.cell?_setCell_same w _ _ ‹w.cell? ⟨b, 3, none⟩ = some v3›
    | (rw [World.cell?_setCell_other w _ _ _ (by simp)]; assumption)
    | (simp only [World.frozen?_setCell]; exact f)
theorem fset_far {w : World} {b c : Nat} {v0 v1 v2 v3 v4 : Value} (h : Five w b v0 v1 v2 v3 v4) (hn : c ≠ b) (u : Value) (o : Nat) : Five (w.setCell ⟨c, o, none⟩ u) b v0 v1 v2 v3 v4 := by
  obtain ⟨⟨a0, a1, a2, a3, a4⟩, f⟩ := h
  have far : ∀ k, (w.setCell ⟨c, o, none⟩ u).cell? ⟨b, k, none⟩ = w.cell? ⟨b, k, none⟩ := fun k => World.cell?_setCell_other w _ _ _ (fun e => hn (congrArg Addr.block e))
  refine ⟨⟨(far 0).trans a0, (far 1).trans a1, (far 2).trans a2, (far 3).trans a3, (far 4).trans a4⟩, ?_⟩
  simp only [World.frozen?_setCell]
  exact f

end Go.Proofs.YtkamljmopbocnaaGreatDoor
