/- The fields by which chosen finds a word's row. -/
import Derived.Test.YtaokhegbfaokdaaDoorInstRow
import Derived.WalkLawsBesides
namespace Go.Proofs.YtaokhegbfaokdaaDoor
open Go.ChangeShapes Go.WideShapes Go.ChangeAt Go.RowKit
set_option maxRecDepth 100000

/-- the fields by which a word's row is known -/
def f3Of (c f3 : Int) : Int := if c = 55 ∨ c = 23 ∨ c = 111 then 0 else f3
def f7Of (c f3 f7 : Int) : Int := if c = 55 ∨ c = 23 ∨ c = 111 ∨ c = 103 ∨ c = 99 ∨ c = 3 ∨ c = 35 then 0 else if c = 19 ∧ f3 ≠ 1 ∧ f3 ≠ 5 then 0 else f7
def cOf (a : Int) : Int := (fld a 0 7 : Nat)
def chR (a : Int) : Row := if a = 15 then (46, 7, 15, 0, 0) else if a = 115 then (47, 7, 115, 0, 0) else if a = 1048691 then (48, 7, 1048691, 0, 0) else
  selR (cOf a) (f3Of (cOf a) (fld a 12 3 : Nat)) (f7Of (cOf a) (fld a 12 3 : Nat) (fld a 25 7 : Nat))
def chB (a : Int) : Bool := if a = 15 ∨ a = 115 ∨ a = 1048691 then true else
  selB (cOf a) (f3Of (cOf a) (fld a 12 3 : Nat)) (f7Of (cOf a) (fld a 12 3 : Nat) (fld a 25 7 : Nat))

def NoHit (c f3 f7 : Int) (k : Nat) : Prop := ∀ j, j < k → hits c f3 f7 (rowAt j) = false
theorem NoHit.zero {c f3 f7 : Int} : NoHit c f3 f7 0 := fun j hj => absurd hj (by omega)
theorem NoHit.step {c f3 f7 : Int} {k : Nat} (h : NoHit c f3 f7 k) (q : hits c f3 f7 (rowAt k) = false) : NoHit c f3 f7 (k + 1) := fun j hj => by
  by_cases e : j = k
  · rw [e]; exact q
  · exact h j (by omega)
theorem NoHit.hit {c f3 f7 : Int} {k : Nat} (h : NoHit c f3 f7 k) (hk : k < 45) (q : hits c f3 f7 (rowAt k) = true) : selR c f3 f7 = rowAt k ∧ selB c f3 f7 = true := by
  unfold selR selB
  rw [find_hit _ k hk h q]
  exact ⟨rfl, rfl⟩
theorem NoHit.none {c f3 f7 : Int} (h : NoHit c f3 f7 45) : selR c f3 f7 = (0, 0, 0, 0, 0) ∧ selB c f3 f7 = false := by
  unfold selR selB
  rw [find_none _ h]
  exact ⟨rfl, rfl⟩

end Go.Proofs.YtaokhegbfaokdaaDoor
