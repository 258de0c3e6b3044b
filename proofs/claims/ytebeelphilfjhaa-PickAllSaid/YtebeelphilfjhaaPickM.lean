/- PLAIN MATHEMATICS of package pick: who starts. -/
import Derived.RowKit
namespace Go.Proofs.Ytebeelphilfjhaa
open Go Go.RowKit

/-- the unit that an entry needs: 0 divides, 1 memory, 2 others -/
def unitN (ks : List Int) (k : Nat) : Nat := if k < ks.length then (if ks.getD k 0 = 2 then 0 else if ks.getD k 0 = 3 ∨ ks.getD k 0 = 4 then 1 else 2) else 2
theorem unitN_le (ks : List Int) (k : Nat) : unitN ks k ≤ 2 := by unfold unitN; (repeat' split) <;> omega
def has (ks : List Int) (out : List Nat) (u : Nat) : Bool := out.any fun j => unitN ks j == u
/-- may entry k start, behind those that do? -/
def okP (width : Int) (busy : Bool) (ks : List Int) (cs : List Bool) (out : List Nat) (k : Nat) : Bool :=
  cs.getD k false && decide ((out.length : Int) < width) && !(unitN ks k == 0 && (busy || has ks out 0)) && !(unitN ks k == 1 && has ks out 1)
def outP (width : Int) (busy : Bool) (ks : List Int) (cs : List Bool) : Nat → List Nat
  | 0 => []
  | k + 1 => if okP width busy ks cs (outP width busy ks cs k) k = true then outP width busy ks cs k ++ [k] else outP width busy ks cs k

section
variable {width : Int} {busy : Bool} {ks : List Int} {cs : List Bool}
theorem outP_yes {k : Nat} (h : okP width busy ks cs (outP width busy ks cs k) k = true) : outP width busy ks cs (k + 1) = outP width busy ks cs k ++ [k] := by rw [outP, if_pos h]
theorem outP_no {k : Nat} (h : okP width busy ks cs (outP width busy ks cs k) k = false) : outP width busy ks cs (k + 1) = outP width busy ks cs k := by rw [outP, if_neg (by simp [h])]
theorem okP_full {out : List Nat} {k : Nat} (h : width ≤ (out.length : Int)) : okP width busy ks cs out k = false := by
  unfold okP
  rw [show decide ((out.length : Int) < width) = false by simpa using h]
  simp
theorem outP_full {k : Nat} (h : width ≤ ((outP width busy ks cs k).length : Int)) : ∀ d, outP width busy ks cs (k + d) = outP width busy ks cs k
  | 0 => rfl
  | d + 1 => by
    have ih := outP_full h d
    rw [show k + (d + 1) = (k + d) + 1 by omega, outP_no (okP_full (by rw [ih]; exact h)), ih]
theorem outP_len (k : Nat) : (outP width busy ks cs k).length ≤ k := by
  induction k with
  | zero => exact Nat.le_refl _
  | succ k ih =>
    rw [outP]
    split
    · rw [List.length_append]; simp; omega
    · omega
theorem outP_lt (k : Nat) : ∀ j ∈ outP width busy ks cs k, j < k := by
  induction k with
  | zero => intro j hj; cases hj
  | succ k ih =>
    intro j hj
    rw [outP] at hj
    split at hj
    · rcases List.mem_append.1 hj with h | h
      · have := ih j h; omega
      · have : j = k := by simpa using h
        omega
    · have := ih j hj; omega
theorem has_snoc (out : List Nat) (k u : Nat) : has ks (out ++ [k]) u = (has ks out u || unitN ks k == u) := by simp [has, List.any_append]
end

end Go.Proofs.Ytebeelphilfjhaa
