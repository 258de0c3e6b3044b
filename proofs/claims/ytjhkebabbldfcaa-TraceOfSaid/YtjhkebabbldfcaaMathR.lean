/- ROWS OF EVENTS, as lists: how many two have in common. -/
namespace Go.Proofs.Ytjhkebabbldfcaa

def sameL {α : Type} [DecidableEq α] : List α → List α → Nat
  | x :: a, y :: b => if x = y then sameL a b + 1 else 0
  | _, _ => 0
theorem sameL_comm {α : Type} [DecidableEq α] : ∀ (a b : List α), sameL a b = sameL b a
  | [], [] => rfl
  | [], y :: b => rfl
  | x :: a, [] => rfl
  | x :: a, y :: b => by
    unfold sameL
    by_cases h : x = y
    · subst h; rw [if_pos rfl, if_pos rfl, sameL_comm a b]
    · rw [if_neg h, if_neg (fun e => h e.symm)]
theorem sameL_le {α : Type} [DecidableEq α] : ∀ (a b : List α), sameL a b ≤ a.length ∧ sameL a b ≤ b.length
  | [], b => ⟨Nat.zero_le _, Nat.zero_le _⟩
  | x :: a, [] => ⟨Nat.zero_le _, Nat.zero_le _⟩
  | x :: a, y :: b => by
    have := sameL_le a b
    unfold sameL
    simp only [List.length_cons]
    split <;> omega
theorem sameL_self {α : Type} [DecidableEq α] : ∀ (a : List α), sameL a a = a.length
  | [] => rfl
  | x :: a => by unfold sameL; rw [if_pos rfl, sameL_self a]; rfl
/-- where the common part ends -/
theorem sameL_at {α : Type} [DecidableEq α] : ∀ (k : Nat) (a b : List α), (∀ j, j < k → a[j]? = b[j]? ∧ a[j]? ≠ none) → (a[k]? = none ∨ b[k]? = none ∨ a[k]? ≠ b[k]?) → sameL a b = k
  | 0, a, b, _, h => by
    match a, b, h with
    | [], _, _ => rfl
    | _ :: _, [], _ => rfl
    | x :: a, y :: b, h =>
      unfold sameL
      rw [if_neg (fun e => by subst e; simp at h)]
  | k + 1, a, b, hall, h => by
    match a, b, hall with
    | [], _, hall => exact absurd rfl (hall 0 (by omega)).2
    | x :: a, [], hall => have := (hall 0 (by omega)).1; simp at this
    | x :: a, y :: b, hall =>
      have h0 := (hall 0 (by omega)).1
      have e : x = y := by simpa using h0
      unfold sameL
      rw [if_pos e, sameL_at k a b (fun j hj => by have := hall (j + 1) (by omega); simpa using this) (by simpa using h)]
theorem sameL_eq {α : Type} [DecidableEq α] (a b : List α) (h : a.length = b.length) : sameL a b = a.length ↔ a = b := by
  constructor
  · intro hs
    induction a generalizing b with
    | nil => exact (List.length_eq_zero_iff.1 h.symm).symm
    | cons x a ih =>
      match b, h with
      | y :: b, h =>
        unfold sameL at hs
        by_cases e : x = y
        · rw [if_pos e] at hs
          rw [e, ih b (by simpa using h) (by simpa using hs)]
        · rw [if_neg e] at hs; simp at hs
  · rintro rfl; exact sameL_self _

end Go.Proofs.Ytjhkebabbldfcaa
