/- THE MATHEMATICS of package cache: which caches may be, where a line stands. -/
import Derived.Test.YtcgahdmacngipaaWays
namespace Go.Proofs.Ytcgahdmacngipaa
set_option maxRecDepth 100000
set_option linter.unusedVariables false
set_option linter.unusedSimpArgs false

theorem allR_false {p : Nat → Bool} {m k : Nat} (hk : k < m) (h : p k = false) : (List.range m).all p = false := by
  cases hq : (List.range m).all p
  · rfl
  · have := List.all_eq_true.1 hq k (List.mem_range.2 hk)
    rw [h] at this
    cases this
theorem allR_true {p : Nat → Bool} {m : Nat} (h : ∀ j, j < m → p j = true) : (List.range m).all p = true :=
  List.all_eq_true.2 fun k hk => h k (List.mem_range.1 hk)
theorem allR_get {p : Nat → Bool} {m : Nat} (h : (List.range m).all p = true) {j : Nat} (hj : j < m) : p j = true :=
  List.all_eq_true.1 h j (List.mem_range.2 hj)

/-- where the first one is that holds (-1: nowhere) -/
def idxP {α : Type} (p : α → Bool) : List α → Int
  | [] => -1
  | x :: l => if p x then 0 else if idxP p l < 0 then -1 else idxP p l + 1
theorem idxP_any {α : Type} (p : α → Bool) : ∀ l : List α, -1 ≤ idxP p l ∧ idxP p l < l.length ∧ (0 ≤ idxP p l ↔ l.any p = true)
  | [] => by simp [idxP]
  | x :: l => by
    obtain ⟨h1, h0, h2⟩ := idxP_any p l
    unfold idxP
    cases hp : p x
    · simp only [Bool.false_eq_true, if_false, List.any_cons, hp, Bool.false_or, List.length_cons]
      split
      · rename_i h
        refine ⟨by omega, by omega, ?_⟩
        rw [← h2]
        omega
      · refine ⟨by omega, by push_cast; omega, ?_⟩
        rw [← h2]
        omega
    · simp only [if_true, List.any_cons, hp, Bool.true_or, List.length_cons]
      exact ⟨by omega, by push_cast; omega, by simp⟩
theorem idxP_hit {α : Type} (p : α → Bool) (x : α) : ∀ (l : List α) (j : Nat), (∀ y ∈ l.take j, p y = false) → l[j]? = some x → p x = true → idxP p l = j
  | [], j, _, h, _ => by simp at h
  | y :: l, 0, _, h, hx => by
    simp at h
    subst h
    unfold idxP
    rw [if_pos hx]
    rfl
  | y :: l, j + 1, hn, h, hx => by
    have h1 := hn y (by simp)
    have h2 := idxP_hit p x l j (fun z hz => hn z (by simp [hz])) (by simpa using h) hx
    unfold idxP
    rw [h1, h2]
    simp
    omega
theorem idxP_none {α : Type} (p : α → Bool) : ∀ (l : List α), (∀ y ∈ l, p y = false) → idxP p l = -1
  | [], _ => rfl
  | y :: l, hn => by
    unfold idxP
    rw [hn y (by simp), idxP_none p l (fun z hz => hn z (by simp [hz]))]
    simp
theorem idxP_at {α : Type} (p : α → Bool) : ∀ (l : List α) (j : Nat), idxP p l = j → ∃ x, l[j]? = some x ∧ p x = true ∧ ∀ y ∈ l.take j, p y = false
  | [], j, h => by simp [idxP] at h
  | x :: l, j, h => by
    unfold idxP at h
    cases hp : p x
    · rw [hp] at h
      simp only [Bool.false_eq_true, if_false] at h
      split at h
      · omega
      · obtain ⟨i, rfl⟩ : ∃ i, j = i + 1 := ⟨j - 1, by omega⟩
        obtain ⟨z, h1, h2, h3⟩ := idxP_at p l i (by omega)
        exact ⟨z, by simpa using h1, h2, fun y hy => by
          rw [List.take_succ_cons, List.mem_cons] at hy
          rcases hy with rfl | hy
          · exact hp
          · exact h3 y hy⟩
    · rw [hp, if_pos rfl] at h
      obtain rfl : j = 0 := by omega
      exact ⟨x, rfl, hp, by simp⟩

/-- it is a line's -/
def isL (line : Int) (x : Wy) : Bool := x.line == line
/-- where a line stands in a set (-1: nowhere) -/
def placeI (l : List Wy) (line : Int) : Int := idxP (isL line) l
/-- one may stand at its place in a set -/
def wayB (n at_ : Int) (set : List Wy) (k : Nat) : Bool :=
  match set[k]? with
  | none => true
  | some r => (r.line % 16 == 0) && ((r.line / 16 % n == at_) && (decide (placeI (set.take k) r.line < 0) && (r.data.size == 16 || r.data.size == 0)))
def setB (n at_ : Int) (set : List Wy) : Bool := (List.range set.length).all (wayB n at_ set)
def setsB (ways : Int) (ss : List (List Wy)) (k : Nat) : Bool :=
  match ss[k]? with
  | none => true
  | some s => decide ((s.length : Int) ≤ ways) && setB ss.length k s
/-- a cache may be -/
def numB (n : Nat) : Bool := n == 1 || (n == 2 || n == 4)
def rightC (ways : Int) (ss : List (List Wy)) : Bool := numB ss.length && ((ways == 1 || ways == 2) && (List.range ss.length).all (setsB ways ss))
def setI (n : Nat) (line : Int) : Int := line / 16 % n
/-- where a line stands -/
def findS (ways : Int) (ss : List (List Wy)) (line : Int) : Int × Int × Bool :=
  if rightC ways ss = true then
    (if placeI (ss.getD (setI ss.length (line - line % 16)).toNat []) (line - line % 16) < 0 then (setI ss.length (line - line % 16), 0, false)
     else (setI ss.length (line - line % 16), placeI (ss.getD (setI ss.length (line - line % 16)).toNat []) (line - line % 16), true))
  else (0, 0, false)
theorem numB_of {n : Nat} (h : numB n = true) : n = 1 ∨ n = 2 ∨ n = 4 := by
  unfold numB at h
  simpa using h
theorem setI_range {n : Nat} (h : 0 < n) (line : Int) : 0 ≤ setI n line ∧ setI n line < n := by
  unfold setI
  exact ⟨Int.emod_nonneg _ (by omega), Int.emod_lt_of_pos _ (by omega)⟩
end Go.Proofs.Ytcgahdmacngipaa
