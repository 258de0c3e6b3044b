/- PLAIN MATHEMATICS of divisions: no Go in sight. -/
import Derived.Test.YtkamljmopbocnaaDoorMathAlu
namespace Go.Proofs.YtkamljmopbocnaaDoor
open Go Go.RowKit
set_option maxRecDepth 100000

/-- how many bits a number has -/
def nb (n : Nat) : Nat := if h : n = 0 then 0 else nb (n / 2) + 1
termination_by n
decreasing_by omega

theorem nb_zero : nb 0 = 0 := by unfold nb; rfl
theorem nb_pos {n : Nat} (h : n ≠ 0) : nb n = nb (n / 2) + 1 := by rw [nb, dif_neg h]

theorem nb_le : ∀ (k n : Nat), n < 2 ^ k → nb n ≤ k
  | 0, n, h => by
    have : n = 0 := by simp at h; exact h
    rw [this, nb_zero]
    exact Nat.le_refl 0
  | k + 1, n, h => by
    by_cases h0 : n = 0
    · rw [h0, nb_zero]; omega
    · rw [nb_pos h0]
      have := nb_le k (n / 2) (by rw [Nat.pow_succ] at h; omega)
      omega
theorem nb_le32 {n : Nat} (h : n < 4294967296) : nb n ≤ 32 := nb_le 32 n h

theorem lt_two_nb (n : Nat) : n < 2 ^ nb n := by
  induction n using Nat.strongRecOn with
  | _ n ih =>
    by_cases h0 : n = 0
    · rw [h0, nb_zero]; simp
    · have := ih (n / 2) (by omega)
      rw [nb_pos h0, Nat.pow_succ]
      omega
theorem two_nb_le (n : Nat) (h : n ≠ 0) : 2 ^ (nb n - 1) ≤ n := by
  induction n using Nat.strongRecOn with
  | _ n ih =>
    rw [nb_pos h]
    by_cases h1 : n / 2 = 0
    · rw [h1, nb_zero]; simp; omega
    · have := ih (n / 2) (by omega) h1
      rw [nb_pos h1] at this ⊢
      simp only [Nat.add_sub_cancel] at this ⊢
      rw [Nat.pow_succ]
      omega
theorem nb_double (n : Nat) (h : n ≠ 0) : nb (2 * n) = nb n + 1 := by
  rw [nb_pos (by omega), show 2 * n / 2 = n by omega]
theorem nb_mono {m n : Nat} (h : m ≤ n) : nb m ≤ nb n := nb_le _ _ (Nat.lt_of_le_of_lt h (lt_two_nb n))

/-- a number's size: without its sign, where the operation takes signed numbers -/
def sz (op a : Int) : Int := if (op = 42 ∨ op = 44) ∧ 2147483648 ≤ a then 4294967296 - a else a
theorem sz_range {op a : Int} (ha : 0 ≤ a) (ha' : a < 4294967296) : 0 ≤ sz op a ∧ sz op a < 4294967296 := by
  unfold sz; split <;> omega
theorem sz_zero {op a : Int} (ha : 0 ≤ a) (ha' : a < 4294967296) : sz op a = 0 ↔ a = 0 := by
  unfold sz; split <;> omega

/-- what a division makes -/
def divW (op a b : Int) : Int :=
  if op = 42 then (if b = 0 then 4294967295 else (wrap32 a).tdiv (wrap32 b) % 4294967296)
  else if op = 43 then (if b = 0 then 4294967295 else a / b)
  else if op = 44 then (if b = 0 then a else (wrap32 a).tmod (wrap32 b) % 4294967296)
  else if op = 45 then (if b = 0 then a else a % b)
  else 0

/-- how long it takes -/
def tookW (op a b : Int) : Int :=
  if 42 ≤ op ∧ op ≤ 45 then (if b = 0 ∨ sz op a < sz op b then 2 else 3 + (nb (sz op a).toNat : Int) - (nb (sz op b).toNat : Int)) else 0

theorem divW_range (op a b : Int) (ha : 0 ≤ a) (ha' : a < 4294967296) (hb : 0 ≤ b) (hb' : b < 4294967296) : 0 ≤ divW op a b ∧ divW op a b < 4294967296 := by
  unfold divW
  have h1 : b ≠ 0 → 0 ≤ a / b ∧ a / b < 4294967296 := fun h => ⟨Int.ediv_nonneg ha hb, by have := Int.ediv_le_self b ha; omega⟩
  have h2 : b ≠ 0 → 0 ≤ a % b ∧ a % b < 4294967296 := fun h => ⟨Int.emod_nonneg a h, by have := Int.emod_lt_of_pos a (show 0 < b by omega); omega⟩
  repeat' split
  all_goals first | omega | exact h1 ‹_› | exact h2 ‹_›

/-- quotient and rest out of the sizes, as the program makes them -/
theorem quo_form (a b : Int) (ha : 0 ≤ a) (ha' : a < 4294967296) (hb : 0 ≤ b) (hb' : b < 4294967296) (_h0 : b ≠ 0) :
    (wrap32 a).tdiv (wrap32 b) % 4294967296 = (if (2147483648 ≤ a) = (2147483648 ≤ b) then sz 42 a / sz 42 b else (0 - sz 42 a / sz 42 b) % 4294967296) := by
  have hs1 : sz 42 a = if 2147483648 ≤ a then 4294967296 - a else a := by simp [sz]
  have hs2 : sz 42 b = if 2147483648 ≤ b then 4294967296 - b else b := by simp [sz]
  rcases wrap32_cases a ha ha' with ⟨c1, d1⟩ | ⟨c1, d1⟩ <;> rcases wrap32_cases b hb hb' with ⟨c2, d2⟩ | ⟨c2, d2⟩
  · rw [if_pos (by simp [c1, c2]), hs1, hs2, if_pos c1, if_pos c2, d1, d2, show a - 4294967296 = -(4294967296 - a) by omega, show b - 4294967296 = -(4294967296 - b) by omega, Int.neg_tdiv, Int.tdiv_neg, Int.neg_neg, Int.tdiv_eq_ediv_of_nonneg (by omega)]
    have := Int.ediv_le_self (4294967296 - b) (show 0 ≤ 4294967296 - a by omega)
    have := Int.ediv_nonneg (show 0 ≤ 4294967296 - a by omega) (show 0 ≤ 4294967296 - b by omega)
    omega
  · rw [if_neg (by simp [c1]; omega), hs1, hs2, if_pos c1, if_neg (by omega), d1, d2, show a - 4294967296 = -(4294967296 - a) by omega, Int.neg_tdiv, Int.tdiv_eq_ediv_of_nonneg (by omega)]
    omega
  · rw [if_neg (by simp [c2]; omega), hs1, hs2, if_neg (by omega), if_pos c2, d1, d2, show b - 4294967296 = -(4294967296 - b) by omega, Int.tdiv_neg, Int.tdiv_eq_ediv_of_nonneg (by omega)]
    omega
  · rw [if_pos (by simp; omega), hs1, hs2, if_neg (by omega), if_neg (by omega), d1, d2, Int.tdiv_eq_ediv_of_nonneg (by omega)]
    have := Int.ediv_le_self b ha
    have := Int.ediv_nonneg ha hb
    omega

theorem rem_form (a b : Int) (ha : 0 ≤ a) (ha' : a < 4294967296) (hb : 0 ≤ b) (hb' : b < 4294967296) (h0 : b ≠ 0) :
    (wrap32 a).tmod (wrap32 b) % 4294967296 = (if 2147483648 ≤ a then (0 - sz 44 a % sz 44 b) % 4294967296 else sz 44 a % sz 44 b) := by
  have hs1 : sz 44 a = if 2147483648 ≤ a then 4294967296 - a else a := by simp [sz]
  have hs2 : sz 44 b = if 2147483648 ≤ b then 4294967296 - b else b := by simp [sz]
  rcases wrap32_cases a ha ha' with ⟨c1, d1⟩ | ⟨c1, d1⟩ <;> rcases wrap32_cases b hb hb' with ⟨c2, d2⟩ | ⟨c2, d2⟩
  · rw [if_pos c1, hs1, hs2, if_pos c1, if_pos c2, d1, d2, show a - 4294967296 = -(4294967296 - a) by omega, show b - 4294967296 = -(4294967296 - b) by omega, Int.neg_tmod, Int.tmod_neg, Int.tmod_eq_emod_of_nonneg (by omega)]
    omega
  · rw [if_pos c1, hs1, hs2, if_pos c1, if_neg (by omega), d1, d2, show a - 4294967296 = -(4294967296 - a) by omega, Int.neg_tmod, Int.tmod_eq_emod_of_nonneg (by omega)]
    omega
  · rw [if_neg (by omega), hs1, hs2, if_neg (by omega), if_pos c2, d1, d2, show b - 4294967296 = -(4294967296 - b) by omega, Int.tmod_neg, Int.tmod_eq_emod_of_nonneg (by omega)]
    have := Int.emod_lt_of_pos a (show 0 < 4294967296 - b by omega)
    have := Int.emod_nonneg a (show 4294967296 - b ≠ 0 by omega)
    omega
  · rw [if_neg (by omega), hs1, hs2, if_neg (by omega), if_neg (by omega), d1, d2, Int.tmod_eq_emod_of_nonneg (by omega)]
    have := Int.emod_lt_of_pos a (show 0 < b by omega)
    have := Int.emod_nonneg a h0
    omega

theorem and16 (b : Int) (hb : 0 ≤ b) (hb' : b < 4294967296) : bits .and .u32 b 65535 = b % 65536 := by
  obtain ⟨B, rfl⟩ := Int.eq_ofNat_of_zero_le hb
  rw [show (65535 : Int) = ((65535 : Nat) : Int) from rfl, u32_and_nat _ _ (by omega) (by omega)]
  rw [show (65535 : Nat) = 2 ^ 16 - 1 from rfl, Nat.and_two_pow_sub_one_eq_mod]
  simp

end Go.Proofs.YtkamljmopbocnaaDoor
