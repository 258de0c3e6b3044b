/- FLOATS: what is written of a number (the nearest word), in units of the least place; whole numbers are written as they are. -/
import Derived.Test.YtebeelphilfjhaaDoorMathF
namespace Go.Proofs.YtebeelphilfjhaaDoor
open Ieee

theorem fb_double : double.fractionBits = 52 := rfl

theorem cut_zero (w : Toward) (s : Bool) (n : Nat) : w.cut s n 0 = n := by
  unfold Toward.cut
  cases w <;> simp [Nat.mod_one]

/-- the rung of so many units -/
def rnd (u : Nat) : Nat := (u.log2 - 52) * 4503599627370496 + Toward.even.cut false u (u.log2 - 52)

theorem log2_shift (m k : Nat) (h : m ≠ 0) : (m * 2 ^ k).log2 = m.log2 + k := by
  rw [Nat.log2_eq_iff (by have := Nat.two_pow_pos k; exact Nat.mul_ne_zero h (by omega))]
  have h1 := Nat.log2_self_le h
  have h2 := @Nat.lt_log2_self m
  constructor
  · rw [Nat.pow_add]; exact Nat.mul_le_mul_right _ h1
  · rw [show m.log2 + k + 1 = (m.log2 + 1) + k by omega, Nat.pow_add]; exact (Nat.mul_lt_mul_right (Nat.two_pow_pos k)).2 h2

theorem cut_even_shift (s : Bool) (n d k : Nat) (hd : d ≤ n.log2 + 2) (hn : n ≠ 0) : Toward.even.cut s (n * 2 ^ k) (d + k) = Toward.even.cut s n d := by
  have hk := Nat.two_pow_pos k
  unfold Toward.cut
  rw [log2_shift n k hn, show min (d + k) (n.log2 + k + 2) = d + k by omega, show min d (n.log2 + 2) = d by omega]
  simp only [Nat.shiftLeft_eq, Nat.one_mul, Nat.pow_add]
  have e1 : n * 2 ^ k / (2 ^ d * 2 ^ k) = n / 2 ^ d := Nat.mul_div_mul_right _ _ hk
  have e2 : n * 2 ^ k % (2 ^ d * 2 ^ k) = n % 2 ^ d * 2 ^ k := Nat.mul_mod_mul_right _ _ _
  rw [e1, e2]
  have e3 : (decide (2 ^ d * 2 ^ k < 2 * (n % 2 ^ d * 2 ^ k))) = decide (2 ^ d < 2 * (n % 2 ^ d)) := by
    rw [decide_eq_decide, ← Nat.mul_assoc]; exact Nat.mul_lt_mul_right hk
  have e4 : (2 ^ d * 2 ^ k == 2 * (n % 2 ^ d * 2 ^ k)) = (2 ^ d == 2 * (n % 2 ^ d)) := by
    rw [Bool.eq_iff_iff, beq_iff_eq, beq_iff_eq, ← Nat.mul_assoc]; exact Nat.mul_right_cancel_iff hk
  rw [e3, e4]

theorem cut_even_whole (s : Bool) (n d : Nat) (hn : n ≠ 0) : Toward.even.cut s (n * 2 ^ d) d = n := by
  have := cut_even_shift s n 0 d (by omega) hn
  rw [Nat.zero_add] at this
  rw [this, cut_zero]

/-- what is nearest hangs on the number in units alone -/
theorem nearest_units (s : Bool) (m : Nat) (p : Int) (hp : -1074 ≤ p) : double.nearest s m p = double.word s (min (rnd (m * 2 ^ (p + 1074).toNat)) 9218868437227405312) := by
  unfold Format.nearest
  by_cases hm : m = 0
  · subst hm
    rw [if_pos rfl]
    simp [rnd, cut_zero]
  rw [if_neg hm, inf_double, lp_double, bn_double]
  dsimp only
  rw [fb_double]
  refine congrArg (fun r => double.word s (min r 9218868437227405312)) ?_
  unfold rnd
  rw [log2_shift m _ hm]
  obtain ⟨P, hP⟩ : ∃ P : Nat, p = (P : Int) - 1074 := ⟨(p + 1074).toNat, by omega⟩
  subst hP
  rw [show ((P : Int) - 1074 + 1074).toNat = P by omega]
  by_cases hl : m.log2 + P ≤ 52
  · rw [show max ((P : Int) - 1074 + (m.log2 : Nat) - ((52 : Nat) : Int)) (-1074) = -1074 by omega]
    rw [show ((P : Int) - 1074 - -1074).toNat = P by omega, show (-1074 - ((P : Int) - 1074)).toNat = 0 by omega, show m.log2 + P - 52 = 0 by omega, cut_zero, cut_zero, Nat.shiftLeft_eq]
    rfl
  · rw [show max ((P : Int) - 1074 + (m.log2 : Nat) - ((52 : Nat) : Int)) (-1074) = (m.log2 : Int) + P - 52 - 1074 by omega]
    rw [show ((m.log2 : Int) + P - 52 - 1074 - -1074).toNat = m.log2 + P - 52 by omega]
    congr 1
    by_cases hq : m.log2 ≤ 52
    · rw [show ((P : Int) - 1074 - ((m.log2 : Int) + P - 52 - 1074)).toNat = 52 - m.log2 by omega, show ((m.log2 : Int) + P - 52 - 1074 - ((P : Int) - 1074)).toNat = 0 by omega, cut_zero, Nat.shiftLeft_eq]
      have : m * 2 ^ P = (m * 2 ^ (52 - m.log2)) * 2 ^ (m.log2 + P - 52) := by rw [Nat.mul_assoc, ← Nat.pow_add]; congr 2; omega
      rw [this, cut_even_whole]
      exact Nat.mul_ne_zero hm (by have := Nat.two_pow_pos (52 - m.log2); omega)
    · rw [show ((P : Int) - 1074 - ((m.log2 : Int) + P - 52 - 1074)).toNat = 0 by omega, show ((m.log2 : Int) + P - 52 - 1074 - ((P : Int) - 1074)).toNat = m.log2 - 52 by omega, Nat.shiftLeft_eq, Nat.pow_zero, Nat.mul_one]
      rw [show m.log2 + P - 52 = (m.log2 - 52) + P by omega, cut_even_shift _ _ _ _ (by omega) hm]
      unfold Toward.cut; rfl

/-- the units of a rung below infinity's -/
def mg (r : Nat) : Nat := if r < 4503599627370496 then r else (4503599627370496 + r % 4503599627370496) * 2 ^ (r / 4503599627370496 - 1)

def topE : Nat := 2098
theorem topE_eq : topE = 2098 := rfl
/-- units that are below 2 to the 53rd, moved up, have a rung of their own -/
theorem rnd_exact (m k : Nat) (hm : m < 9007199254740992) : mg (rnd (m * 2 ^ k)) = m * 2 ^ k ∧ (m * 2 ^ k < 2 ^ topE → rnd (m * 2 ^ k) < 9218868437227405312) := by
  by_cases h0 : m = 0
  · subst h0; simp [rnd, cut_zero, mg]
  have hl2 : m.log2 < 53 := (Nat.log2_lt h0).2 hm
  unfold rnd
  rw [log2_shift m k h0]
  by_cases hl : m.log2 + k ≤ 52
  · rw [show m.log2 + k - 52 = 0 by omega, cut_zero, Nat.zero_mul, Nat.zero_add]
    have hu : m * 2 ^ k < 2 ^ 53 := by
      have := @Nat.lt_log2_self (m * 2 ^ k)
      rw [log2_shift m k h0] at this
      exact Nat.lt_of_lt_of_le this (Nat.pow_le_pow_right (by omega) (by omega))
    generalize m * 2 ^ k = u at *
    refine ⟨?_, fun _ => by omega⟩
    unfold mg
    by_cases hs : u < 4503599627370496
    · rw [if_pos hs]
    · rw [if_neg hs, show u / 4503599627370496 = 1 by omega]; simp; omega
  · have hk : m * 2 ^ k = (m * 2 ^ (52 - m.log2)) * 2 ^ (m.log2 + k - 52) := by rw [Nat.mul_assoc, ← Nat.pow_add]; congr 2; omega
    have hb1 : 2 ^ 52 ≤ m * 2 ^ (52 - m.log2) := by
      have := Nat.log2_self_le h0
      calc 2 ^ 52 = 2 ^ m.log2 * 2 ^ (52 - m.log2) := by rw [← Nat.pow_add]; congr 1; omega
        _ ≤ _ := Nat.mul_le_mul_right _ this
    have hb2 : m * 2 ^ (52 - m.log2) < 2 ^ 53 := by
      have := @Nat.lt_log2_self m
      calc m * 2 ^ (52 - m.log2) < 2 ^ (m.log2 + 1) * 2 ^ (52 - m.log2) := (Nat.mul_lt_mul_right (Nat.two_pow_pos _)).2 this
        _ = 2 ^ 53 := by rw [← Nat.pow_add]; congr 1; omega
    rw [hk, cut_even_whole _ _ _ (by omega)]
    generalize m * 2 ^ (52 - m.log2) = u at *
    generalize hd : m.log2 + k - 52 = d at *
    have hq : (d * 4503599627370496 + u) / 4503599627370496 - 1 = d := by omega
    have hr : 4503599627370496 + (d * 4503599627370496 + u) % 4503599627370496 = u := by omega
    refine ⟨?_, fun hlt => ?_⟩
    · unfold mg
      rw [if_neg (by omega), hq, hr]
    · have hdl : d < 2046 := by
        have h1 : 2 ^ 52 * 2 ^ d ≤ u * 2 ^ d := Nat.mul_le_mul_right _ hb1
        have h2 : 2 ^ (52 + d) < 2 ^ topE := by rw [Nat.pow_add]; omega
        have := (Nat.pow_lt_pow_iff_right (by omega : 1 < 2)).1 h2
        have := topE_eq
        omega
      omega

theorem word_double (s : Bool) (r : Nat) : double.word s r = if s then 9223372036854775808 + r else r := by
  unfold Format.word
  rw [sw_double]

/-- what a rung below infinity's reads as, in units -/
theorem read_word (s : Bool) (r : Nat) (h : r < 9218868437227405312) : ∃ m i, double.read (double.word s r) = .number s m i ∧ m < 9007199254740992 ∧ -1074 ≤ i ∧ i ≤ 971 ∧ m * 2 ^ (i + 1074).toNat = mg r := by
  have h1 : double.word s r % 9223372036854775808 = r := by rw [word_double]; cases s <;> simp <;> omega
  have h2 : (double.word s r / 9223372036854775808 % 2 == 1) = s := by rw [word_double]; cases s <;> simp <;> omega
  rw [read_double, h1, h2]
  unfold mg
  split
  · exact ⟨_, _, rfl, by omega, by omega, by omega, by simp⟩
  · refine ⟨_, _, rfl, by omega, by omega, by omega, ?_⟩
    congr 2
    omega

/-- a number of at most 53 digits that is written is read again as it was, in units -/
theorem write_exact (s : Bool) (m : Nat) (p : Int) (n k : Nat) (hp : -1074 ≤ p) (hu : m * 2 ^ (p + 1074).toNat = n * 2 ^ k) (hn : n < 9007199254740992) (hlt : n * 2 ^ k < 2 ^ topE) :
    ∃ m' i, double.read (double.nearest s m p) = .number s m' i ∧ m' < 9007199254740992 ∧ -1074 ≤ i ∧ i ≤ 971 ∧ m' * 2 ^ (i + 1074).toNat = n * 2 ^ k := by
  obtain ⟨h1, h2⟩ := rnd_exact n k hn
  have h3 := h2 hlt
  have e := Nat.min_eq_left (Nat.le_of_lt h3)
  have r := read_word s _ h3
  rw [h1] at r
  rw [nearest_units s m p hp, hu, e]
  exact r

end Go.Proofs.YtebeelphilfjhaaDoor
