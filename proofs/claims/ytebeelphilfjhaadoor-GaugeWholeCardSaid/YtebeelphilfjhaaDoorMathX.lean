/- FLOATS: whole numbers are added and divided as they are. -/
import Derived.Test.YtebeelphilfjhaaDoorMathU
namespace Go.Proofs.YtebeelphilfjhaaDoor
open Ieee

/-- a whole number, as a float -/
def W (n : Nat) : Nat := double.nearest false n 0
theorem W_zero : W 0 = 0 := by decide +kernel
theorem W_word (n : Nat) : W n = double.word false (min (rnd (n * U1)) 9218868437227405312) := by
  unfold W
  rw [nearest_units false n 0 (by omega), e1074]
  rfl
theorem W_units {n : Nat} (h : n < 9007199254740992) : Units (W n) (n * U1) := whole_written h
/-- whatever is told with as many units is written as that number -/
theorem W_of {m : Nat} {p : Int} (n : Nat) (hp : -1074 ≤ p) (h : m * 2 ^ (p + 1074).toNat = n * U1) : double.nearest false m p = W n := by
  rw [W_word, nearest_units false m p hp, h]

theorem units_place {b n : Nat} (h : Units b (n * U1)) (h0 : n ≠ 0) (hn : n < 9007199254740992) : ∃ m i, double.read b = .number false m i ∧ m < 9007199254740992 ∧ m ≠ 0 ∧ -52 ≤ i ∧ i ≤ 52 ∧ m * 2 ^ (i + 1074).toNat = n * U1 := by
  obtain ⟨m, i, e, hm, hi, hi', hu⟩ := h
  have hm0 : m ≠ 0 := by
    rintro rfl
    rw [Nat.zero_mul] at hu
    rcases Nat.mul_eq_zero.1 hu.symm with h | h
    · exact h0 h
    · have := U1_pos; omega
  refine ⟨m, i, e, hm, hm0, ?_, ?_, hu⟩
  · rcases Int.lt_or_le i (-52) with hlt | hge
    · exfalso
      obtain ⟨k, hk⟩ : ∃ k : Nat, oneE = (i + 1074).toNat + (53 + k) := ⟨oneE - (i + 1074).toNat - 53, by unfold oneE; omega⟩
      unfold U1 at hu
      rw [hk, Nat.pow_add, Nat.mul_comm _ (2 ^ (53 + k)), ← Nat.mul_assoc] at hu
      have := Nat.eq_of_mul_eq_mul_right (Nat.two_pow_pos _) hu
      rw [Nat.pow_add, ← Nat.mul_assoc] at this
      have h1 : 1 ≤ 2 ^ k := Nat.two_pow_pos k
      have h2 : n * 2 ^ 53 * 1 ≤ n * 2 ^ 53 * 2 ^ k := Nat.mul_le_mul_left _ h1
      omega
    · exact hge
  · rcases Int.lt_or_le 52 i with hlt | hge
    · exfalso
      obtain ⟨k, hk⟩ : ∃ k : Nat, (i + 1074).toNat = (53 + k) + oneE := ⟨i.toNat - 53, by unfold oneE; omega⟩
      unfold U1 at hu
      rw [hk, Nat.pow_add, ← Nat.mul_assoc] at hu
      have := Nat.eq_of_mul_eq_mul_right (Nat.two_pow_pos _) hu
      rw [Nat.pow_add, ← Nat.mul_assoc] at this
      have h1 : 1 ≤ 2 ^ k := Nat.two_pow_pos k
      have h2 : m * 2 ^ 53 * 1 ≤ m * 2 ^ 53 * 2 ^ k := Nat.mul_le_mul_left _ h1
      omega
    · exact hge

/-- sums of whole numbers -/
theorem W_add {a b : Nat} (h : a + b < 9007199254740992) : double.add (W a) (W b) = some (W (a + b)) := by
  obtain ⟨m, i, e, hm, hi, hi', hu⟩ := W_units (n := a) (by omega)
  obtain ⟨M, j, e', hM, hj, hj', hv⟩ := W_units (n := b) (by omega)
  have c1 : m * 2 ^ (i - min i j).toNat * 2 ^ (min i j + 1074).toNat = a * U1 := by
    rw [Nat.mul_assoc, ← Nat.pow_add, ← hu]; congr 2; omega
  have c2 : M * 2 ^ (j - min i j).toNat * 2 ^ (min i j + 1074).toNat = b * U1 := by
    rw [Nat.mul_assoc, ← Nat.pow_add, ← hv]; congr 2; omega
  have hsum : (double.read (W a)).sum (double.read (W b)) = some (.number false (m * 2 ^ (i - min i j).toNat + M * 2 ^ (j - min i j).toNat) (min i j)) := by
    rw [e, e']
    simp only [Datum.sum]
    rw [signed_ff, signed_ff]
    generalize m * 2 ^ (i - min i j).toNat = x
    generalize M * 2 ^ (j - min i j).toNat = y
    congr 2
    · split <;> simp <;> omega
  unfold Format.add
  rw [hsum]
  simp only [Option.map_some, Format.write]
  rw [W_of (a + b) (by omega) (by rw [Nat.add_mul, c1, c2, Nat.add_mul])]

theorem log2_mul_le (q n : Nat) (hq : q ≠ 0) (hn : n ≠ 0) : (q * n).log2 ≤ q.log2 + n.log2 + 1 := by
  have h1 := @Nat.lt_log2_self q
  have h2 := @Nat.lt_log2_self n
  have h3 : q * n < 2 ^ (q.log2 + n.log2 + 2) := by
    rw [show q.log2 + n.log2 + 2 = (q.log2 + 1) + (n.log2 + 1) by omega, Nat.pow_add]
    exact Nat.mul_lt_mul'' h1 h2
  have := (Nat.log2_lt (Nat.mul_ne_zero hq hn)).2 h3
  omega

/-- a quotient that is whole -/
theorem W_div {q d : Nat} (hd : d ≠ 0) (hd2 : d < 9007199254740992) (h : q * d < 9007199254740992) : double.div (W (q * d)) (W d) = some (W q) := by
  obtain ⟨n, j, e', hn, hn0, hj, hj', hv⟩ := units_place (W_units hd2) hd hd2
  have e54 : double.fractionBits + 2 = 54 := rfl
  by_cases hq : q = 0
  · subst hq
    rw [Nat.zero_mul, W_zero]
    unfold Format.div
    have e0 : double.read 0 = .number false 0 (-1074) := by decide +kernel
    rw [e0, e', e54]
    simp only [Datum.quotient]
    rw [if_neg hn0]
    simp only [Option.map_some, Format.write, Nat.zero_shiftLeft, Nat.zero_div, Nat.zero_mod]
    rfl
  have hqd : q * d ≠ 0 := Nat.mul_ne_zero hq hd
  obtain ⟨m, i, e, hm, hm0, hi, hi', hu⟩ := units_place (W_units h) hqd h
  have hq53 : q < 9007199254740992 := by
    have : q * 1 ≤ q * d := Nat.mul_le_mul_left _ (by omega)
    omega
  -- the numbers, place by place
  have key : m * 2 ^ (i + 1074).toNat = q * n * 2 ^ (j + 1074).toNat := by rw [hu, Nat.mul_assoc q d, ← hv, ← Nat.mul_assoc]
  have hl := log2_shift m (i + 1074).toNat hm0
  rw [key, log2_shift (q * n) _ (Nat.mul_ne_zero hq hn0)] at hl
  have hl2 := log2_mul_le q n hq hn0
  have hlq : q.log2 < 53 := (Nat.log2_lt hq).2 hq53
  have hlm : m.log2 < 53 := (Nat.log2_lt hm0).2 hm
  have hln : n.log2 < 53 := (Nat.log2_lt hn0).2 hn
  have hdvd : m <<< (54 + n.log2 - m.log2) = n * (q * 2 ^ (j - i + (54 + n.log2 - m.log2 : Nat)).toNat) := by
    rw [Nat.shiftLeft_eq]
    refine Nat.eq_of_mul_eq_mul_right (Nat.two_pow_pos (i + 1074).toNat) ?_
    rw [Nat.mul_right_comm, key, ← Nat.mul_assoc, Nat.mul_comm n q, Nat.mul_assoc (q * n), Nat.mul_assoc (q * n), ← Nat.pow_add, ← Nat.pow_add]
    congr 2
    omega
  unfold Format.div
  rw [e, e', e54]
  simp only [Datum.quotient]
  rw [if_neg hn0, hdvd, Nat.mul_div_cancel_left _ (by omega), Nat.mul_mod_right]
  simp only [Option.map_some, Format.write, bne_self_eq_false, Bool.toNat_false, Nat.add_zero]
  rw [W_of q (by omega) ?_]
  obtain ⟨e1, he1⟩ : ∃ e1 : Nat, e1 = (j - i + ((54 + n.log2 - m.log2 : Nat) : Int)).toNat := ⟨_, rfl⟩
  obtain ⟨e2, he2⟩ : ∃ e2 : Nat, e2 = (i - j - ((54 + n.log2 - m.log2 : Nat) : Int) - 1 + 1074).toNat := ⟨_, rfl⟩
  rw [← he1, ← he2]
  have hsum : 1 + (e1 + e2) = oneE := by unfold oneE; omega
  unfold U1
  rw [← hsum, Nat.pow_add, Nat.pow_add, Nat.pow_one]
  rw [Nat.mul_comm 2 (q * 2 ^ e1), Nat.mul_assoc, Nat.mul_assoc, ← Nat.mul_assoc (2 ^ e1) 2, Nat.mul_comm (2 ^ e1) 2, Nat.mul_assoc]

theorem floatOfInt_W (n : Nat) : floatOfInt .f64 (n : Int) = W n := floatOfInt_nat n

theorem sub_self {b u : Nat} (h : Units b u) : double.sub b b = some 0 := by
  obtain ⟨m, i, e, _⟩ := h
  unfold Format.sub
  rw [e]
  simp only [Datum.opposite, Datum.sum, Bool.not_false]
  rw [signed_ff, signed_tt]
  rw [Int.add_right_neg]
  simp only [if_true, Bool.false_and, Option.map_some, Format.write, Int.natAbs_zero]
  unfold Format.nearest
  rw [if_pos rfl]
  rfl
theorem mul_zero_1000 : double.mul 0 4652007308841189376 = some 0 := by decide +kernel
theorem toInt_zero : (double.read 0).toInt .zero = some 0 := by decide +kernel

theorem W_lt (n : Nat) : W n < 9223372036854775808 := by
  rw [W_word, word_double]
  simp only [Bool.false_eq_true, if_false]
  omega
/-- a whole number's text -/
theorem text_W {n : Nat} (h : n < 1000000000000) : textP (W n) = Lib.itoa (n : Int) ++ [46, 48, 48, 48] := by
  have hu := W_units (n := n) (by omega)
  have hU := U1_pos
  have hs : fSgn (W n) = false := decide_eq_false (by have := W_lt n; omega)
  have hV := hu.V
  have hw : wholeP (W n) = n := by
    unfold wholeP
    rw [hV, Int.toNat_natCast, Nat.mul_div_cancel _ hU]
  have ht : thouP (W n) = 0 := by
    unfold thouP
    rw [hw]
    have e : double.nearest false n 0 = W n := rfl
    rw [e, sub_self hu]
    simp only
    rw [mul_zero_1000]
    simp only
    rw [toInt_zero]
    rfl
  unfold textP
  rw [hu.nan, hs, Nat.mod_eq_of_lt (W_lt n)]
  simp only [Bool.false_eq_true, if_false, List.nil_append]
  unfold bodyP
  rw [hV, if_neg, hw, ht]
  · have : [46] ++ pad3 0 = [46, 48, 48, 48] := by decide +kernel
    rw [this]
  · have h1 : n * U1 < 1000000000000 * U1 := (Nat.mul_lt_mul_right hU).2 h
    omega

theorem div_zero {n : Nat} (h0 : n ≠ 0) (hn : n < 9007199254740992) : double.div (W n) 0 = some 9218868437227405312 := by
  obtain ⟨m, i, e, hm, hm0, hi, hi', hu⟩ := units_place (W_units hn) h0 hn
  unfold Format.div
  have e0 : double.read 0 = .number false 0 (-1074) := by decide +kernel
  rw [e, e0]
  simp only [Datum.quotient]
  rw [if_pos trivial, if_neg hm0]
  rfl
theorem text_inf : textP 9218868437227405312 = [105, 110, 102] := by decide +kernel

end Go.Proofs.YtebeelphilfjhaaDoor
