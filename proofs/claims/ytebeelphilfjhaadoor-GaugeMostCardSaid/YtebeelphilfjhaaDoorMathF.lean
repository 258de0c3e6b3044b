/- FLOATS AS WHOLE NUMBERS: a float64's number in units of the least place; how two stand; the key by which gauge's order goes. -/
import Derived.Laws.FloatArith
namespace Go.Proofs.YtebeelphilfjhaaDoor
open Ieee

def hugeE : Nat := 2200
theorem hugeE_eq : hugeE = 2200 := rfl
def HUGE : Nat := 2 ^ hugeE

/-- a datum's number, in units of the least place; an infinity above all -/
def valD : Datum → Int
  | .number s m i => signed s m (i + 1074).toNat
  | .infinity s => if s then -(HUGE : Int) else (HUGE : Int)
  | .nan .. => 0

def fV (b : Nat) : Int := valD (double.read b)
def fNan (b : Nat) : Bool := (double.read b).isNaN
def fSgn (b : Nat) : Bool := decide (9223372036854775808 ≤ b)

theorem sw_double : double.signWeight = 9223372036854775808 := by decide +kernel
theorem bn_double : double.binade = 4503599627370496 := by decide +kernel
theorem inf_double : double.infRung = 9218868437227405312 := by decide +kernel
theorem lp_double : double.leastPlace = -1074 := by decide +kernel

theorem read_double (b : Nat) : double.read b = (if b % 9223372036854775808 < 4503599627370496 then Datum.number (b / 9223372036854775808 % 2 == 1) (b % 9223372036854775808) (-1074)
    else if b % 9223372036854775808 < 9218868437227405312 then Datum.number (b / 9223372036854775808 % 2 == 1) (4503599627370496 + b % 9223372036854775808 % 4503599627370496) (-1074 + (b % 9223372036854775808 / 4503599627370496 - 1 : Nat))
    else if b % 9223372036854775808 = 9218868437227405312 then Datum.infinity (b / 9223372036854775808 % 2 == 1) else Datum.nan (b / 9223372036854775808 % 2 == 1) (b % 9223372036854775808 - 9218868437227405312)) := by
  unfold Format.read
  rw [sw_double, bn_double, inf_double, lp_double]

theorem sgn_read {b : Nat} (h : b < 18446744073709551616) : (b / 9223372036854775808 % 2 == 1) = fSgn b := by
  unfold fSgn
  rw [Bool.eq_iff_iff]
  simp
  omega

/-- the three kinds of words -/
theorem read_kinds {b : Nat} (h : b < 18446744073709551616) : (∃ m i, double.read b = .number (fSgn b) m i ∧ m < 9007199254740992 ∧ -1074 ≤ i ∧ i ≤ 971 ∧ (m < 4503599627370496 → i = -1074)) ∨ double.read b = .infinity (fSgn b) ∨ ∃ t, double.read b = .nan (fSgn b) t := by
  rw [read_double, sgn_read h]
  split
  · exact .inl ⟨_, _, rfl, by omega, by omega, by omega, fun _ => rfl⟩
  · split
    · exact .inl ⟨_, _, rfl, by omega, by omega, by omega, by omega⟩
    · split
      · exact .inr (.inl rfl)
      · exact .inr (.inr ⟨_, rfl⟩)

theorem signed_shift (s : Bool) (m k c : Nat) : signed s m (k + c) = signed s m k * (2 ^ c : Nat) := by
  unfold signed
  rw [Nat.shiftLeft_eq, Nat.shiftLeft_eq, Nat.pow_add, ← Nat.mul_assoc]
  cases s <;> simp [Int.neg_mul]

theorem compare_scale (x y : Int) (c : Nat) : compare (x * (2 ^ c : Nat)) (y * (2 ^ c : Nat)) = compare x y := by
  have hp : (0 : Int) < (2 ^ c : Nat) := by have := Nat.two_pow_pos c; omega
  have h1 : x * (2 ^ c : Nat) < y * (2 ^ c : Nat) ↔ x < y := Int.mul_lt_mul_right hp
  have h2 : x * (2 ^ c : Nat) = y * (2 ^ c : Nat) ↔ x = y := Int.mul_eq_mul_right_iff (by omega)
  show compareOfLessAndEq _ _ = compareOfLessAndEq _ _
  unfold compareOfLessAndEq
  simp only [h1, h2]

theorem pow_lt_gen (m k N : Nat) (hm : m < 9007199254740992) (hk : 53 + k ≤ N) : m * 2 ^ k < 2 ^ N := by
  have h1 : m * 2 ^ k < 2 ^ 53 * 2 ^ k := (Nat.mul_lt_mul_right (Nat.two_pow_pos k)).2 hm
  rw [← Nat.pow_add] at h1
  exact Nat.lt_of_lt_of_le h1 (Nat.pow_le_pow_right (by omega) hk)

theorem two_le_pow (N : Nat) (h : 1 ≤ N) : 2 ≤ 2 ^ N := by
  have : 2 ^ 1 ≤ 2 ^ N := Nat.pow_le_pow_right (by omega) h
  exact this

theorem signed_abs (s : Bool) (m k : Nat) (hm : m < 9007199254740992) (hk : k ≤ 2045) : -(HUGE : Int) < signed s m k ∧ signed s m k < HUGE := by
  have h : m <<< k < HUGE := by
    rw [Nat.shiftLeft_eq]
    exact pow_lt_gen m k hugeE hm (by have := hugeE_eq; omega)
  unfold signed
  generalize m <<< k = q at h
  cases s <;> simp only [Bool.false_eq_true, if_true, if_false] <;> omega

theorem huge_pos : 2 ≤ HUGE := two_le_pow hugeE (by have := hugeE_eq; omega)

theorem fV_range {b : Nat} (h : b < 18446744073709551616) : -(HUGE : Int) ≤ fV b ∧ fV b ≤ HUGE := by
  have hh := huge_pos
  unfold fV
  rcases read_kinds h with ⟨m, i, e, hm, h0, h1, -⟩ | e | ⟨t, e⟩ <;> rw [e]
  · have := signed_abs (fSgn b) m (i + 1074).toNat hm (by omega)
    simp only [valD]
    omega
  · simp only [valD]
    split <;> omega
  · simp only [valD]
    omega

theorem compare_lt {x y : Int} (h : x < y) : compare x y = .lt := by show compareOfLessAndEq _ _ = _; unfold compareOfLessAndEq; rw [if_pos h]
theorem compare_gt {x y : Int} (h : y < x) : compare x y = .gt := by show compareOfLessAndEq _ _ = _; unfold compareOfLessAndEq; rw [if_neg (by omega), if_neg (by omega)]
theorem compare_eq' (x : Int) : compare x x = .eq := by show compareOfLessAndEq _ _ = _; unfold compareOfLessAndEq; rw [if_neg (by omega), if_pos rfl]

theorem order_double {a b : Nat} (ha : a < 18446744073709551616) (hb : b < 18446744073709551616) :
    double.order a b = if fNan a || fNan b then none else some (compare (fV a) (fV b)) := by
  have hh := huge_pos
  unfold Format.order fV fNan
  rcases read_kinds ha with ⟨m, i, e, hm, h0, h1, -⟩ | e | ⟨t, e⟩ <;> rcases read_kinds hb with ⟨n, j, e', hn, h0', h1', -⟩ | e' | ⟨t', e'⟩ <;> rw [e, e']
  · simp only [Datum.order, Datum.isNaN, valD, Bool.or_self, Bool.false_eq_true, if_false]
    have hbase : (i + 1074).toNat = (i - min i j).toNat + (min i j + 1074).toNat := by omega
    have hbase' : (j + 1074).toNat = (j - min i j).toNat + (min i j + 1074).toNat := by omega
    rw [hbase, hbase', signed_shift, signed_shift, compare_scale]
  · have hr := signed_abs (fSgn a) m (i + 1074).toNat hm (by omega)
    simp only [Datum.order, Datum.isNaN, valD, Bool.or_self, Bool.false_eq_true, if_false]
    cases fSgn b
    · simp only [Bool.false_eq_true, if_false]; rw [compare_lt hr.2]
    · simp only [if_true]; rw [compare_gt hr.1]
  · simp [Datum.order, Datum.isNaN]
  · have hr := signed_abs (fSgn b) n (j + 1074).toNat hn (by omega)
    simp only [Datum.order, Datum.isNaN, valD, Bool.or_self, Bool.false_eq_true, if_false]
    cases fSgn a
    · simp only [Bool.false_eq_true, if_false]; rw [compare_gt hr.2]
    · simp only [if_true]; rw [compare_lt hr.1]
  · simp only [Datum.order, Datum.isNaN, valD, Bool.or_self, Bool.false_eq_true, if_false]
    cases fSgn a <;> cases fSgn b <;> simp only [Bool.false_eq_true, if_false, if_true, Bool.toNat_true, Bool.toNat_false]
    · rw [compare_eq']; rfl
    · rw [compare_gt (by omega)]; rfl
    · rw [compare_lt (by omega)]; rfl
    · rw [compare_eq']; rfl
  · simp [Datum.order, Datum.isNaN]
  · simp [Datum.order, Datum.isNaN]
  · simp [Datum.order, Datum.isNaN]
  · simp [Datum.order, Datum.isNaN]

theorem lt_double {a b : Nat} (ha : a < 18446744073709551616) (hb : b < 18446744073709551616) : (double.order a b == some .lt) = (!fNan a && !fNan b && decide (fV a < fV b)) := by
  rw [order_double ha hb]
  cases fNan a <;> cases fNan b <;> simp
  rcases Int.lt_trichotomy (fV a) (fV b) with h | h | h
  · rw [compare_lt h, decide_eq_true h]; rfl
  · rw [h, compare_eq', decide_eq_false (by omega)]; rfl
  · rw [compare_gt h, decide_eq_false (by omega)]; rfl

theorem gt_double {a b : Nat} (ha : a < 18446744073709551616) (hb : b < 18446744073709551616) : (double.order a b == some .gt) = (!fNan a && !fNan b && decide (fV b < fV a)) := by
  rw [order_double ha hb]
  cases fNan a <;> cases fNan b <;> simp
  rcases Int.lt_trichotomy (fV a) (fV b) with h | h | h
  · rw [compare_lt h, decide_eq_false (by omega)]; rfl
  · rw [h, compare_eq', decide_eq_false (by omega)]; rfl
  · rw [compare_gt h, decide_eq_true h]; rfl

theorem eq_double {a b : Nat} (ha : a < 18446744073709551616) (hb : b < 18446744073709551616) : (double.order a b == some .eq) = (!fNan a && !fNan b && decide (fV a = fV b)) := by
  rw [order_double ha hb]
  cases fNan a <;> cases fNan b <;> simp
  rcases Int.lt_trichotomy (fV a) (fV b) with h | h | h
  · rw [compare_lt h, decide_eq_false (by omega)]; rfl
  · rw [h, compare_eq', decide_eq_true rfl]; rfl
  · rw [compare_gt h, decide_eq_false (by omega)]; rfl

/-- THE KEY: none first, then by number, -0 ahead of 0 -/
def fK (b : Nat) : Int := if fNan b then -(3 * (HUGE : Int)) else 2 * fV b + (if fSgn b then 0 else 1)

theorem fK_nan {b : Nat} (h : fNan b = true) : fK b = -(3 * (HUGE : Int)) := by unfold fK; rw [if_pos h]
theorem fK_num {b : Nat} (h : fNan b = false) : fK b = 2 * fV b + (if fSgn b then 0 else 1) := by unfold fK; rw [if_neg (by simp [h])]

theorem fK_least {b : Nat} (h : b < 18446744073709551616) : -(3 * (HUGE : Int)) ≤ fK b := by
  have := fV_range h
  unfold fK
  split
  · omega
  · split <;> omega

theorem fK_above {b : Nat} (h : b < 18446744073709551616) (hn : fNan b = false) : -(3 * (HUGE : Int)) < fK b := by
  have := fV_range h
  have := huge_pos
  rw [fK_num hn]
  split <;> omega

theorem fV_neg {b : Nat} (h : b < 18446744073709551616) (hn : fNan b = false) (hs : fSgn b = true) : fV b ≤ 0 := by
  have hh := huge_pos
  unfold fNan at hn
  unfold fV
  rcases read_kinds h with ⟨m, i, e, hm, h0, h1, -⟩ | e | ⟨t, e⟩ <;> rw [e] at hn ⊢
  · simp only [valD, signed, hs, if_true]; exact Int.neg_nonpos_of_nonneg (Int.natCast_nonneg _)
  · simp only [valD, hs, if_true]; omega
  · cases hn

theorem fV_pos {b : Nat} (h : b < 18446744073709551616) (hn : fNan b = false) (hs : fSgn b = false) : 0 ≤ fV b := by
  have hh := huge_pos
  unfold fNan at hn
  unfold fV
  rcases read_kinds h with ⟨m, i, e, hm, h0, h1, -⟩ | e | ⟨t, e⟩ <;> rw [e] at hn ⊢
  · simp only [valD, signed, hs, Bool.false_eq_true, if_false]; exact Int.natCast_nonneg _
  · simp only [valD, hs, Bool.false_eq_true, if_false]; omega
  · cases hn

/-- who stands ahead, as the program asks it -/
theorem ahead_key {a b : Nat} (ha : a < 18446744073709551616) (hb : b < 18446744073709551616) :
    decide (fK a < fK b) = if fNan a ∨ fNan b then !fNan b else (decide (fV a < fV b) || (decide (fV a = fV b) && (fSgn a && !fSgn b))) := by
  have l1 := fK_least ha
  have l2 := fK_least hb
  cases na : fNan a <;> cases nb : fNan b
  · rw [fK_num na, fK_num nb]
    simp only [Bool.false_eq_true, or_self, if_false]
    rw [Bool.eq_iff_iff]
    cases fSgn a <;> cases fSgn b <;> simp <;> omega
  · rw [fK_nan nb]
    simp
    omega
  · have := fK_above hb nb
    rw [fK_nan na]
    simp
    omega
  · rw [fK_nan na, fK_nan nb]
    simp

end Go.Proofs.YtebeelphilfjhaaDoor
