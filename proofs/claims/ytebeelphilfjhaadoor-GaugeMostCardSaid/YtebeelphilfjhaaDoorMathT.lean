/- FLOATS: the whole part and the thousandths of a number below 10 to the 12th. -/
import Derived.Test.YtebeelphilfjhaaDoorMathK
namespace Go.Proofs.YtebeelphilfjhaaDoor
open Ieee

/-- one, in units -/
def oneE : Nat := 1074
def U1 : Nat := 2 ^ oneE

theorem cut_down (w : Toward) (hw : w = .down ∨ w = .zero) (n drop : Nat) : w.cut false n drop = n / 2 ^ drop := by
  have e : w.cut false n drop = n / 2 ^ min drop (n.log2 + 2) := by
    rcases hw with rfl | rfl <;> simp [Toward.cut, Nat.shiftLeft_eq]
  rw [e]
  by_cases h : drop ≤ n.log2 + 2
  · rw [Nat.min_eq_left h]
  · rw [Nat.min_eq_right (by omega)]
    have h1 := @Nat.lt_log2_self n
    have h2 : 2 ^ (n.log2 + 1) ≤ 2 ^ (n.log2 + 2) := Nat.pow_le_pow_right (by omega) (by omega)
    have h3 : 2 ^ (n.log2 + 1) ≤ 2 ^ drop := Nat.pow_le_pow_right (by omega) (by omega)
    rw [Nat.div_eq_of_lt (by omega), Nat.div_eq_of_lt (by omega)]

/-- the whole part is by units -/
theorem whole_units (m : Nat) (i : Int) (hi : -1074 ≤ i) : (m <<< i.toNat) / 2 ^ (-i).toNat = m * 2 ^ (i + 1074).toNat / U1 := by
  rw [Nat.shiftLeft_eq]
  unfold U1
  by_cases h : 0 ≤ i
  · obtain ⟨k, rfl⟩ := Int.eq_ofNat_of_zero_le h
    rw [show ((k : Int)).toNat = k by omega, show (-(k : Int)).toNat = 0 by omega, show ((k : Int) + 1074).toNat = k + oneE by unfold oneE; omega, Nat.pow_add, ← Nat.mul_assoc, Nat.mul_div_cancel _ (Nat.two_pow_pos _), Nat.pow_zero, Nat.div_one]
  · obtain ⟨k, hk⟩ : ∃ k : Nat, i = -(k : Int) := ⟨(-i).toNat, by omega⟩
    subst hk
    rw [show (-(k : Int)).toNat = 0 by omega, show (-(-(k : Int))).toNat = k by omega, Nat.pow_zero, Nat.mul_one]
    have e : oneE = k + (-(k : Int) + 1074).toNat := by unfold oneE; omega
    rw [e, Nat.pow_add, show (-(k : Int) + 1074).toNat = (-(k : Int) + ((k + (-(k : Int) + 1074).toNat : Nat) : Int)).toNat by omega]
    rw [show (-(k : Int) + ((k + (-(k : Int) + 1074).toNat : Nat) : Int)).toNat = (-(k : Int) + 1074).toNat by omega]
    exact (Nat.mul_div_mul_right _ _ (Nat.two_pow_pos _)).symm

/-- a word that stands for so many units, and has no sign -/
def Units (b u : Nat) : Prop := ∃ m i, double.read b = .number false m i ∧ m < 9007199254740992 ∧ -1074 ≤ i ∧ i ≤ 971 ∧ m * 2 ^ (i + 1074).toNat = u

theorem Units.V {b u : Nat} (h : Units b u) : fV b = (u : Int) := by
  obtain ⟨m, i, e, _, _, _, hu⟩ := h
  unfold fV
  rw [e]
  simp only [valD, signed, Bool.false_eq_true, if_false]
  rw [Nat.shiftLeft_eq, hu]
theorem Units.nan {b u : Nat} (h : Units b u) : fNan b = false := by
  obtain ⟨m, i, e, _, _, _, hu⟩ := h
  unfold fNan
  rw [e]
  rfl

theorem units_of {b : Nat} (h : b < 9223372036854775808) (hn : fNan b = false) (hv : fV b < HUGE) : ∃ u, Units b u := by
  have hs : fSgn b = false := decide_eq_false (by omega)
  unfold fNan at hn
  unfold fV at hv
  rcases read_kinds (b := b) (by omega) with ⟨m, i, e, hm, h0, h1, -⟩ | e | ⟨t, e⟩ <;> rw [hs] at e
  · exact ⟨_, m, i, e, hm, h0, h1, rfl⟩
  · rw [e] at hv; simp only [valD, Bool.false_eq_true, if_false] at hv; omega
  · rw [e] at hn; cases hn

theorem Units.toInt {b u : Nat} (h : Units b u) : (double.read b).toInt .zero = some ((u / U1 : Nat) : Int) := by
  obtain ⟨m, i, e, _, hi, _, hu⟩ := h
  unfold Datum.toInt
  rw [e]
  simp only [Datum.integral]
  rw [cut_down .zero (.inr rfl), whole_units m i hi, hu]
  simp [signed]

theorem Units.floor {b u : Nat} (h : Units b u) : double.write ((double.read b).integral .down) = double.nearest false (u / U1) 0 := by
  obtain ⟨m, i, e, _, hi, _, hu⟩ := h
  rw [e]
  simp only [Datum.integral]
  rw [cut_down .down (.inl rfl), whole_units m i hi, hu]
  rfl

theorem e1074 : ((0 : Int) + 1074).toNat = oneE := rfl
/-- a whole number that is written -/
theorem whole_written {n : Nat} (h : n < 9007199254740992) : Units (double.nearest false n 0) (n * U1) := by
  obtain ⟨m, i, e, hm, h0, h1, hu⟩ := write_exact false n 0 n oneE (by omega) (by rw [e1074]) h (by
    have h2 : 53 + oneE ≤ topE := by have : oneE = 1074 := rfl; have := topE_eq; omega
    exact pow_lt_gen n oneE topE h h2)
  exact ⟨m, i, e, hm, h0, h1, hu⟩

theorem signed_ff (m k : Nat) : signed false m k = ((m * 2 ^ k : Nat) : Int) := by
  unfold signed; simp only [Bool.false_eq_true, if_false]; rw [Nat.shiftLeft_eq]
theorem signed_tt (m k : Nat) : signed true m k = -((m * 2 ^ k : Nat) : Int) := by
  unfold signed; simp only [if_true]; rw [Nat.shiftLeft_eq]

/-- a number less a smaller one; what is left can be written -/
theorem sub_units {a b u v n k : Nat} (ha : Units a u) (hb : Units b v) (hle : v ≤ u) (hx : u - v = n * 2 ^ k) (hn : n < 9007199254740992) (hlt : n * 2 ^ k < 2 ^ topE) :
    ∃ r, double.sub a b = some r ∧ r < 18446744073709551616 ∧ Units r (u - v) := by
  obtain ⟨m, i, e, hm, hi, hi', hu⟩ := ha
  obtain ⟨M, j, e', hM, hj, hj', hv⟩ := hb
  have hsum : ((double.read a).sum (double.read b).opposite) = some (.number false (m * 2 ^ (i - min i j).toNat - M * 2 ^ (j - min i j).toNat) (min i j)) ∧ (m * 2 ^ (i - min i j).toNat - M * 2 ^ (j - min i j).toNat) * 2 ^ (min i j + 1074).toNat = u - v := by
    rw [e, e']
    have c1 : m * 2 ^ (i - min i j).toNat * 2 ^ (min i j + 1074).toNat = u := by
      rw [Nat.mul_assoc, ← Nat.pow_add, ← hu]; congr 2; omega
    have c2 : M * 2 ^ (j - min i j).toNat * 2 ^ (min i j + 1074).toNat = v := by
      rw [Nat.mul_assoc, ← Nat.pow_add, ← hv]; congr 2; omega
    have hle2 : M * 2 ^ (j - min i j).toNat ≤ m * 2 ^ (i - min i j).toNat := by
      refine Nat.le_of_mul_le_mul_right ?_ (Nat.two_pow_pos (min i j + 1074).toNat)
      rw [c1, c2]; exact hle
    refine ⟨?_, by rw [Nat.sub_mul, c1, c2]⟩
    simp only [Datum.opposite, Datum.sum, Bool.not_false]
    rw [signed_ff, signed_tt]
    generalize m * 2 ^ (i - min i j).toNat = x at *
    generalize M * 2 ^ (j - min i j).toNat = y at *
    congr 2
    · split <;> simp <;> omega
    · omega
  obtain ⟨h1, h2⟩ := hsum
  obtain ⟨m', i', e3, q1, q2, q3, q4⟩ := write_exact false _ (min i j) n k (by omega) (h2.trans hx) hn hlt
  refine ⟨_, by unfold Format.sub; rw [h1]; rfl, ?_, m', i', e3, q1, q2, q3, q4.trans hx.symm⟩
  exact double.nearest_lt false _ _

theorem cut_even_le (s : Bool) (n d : Nat) (hd : d ≤ n.log2 + 2) : Toward.even.cut s n d ≤ n / 2 ^ d + 1 ∧ (2 * (n % 2 ^ d) < 2 ^ d → Toward.even.cut s n d = n / 2 ^ d) := by
  unfold Toward.cut
  rw [Nat.min_eq_left hd]
  simp only [Nat.shiftLeft_eq, Nat.one_mul]
  generalize n / 2 ^ d = a
  generalize n % 2 ^ d = c
  generalize 2 ^ d = g
  refine ⟨?_, fun h => ?_⟩
  · have : ∀ b : Bool, b.toNat ≤ 1 := fun b => by cases b <;> simp
    exact Nat.add_le_add_left (this _) _
  · have e1 : decide (g < 2 * c) = false := decide_eq_false (by omega)
    have e2 : (g == 2 * c) = false := by simp; omega
    simp [e1, e2]

/-- what is nearest does not hang on how a number is told -/
theorem nearest_shift (s : Bool) (m k : Nat) (p : Int) (hp : -1074 ≤ p) : double.nearest s (m * 2 ^ k) (p - k) = double.nearest s m p := by
  unfold Format.nearest
  by_cases hm : m = 0
  · subst hm; simp
  have hmk : m * 2 ^ k ≠ 0 := Nat.mul_ne_zero hm (by have := Nat.two_pow_pos k; omega)
  rw [if_neg hm, if_neg hmk, inf_double, lp_double, bn_double]
  dsimp only
  rw [fb_double, log2_shift m k hm]
  rw [show p - (k : Int) + ((m.log2 + k : Nat) : Int) - ((52 : Nat) : Int) = p + (m.log2 : Int) - ((52 : Nat) : Int) by omega]
  refine congrArg (fun r => double.word s (min ((max (p + (m.log2 : Int) - ((52 : Nat) : Int)) (-1074) - -1074).toNat * 4503599627370496 + r) 9218868437227405312)) ?_
  by_cases hl : p + (m.log2 : Int) ≤ -1022
  · rw [show max (p + (m.log2 : Int) - ((52 : Nat) : Int)) (-1074) = -1074 by omega]
    obtain ⟨P, rfl⟩ : ∃ P : Nat, p = (P : Int) - 1074 := ⟨(p + 1074).toNat, by omega⟩
    rw [show ((P : Int) - 1074 - -1074).toNat = P by omega, show (-1074 - ((P : Int) - 1074)).toNat = 0 by omega, cut_zero, Nat.shiftLeft_eq, Nat.shiftLeft_eq]
    by_cases hk : k ≤ P
    · rw [show ((P : Int) - 1074 - k - -1074).toNat = P - k by omega, show (-1074 - ((P : Int) - 1074 - k)).toNat = 0 by omega, cut_zero, Nat.mul_assoc, ← Nat.pow_add]
      congr 2; omega
    · rw [show ((P : Int) - 1074 - k - -1074).toNat = 0 by omega, show (-1074 - ((P : Int) - 1074 - k)).toNat = k - P by omega, Nat.pow_zero, Nat.mul_one]
      rw [show m * 2 ^ k = (m * 2 ^ P) * 2 ^ (k - P) by rw [Nat.mul_assoc, ← Nat.pow_add]; congr 2; omega]
      exact cut_even_whole _ _ _ (Nat.mul_ne_zero hm (by have := Nat.two_pow_pos P; omega))
  · rw [show max (p + (m.log2 : Int) - ((52 : Nat) : Int)) (-1074) = p + m.log2 - 52 by omega]
    by_cases hq : m.log2 ≤ 52
    · rw [show (p - (p + (m.log2 : Int) - 52)).toNat = 52 - m.log2 by omega, show (p + (m.log2 : Int) - 52 - p).toNat = 0 by omega, cut_zero, Nat.shiftLeft_eq, Nat.shiftLeft_eq]
      by_cases hk : k ≤ 52 - m.log2
      · rw [show (p - k - (p + (m.log2 : Int) - 52)).toNat = 52 - m.log2 - k by omega, show (p + (m.log2 : Int) - 52 - (p - k)).toNat = 0 by omega, cut_zero, Nat.mul_assoc, ← Nat.pow_add]
        congr 2; omega
      · rw [show (p - k - (p + (m.log2 : Int) - 52)).toNat = 0 by omega, show (p + (m.log2 : Int) - 52 - (p - k)).toNat = k - (52 - m.log2) by omega, Nat.pow_zero, Nat.mul_one]
        rw [show m * 2 ^ k = (m * 2 ^ (52 - m.log2)) * 2 ^ (k - (52 - m.log2)) by rw [Nat.mul_assoc, ← Nat.pow_add]; congr 2; omega]
        exact cut_even_whole _ _ _ (Nat.mul_ne_zero hm (by have := Nat.two_pow_pos (52 - m.log2); omega))
    · rw [show (p - (p + (m.log2 : Int) - 52)).toNat = 0 by omega, show (p + (m.log2 : Int) - 52 - p).toNat = m.log2 - 52 by omega, show (p - k - (p + (m.log2 : Int) - 52)).toNat = 0 by omega, show (p + (m.log2 : Int) - 52 - (p - k)).toNat = (m.log2 - 52) + k by omega]
      rw [Nat.shiftLeft_eq, Nat.shiftLeft_eq, Nat.pow_zero, Nat.mul_one, Nat.mul_one]
      exact cut_even_shift _ _ _ _ (by omega) hm

theorem read_1000 : double.read 4652007308841189376 = .number false (1000 * 2 ^ 43) (-43) := by decide +kernel

/-- the units that a rung stands for, by what was cut -/
theorem mg_rnd (u : Nat) : mg (rnd u) = Toward.even.cut false u (u.log2 - 52) * 2 ^ (u.log2 - 52) := by
  unfold rnd
  by_cases hl : u.log2 ≤ 52
  · rw [show u.log2 - 52 = 0 by omega, cut_zero, Nat.zero_mul, Nat.zero_add, Nat.pow_zero, Nat.mul_one]
    have hu : u < 2 ^ 53 := Nat.lt_of_lt_of_le (@Nat.lt_log2_self u) (Nat.pow_le_pow_right (by omega) (by omega))
    unfold mg
    by_cases hs : u < 4503599627370496
    · rw [if_pos hs]
    · rw [if_neg hs, show u / 4503599627370496 = 1 by omega]; simp; omega
  · have h0 : u ≠ 0 := by rintro rfl; simp at hl
    have h1 := Nat.log2_self_le h0
    have h2 := @Nat.lt_log2_self u
    generalize hd : u.log2 - 52 = d
    have e1 : u.log2 = 52 + d := by omega
    rw [e1, Nat.pow_add] at h1
    rw [show u.log2 + 1 = 53 + d by omega, Nat.pow_add] at h2
    have hc := (cut_even_le false u d (by omega)).1
    have hb1 : 2 ^ 52 ≤ u / 2 ^ d := (Nat.le_div_iff_mul_le (Nat.two_pow_pos d)).2 h1
    have hb2 : u / 2 ^ d < 2 ^ 53 := (Nat.div_lt_iff_lt_mul (Nat.two_pow_pos d)).2 h2
    have hc0 : u / 2 ^ d ≤ Toward.even.cut false u d := by
      unfold Toward.cut
      rw [Nat.min_eq_left (by omega)]
      simp only [Nat.shiftLeft_eq, Nat.one_mul]
      exact Nat.le_add_right _ _
    generalize Toward.even.cut false u d = c at *
    generalize u / 2 ^ d = q at *
    unfold mg
    rw [if_neg (by omega)]
    by_cases hc2 : c = 2 ^ 53
    · subst hc2
      rw [show (d * 4503599627370496 + 2 ^ 53) / 4503599627370496 - 1 = d + 1 by omega, show (d * 4503599627370496 + 2 ^ 53) % 4503599627370496 = 0 by omega, Nat.pow_succ]
      omega
    · rw [show (d * 4503599627370496 + c) / 4503599627370496 - 1 = d by omega, show 4503599627370496 + (d * 4503599627370496 + c) % 4503599627370496 = c by omega]


/-- less than one, a thousand times: less than a thousand, as it is written -/
theorem mul_1000 {b u n k : Nat} (hb : Units b u) (hu : u = n * 2 ^ k) (hn : n < 9007199254740992) (hlt : u < U1) :
    ∃ r v, double.mul b 4652007308841189376 = some r ∧ r < 18446744073709551616 ∧ Units r v ∧ v < 1000 * U1 := by
  obtain ⟨m, i, e, hm, hi, hi', hu'⟩ := hb
  have e1 : ((double.read b).product (double.read 4652007308841189376)).map double.write = some (double.nearest false (m * 1000) i) := by
    rw [e, read_1000]
    simp only [Datum.product, Option.map_some, Format.write]
    have := nearest_shift false (m * 1000) 43 i hi
    rw [← this, Nat.mul_assoc]
    rfl
  have e2 := nearest_units false (m * 1000) i hi
  have e3 : m * 1000 * 2 ^ (i + 1074).toNat = 1000 * u := by rw [← hu', Nat.mul_comm m, Nat.mul_assoc]
  rw [e3] at e2
  -- the bound
  obtain ⟨g, hg⟩ : ∃ g, g = 2 ^ (oneE - 53) := ⟨_, rfl⟩
  have hg0 : 0 < g := by rw [hg]; exact Nat.two_pow_pos _
  have hU : U1 = 9007199254740992 * g := by
    have h53 : oneE = 53 + (oneE - 53) := by unfold oneE; omega
    unfold U1; rw [hg, show (9007199254740992 : Nat) = 2 ^ 53 from rfl, ← Nat.pow_add, ← h53]
  have h1021 : oneE - 53 = 1021 := rfl
  have hpow : ∀ j, 2 ^ (1021 + j) = g * 2 ^ j := fun j => by rw [Nat.pow_add, hg, h1021]
  have hpowc : ∀ c j, c = 1021 + j → 2 ^ c = g * 2 ^ j := fun c j h => by rw [h]; exact hpow j
  have hug : u ≤ U1 - g := by
    by_cases hk : 1021 ≤ k
    · obtain ⟨j, rfl⟩ := Nat.exists_eq_add_of_le hk
      rw [hpow] at hu
      have : u = g * (n * 2 ^ j) := by rw [hu, ← Nat.mul_assoc, ← Nat.mul_assoc, Nat.mul_comm n g]
      generalize n * 2 ^ j = t at this
      have ht : t < 9007199254740992 := by
        rw [this, hU, Nat.mul_comm 9007199254740992] at hlt
        exact Nat.lt_of_mul_lt_mul_left hlt
      have : g * t ≤ g * 9007199254740991 := Nat.mul_le_mul_left g (by omega)
      omega
    · obtain ⟨k0, hk0⟩ : ∃ k0 : Nat, k0 = 1020 := ⟨_, rfl⟩
      have h1 : n * 2 ^ k ≤ n * 2 ^ k0 := Nat.mul_le_mul_left _ (Nat.pow_le_pow_right (by omega) (by omega))
      have h2 : g = 2 * 2 ^ k0 := by rw [hg, show oneE - 53 = k0 + 1 by omega, Nat.pow_succ, Nat.mul_comm]
      generalize 2 ^ k0 = z at h1 h2
      have h3 : n * z ≤ 9007199254740991 * z := Nat.mul_le_mul_right _ (by omega)
      omega
  have hY : 1000 * u ≤ 1000 * 9007199254740992 * g - 1000 * g := by omega
  generalize hYe : 1000 * u = Y at *
  have hmg : mg (rnd Y) < 1000 * U1 ∧ rnd Y < 9218868437227405312 := by
    rw [mg_rnd]
    by_cases h0 : Y = 0
    · subst h0
      simp [rnd, cut_zero]
      omega
    have hl2 := @Nat.lt_log2_self Y
    have hl1 := Nat.log2_self_le h0
    have hL : Y.log2 ≤ 1083 := by
      rcases Nat.lt_or_ge 1083 Y.log2 with h | h
      · obtain ⟨j, hj⟩ : ∃ j : Nat, Y.log2 = 1021 + (63 + j) := ⟨Y.log2 - 1084, by omega⟩
        rw [hj, hpow, Nat.pow_add] at hl1
        have h3 : 1 ≤ 2 ^ j := Nat.two_pow_pos j
        have h4 : g * (2 ^ 63 * 1) ≤ g * (2 ^ 63 * 2 ^ j) := Nat.mul_le_mul_left _ (Nat.mul_le_mul_left _ h3)
        omega
      · exact h
    have hc := cut_even_le false Y (Y.log2 - 52) (by omega)
    have hq : Y / 2 ^ (Y.log2 - 52) < 9007199254740992 ∨ Y.log2 < 52 := by
      rcases Nat.lt_or_ge Y.log2 52 with h | h
      · exact .inr h
      · refine .inl ((Nat.div_lt_iff_lt_mul (Nat.two_pow_pos _)).2 ?_)
        rw [show 9007199254740992 = 2 ^ 53 from rfl, ← Nat.pow_add, show 53 + (Y.log2 - 52) = Y.log2 + 1 by omega]
        exact hl2
    have hcut : Toward.even.cut false Y (Y.log2 - 52) ≤ 9007199254740992 := by
      rcases hq with hq | hq
      · omega
      · rw [show Y.log2 - 52 = 0 by omega, cut_zero]
        have : 2 ^ (Y.log2 + 1) ≤ 2 ^ 53 := Nat.pow_le_pow_right (by omega) (by omega)
        omega
    refine ⟨?_, by unfold rnd; omega⟩
    rcases Nat.lt_or_ge Y.log2 1083 with hlt2 | hge
    · obtain ⟨c9, hc9⟩ : ∃ c9 : Nat, c9 = 1021 + 9 := ⟨_, rfl⟩
      have h5 : Toward.even.cut false Y (Y.log2 - 52) * 2 ^ (Y.log2 - 52) ≤ 9007199254740992 * 2 ^ c9 := Nat.mul_le_mul hcut (Nat.pow_le_pow_right (by omega) (by omega))
      rw [hpowc c9 9 hc9] at h5
      generalize Toward.even.cut false Y (Y.log2 - 52) * 2 ^ (Y.log2 - 52) = q at *
      omega
    · have hL2 : Y.log2 = 1083 := by omega
      obtain ⟨c10, hc10⟩ : ∃ c10 : Nat, Y.log2 - 52 = c10 := ⟨_, rfl⟩
      have h7 := hpowc c10 10 (by omega)
      rw [hc10, h7] at hc ⊢
      have hdm := Nat.div_add_mod Y (g * 2 ^ 10)
      have hml := Nat.mod_lt Y (show g * 2 ^ 10 > 0 by omega)
      generalize Y / (g * 2 ^ 10) = a at *
      generalize Y % (g * 2 ^ 10) = c at *
      generalize Toward.even.cut false Y c10 = t at *
      have ha : a < 1000 * 2 ^ 43 := by
        have h8 : g * 2 ^ 10 * a < g * 2 ^ 10 * (1000 * 2 ^ 43) := by omega
        exact Nat.lt_of_mul_lt_mul_left h8
      have ht : t ≤ 1000 * 2 ^ 43 - 1 := by
        by_cases ha2 : a = 1000 * 2 ^ 43 - 1
        · subst ha2
          rw [hc.2 (by omega)]
          exact Nat.le_refl _
        · omega
      have h9 : t * (g * 2 ^ 10) ≤ (1000 * 2 ^ 43 - 1) * (g * 2 ^ 10) := Nat.mul_le_mul_right _ ht
      omega
  rw [Nat.min_eq_left (Nat.le_of_lt hmg.2)] at e2
  obtain ⟨m2, i2, e4, q1, q2, q3, q4⟩ := read_word false (rnd Y) hmg.2
  refine ⟨double.word false (rnd Y), mg (rnd Y), ?_, ?_, ⟨m2, i2, e4, q1, q2, q3, q4⟩, hmg.1⟩
  · unfold Format.mul; rw [e1, e2]
  · rw [word_double]; simp only [Bool.false_eq_true, if_false]; omega

end Go.Proofs.YtebeelphilfjhaaDoor
