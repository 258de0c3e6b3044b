/- FLOATS: the text of a rate, as plain bytes. -/
import Derived.Test.YtebeelphilfjhaaDoorMathT
import Derived.Lib.ItoaLen
namespace Go.Proofs.YtebeelphilfjhaaDoor
open Ieee

def K1e12 : Nat := 4786511204640096256
theorem fV_1e12 : fV 4786511204640096256 = ((1000000000000 * U1 : Nat) : Int) := by decide +kernel
theorem fNan_1e12 : fNan 4786511204640096256 = false := by decide +kernel
theorem big_huge : ((1000000000000 * U1 : Nat) : Int) < (HUGE : Int) := by
  have h : oneE + 53 ≤ hugeE := by have := hugeE_eq; have : oneE = 1074 := rfl; omega
  have := pow_lt_gen 1000000000000 oneE hugeE (by omega) (by omega)
  have e1 : U1 = 2 ^ oneE := rfl
  have e2 : HUGE = 2 ^ hugeE := rfl
  rw [← e1, ← e2] at this
  generalize U1 = x at *
  omega

/-- the whole part, and the thousandths, of a number without a sign -/
def wholeP (z : Nat) : Nat := (fV z).toNat / U1
def thouP (z : Nat) : Nat := match double.sub z (double.nearest false (wholeP z) 0) with
  | some d => (match double.mul d 4652007308841189376 with
    | some r => (((double.read r).toInt .zero).getD 0).toNat
    | none => 0)
  | none => 0
def pad3 (q : Nat) : List UInt8 := (if q < 100 then [48] else []) ++ ((if q < 10 then [48] else []) ++ Lib.itoa (q : Int))
def bodyP (z : Nat) : List UInt8 := if ((1000000000000 * U1 : Nat) : Int) ≤ fV z then [105, 110, 102] else Lib.itoa (wholeP z : Int) ++ ([46] ++ pad3 (thouP z))
def textP (b : Nat) : List UInt8 := if fNan b then [110, 111, 110, 101] else (if fSgn b then [45] else []) ++ bodyP (b % 9223372036854775808)

theorem pad3_itoa : ∀ q : Nat, q < 1000 → (Lib.itoa ((1000 + q : Nat) : Int)).drop 1 = pad3 q := by decide +kernel
theorem pad3_itoa' (q : Nat) (h : q < 1000) : Lib.itoa ((1000 + q : Nat) : Int) = (Lib.itoa ((1000 + q : Nat) : Int)).head! :: pad3 q ∧ (Lib.itoa ((1000 + q : Nat) : Int)).length = 4 := by
  revert h; revert q; decide +kernel

theorem floatOfInt_nat (n : Nat) : floatOfInt .f64 (n : Int) = double.nearest false n 0 := by
  show double.write (.number (decide ((n : Int) < 0)) (n : Int).natAbs 0) = _
  rw [decide_eq_false (by omega)]
  rfl

theorem Units.conv {b u : Nat} (h : Units b u) (hlt : u / U1 < 9223372036854775808) : floatToIntVal .f64 b .i64 = some ((u / U1 : Nat) : Int) := by
  have e : (FloatKind.f64.decode b).toInt .zero = some ((u / U1 : Nat) : Int) := h.toInt
  generalize u / U1 = q at *
  unfold floatToIntVal
  rw [e]
  have : IntKind.i64.min = -9223372036854775808 := rfl
  have : IntKind.i64.max = 9223372036854775807 := rfl
  simp only
  rw [if_pos (by omega)]

theorem U1_pos : 0 < U1 := Nat.two_pow_pos _

/-- a number's part behind the point has at most 53 digits -/
theorem rest_digits {b u : Nat} (h : Units b u) : ∃ n k, u % U1 = n * 2 ^ k ∧ n < 9007199254740992 := by
  obtain ⟨m, i, e, hm, hi, _, hu⟩ := h
  by_cases h0 : 0 ≤ i
  · refine ⟨0, 0, ?_, by omega⟩
    rw [← hu, Nat.zero_mul]
    unfold U1
    rw [show (i + 1074).toNat = i.toNat + oneE by unfold oneE; omega, Nat.pow_add, ← Nat.mul_assoc, Nat.mul_mod_left]
  · have e1 : oneE = (-i).toNat + (i + 1074).toNat := by unfold oneE; omega
    refine ⟨m % 2 ^ (-i).toNat, (i + 1074).toNat, ?_, Nat.lt_of_le_of_lt (Nat.mod_le _ _) hm⟩
    rw [← hu]
    unfold U1
    rw [e1, Nat.pow_add, show (i + 1074).toNat = (i + 1074).toNat from rfl, Nat.mul_mod_mul_right]

structure TextFacts (z u d r : Nat) : Prop where
  units : Units z u
  small : u / U1 < 1000000000000
  wholeE : wholeP z = u / U1
  wunits : Units (double.nearest false (u / U1) 0) (u / U1 * U1)
  wlt : double.nearest false (u / U1) 0 < 18446744073709551616
  sub : double.sub z (double.nearest false (u / U1) 0) = some d
  mul : double.mul d 4652007308841189376 = some r
  rlt : r < 18446744073709551616
  runits : ∃ v, Units r v ∧ v / U1 = thouP z
  thou : thouP z < 1000
  dlt : d < 18446744073709551616

theorem text_facts {z : Nat} (hz : z < 9223372036854775808) (hn : fNan z = false) (hv : ¬ ((1000000000000 * U1 : Nat) : Int) ≤ fV z) : ∃ u d r, TextFacts z u d r := by
  have hb := big_huge
  obtain ⟨u, hu⟩ := units_of hz hn (by omega)
  have hV := hu.V
  have hU := U1_pos
  have hsmall : u / U1 < 1000000000000 := by
    rw [hV] at hv
    exact (Nat.div_lt_iff_lt_mul hU).2 (by omega)
  have hw := whole_written (n := u / U1) (by omega)
  obtain ⟨n, k, hr, hn'⟩ := rest_digits hu
  have hdm := Nat.div_add_mod u U1
  have hsub : u - u / U1 * U1 = u % U1 := by rw [Nat.mul_comm] at hdm; omega
  have hle : u / U1 * U1 ≤ u := Nat.div_mul_le_self _ _
  have hml := Nat.mod_lt u hU
  have hlt : n * 2 ^ k < 2 ^ topE := by
    rw [← hr]
    refine Nat.lt_of_lt_of_le hml ?_
    unfold U1
    exact Nat.pow_le_pow_right (by omega) (by have := topE_eq; have : oneE = 1074 := rfl; omega)
  obtain ⟨d, hd, hdl, hdu⟩ := sub_units hu hw hle (hsub.trans hr) hn' hlt
  rw [hsub] at hdu
  obtain ⟨r, v, hm, hrl, hru, hvl⟩ := mul_1000 hdu hr hn' hml
  have hwh : wholeP z = u / U1 := by unfold wholeP; rw [hV]; rfl
  have hth : thouP z = v / U1 := by
    unfold thouP
    rw [hwh, hd]
    simp only
    rw [hm]
    simp only
    rw [hru.toInt]
    rfl
  have hq : v / U1 < 1000 := (Nat.div_lt_iff_lt_mul hU).2 hvl
  exact ⟨u, d, r, hu, hsmall, hwh, hw, double.nearest_lt false _ _, hd, hm, hrl, ⟨v, hru, hth.symm⟩, by rw [hth]; exact hq, hdl⟩

end Go.Proofs.YtebeelphilfjhaaDoor
