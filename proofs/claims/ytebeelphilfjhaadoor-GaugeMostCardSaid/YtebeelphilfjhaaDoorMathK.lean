/- FLOATS: the order by the key; what is none; 1 to a zero; the sign turned. -/
import Derived.Test.YtebeelphilfjhaaDoorMathN
import Derived.Laws.BitsAllLaws
namespace Go.Proofs.YtebeelphilfjhaaDoor
open Ieee

def cmpK (a b : Nat) : Int := if fK a < fK b then -1 else if fK b < fK a then 1 else 0
def rankP (b : Nat) : Int := if fNan b then 0 else if fV b < 0 then 1 else if 0 < fV b then 4 else if fSgn b then 2 else 3

theorem fNan_zero : fNan 0 = false := by decide +kernel
theorem fV_zero : fV 0 = 0 := by decide +kernel

theorem signed_zero {s : Bool} {m k : Nat} (h : signed s m k = 0) : m = 0 := by
  unfold signed at h
  have : m <<< k = 0 := by
    generalize m <<< k = q at h
    cases s <;> simp only [Bool.false_eq_true, if_true, if_false] at h <;> omega
  rw [Nat.shiftLeft_eq] at this
  rcases Nat.mul_eq_zero.1 this with h | h
  · exact h
  · have := Nat.two_pow_pos k; omega

theorem read_zero {b : Nat} (h : b < 18446744073709551616) (hn : fNan b = false) (hv : fV b = 0) : ∃ i, double.read b = .number (fSgn b) 0 i := by
  have hh := huge_pos
  unfold fNan at hn
  unfold fV at hv
  rcases read_kinds h with ⟨m, i, e, hm, h0, h1, -⟩ | e | ⟨t, e⟩ <;> rw [e] at hn hv
  · exact ⟨i, by rw [e, signed_zero hv]⟩
  · simp only [valD] at hv; split at hv <;> omega
  · cases hn

def oneF : Nat := 4607182418800017408
theorem read_one : double.read 4607182418800017408 = .number false 4503599627370496 (-52) := by decide +kernel

theorem div_one_zero {b : Nat} (h : b < 18446744073709551616) (hn : fNan b = false) (hv : fV b = 0) : double.div 4607182418800017408 b = some (if fSgn b then 18442240474082181120 else 9218868437227405312) := by
  obtain ⟨i, e⟩ := read_zero h hn hv
  unfold Format.div
  rw [e, read_one]
  simp only [Datum.quotient]
  rw [if_pos trivial, if_neg (by omega)]
  simp only [Option.map_some, Format.write, Format.word, sw_double, inf_double]
  cases fSgn b <;> rfl

theorem fV_minf : fV 18442240474082181120 = -(HUGE : Int) := rfl
theorem fV_pinf : fV 9218868437227405312 = (HUGE : Int) := rfl
theorem fNan_minf : fNan 18442240474082181120 = false := by decide +kernel
theorem fNan_pinf : fNan 9218868437227405312 = false := by decide +kernel

theorem sgn_neg {b : Nat} (h : b < 18446744073709551616) (hn : fNan b = false) (hv : fV b < 0) : fSgn b = true := by
  cases hs : fSgn b
  · have := fV_pos h hn hs; omega
  · rfl
theorem sgn_pos {b : Nat} (h : b < 18446744073709551616) (hn : fNan b = false) (hv : 0 < fV b) : fSgn b = false := by
  cases hs : fSgn b
  · rfl
  · have := fV_neg h hn hs; omega

/-- the reference's order is the key's -/
theorem refOrder_key {a b : Nat} (ha : a < 18446744073709551616) (hb : b < 18446744073709551616) :
    cmpK a b = if rankP a = rankP b then (if fNan a = false ∧ fNan b = false ∧ fV a < fV b then -1 else if fNan a = false ∧ fNan b = false ∧ fV b < fV a then 1 else 0) else if rankP a < rankP b then -1 else 1 := by
  have l1 := fK_least ha
  have l2 := fK_least hb
  cases na : fNan a <;> cases nb : fNan b
  · have p1 := sgn_neg ha na
    have p2 := sgn_pos ha na
    have p3 := sgn_neg hb nb
    have p4 := sgn_pos hb nb
    unfold cmpK rankP
    rw [fK_num na, fK_num nb, na, nb]
    simp only [Bool.false_eq_true, if_false, true_and]
    generalize fV a = x at *
    generalize fV b = y at *
    cases hsa : fSgn a <;> cases hsb : fSgn b <;> rw [hsa] at p1 p2 <;> rw [hsb] at p3 p4 <;> simp only [Bool.false_eq_true, if_false, if_true, imp_false, reduceCtorEq] at p1 p2 p3 p4 ⊢
    all_goals (repeat' split) <;> omega
  · have := fK_above ha na
    unfold cmpK
    rw [fK_nan nb, if_neg (by omega), if_pos this]
    have : rankP b = 0 := by unfold rankP; rw [nb]; rfl
    have : 1 ≤ rankP a := by unfold rankP; rw [na]; simp only [Bool.false_eq_true, if_false]; repeat' split
                             all_goals omega
    rw [if_neg (by omega), if_neg (by omega)]
  · have := fK_above hb nb
    unfold cmpK
    rw [fK_nan na, if_pos this]
    have : rankP a = 0 := by unfold rankP; rw [na]; rfl
    have : 1 ≤ rankP b := by unfold rankP; rw [nb]; simp only [Bool.false_eq_true, if_false]; repeat' split
                             all_goals omega
    rw [if_neg (by omega), if_pos (by omega)]
  · unfold cmpK
    rw [fK_nan na, fK_nan nb, if_neg (by omega), if_neg (by omega)]
    have e1 : rankP a = 0 := by unfold rankP; rw [na]; rfl
    have e2 : rankP b = 0 := by unfold rankP; rw [nb]; rfl
    rw [e1, e2]
    simp

theorem cmpK_range (a b : Nat) : -1 ≤ cmpK a b ∧ cmpK a b ≤ 1 := by unfold cmpK; repeat' split
                                                                    all_goals omega
theorem cmpK_turn (a b : Nat) : cmpK b a = -cmpK a b := by unfold cmpK; repeat' split
                                                           all_goals omega
theorem cmpK_self (a : Nat) : cmpK a a = 0 := by unfold cmpK; rw [if_neg (by omega), if_neg (by omega)]
theorem cmpK_lt (a b : Nat) : cmpK a b < 0 ↔ fK a < fK b := by unfold cmpK; repeat' split
                                                               all_goals omega
theorem cmpK_eq (a b : Nat) : cmpK a b = 0 ↔ fK a = fK b := by unfold cmpK; repeat' split
                                                               all_goals omega
theorem cmpK_le (a b : Nat) : cmpK a b ≤ 0 ↔ fK a ≤ fK b := by unfold cmpK; repeat' split
                                                               all_goals omega

/-- when two rates are the same -/
theorem same_key {a b : Nat} (ha : a < 18446744073709551616) (hb : b < 18446744073709551616) :
    decide (fK a = fK b) = if fNan a ∨ fNan b then (fNan a && fNan b) else (decide (fV a = fV b) && (fSgn a == fSgn b)) := by
  have l1 := fK_least ha
  have l2 := fK_least hb
  cases na : fNan a <;> cases nb : fNan b
  · rw [fK_num na, fK_num nb]
    simp only [Bool.false_eq_true, or_self, if_false]
    rw [Bool.eq_iff_iff]
    cases fSgn a <;> cases fSgn b <;> simp <;> omega
  · have := fK_above ha na
    rw [fK_nan nb]
    simp
    omega
  · have := fK_above hb nb
    rw [fK_nan na]
    simp
    omega
  · rw [fK_nan na, fK_nan nb]
    simp

/-- a result: just what the operation gives, or, where it gives none, a NaN -/
def Got (o : Option Nat) (r : Nat) : Prop := r < 18446744073709551616 ∧ (o = some r ∨ o = none ∧ fNan r = true)
/-- two of them are one, or both are none -/
def Sim (a b : Nat) : Prop := a = b ∨ fNan a = true ∧ fNan b = true
theorem Sim.refl (a : Nat) : Sim a a := .inl rfl
theorem Sim.key {a b : Nat} (h : Sim a b) : fK a = fK b := by
  rcases h with h | ⟨h, g⟩
  · rw [h]
  · rw [fK_nan h, fK_nan g]
theorem Got.sim {o : Option Nat} {a b : Nat} (h : Got o a) (g : Got o b) : Sim a b := by
  rcases h with ⟨_, h | ⟨h, n⟩⟩ <;> rcases g with ⟨_, g | ⟨g, m⟩⟩ <;> rw [h] at g
  · cases g; exact .inl rfl
  · cases g
  · cases g
  · exact .inr ⟨n, m⟩

theorem nan_read {b : Nat} (h : fNan b = true) : ∃ s t, double.read b = .nan s t := by
  unfold fNan at h
  cases e : double.read b with
  | number s m i => rw [e] at h; cases h
  | infinity s => rw [e] at h; cases h
  | nan s t => exact ⟨s, t, rfl⟩

theorem add_nan {a b : Nat} (h : fNan a = true) : double.add a b = none := by
  obtain ⟨s, t, e⟩ := nan_read h
  unfold Format.add
  rw [e]
  rfl
theorem div_nan {a b : Nat} (h : fNan a = true) : double.div a b = none := by
  obtain ⟨s, t, e⟩ := nan_read h
  unfold Format.div
  rw [e]
  rfl
theorem Sim.add {a b x r q : Nat} (h : Sim a b) (g : Got (double.add a x) r) (k : Got (double.add b x) q) : Sim r q := by
  rcases h with rfl | ⟨h1, h2⟩
  · exact g.sim k
  · rw [add_nan h1] at g
    rw [add_nan h2] at k
    exact g.sim k
theorem Sim.div {a b x r q : Nat} (h : Sim a b) (g : Got (double.div a x) r) (k : Got (double.div b x) q) : Sim r q := by
  rcases h with rfl | ⟨h1, h2⟩
  · exact g.sim k
  · rw [div_nan h1] at g
    rw [div_nan h2] at k
    exact g.sim k

/-- the NaN that an operation hands back -/
theorem nan_cut (x y : Nat) (t : Nat) : fNan (Question.cut (.nanBits .f64 x y) t) = true ∧ Question.cut (.nanBits .f64 x y) t < 18446744073709551616 := by
  have e : Question.cut (.nanBits .f64 x y) t = (t % 2) * 9223372036854775808 + 9218868437227405312 + 1 + (t / 2) % 4503599627370495 := rfl
  rw [e]
  have h1 := Nat.mod_lt t (by omega : 2 > 0)
  have h2 := Nat.mod_lt (t / 2) (by omega : 4503599627370495 > 0)
  generalize t % 2 = p at *
  generalize t / 2 % 4503599627370495 = r at *
  refine ⟨?_, by omega⟩
  unfold fNan
  rw [read_double, if_neg (by omega), if_neg (by omega), if_neg (by omega)]
  rfl

end Go.Proofs.YtebeelphilfjhaaDoor
