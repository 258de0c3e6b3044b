/- THE MATHEMATICS of the reference of layer 2: fields that are added up are the gathered ones; the operation by its fields. -/
import Derived.Test.YtkamljmopbocnaaGreatDoorInstRng
namespace Go.Proofs.YtkamljmopbocnaaGreatDoor
open Go.ChangeShapes Go.WideShapes Go.ChangeAt Go.RowKit
set_option maxRecDepth 100000

set_option linter.unusedSimpArgs false
theorem stw_add (x v : Nat) (i n : Int) (hf : fitsB i n = true) (hx : x < 2 ^ i.toNat) (hv : v < 2 ^ n.toNat) : stw (x : Int) i n (v : Int) = 2 ^ i.toNat * v + x := by
  have hq := fitsB_iff.1 hf
  unfold stw
  rw [hf, cond_true]
  simp only [Int.toNat_natCast]
  symm
  refine eq_mk fun k => ?_
  rw [Nat.testBit_two_pow_mul_add _ hx]
  unfold stb
  by_cases h1 : k < i.toNat
  · simp [h1, show k < 32 by omega, show ¬ i.toNat ≤ k by omega]
  · by_cases h2 : k < i.toNat + n.toNat
    · simp [h1, h2, show k < 32 by omega, show i.toNat ≤ k by omega]
    · have z1 : v.testBit (k - i.toNat) = false := Nat.testBit_lt_two_pow (Nat.lt_of_lt_of_le hv (Nat.pow_le_pow_right (by omega) (by omega)))
      have z2 : x.testBit k = false := Nat.testBit_lt_two_pow (Nat.lt_of_lt_of_le hx (Nat.pow_le_pow_right (by omega) (by omega)))
      simp [h1, h2, z1, z2]
theorem fld_lt2 (a i n : Int) : fld a i n < 2 ^ n.toNat := by
  unfold fld
  cases h : fitsB i n
  · exact Nat.two_pow_pos _
  · exact mk_lt _ _
theorem gth_one (a p s : Int) (hs : 1 ≤ s ∧ s ≤ 32) : gth a [(p, s)] = (fld a p s : Nat) := by
  rw [gth1]
  have := stw_add 0 (fld a p s) 0 s (by simpa [fitsB] using hs) (by simp) (fld_lt2 a p s)
  simp at this
  exact congrArg Int.ofNat this
theorem g_s (a : Int) : gth a [(7, 5), (25, 7)] = ((fld a 7 5 + 32 * fld a 25 7 : Nat) : Int) := by
  have h1 := gth_one a 7 5 (by omega)
  rw [gth1] at h1
  rw [gth2, h1]
  have b1 := fld_lt2 a 7 5
  have := stw_add (fld a 7 5) (fld a 25 7) (0 + 5) 7 (by decide) (by simpa using b1) (fld_lt2 a 25 7)
  rw [this]
  simp
  omega
theorem g_b (a : Int) : gth a [(8, 4), (25, 6), (7, 1), (31, 1)] = ((fld a 8 4 + 16 * fld a 25 6 + 1024 * fld a 7 1 + 2048 * fld a 31 1 : Nat) : Int) := by
  have h1 := gth_one a 8 4 (by omega)
  rw [gth1] at h1
  rw [gth4, h1]
  have b1 := fld_lt2 a 8 4
  have b2 := fld_lt2 a 25 6
  have b3 := fld_lt2 a 7 1
  have b4 := fld_lt2 a 31 1
  simp only [show (4 : Int).toNat = 4 from rfl, show (6 : Int).toNat = 6 from rfl, show (1 : Int).toNat = 1 from rfl, show (1 : Int).toNat = 1 from rfl] at b1 b2 b3 b4
  have e1 := stw_add (fld a 8 4) (fld a 25 6) (0 + 4) 6 (by decide) (by simpa using b1) (by simpa using b2)
  rw [e1]
  have e2 := stw_add (2 ^ ((0 + 4 : Int)).toNat * fld a 25 6 + fld a 8 4) (fld a 7 1) (0 + 4 + 6) 1 (by decide) (by simp; omega) (by simpa using b3)
  rw [e2]
  have e3 := stw_add (2 ^ ((0 + 4 + 6 : Int)).toNat * fld a 7 1 + (2 ^ ((0 + 4 : Int)).toNat * fld a 25 6 + fld a 8 4)) (fld a 31 1) (0 + 4 + 6 + 1) 1 (by decide) (by simp; omega) (by simpa using b4)
  rw [e3]
  simp
  omega
theorem g_j (a : Int) : gth a [(21, 10), (20, 1), (12, 8), (31, 1)] = ((fld a 21 10 + 1024 * fld a 20 1 + 2048 * fld a 12 8 + 524288 * fld a 31 1 : Nat) : Int) := by
  have h1 := gth_one a 21 10 (by omega)
  rw [gth1] at h1
  rw [gth4, h1]
  have b1 := fld_lt2 a 21 10
  have b2 := fld_lt2 a 20 1
  have b3 := fld_lt2 a 12 8
  have b4 := fld_lt2 a 31 1
  simp only [show (10 : Int).toNat = 10 from rfl, show (1 : Int).toNat = 1 from rfl, show (8 : Int).toNat = 8 from rfl, show (1 : Int).toNat = 1 from rfl] at b1 b2 b3 b4
  have e1 := stw_add (fld a 21 10) (fld a 20 1) (0 + 10) 1 (by decide) (by simpa using b1) (by simpa using b2)
  rw [e1]
  have e2 := stw_add (2 ^ ((0 + 10 : Int)).toNat * fld a 20 1 + fld a 21 10) (fld a 12 8) (0 + 10 + 1) 8 (by decide) (by simp; omega) (by simpa using b3)
  rw [e2]
  have e3 := stw_add (2 ^ ((0 + 10 + 1 : Int)).toNat * fld a 12 8 + (2 ^ ((0 + 10 : Int)).toNat * fld a 20 1 + fld a 21 10)) (fld a 31 1) (0 + 10 + 1 + 8) 1 (by decide) (by simp; omega) (by simpa using b4)
  rw [e3]
  simp
  omega

/-- the operation of a register form, of a number's form, of any word, as the document's table has it -/
def regI (f3 f7 : Int) : Int := if f7 = 0 then [28, 30, 31, 32, 33, 34, 36, 37].getD f3.toNat 0 else if f7 = 1 then [38, 39, 40, 41, 42, 43, 44, 45].getD f3.toNat 0 else if f7 = 32 ∧ f3 = 0 then 29 else if f7 = 32 ∧ f3 = 5 then 35 else 0
def immI (f3 f7 : Int) : Int := if f3 = 1 then (if f7 = 0 then 25 else 0) else if f3 = 5 then (if f7 = 0 then 26 else if f7 = 32 then 27 else 0) else [19, 0, 20, 21, 22, 0, 23, 24].getD f3.toNat 0
def opC (c f3 f7 : Int) : Int := if c = 55 then 1 else if c = 23 then 2 else if c = 111 then 3 else if c = 103 then [4].getD f3.toNat 0 else if c = 99 then [5, 6, 0, 0, 7, 8, 9, 10].getD f3.toNat 0 else
  if c = 3 then [11, 12, 13, 0, 14, 15].getD f3.toNat 0 else if c = 35 then [16, 17, 18].getD f3.toNat 0 else if c = 19 then immI f3 f7 else if c = 51 then regI f3 f7 else 0
def opI (w : Int) : Int := if w = 15 then 46 else if w = 115 then 47 else if w = 1048691 then 48 else opC (fld w 0 7 : Nat) (fld w 12 3 : Nat) (fld w 25 7 : Nat)

def selO (c f3 f7 : Int) : Int := if selB c f3 f7 = true then (selR c f3 f7).1 else 0
theorem selO_eq (c f3 f7 : Int) : selO c f3 f7 = ((rowsL.find? (hits c f3 f7)).getD (0, 0, 0, 0, 0)).1 := by
  unfold selO selB selR
  cases rowsL.find? (hits c f3 f7) <;> simp

theorem opC_sel (c f3 f7 : Int) (h3 : 0 ≤ f3 ∧ f3 < 8) : opC c f3 f7 = selO c (f3Of c f3) (f7Of c f3 f7) := by
  have hf : f3 = 0 ∨ f3 = 1 ∨ f3 = 2 ∨ f3 = 3 ∨ f3 = 4 ∨ f3 = 5 ∨ f3 = 6 ∨ f3 = 7 := by omega
  by_cases c55 : c = 55
  · subst c55; rfl
  by_cases c23 : c = 23
  · subst c23; rfl
  by_cases c111 : c = 111
  · subst c111; rfl
  by_cases c103 : c = 103
  · subst c103; rcases hf with rfl | rfl | rfl | rfl | rfl | rfl | rfl | rfl <;> rfl
  by_cases c99 : c = 99
  · subst c99; rcases hf with rfl | rfl | rfl | rfl | rfl | rfl | rfl | rfl <;> rfl
  by_cases c3 : c = 3
  · subst c3; rcases hf with rfl | rfl | rfl | rfl | rfl | rfl | rfl | rfl <;> rfl
  by_cases c35 : c = 35
  · subst c35; rcases hf with rfl | rfl | rfl | rfl | rfl | rfl | rfl | rfl <;> rfl
  have hfz : f7 = 0 ∨ f7 = 1 ∨ f7 = 32 ∨ (f7 ≠ 0 ∧ f7 ≠ 1 ∧ f7 ≠ 32) := by omega
  by_cases c19 : c = 19
  · subst c19
    rcases hf with rfl | rfl | rfl | rfl | rfl | rfl | rfl | rfl
    · rfl
    · rcases hfz with rfl | rfl | rfl | ⟨n0, n1, n2⟩
      · rfl
      · rfl
      · rfl
      · rw [selO_eq]
        have e : f7Of 19 1 f7 = f7 := rfl
        rw [e]
        simp [opC, immI, n0, rowsL, hits, f3Of, Ne.symm n0, Ne.symm n2]
    · rfl
    · rfl
    · rfl
    · rcases hfz with rfl | rfl | rfl | ⟨n0, n1, n2⟩
      · rfl
      · rfl
      · rfl
      · rw [selO_eq]
        have e : f7Of 19 5 f7 = f7 := rfl
        rw [e]
        simp [opC, immI, n0, n2, rowsL, hits, f3Of, Ne.symm n0, Ne.symm n2]
    · rfl
    · rfl
  by_cases c51 : c = 51
  · subst c51
    rcases hfz with rfl | rfl | rfl | ⟨n0, n1, n2⟩
    · rcases hf with rfl | rfl | rfl | rfl | rfl | rfl | rfl | rfl <;> rfl
    · rcases hf with rfl | rfl | rfl | rfl | rfl | rfl | rfl | rfl <;> rfl
    · rcases hf with rfl | rfl | rfl | rfl | rfl | rfl | rfl | rfl <;> rfl
    · rw [selO_eq]
      have e : f7Of 51 f3 f7 = f7 := by simp [f7Of]
      rw [e]
      simp [opC, regI, n0, n1, n2, rowsL, hits, f3Of, Ne.symm n0, Ne.symm n1, Ne.symm n2]
  rw [selO_eq]
  simp [opC, rowsL, hits, f3Of, f7Of, c55, c23, c111, c103, c99, c3, c35, c19, c51, Ne.symm c55, Ne.symm c23, Ne.symm c111, Ne.symm c103, Ne.symm c99, Ne.symm c3, Ne.symm c35, Ne.symm c19, Ne.symm c51]

theorem op_eq (w : Int) : opI w = if chB w = true then (chR w).1 else 0 := by
  unfold opI
  by_cases h1 : w = 15
  · subst h1; rw [if_pos rfl]; decide +kernel
  by_cases h2 : w = 115
  · subst h2; rw [if_neg (by decide), if_pos rfl]; decide +kernel
  by_cases h3 : w = 1048691
  · subst h3; rw [if_neg (by decide), if_neg (by decide), if_pos rfl]; decide +kernel
  rw [if_neg h1, if_neg h2, if_neg h3, opC_sel _ _ _ (by have := fld_lt2 w 12 3; simp at this; omega)]
  have hR : chR w = selR (cOf w) (f3Of (cOf w) (fld w 12 3 : Nat)) (f7Of (cOf w) (fld w 12 3 : Nat) (fld w 25 7 : Nat)) := by
    unfold chR; rw [if_neg h1, if_neg h2, if_neg h3]
  have hB : chB w = selB (cOf w) (f3Of (cOf w) (fld w 12 3 : Nat)) (f7Of (cOf w) (fld w 12 3 : Nat) (fld w 25 7 : Nat)) := by
    unfold chB; rw [if_neg (by omega)]
  rw [hR, hB]
  rfl

end Go.Proofs.YtkamljmopbocnaaGreatDoor
