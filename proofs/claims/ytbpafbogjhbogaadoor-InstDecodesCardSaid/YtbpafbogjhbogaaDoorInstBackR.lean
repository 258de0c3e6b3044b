/- The row of a word that has one; the word made again. -/
import Derived.Test.YtbpafbogjhbogaaDoorInstBackM
import Derived.Test.YtbpafbogjhbogaaDoorInstChosen
namespace Go.Proofs.YtbpafbogjhbogaaDoor
open Go.ChangeShapes Go.WideShapes Go.ChangeAt Go.RowKit

theorem sel_yes (c f3 f7 : Int) (h : selB c f3 f7 = true) : ∃ k, k < 45 ∧ selR c f3 f7 = rowAt k ∧ (rowAt k).2.2.1 = c ∧ (rowAt k).2.2.2.1 = f3 ∧ (rowAt k).2.2.2.2 = f7 := by
  unfold selB at h
  cases hf : rowsL.find? (hits c f3 f7) with
  | none => rw [hf] at h; exact absurd h (by simp)
  | some r =>
    obtain ⟨k, hk, hr⟩ := List.getElem_of_mem (List.mem_of_find?_eq_some hf)
    rw [rowsL_len] at hk
    have e : rowAt k = r := by
      unfold rowAt
      rw [List.getD_eq_getElem?_getD, List.getElem?_eq_getElem (by rw [rowsL_len]; exact hk), hr]
      rfl
    have hh := List.find?_some hf
    rw [← e] at hh
    unfold hits at hh
    simp only [Bool.and_eq_true, beq_iff_eq] at hh
    refine ⟨k, hk, ?_, hh.1, hh.2.1, hh.2.2⟩
    unfold selR
    rw [hf, e]
    rfl
/-- what a form says of the fields -/
def formOK (r : Row) : Prop :=
  (r.2.1 = 0 ∧ r.2.2.1 = 51) ∨ (r.2.1 = 1 ∧ (r.2.2.1 = 103 ∨ r.2.2.1 = 3 ∨ (r.2.2.1 = 19 ∧ r.2.2.2.1 ≠ 1 ∧ r.2.2.2.1 ≠ 5))) ∨ (r.2.1 = 2 ∧ r.2.2.1 = 19 ∧ (r.2.2.2.1 = 1 ∨ r.2.2.2.1 = 5)) ∨ (r.2.1 = 3 ∧ r.2.2.1 = 35) ∨ (r.2.1 = 4 ∧ r.2.2.1 = 99) ∨ (r.2.1 = 5 ∧ (r.2.2.1 = 55 ∨ r.2.2.1 = 23)) ∨ (r.2.1 = 6 ∧ r.2.2.1 = 111)
instance (r : Row) : Decidable (formOK r) := by unfold formOK; infer_instance
theorem rowAt_form : ∀ k, k < 45 → formOK (rowAt k) := by decide
theorem rowE_at (k : Nat) (hk : k < 45) : rowE (rowAt k).1 = rowAt k ∧ rowEB (rowAt k).1 = true := by
  rw [rowAt_op k hk]
  unfold rowE rowEB rowFor rowIs
  rw [if_neg (by omega), if_neg (by omega), if_neg (by omega), if_pos (by omega), if_neg (by omega)]
  refine ⟨by rw [show ((k : Int) + 1).toNat - 1 = k by omega], by simp; omega⟩

/-- a word that has a row is made again -/
theorem back_any (w : Int) (hw : 0 ≤ w ∧ w < 4294967296) (h : chB w = true) :
    rowE (chR w).1 = chR w ∧ rowEB (chR w).1 = true ∧
    e4 (chR w).2.2.1 (chR w).2.2.2.1 (chR w).2.2.2.2 (chR w).2.1 (gth w (rdL (chR w).2.1)) (gth w (rs1L (chR w).2.1)) (gth w (rs2L (chR w).2.1)) (numV w (chR w).2.1) = w := by
  by_cases h1 : w = 15
  · subst h1; exact ⟨by decide +kernel, by decide +kernel, by decide +kernel⟩
  by_cases h2 : w = 115
  · subst h2; exact ⟨by decide +kernel, by decide +kernel, by decide +kernel⟩
  by_cases h3 : w = 1048691
  · subst h3; exact ⟨by decide +kernel, by decide +kernel, by decide +kernel⟩
  have hR : chR w = selR (cOf w) (f3Of (cOf w) (fld w 12 3 : Nat)) (f7Of (cOf w) (fld w 12 3 : Nat) (fld w 25 7 : Nat)) := by
    unfold chR; rw [if_neg h1, if_neg h2, if_neg h3]
  have hB : chB w = selB (cOf w) (f3Of (cOf w) (fld w 12 3 : Nat)) (f7Of (cOf w) (fld w 12 3 : Nat) (fld w 25 7 : Nat)) := by
    unfold chB; rw [if_neg (by omega)]
  rw [hB] at h
  obtain ⟨k, hk, hs, e1, e2, e3⟩ := sel_yes _ _ _ h
  rw [← hR] at hs
  rw [hs]
  refine ⟨(rowE_at k hk).1, (rowE_at k hk).2, ?_⟩
  have hform := rowAt_form k hk
  unfold formOK at hform
  generalize rowAt k = r at *
  obtain ⟨op, form, c, f3, f7⟩ := r
  simp only at e1 e2 e3 hform ⊢
  have hcw : c = ((fld w 0 7 : Nat) : Int) := e1
  rw [← e1] at e2 e3
  unfold f3Of at e2
  unfold f7Of at e3
  rcases hform with ⟨rfl, hc⟩ | ⟨rfl, hc⟩ | ⟨rfl, hc, hq⟩ | ⟨rfl, hc⟩ | ⟨rfl, hc⟩ | ⟨rfl, hc⟩ | ⟨rfl, hc⟩
  · rw [if_neg (by omega)] at e2; rw [if_neg (by omega), if_neg (by omega)] at e3
    rw [hcw, e2, e3]; exact back_R w hw
  · rw [if_neg (by omega)] at e2
    have e3' : f7 = 0 := by
      rcases hc with hc | hc | ⟨hc, n1, n5⟩
      · rw [if_pos (by omega)] at e3; exact e3
      · rw [if_pos (by omega)] at e3; exact e3
      · rw [if_neg (by omega), if_pos ⟨hc, by rw [← e2]; exact n1, by rw [← e2]; exact n5⟩] at e3; exact e3
    rw [hcw, e2, e3']; exact back_I w hw
  · rw [if_neg (by omega)] at e2; rw [if_neg (by omega), if_neg (by rw [← e2]; omega)] at e3
    rw [hcw, e2, e3]; exact back_T w hw
  · rw [if_neg (by omega)] at e2; rw [if_pos (by omega)] at e3
    rw [hcw, e2, e3]; exact back_S w hw
  · rw [if_neg (by omega)] at e2; rw [if_pos (by omega)] at e3
    rw [hcw, e2, e3]; exact back_B w hw
  · rw [if_pos (by omega)] at e2; rw [if_pos (by omega)] at e3
    rw [hcw, e2, e3]; exact back_U w hw
  · rw [if_pos (by omega)] at e2; rw [if_pos (by omega)] at e3
    rw [hcw, e2, e3]; exact back_J w hw

end Go.Proofs.YtbpafbogjhbogaaDoor
