/- MATHEMATICS of package inst for seats without Encode: what a word that has a row tells. -/
import Derived.Test.YtaokhegbfaokdaaDoorInstDec
import Derived.Test.YtaokhegbfaokdaaDoorInstWrites
import Derived.Test.YtaokhegbfaokdaaDoorMathB
namespace Go.Proofs.YtaokhegbfaokdaaDoor
open Go.ChangeShapes Go.WideShapes Go.ChangeAt Go.RowKit
set_option maxRecDepth 100000

def tb (a : Int) (k : Nat) : Bool := a.toNat.testBit k
theorem tb_fld (a i n : Int) (k : Nat) : tb ((fld a i n : Nat) : Int) k = (fitsB i n && (decide (k < n.toNat) && tb a (i.toNat + k))) := by
  unfold tb; rw [Int.toNat_natCast]; exact testBit_fld a i n k
theorem tb_stw (a i n v : Int) (k : Nat) (h : fitsB i n = true) : tb ((stw a i n v : Nat) : Int) k = (decide (k < 32) && bif decide (i.toNat ≤ k) && decide (k < i.toNat + n.toNat) then tb v (k - i.toNat) else tb a k) := by
  unfold tb; rw [Int.toNat_natCast]; exact testBit_stw a i n v k h
theorem tb_zero (k : Nat) : tb 0 k = false := by simp [tb]
theorem tb_shl {a : Int} (ha : 0 ≤ a) (i k : Nat) : tb (a * 2 ^ i % 4294967296) k = (decide (k < 32) && decide (i ≤ k) && tb a (k - i)) := by
  unfold tb
  have e := shl_cast a i ha
  rw [Int.toNat_natCast] at e
  rw [e, Int.toNat_natCast]
  exact testBit_shl32 _ _ _
theorem tb_shr {a : Int} (ha : 0 ≤ a) (i k : Nat) : tb (a / 2 ^ i) k = tb a (k + i) := by
  unfold tb
  have e := shr_cast a i ha (by omega)
  rw [Int.toNat_natCast] at e
  rw [e, Int.toNat_natCast, Nat.testBit_div_two_pow]
theorem tb_sxt (a n : Int) (k : Nat) (h : 1 ≤ n ∧ n ≤ 32) : tb ((sxt a n : Nat) : Int) k = (decide (k < 32) && bif decide (k < n.toNat) then tb a k else tb a (n.toNat - 1)) := by
  unfold tb sxt
  rw [show decide (1 ≤ n ∧ n ≤ 32) = true by simpa using h, cond_true, Int.toNat_natCast, testBit_mk]
  rfl
theorem wrap_of {a : Int} (h : 0 ≤ a ∧ a < 4294967296) : IntKind.u32.wrap a = a := by
  show a % 4294967296 = a
  omega
theorem eq_of_tb {a b : Int} (ha : 0 ≤ a ∧ a < 4294967296) (hb : 0 ≤ b ∧ b < 4294967296) (h : ∀ k, k < 32 → tb a k = tb b k) : a = b := by
  have : a.toNat = b.toNat := by
    apply Nat.eq_of_testBit_eq
    intro k
    by_cases hk : k < 32
    · exact h k hk
    · rw [testBit_high (by omega) (by omega), testBit_high (by omega) (by omega)]
  omega
theorem gth_nil (a : Int) : gth a [] = 0 := rfl
theorem gth1 (a p s : Int) : gth a [(p, s)] = (stw 0 0 s (fld a p s : Nat) : Nat) := rfl
theorem gth2 (a p s p2 s2 : Int) : gth a [(p, s), (p2, s2)] = (stw (stw 0 0 s (fld a p s : Nat) : Nat) (0 + s) s2 (fld a p2 s2 : Nat) : Nat) := rfl
theorem gth4 (a p s p2 s2 p3 s3 p4 s4 : Int) : gth a [(p, s), (p2, s2), (p3, s3), (p4, s4)] = (stw (stw (stw (stw 0 0 s (fld a p s : Nat) : Nat) (0 + s) s2 (fld a p2 s2 : Nat) : Nat) (0 + s + s2) s3 (fld a p3 s3 : Nat) : Nat) (0 + s + s2 + s3) s4 (fld a p4 s4 : Nat) : Nat) := rfl
theorem all32 {P : Nat → Prop} (h : P 0 ∧ P 1 ∧ P 2 ∧ P 3 ∧ P 4 ∧ P 5 ∧ P 6 ∧ P 7 ∧ P 8 ∧ P 9 ∧ P 10 ∧ P 11 ∧ P 12 ∧ P 13 ∧ P 14 ∧ P 15 ∧ P 16 ∧ P 17 ∧ P 18 ∧ P 19 ∧ P 20 ∧ P 21 ∧ P 22 ∧ P 23 ∧ P 24 ∧ P 25 ∧ P 26 ∧ P 27 ∧ P 28 ∧ P 29 ∧ P 30 ∧ P 31) : ∀ k, k < 32 → P k := by
  intro k hk
  obtain ⟨h0, h1, h2, h3, h4, h5, h6, h7, h8, h9, h10, h11, h12, h13, h14, h15, h16, h17, h18, h19, h20, h21, h22, h23, h24, h25, h26, h27, h28, h29, h30, h31⟩ := h
  have : k = 0 ∨ k = 1 ∨ k = 2 ∨ k = 3 ∨ k = 4 ∨ k = 5 ∨ k = 6 ∨ k = 7 ∨ k = 8 ∨ k = 9 ∨ k = 10 ∨ k = 11 ∨ k = 12 ∨ k = 13 ∨ k = 14 ∨ k = 15 ∨ k = 16 ∨ k = 17 ∨ k = 18 ∨ k = 19 ∨ k = 20 ∨ k = 21 ∨ k = 22 ∨ k = 23 ∨ k = 24 ∨ k = 25 ∨ k = 26 ∨ k = 27 ∨ k = 28 ∨ k = 29 ∨ k = 30 ∨ k = 31 := by omega
  rcases this with rfl | rfl | rfl | rfl | rfl | rfl | rfl | rfl | rfl | rfl | rfl | rfl | rfl | rfl | rfl | rfl | rfl | rfl | rfl | rfl | rfl | rfl | rfl | rfl | rfl | rfl | rfl | rfl | rfl | rfl | rfl | rfl <;> assumption
theorem sel_yes (c f3 f7 : Int) (h : selB c f3 f7 = true) : ∃ k, k < 45 ∧ selR c f3 f7 = rowAt k ∧ (rowAt k).2.2.1 = c ∧ (rowAt k).2.2.2.1 = f3 ∧ (rowAt k).2.2.2.2 = f7 := by
  unfold selB at h
  cases hf : rowsL.find? (hits c f3 f7) with
  | none => rw [hf] at h; exact absurd h (by simp)
  | some r =>
    obtain ⟨k, hk, hr⟩ := List.getElem_of_mem (List.mem_of_find?_eq_some hf)
    rw [rowsL_len] at hk
    have e : rowAt k = r := by
      unfold rowAt
      rw [List.getD_eq_getElem?_getD, List.getElem?_eq_getElem (by rw [rowsL_len]; exact hk), hr]
      rfl
    have hh := List.find?_some hf
    rw [← e] at hh
    unfold hits at hh
    simp only [Bool.and_eq_true, beq_iff_eq] at hh
    refine ⟨k, hk, ?_, hh.1, hh.2.1, hh.2.2⟩
    unfold selR
    rw [hf, e]
    rfl
theorem lt_of_tb {a : Int} {n : Nat} (ha : 0 ≤ a) (h : ∀ k, n ≤ k → tb a k = false) : a < 2 ^ n := by
  have := Nat.lt_pow_two_of_testBit a.toNat (fun k hk => h k hk)
  have e : ((2 : Int) ^ n) = ((2 ^ n : Nat) : Int) := by simp
  rw [e]
  omega
theorem tb_high {a : Int} (h : 0 ≤ a ∧ a < 4294967296) {k : Nat} (hk : 32 ≤ k) : tb a k = false := testBit_high (by omega) hk

set_option linter.unusedSimpArgs false
theorem gth_rd (w : Int) : 0 ≤ gth w [(7, 5)] ∧ gth w [(7, 5)] < 32 := by
  refine ⟨(gth_range w _).1, lt_of_tb (n := 5) (gth_range w _).1 (fun k hk => ?_)⟩
  by_cases h : k < 32
  · have := all32 (P := fun k => 5 ≤ k → tb (gth w [(7, 5)]) k = false) (by simp [tb_fld, tb_stw, fitsB, gth1, gth2, gth4, tb_zero]) k h
    exact this hk
  · exact tb_high (gth_range w _) (by omega)
theorem gth_rs1 (w : Int) : 0 ≤ gth w [(15, 5)] ∧ gth w [(15, 5)] < 32 := by
  refine ⟨(gth_range w _).1, lt_of_tb (n := 5) (gth_range w _).1 (fun k hk => ?_)⟩
  by_cases h : k < 32
  · have := all32 (P := fun k => 5 ≤ k → tb (gth w [(15, 5)]) k = false) (by simp [tb_fld, tb_stw, fitsB, gth1, gth2, gth4, tb_zero]) k h
    exact this hk
  · exact tb_high (gth_range w _) (by omega)
theorem gth_rs2 (w : Int) : 0 ≤ gth w [(20, 5)] ∧ gth w [(20, 5)] < 32 := by
  refine ⟨(gth_range w _).1, lt_of_tb (n := 5) (gth_range w _).1 (fun k hk => ?_)⟩
  by_cases h : k < 32
  · have := all32 (P := fun k => 5 ≤ k → tb (gth w [(20, 5)]) k = false) (by simp [tb_fld, tb_stw, fitsB, gth1, gth2, gth4, tb_zero]) k h
    exact this hk
  · exact tb_high (gth_range w _) (by omega)
theorem gth_i (w : Int) : 0 ≤ gth w [(20, 12)] ∧ gth w [(20, 12)] < 4096 := by
  refine ⟨(gth_range w _).1, lt_of_tb (n := 12) (gth_range w _).1 (fun k hk => ?_)⟩
  by_cases h : k < 32
  · have := all32 (P := fun k => 12 ≤ k → tb (gth w [(20, 12)]) k = false) (by simp [tb_fld, tb_stw, fitsB, gth1, gth2, gth4, tb_zero]) k h
    exact this hk
  · exact tb_high (gth_range w _) (by omega)
theorem gth_s (w : Int) : 0 ≤ gth w [(7, 5), (25, 7)] ∧ gth w [(7, 5), (25, 7)] < 4096 := by
  refine ⟨(gth_range w _).1, lt_of_tb (n := 12) (gth_range w _).1 (fun k hk => ?_)⟩
  by_cases h : k < 32
  · have := all32 (P := fun k => 12 ≤ k → tb (gth w [(7, 5), (25, 7)]) k = false) (by simp [tb_fld, tb_stw, fitsB, gth1, gth2, gth4, tb_zero]) k h
    exact this hk
  · exact tb_high (gth_range w _) (by omega)
theorem gth_b (w : Int) : 0 ≤ gth w [(8, 4), (25, 6), (7, 1), (31, 1)] ∧ gth w [(8, 4), (25, 6), (7, 1), (31, 1)] < 4096 := by
  refine ⟨(gth_range w _).1, lt_of_tb (n := 12) (gth_range w _).1 (fun k hk => ?_)⟩
  by_cases h : k < 32
  · have := all32 (P := fun k => 12 ≤ k → tb (gth w [(8, 4), (25, 6), (7, 1), (31, 1)]) k = false) (by simp [tb_fld, tb_stw, fitsB, gth1, gth2, gth4, tb_zero]) k h
    exact this hk
  · exact tb_high (gth_range w _) (by omega)
theorem gth_u (w : Int) : 0 ≤ gth w [(12, 20)] ∧ gth w [(12, 20)] < 1048576 := by
  refine ⟨(gth_range w _).1, lt_of_tb (n := 20) (gth_range w _).1 (fun k hk => ?_)⟩
  by_cases h : k < 32
  · have := all32 (P := fun k => 20 ≤ k → tb (gth w [(12, 20)]) k = false) (by simp [tb_fld, tb_stw, fitsB, gth1, gth2, gth4, tb_zero]) k h
    exact this hk
  · exact tb_high (gth_range w _) (by omega)
theorem gth_j (w : Int) : 0 ≤ gth w [(21, 10), (20, 1), (12, 8), (31, 1)] ∧ gth w [(21, 10), (20, 1), (12, 8), (31, 1)] < 1048576 := by
  refine ⟨(gth_range w _).1, lt_of_tb (n := 20) (gth_range w _).1 (fun k hk => ?_)⟩
  by_cases h : k < 32
  · have := all32 (P := fun k => 20 ≤ k → tb (gth w [(21, 10), (20, 1), (12, 8), (31, 1)]) k = false) (by simp [tb_fld, tb_stw, fitsB, gth1, gth2, gth4, tb_zero]) k h
    exact this hk
  · exact tb_high (gth_range w _) (by omega)

/-- all rows, the three whole words behind -/
def rows48 : List Row := rowsL ++ [(46, 7, 15, 0, 0), (47, 7, 115, 0, 0), (48, 7, 1048691, 0, 0)]
theorem rowAt_mem (k : Nat) (hk : k < 45) : rowAt k ∈ rowsL := by
  unfold rowAt
  rw [List.getD_eq_getElem?_getD, List.getElem?_eq_getElem (by rw [rowsL_len]; exact hk)]
  exact List.getElem_mem _
theorem chR_mem (w : Int) (h : chB w = true) : chR w ∈ rows48 := by
  unfold rows48
  by_cases h1 : w = 15
  · subst h1; decide +kernel
  by_cases h2 : w = 115
  · subst h2; decide +kernel
  by_cases h3 : w = 1048691
  · subst h3; decide +kernel
  have hR : chR w = selR (cOf w) (f3Of (cOf w) (fld w 12 3 : Nat)) (f7Of (cOf w) (fld w 12 3 : Nat) (fld w 25 7 : Nat)) := by
    unfold chR; rw [if_neg h1, if_neg h2, if_neg h3]
  have hB : chB w = selB (cOf w) (f3Of (cOf w) (fld w 12 3 : Nat)) (f7Of (cOf w) (fld w 12 3 : Nat) (fld w 25 7 : Nat)) := by
    unfold chB; rw [if_neg (by omega)]
  rw [hB] at h
  obtain ⟨k, hk, hs, _⟩ := sel_yes _ _ _ h
  rw [hR, hs]
  exact List.mem_append_left _ (rowAt_mem k hk)

/-- a word's registers are 0 to 31 -/
theorem rd_range (w form : Int) : 0 ≤ gth w (rdL form) ∧ gth w (rdL form) ≤ 31 := by
  unfold rdL
  split
  · rw [gth_nil]; omega
  · have := gth_rd w; omega
theorem rs1_range (w form : Int) : 0 ≤ gth w (rs1L form) ∧ gth w (rs1L form) ≤ 31 := by
  unfold rs1L
  split
  · rw [gth_nil]; omega
  · have := gth_rs1 w; omega
theorem rs2_range (w form : Int) : 0 ≤ gth w (rs2L form) ∧ gth w (rs2L form) ≤ 31 := by
  unfold rs2L
  split
  · have := gth_rs2 w; omega
  · rw [gth_nil]; omega

/-- a sign that is continued, as a signed number: 12, 13 and 21 bits -/
theorem sxt12 (x : Int) (h0 : 0 ≤ x) (h1 : x < 4096) : wrap32 ((sxt x 12 : Nat) : Int) = if x < 2048 then x else x - 4096 := by
  have e := sxt_form x 12 h0 (by omega) (by decide) (by decide)
  rw [← e, show ((2 : Int) ^ (32 - (12 : Int)).toNat) = 1048576 from rfl]
  unfold wrap32
  split <;> omega
theorem sxt13 (x : Int) (h0 : 0 ≤ x) (h1 : x < 8192) : wrap32 ((sxt x 13 : Nat) : Int) = if x < 4096 then x else x - 8192 := by
  have e := sxt_form x 13 h0 (by omega) (by decide) (by decide)
  rw [← e, show ((2 : Int) ^ (32 - (13 : Int)).toNat) = 524288 from rfl]
  unfold wrap32
  split <;> omega
theorem sxt21 (x : Int) (h0 : 0 ≤ x) (h1 : x < 2097152) : wrap32 ((sxt x 21 : Nat) : Int) = if x < 1048576 then x else x - 2097152 := by
  have e := sxt_form x 21 h0 (by omega) (by decide) (by decide)
  rw [← e, show ((2 : Int) ^ (32 - (21 : Int)).toNat) = 2048 from rfl]
  unfold wrap32
  split <;> omega
theorem sxt0 (x : Int) (h0 : 0 ≤ x) : ((sxt x 0 : Nat) : Int) = x := by
  unfold sxt
  rw [show decide (1 ≤ (0 : Int) ∧ (0 : Int) ≤ 32) = false from rfl, cond_false]
  omega

theorem numV_range (a form : Int) : 0 ≤ numV a form ∧ numV a form < 4294967296 := by
  unfold numV
  have := sxt_lt (gth a (numL form) * 2 ^ (fromI form).toNat % 4294967296) (sizeI form) (Int.emod_lt_of_pos _ (by decide))
  omega
/-- what a form's number is, as a signed one -/
def numOK (form n : Int) : Prop :=
  if form = 4 then n % 2 = 0 ∧ -4096 ≤ n ∧ n < 4096 else if form = 6 then n % 2 = 0 ∧ -1048576 ≤ n ∧ n < 1048576 else if form = 5 then n % 4096 = 0 else if form = 2 then 0 ≤ n ∧ n < 32 else -2048 ≤ n ∧ n < 2048
theorem num_nil (w form : Int) (h : numL form = []) : numV w form = 0 := by
  unfold numV
  rw [h, gth_nil, show (0 * 2 ^ (fromI form).toNat % 4294967296 : Int) = 0 by simp]
  unfold sxt
  cases decide (1 ≤ sizeI form ∧ sizeI form ≤ 32)
  · rfl
  · rw [cond_true]
    have : mk (sxb (sizeI form).toNat (0 : Int).toNat) 32 = 0 := by
      apply Nat.eq_of_testBit_eq
      intro k
      rw [testBit_mk]
      unfold sxb
      simp
    rw [this]
    rfl
theorem numW_ok (w form : Int) (h : form = 0 ∨ form = 1 ∨ form = 2 ∨ form = 3 ∨ form = 4 ∨ form = 5 ∨ form = 6 ∨ form = 7) : numOK form (wrap32 (numV w form)) := by
  rcases h with rfl | rfl | rfl | rfl | rfl | rfl | rfl | rfl
  · rw [num_nil _ _ rfl, show wrap32 0 = 0 by unfold wrap32; omega]; unfold numOK; decide
  · have := gth_i w
    show numOK 1 (wrap32 ((sxt (gth w [(20, 12)] * 1 % 4294967296) 12 : Nat) : Int))
    rw [sxt12 _ (by omega) (by omega)]
    unfold numOK
    simp
    split <;> omega
  · have := gth_rs2 w
    show numOK 2 (wrap32 ((sxt (gth w [(20, 5)] * 1 % 4294967296) 0 : Nat) : Int))
    rw [sxt0 _ (by omega)]
    unfold numOK wrap32
    simp
    omega
  · have := gth_s w
    show numOK 3 (wrap32 ((sxt (gth w [(7, 5), (25, 7)] * 1 % 4294967296) 12 : Nat) : Int))
    rw [sxt12 _ (by omega) (by omega)]
    unfold numOK
    simp
    split <;> omega
  · have := gth_b w
    show numOK 4 (wrap32 ((sxt (gth w [(8, 4), (25, 6), (7, 1), (31, 1)] * 2 % 4294967296) 13 : Nat) : Int))
    rw [sxt13 _ (by omega) (by omega)]
    unfold numOK
    simp
    split <;> omega
  · have := gth_u w
    show numOK 5 (wrap32 ((sxt (gth w [(12, 20)] * 4096 % 4294967296) 0 : Nat) : Int))
    rw [sxt0 _ (by omega)]
    unfold numOK wrap32
    simp
    omega
  · have := gth_j w
    show numOK 6 (wrap32 ((sxt (gth w [(21, 10), (20, 1), (12, 8), (31, 1)] * 2 % 4294967296) 21 : Nat) : Int))
    rw [sxt21 _ (by omega) (by omega)]
    unfold numOK
    simp
    split <;> omega
  · rw [num_nil _ _ rfl, show wrap32 0 = 0 by unfold wrap32; omega]; unfold numOK; decide

/-- what a row's kind says of its form -/
def kindOK (r : Row) : Prop :=
  0 ≤ kindI r.1 ∧ kindI r.1 ≤ 6 ∧ (if kindI r.1 = 3 ∨ kindI r.1 = 4 then 0 < sizeOp r.1 else sizeOp r.1 = 0) ∧ (kindI r.1 = 4 → rdL r.2.1 = []) ∧ (kindI r.1 = 3 → rs2L r.2.1 = []) ∧ (kindI r.1 = 1 ∨ kindI r.1 = 2 → numL r.2.1 = []) ∧ (kindI r.1 = 6 → r.2.1 = 7) ∧
  rowEB r.1 = true ∧ rowE r.1 = r ∧ 0 ≤ r.2.1 ∧ r.2.1 ≤ 7 ∧
  (5 ≤ r.1 ∧ r.1 ≤ 10 ↔ r.2.1 = 4) ∧ (r.1 = 3 ↔ r.2.1 = 6) ∧ (r.1 = 1 ∨ r.1 = 2 ↔ r.2.1 = 5) ∧ (25 ≤ r.1 ∧ r.1 ≤ 27 ↔ r.2.1 = 2) ∧ (46 ≤ r.1 ↔ r.2.1 = 7) ∧ (kindI r.1 = 4 ↔ r.2.1 = 3) ∧ 1 ≤ r.1 ∧ r.1 ≤ 48
instance (r : Row) : Decidable (kindOK r) := by unfold kindOK; infer_instance
theorem rows_ok : ∀ r ∈ rows48, kindOK r := by decide +kernel
theorem kindW_ok (w : Int) (h : chB w = true) : kindOK (chR w) := rows_ok _ (chR_mem w h)
/-- what a word's instruction writes -/
theorem wrW_ok (w : Int) (h : chB w = true) : wrI (chR w).1 (gth w (rdL (chR w).2.1)) = gth w (rdL (chR w).2.1) := by
  have ok := kindW_ok w h
  unfold kindOK at ok
  obtain ⟨_, _, _, _, _, _, _, hb, he, _⟩ := ok
  unfold wrI
  rw [hb, he]
  by_cases hn : rdL (chR w).2.1 = []
  · rw [hn, gth_nil]; simp
  · rw [if_pos ⟨rfl, hn⟩]

end Go.Proofs.YtaokhegbfaokdaaDoor
