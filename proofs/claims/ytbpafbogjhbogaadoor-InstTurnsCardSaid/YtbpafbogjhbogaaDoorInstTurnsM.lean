/- THE MATHEMATICS of InstTurns: a word with another register's number where it writes. -/
import Derived.Test.YtbpafbogjhbogaaDoorInstMore
namespace Go.Proofs.YtbpafbogjhbogaaDoor
open Go.ChangeShapes Go.WideShapes Go.ChangeAt Go.RowKit

theorem i64_and31 (a : Int) : bits .and .i64 a 31 = a % 32 := by
  show IntKind.i64.wrap ((BitVec.ofInt 64 a &&& BitVec.ofInt 64 31).toNat : Int) = _
  have h : (BitVec.ofInt 64 a &&& BitVec.ofInt 64 31).toNat = (BitVec.ofInt 64 a).toNat % 32 := by
    rw [BitVec.toNat_and, show (BitVec.ofInt 64 31).toNat = 31 from rfl]
    exact Nat.and_two_pow_sub_one_eq_mod _ 5
  rw [h, BitVec.toNat_ofInt]
  have e : ((a % ((2 ^ 64 : Nat) : Int)).toNat % 32 : Nat) = (a % 32).toNat := by
    rw [show ((2 ^ 64 : Nat) : Int) = 18446744073709551616 from rfl]
    omega
  rw [e]
  have h1 : 0 ≤ a % 32 ∧ a % 32 < 32 := by omega
  rw [show (((a % 32).toNat : Nat) : Int) = a % 32 by omega]
  simp [IntKind.wrap, IntKind.bits, IntKind.signed]
  omega

/-- the word w with register number r where it writes -/
def trn (w r : Int) : Int := orW (bits .andNot .u32 w 3968) (r * 128)

theorem not_range (w : Int) (hw : 0 ≤ w ∧ w < 4294967296) : 0 ≤ bits .andNot .u32 w 3968 ∧ bits .andNot .u32 w 3968 < 4294967296 := by
  rw [u32_andNot w 3968 hw.1 hw.2 (by decide) (by decide)]
  have : w.toNat &&& (4294967295 - (3968 : Int).toNat) ≤ w.toNat := Nat.and_le_left
  omega
theorem tb_not (w : Int) (hw : 0 ≤ w ∧ w < 4294967296) (k : Nat) : tb (bits .andNot .u32 w 3968) k = (tb w k && tb 4294963327 k) := by
  unfold tb
  rw [u32_andNot w 3968 hw.1 hw.2 (by decide) (by decide), Int.toNat_natCast, Nat.testBit_and]
  rfl
theorem trn_range (w r : Int) (hw : 0 ≤ w ∧ w < 4294967296) (hr : 0 ≤ r ∧ r < 32) : 0 ≤ trn w r ∧ trn w r < 4294967296 := by
  have h := not_range w hw
  exact orW_range h.1 h.2 (by omega) (by omega)
theorem tb_small {r : Int} (hr : 0 ≤ r ∧ r < 32) {k : Nat} (hk : 5 ≤ k) : tb r k = false := by
  unfold tb
  exact Nat.testBit_lt_two_pow (Nat.lt_of_lt_of_le (show r.toNat < 2 ^ 5 by omega) (Nat.pow_le_pow_right (by omega) hk))
theorem tb_mask : ∀ k, k < 32 → tb 4294963327 k = !(decide (7 ≤ k) && decide (k < 12)) := by decide +kernel
theorem tb_trn (w r : Int) (hw : 0 ≤ w ∧ w < 4294967296) (hr : 0 ≤ r ∧ r < 32) (k : Nat) (hk : k < 32) : tb (trn w r) k = bif decide (7 ≤ k) && decide (k < 12) then tb r (k - 7) else tb w k := by
  unfold trn
  have e : r * 128 = r * 2 ^ 7 % 4294967296 := by omega
  rw [tb_orW (not_range w hw) (by omega), tb_not w hw, tb_mask k hk, e, tb_shl hr.1]
  by_cases h1 : 7 ≤ k
  · by_cases h2 : k < 12
    · simp [h1, h2, hk]
    · have := tb_small hr (show 5 ≤ k - 7 by omega)
      simp [h1, h2, hk, this]
  · simp [h1]
/-- a field that lies beside it is as it was -/
theorem fld_trn (w r i n : Int) (hw : 0 ≤ w ∧ w < 4294967296) (hr : 0 ≤ r ∧ r < 32) (hi : 0 ≤ i) (h : i + n ≤ 7 ∨ 12 ≤ i) : fld (trn w r) i n = fld w i n := by
  unfold fld
  cases hf : fitsB i n
  · rfl
  · rw [cond_true, cond_true]
    have hq := fitsB_iff.1 hf
    refine mk_congr fun k hk => ?_
    have := tb_trn w r hw hr (i.toNat + k) (by omega)
    unfold tb at this
    rw [this]
    have hd : (decide (7 ≤ i.toNat + k) && decide (i.toNat + k < 12)) = false := by
      rcases h with h | h
      · simp; omega
      · simp; omega
    rw [hd]
    rfl
theorem codes_ok : ∀ k, k < 45 → (rowAt k).2.2.1 ≠ 15 ∧ (rowAt k).2.2.1 ≠ 115 := by decide
/-- it has the same row -/
theorem chR_trn (w r : Int) (hw : 0 ≤ w ∧ w < 4294967296) (hr : 0 ≤ r ∧ r < 32) (h : chB w = true) (h7 : (chR w).2.1 ≠ 7) : chR (trn w r) = chR w ∧ chB (trn w r) = true := by
  have h1 : w ≠ 15 := by rintro rfl; exact h7 (by decide +kernel)
  have h2 : w ≠ 115 := by rintro rfl; exact h7 (by decide +kernel)
  have h3 : w ≠ 1048691 := by rintro rfl; exact h7 (by decide +kernel)
  have hR : chR w = selR (cOf w) (f3Of (cOf w) (fld w 12 3 : Nat)) (f7Of (cOf w) (fld w 12 3 : Nat) (fld w 25 7 : Nat)) := by
    unfold chR; rw [if_neg h1, if_neg h2, if_neg h3]
  have hB : chB w = selB (cOf w) (f3Of (cOf w) (fld w 12 3 : Nat)) (f7Of (cOf w) (fld w 12 3 : Nat) (fld w 25 7 : Nat)) := by
    unfold chB; rw [if_neg (by omega)]
  have e0 : fld (trn w r) 0 7 = fld w 0 7 := fld_trn w r 0 7 hw hr (by omega) (by omega)
  have e3 : fld (trn w r) 12 3 = fld w 12 3 := fld_trn w r 12 3 hw hr (by omega) (by omega)
  have e7 : fld (trn w r) 25 7 = fld w 25 7 := fld_trn w r 25 7 hw hr (by omega) (by omega)
  have ec : cOf (trn w r) = cOf w := by unfold cOf; rw [e0]
  rw [hB] at h
  obtain ⟨k, hk, _, hc, _⟩ := sel_yes _ _ _ h
  have hcc := codes_ok k hk
  have n1 : trn w r ≠ 15 := fun e => hcc.1 (by rw [hc, ← ec, e]; decide +kernel)
  have n2 : trn w r ≠ 115 := fun e => hcc.2 (by rw [hc, ← ec, e]; decide +kernel)
  have n3 : trn w r ≠ 1048691 := fun e => hcc.2 (by rw [hc, ← ec, e]; decide +kernel)
  rw [hR]
  refine ⟨?_, ?_⟩
  · unfold chR; rw [if_neg n1, if_neg n2, if_neg n3, ec, e3, e7]
  · unfold chB; rw [if_neg (by omega), ec, e3, e7]; exact h
theorem gth_r (w r : Int) (hw : 0 ≤ w ∧ w < 4294967296) (hr : 0 ≤ r ∧ r < 32) : gth (trn w r) [(7, 5)] = r := by
  refine eq_of_tb (gth_range _ _) (by omega) (fun k hk => ?_)
  have z : ∀ k, 5 ≤ k → tb r k = false := fun k hk => tb_small hr hk
  have t := fun k hk => tb_trn w r hw hr k hk
  revert k
  apply all32
  simp [gth1, tb_stw, tb_fld, fitsB, t, z, tb_zero]
/-- what is read of it, of the forms that write -/
theorem read_trn (w r form : Int) (hw : 0 ≤ w ∧ w < 4294967296) (hr : 0 ≤ r ∧ r < 32) (hf : form = 0 ∨ form = 1 ∨ form = 2 ∨ form = 5 ∨ form = 6) :
    gth (trn w r) (rdL form) = r ∧ gth (trn w r) (rs1L form) = gth w (rs1L form) ∧ gth (trn w r) (rs2L form) = gth w (rs2L form) ∧ numV (trn w r) form = numV w form := by
  have f := fun i n hi h => fld_trn w r i n hw hr hi h
  have e1 : gth (trn w r) [(15, 5)] = gth w [(15, 5)] := by rw [gth1, gth1, f 15 5 (by omega) (by omega)]
  have e2 : gth (trn w r) [(20, 5)] = gth w [(20, 5)] := by rw [gth1, gth1, f 20 5 (by omega) (by omega)]
  have e3 : gth (trn w r) [(20, 12)] = gth w [(20, 12)] := by rw [gth1, gth1, f 20 12 (by omega) (by omega)]
  have e4 : gth (trn w r) [(12, 20)] = gth w [(12, 20)] := by rw [gth1, gth1, f 12 20 (by omega) (by omega)]
  have e5 : gth (trn w r) [(21, 10), (20, 1), (12, 8), (31, 1)] = gth w [(21, 10), (20, 1), (12, 8), (31, 1)] := by
    rw [gth4, gth4, f 21 10 (by omega) (by omega), f 20 1 (by omega) (by omega), f 12 8 (by omega) (by omega), f 31 1 (by omega) (by omega)]
  have e0 := gth_r w r hw hr
  rcases hf with rfl | rfl | rfl | rfl | rfl
  · exact ⟨e0, e1, e2, by rw [num_nil _ _ rfl, num_nil _ _ rfl]⟩
  · exact ⟨e0, e1, by rw [show rs2L 1 = [] from rfl, gth_nil, gth_nil], by unfold numV; rw [show numL 1 = [(20, 12)] from rfl, e3]⟩
  · exact ⟨e0, e1, by rw [show rs2L 2 = [] from rfl, gth_nil, gth_nil], by unfold numV; rw [show numL 2 = [(20, 5)] from rfl, e2]⟩
  · exact ⟨e0, by rw [show rs1L 5 = [] from rfl, gth_nil, gth_nil], by rw [show rs2L 5 = [] from rfl, gth_nil, gth_nil], by unfold numV; rw [show numL 5 = [(12, 20)] from rfl, e4]⟩
  · exact ⟨e0, by rw [show rs1L 6 = [] from rfl, gth_nil, gth_nil], by rw [show rs2L 6 = [] from rfl, gth_nil, gth_nil], by unfold numV; rw [show numL 6 = [(21, 10), (20, 1), (12, 8), (31, 1)] from rfl, e5]⟩

end Go.Proofs.YtbpafbogjhbogaaDoor
