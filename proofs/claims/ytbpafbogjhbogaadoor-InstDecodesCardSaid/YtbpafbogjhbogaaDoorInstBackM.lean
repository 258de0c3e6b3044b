/- The word of each form is made again out of its fields. -/
import Derived.Test.YtbpafbogjhbogaaDoorInstMath
namespace Go.Proofs.YtbpafbogjhbogaaDoor
open Go.ChangeShapes Go.WideShapes Go.ChangeAt Go.RowKit

theorem wrap_gth (a : Int) (ps : List Part) : IntKind.u32.wrap (gth a ps) = gth a ps := wrap_of (gth_range a ps)
theorem gth_mod (a : Int) (ps : List Part) : gth a ps % 4294967296 = gth a ps := by have := gth_range a ps; omega
theorem fit (i n : Int) (h : 0 ≤ i ∧ i ≤ 31 ∧ 1 ≤ n ∧ n ≤ 32 - i) : fitsB i n = true := by simpa [fitsB] using h
theorem tb_mod (n k : Nat) : tb ((n : Int) % 4294967296) k = (decide (k < 32) && tb n k) := by
  have := tb_shl (a := (n : Int)) (by omega) 0 k
  simpa using this
theorem tb_mod2 (n k : Nat) : tb ((n : Int) * 2 % 4294967296) k = (decide (k < 32) && decide (1 ≤ k) && tb n (k - 1)) := tb_shl (a := (n : Int)) (by omega) 1 k
theorem tb_mod12 (n k : Nat) : tb ((n : Int) * 4096 % 4294967296) k = (decide (k < 32) && decide (12 ≤ k) && tb n (k - 12)) := tb_shl (a := (n : Int)) (by omega) 12 k
theorem tb_div2 (n k : Nat) : tb ((n : Int) / 2) k = tb n (k + 1) := tb_shr (a := (n : Int)) (by omega) 1 k
theorem tb_div12 (n k : Nat) : tb ((n : Int) / 4096) k = tb n (k + 12) := tb_shr (a := (n : Int)) (by omega) 12 k
theorem tb_sxt0 (a : Int) (k : Nat) : tb ((sxt a 0 : Nat) : Int) k = tb a k := by unfold tb sxt; rw [show decide (1 ≤ (0 : Int) ∧ (0 : Int) ≤ 32) = false from rfl, cond_false, Int.toNat_natCast]

set_option linter.unusedSimpArgs false
set_option maxHeartbeats 4000000
theorem back_R (w : Int) (hw : 0 ≤ w ∧ w < 4294967296) : e4 (fld w 0 7 : Nat) (fld w 12 3 : Nat) (fld w 25 7 : Nat) 0 (gth w (rdL 0)) (gth w (rs1L 0)) (gth w (rs2L 0)) (numV w 0) = w := by
  have hc : 0 ≤ ((fld w 0 7 : Nat) : Int) ∧ ((fld w 0 7 : Nat) : Int) < 4294967296 := ⟨by omega, Int.ofNat_lt.2 (fld_lt w 0 7)⟩
  have hn : 0 ≤ numV w 0 := by unfold numV; omega
  refine eq_of_tb (e4_range _ _ _ _ _ _ _ _ hc.1 hc.2 hn ?_) hw (fun k hk => ?_)
  · exact Int.ofNat_lt.2 (sxt_lt _ _ (by omega))
  rw [tb_e4 _ _ _ _ _ _ _ _ hc (by omega) (by omega) k hk, wrap_gth, wrap_gth, wrap_gth]
  rw [show rdL 0 = [(7, 5)] from rfl, show rs1L 0 = [(15, 5)] from rfl, show rs2L 0 = [(20, 5)] from rfl, show numL 0 = [] from rfl, show fromI 0 = 0 from rfl, show numV w 0 = ((sxt (gth w [] * 2 ^ (0 : Int).toNat % 4294967296) 0 : Nat) : Int) from rfl]
  revert k
  apply all32
  simp [tb_fld, tb_stw, fitsB, tb_mod, tb_mod2, tb_mod12, tb_div2, tb_div12, tb_sxt0, gth1, spr1, gth2, spr2, gth4, spr4, gth_nil, spr_nil, tb_zero, tb_sxt, gth_mod]
theorem back_I (w : Int) (hw : 0 ≤ w ∧ w < 4294967296) : e4 (fld w 0 7 : Nat) (fld w 12 3 : Nat) 0 1 (gth w (rdL 1)) (gth w (rs1L 1)) (gth w (rs2L 1)) (numV w 1) = w := by
  have hc : 0 ≤ ((fld w 0 7 : Nat) : Int) ∧ ((fld w 0 7 : Nat) : Int) < 4294967296 := ⟨by omega, Int.ofNat_lt.2 (fld_lt w 0 7)⟩
  have hn : 0 ≤ numV w 1 := by unfold numV; omega
  refine eq_of_tb (e4_range _ _ _ _ _ _ _ _ hc.1 hc.2 hn ?_) hw (fun k hk => ?_)
  · exact Int.ofNat_lt.2 (sxt_lt _ _ (by omega))
  rw [tb_e4 _ _ _ _ _ _ _ _ hc (by omega) (by omega) k hk, wrap_gth, wrap_gth, wrap_gth]
  rw [show rdL 1 = [(7, 5)] from rfl, show rs1L 1 = [(15, 5)] from rfl, show rs2L 1 = [] from rfl, show numL 1 = [(20, 12)] from rfl, show fromI 1 = 0 from rfl, show numV w 1 = ((sxt (gth w [(20, 12)] * 2 ^ (0 : Int).toNat % 4294967296) 12 : Nat) : Int) from rfl]
  revert k
  apply all32
  simp [tb_fld, tb_stw, fitsB, tb_mod, tb_mod2, tb_mod12, tb_div2, tb_div12, tb_sxt0, gth1, spr1, gth2, spr2, gth4, spr4, gth_nil, spr_nil, tb_zero, tb_sxt, gth_mod]
theorem back_T (w : Int) (hw : 0 ≤ w ∧ w < 4294967296) : e4 (fld w 0 7 : Nat) (fld w 12 3 : Nat) (fld w 25 7 : Nat) 2 (gth w (rdL 2)) (gth w (rs1L 2)) (gth w (rs2L 2)) (numV w 2) = w := by
  have hc : 0 ≤ ((fld w 0 7 : Nat) : Int) ∧ ((fld w 0 7 : Nat) : Int) < 4294967296 := ⟨by omega, Int.ofNat_lt.2 (fld_lt w 0 7)⟩
  have hn : 0 ≤ numV w 2 := by unfold numV; omega
  refine eq_of_tb (e4_range _ _ _ _ _ _ _ _ hc.1 hc.2 hn ?_) hw (fun k hk => ?_)
  · exact Int.ofNat_lt.2 (sxt_lt _ _ (by omega))
  rw [tb_e4 _ _ _ _ _ _ _ _ hc (by omega) (by omega) k hk, wrap_gth, wrap_gth, wrap_gth]
  rw [show rdL 2 = [(7, 5)] from rfl, show rs1L 2 = [(15, 5)] from rfl, show rs2L 2 = [] from rfl, show numL 2 = [(20, 5)] from rfl, show fromI 2 = 0 from rfl, show numV w 2 = ((sxt (gth w [(20, 5)] * 2 ^ (0 : Int).toNat % 4294967296) 0 : Nat) : Int) from rfl]
  revert k
  apply all32
  simp [tb_fld, tb_stw, fitsB, tb_mod, tb_mod2, tb_mod12, tb_div2, tb_div12, tb_sxt0, gth1, spr1, gth2, spr2, gth4, spr4, gth_nil, spr_nil, tb_zero, tb_sxt, gth_mod]
theorem back_S (w : Int) (hw : 0 ≤ w ∧ w < 4294967296) : e4 (fld w 0 7 : Nat) (fld w 12 3 : Nat) 0 3 (gth w (rdL 3)) (gth w (rs1L 3)) (gth w (rs2L 3)) (numV w 3) = w := by
  have hc : 0 ≤ ((fld w 0 7 : Nat) : Int) ∧ ((fld w 0 7 : Nat) : Int) < 4294967296 := ⟨by omega, Int.ofNat_lt.2 (fld_lt w 0 7)⟩
  have hn : 0 ≤ numV w 3 := by unfold numV; omega
  refine eq_of_tb (e4_range _ _ _ _ _ _ _ _ hc.1 hc.2 hn ?_) hw (fun k hk => ?_)
  · exact Int.ofNat_lt.2 (sxt_lt _ _ (by omega))
  rw [tb_e4 _ _ _ _ _ _ _ _ hc (by omega) (by omega) k hk, wrap_gth, wrap_gth, wrap_gth]
  rw [show rdL 3 = [] from rfl, show rs1L 3 = [(15, 5)] from rfl, show rs2L 3 = [(20, 5)] from rfl, show numL 3 = [(7, 5), (25, 7)] from rfl, show fromI 3 = 0 from rfl, show numV w 3 = ((sxt (gth w [(7, 5), (25, 7)] * 2 ^ (0 : Int).toNat % 4294967296) 12 : Nat) : Int) from rfl]
  revert k
  apply all32
  simp [tb_fld, tb_stw, fitsB, tb_mod, tb_mod2, tb_mod12, tb_div2, tb_div12, tb_sxt0, gth1, spr1, gth2, spr2, gth4, spr4, gth_nil, spr_nil, tb_zero, tb_sxt, gth_mod]
theorem back_B (w : Int) (hw : 0 ≤ w ∧ w < 4294967296) : e4 (fld w 0 7 : Nat) (fld w 12 3 : Nat) 0 4 (gth w (rdL 4)) (gth w (rs1L 4)) (gth w (rs2L 4)) (numV w 4) = w := by
  have hc : 0 ≤ ((fld w 0 7 : Nat) : Int) ∧ ((fld w 0 7 : Nat) : Int) < 4294967296 := ⟨by omega, Int.ofNat_lt.2 (fld_lt w 0 7)⟩
  have hn : 0 ≤ numV w 4 := by unfold numV; omega
  refine eq_of_tb (e4_range _ _ _ _ _ _ _ _ hc.1 hc.2 hn ?_) hw (fun k hk => ?_)
  · exact Int.ofNat_lt.2 (sxt_lt _ _ (by omega))
  rw [tb_e4 _ _ _ _ _ _ _ _ hc (by omega) (by omega) k hk, wrap_gth, wrap_gth, wrap_gth]
  rw [show rdL 4 = [] from rfl, show rs1L 4 = [(15, 5)] from rfl, show rs2L 4 = [(20, 5)] from rfl, show numL 4 = [(8, 4), (25, 6), (7, 1), (31, 1)] from rfl, show fromI 4 = 1 from rfl, show numV w 4 = ((sxt (gth w [(8, 4), (25, 6), (7, 1), (31, 1)] * 2 ^ (1 : Int).toNat % 4294967296) 13 : Nat) : Int) from rfl]
  revert k
  apply all32
  simp [tb_fld, tb_stw, fitsB, tb_mod, tb_mod2, tb_mod12, tb_div2, tb_div12, tb_sxt0, gth1, spr1, gth2, spr2, gth4, spr4, gth_nil, spr_nil, tb_zero, tb_sxt, gth_mod]
theorem back_U (w : Int) (hw : 0 ≤ w ∧ w < 4294967296) : e4 (fld w 0 7 : Nat) 0 0 5 (gth w (rdL 5)) (gth w (rs1L 5)) (gth w (rs2L 5)) (numV w 5) = w := by
  have hc : 0 ≤ ((fld w 0 7 : Nat) : Int) ∧ ((fld w 0 7 : Nat) : Int) < 4294967296 := ⟨by omega, Int.ofNat_lt.2 (fld_lt w 0 7)⟩
  have hn : 0 ≤ numV w 5 := by unfold numV; omega
  refine eq_of_tb (e4_range _ _ _ _ _ _ _ _ hc.1 hc.2 hn ?_) hw (fun k hk => ?_)
  · exact Int.ofNat_lt.2 (sxt_lt _ _ (by omega))
  rw [tb_e4 _ _ _ _ _ _ _ _ hc (by omega) (by omega) k hk, wrap_gth, wrap_gth, wrap_gth]
  rw [show rdL 5 = [(7, 5)] from rfl, show rs1L 5 = [] from rfl, show rs2L 5 = [] from rfl, show numL 5 = [(12, 20)] from rfl, show fromI 5 = 12 from rfl, show numV w 5 = ((sxt (gth w [(12, 20)] * 2 ^ (12 : Int).toNat % 4294967296) 0 : Nat) : Int) from rfl]
  revert k
  apply all32
  simp [tb_fld, tb_stw, fitsB, tb_mod, tb_mod2, tb_mod12, tb_div2, tb_div12, tb_sxt0, gth1, spr1, gth2, spr2, gth4, spr4, gth_nil, spr_nil, tb_zero, tb_sxt, gth_mod]
theorem back_J (w : Int) (hw : 0 ≤ w ∧ w < 4294967296) : e4 (fld w 0 7 : Nat) 0 0 6 (gth w (rdL 6)) (gth w (rs1L 6)) (gth w (rs2L 6)) (numV w 6) = w := by
  have hc : 0 ≤ ((fld w 0 7 : Nat) : Int) ∧ ((fld w 0 7 : Nat) : Int) < 4294967296 := ⟨by omega, Int.ofNat_lt.2 (fld_lt w 0 7)⟩
  have hn : 0 ≤ numV w 6 := by unfold numV; omega
  refine eq_of_tb (e4_range _ _ _ _ _ _ _ _ hc.1 hc.2 hn ?_) hw (fun k hk => ?_)
  · exact Int.ofNat_lt.2 (sxt_lt _ _ (by omega))
  rw [tb_e4 _ _ _ _ _ _ _ _ hc (by omega) (by omega) k hk, wrap_gth, wrap_gth, wrap_gth]
  rw [show rdL 6 = [(7, 5)] from rfl, show rs1L 6 = [] from rfl, show rs2L 6 = [] from rfl, show numL 6 = [(21, 10), (20, 1), (12, 8), (31, 1)] from rfl, show fromI 6 = 1 from rfl, show numV w 6 = ((sxt (gth w [(21, 10), (20, 1), (12, 8), (31, 1)] * 2 ^ (1 : Int).toNat % 4294967296) 21 : Nat) : Int) from rfl]
  revert k
  apply all32
  simp [tb_fld, tb_stw, fitsB, tb_mod, tb_mod2, tb_mod12, tb_div2, tb_div12, tb_sxt0, gth1, spr1, gth2, spr2, gth4, spr4, gth_nil, spr_nil, tb_zero, tb_sxt, gth_mod]

end Go.Proofs.YtbpafbogjhbogaaDoor
