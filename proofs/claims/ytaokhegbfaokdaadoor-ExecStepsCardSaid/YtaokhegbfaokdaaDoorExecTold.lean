/- THE CONTRACTS of exec.toldHalt, exec.Told. -/
import Derived.Test.YtaokhegbfaokdaaDoorExecSM
import Derived.Test.YtaokhegbfaokdaaDoorSeqB
import Derived.Test.YtaokhegbfaokdaaDoorExecT
import Derived.Deep.Cut
import Derived.Deep.CutRange
import Derived.Deep.RegionHeld3
namespace Go.Proofs.YtaokhegbfaokdaaDoor
open Go.ChangeShapes Go.WideShapes Go.ChangeAt Go.RowKit
set_option linter.unusedVariables false
set_option linter.unusedSimpArgs false
set_option maxHeartbeats 2000000
set_option maxRecDepth 100000

theorem toldHalt_any (e : En) (w : World) :
    Calls Tryd.prog 42 #[enV e] w fun r w' => r = .returned (stV (toldHaltE e)) ∧ Below w.heap.size w w' := by
  obtain ⟨no, pc, op, rd, rs1, rs2, imm, guess, is, left, value, next, addr, halt, took, known, filled⟩ := e
  obtain ⟨R, hR⟩ : ∃ R, toldHaltE ⟨no, pc, op, rd, rs1, rs2, imm, guess, is, left, value, next, addr, halt, took, known, filled⟩ = R := ⟨_, rfl⟩
  rw [hR]
  unfold toldHaltE at hR
  simp only at hR
  have HR := Lib.hid hR
  clear hR
  have H9 := Lib.hid (stC_one ⟨pc, pc, 0, 0, 0, 0, false, halt, 0⟩)
  unfold enV
  go_enter Tryd.func42, Tryd.ntmps42
  simp only [enC]
  go_upto_region 1 with fail
  refine wp_allocs [([.int .i64 no, .int .u32 pc, .int .i64 op, .int .i64 rd, .int .i64 rs1, .int .i64 rs2, .int .u32 imm, .int .u32 guess, .int .i64 is, .int .i64 left, .int .u32 value, .int .u32 next, .int .u32 addr, .int .i64 halt, .int .i64 took, .bool known, .bool filled], 40), (z9, 36)] rfl ?_
  intro W0 y1 KB y3
  have X1 := Lib.hid (show Blk W0 w.heap.size _ from y3 0 _ rfl)
  have X2 := Lib.hid (show Blk W0 (w.heap.size + 1) z9 from y3 1 _ rfl)
  replace KB := Lib.hid KB
  clear y1 y3
  have c1 := X1.out.2.1 1 _ rfl
  have c13 := X1.out.2.1 13 _ rfl
  have hb3 : w.heap.size + 1 < W0.heap.size := X2.out.1
  go_upto_region 2 with (refine wpList_store_new rfl 36 (.tmp 3) (.tmp 10) rfl W0.heap.size rfl _ [.int .u32 pc, .int .u32 pc, .int .i64 0, .int .u32 0, .int .u32 0, .int .i64 0, .bool false, .int .i64 halt, .int .i64 0] _ rfl rfl rfl st_info H9.out ?_; intro W1 b1 k1 s1)
  generalize W0.heap.size = b3 at *
  have X3 := Lib.hid k1
  have z1 := X1.out.below b1 (by omega)
  have z2 := X2.out.below b1 (by omega)
  have z3 := KB.out.trans (b1.mono (by omega))
  clear X1 X2 KB c1 c13 b1 k1 s1
  have X1 := Lib.hid z1
  have X2 := Lib.hid z2
  have KB := Lib.hid z3
  clear z1 z2 z3
  have c13 := X1.out.2.1 13 _ rfl
  by_cases hh : halt = 4 ∨ halt = 5
  · have HF := Lib.hid (show stC R = [.int .u32 pc, .int .u32 pc, .int .i64 0, .int .u32 0, .int .u32 addr, .int .i64 0, .bool false, .int .i64 halt, .int .i64 0] by rw [← HR.out, if_pos hh]; rfl)
    have c12 := X1.out.2.1 12 _ rfl
    have t4 := X3.out.2.1 4 _ rfl
    have e4 := X3.out.2.2 4 (by simp)
    rcases hh with rfl | rfl
    all_goals
      go_upto_region 4 with fail
      clear c12 c13 t4 e4
      have z1 := (X3.out).set (i := 4) (v := .int .u32 addr) (by simp)
      simp only [List.set_cons_succ, List.set_cons_zero] at z1
      have z2 := (X2.out).other (p := ⟨b3, 4, none⟩) (v := .int .u32 addr) (by simp; omega)
      have z3 := (KB.out).setCell (p := ⟨b3, 4, none⟩) (by show w.heap.size ≤ b3; omega) (.int .u32 addr)
      clear X1 X2 X3 KB
      generalize (World.setCell W1 ⟨b3, 4, none⟩ (.int .u32 addr)) = W2 at *
      have X3 := Lib.hid z1
      have X2 := Lib.hid z2
      have KB := Lib.hid z3
      clear z1 z2 z3
    · have Y3 := Lib.hid (show stC R = [.int .u32 pc, .int .u32 pc, .int .i64 0, .int .u32 0, .int .u32 addr, .int .i64 0, .bool false, .int .i64 4, .int .i64 0] from HF.out)
      obtain ⟨ds, hds⟩ : ∃ ds, stC R = ds := ⟨_, rfl⟩
      have hx3 := X3.out
      rw [← Y3.out, hds] at hx3
      have hl3 : ds.length = 9 := by rw [← hds]; rfl
      have ho3 := stC_one R
      rw [hds] at ho3
      have Z3 := Lib.hid hx3
      have DI := Lib.hid (show (Tryd.prog.info? 36).map (·.size) = some ds.length by rw [hl3]; exact st_info)
      have DJ := Lib.hid (show (Tryd.prog.info? 36).map (·.size) = some ds.toArray.size by rw [List.size_toArray, hl3]; exact st_info)
      have DZ := Lib.hid (show z9.length = ds.toArray.size by rw [List.size_toArray, hl3]; rfl)
      have DO := Lib.hid ho3
      have DV := Lib.hid (show stV R = .agg ds.toArray by rw [← hds]; rfl)
      clear hx3 hl3 ho3 hds
      go_wp2_with (first
        | (refine wpList_load_mid rfl 36 (.tmp 3) rfl b3 0 rfl ds _ Z3.out.range Tryd.underlying36 rfl DI.out ?_)
        | (refine wpList_store_blk rfl 36 (.tmp 2) (.tmp 22) rfl (w.heap.size + 1) z9 ds.toArray X2.out DZ.out rfl rfl DJ.out DO.out ?_; intro W9 hB9 hO9 hbl9 hs9))
      exact bodyPost_ret (v := .agg ds.toArray) (results_cell_blk Tryd.results42 _ W9 (w.heap.size + 1) ds _ rfl hB9 Tryd.underlying36 rfl DI.out) rfl ⟨by rw [DV.out], KB.out.trans (hbl9 _ (by omega))⟩
    · have Y3 := Lib.hid (show stC R = [.int .u32 pc, .int .u32 pc, .int .i64 0, .int .u32 0, .int .u32 addr, .int .i64 0, .bool false, .int .i64 5, .int .i64 0] from HF.out)
      obtain ⟨ds, hds⟩ : ∃ ds, stC R = ds := ⟨_, rfl⟩
      have hx3 := X3.out
      rw [← Y3.out, hds] at hx3
      have hl3 : ds.length = 9 := by rw [← hds]; rfl
      have ho3 := stC_one R
      rw [hds] at ho3
      have Z3 := Lib.hid hx3
      have DI := Lib.hid (show (Tryd.prog.info? 36).map (·.size) = some ds.length by rw [hl3]; exact st_info)
      have DJ := Lib.hid (show (Tryd.prog.info? 36).map (·.size) = some ds.toArray.size by rw [List.size_toArray, hl3]; exact st_info)
      have DZ := Lib.hid (show z9.length = ds.toArray.size by rw [List.size_toArray, hl3]; rfl)
      have DO := Lib.hid ho3
      have DV := Lib.hid (show stV R = .agg ds.toArray by rw [← hds]; rfl)
      clear hx3 hl3 ho3 hds
      go_wp2_with (first
        | (refine wpList_load_mid rfl 36 (.tmp 3) rfl b3 0 rfl ds _ Z3.out.range Tryd.underlying36 rfl DI.out ?_)
        | (refine wpList_store_blk rfl 36 (.tmp 2) (.tmp 22) rfl (w.heap.size + 1) z9 ds.toArray X2.out DZ.out rfl rfl DJ.out DO.out ?_; intro W9 hB9 hO9 hbl9 hs9))
      exact bodyPost_ret (v := .agg ds.toArray) (results_cell_blk Tryd.results42 _ W9 (w.heap.size + 1) ds _ rfl hB9 Tryd.underlying36 rfl DI.out) rfl ⟨by rw [DV.out], KB.out.trans (hbl9 _ (by omega))⟩
  · have HF := Lib.hid (show stC R = [.int .u32 pc, .int .u32 pc, .int .i64 0, .int .u32 0, .int .u32 0, .int .i64 0, .bool false, .int .i64 halt, .int .i64 0] by rw [← HR.out, if_neg hh]; rfl)
    have q4 : (halt == 4) = false := by simp; omega
    have q5 : (halt == 5) = false := by simp; omega
    clear hh
    go_upto_region 4 with fail
    clear c13
    have Y3 := Lib.hid (show stC R = [.int .u32 pc, .int .u32 pc, .int .i64 0, .int .u32 0, .int .u32 0, .int .i64 0, .bool false, .int .i64 halt, .int .i64 0] from HF.out)
    obtain ⟨ds, hds⟩ : ∃ ds, stC R = ds := ⟨_, rfl⟩
    have hx3 := X3.out
    rw [← Y3.out, hds] at hx3
    have hl3 : ds.length = 9 := by rw [← hds]; rfl
    have ho3 := stC_one R
    rw [hds] at ho3
    have Z3 := Lib.hid hx3
    have DI := Lib.hid (show (Tryd.prog.info? 36).map (·.size) = some ds.length by rw [hl3]; exact st_info)
    have DJ := Lib.hid (show (Tryd.prog.info? 36).map (·.size) = some ds.toArray.size by rw [List.size_toArray, hl3]; exact st_info)
    have DZ := Lib.hid (show z9.length = ds.toArray.size by rw [List.size_toArray, hl3]; rfl)
    have DO := Lib.hid ho3
    have DV := Lib.hid (show stV R = .agg ds.toArray by rw [← hds]; rfl)
    clear hx3 hl3 ho3 hds
    go_wp2_with (first
      | (refine wpList_load_mid rfl 36 (.tmp 3) rfl b3 0 rfl ds _ Z3.out.range Tryd.underlying36 rfl DI.out ?_)
      | (refine wpList_store_blk rfl 36 (.tmp 2) (.tmp 22) rfl (w.heap.size + 1) z9 ds.toArray X2.out DZ.out rfl rfl DJ.out DO.out ?_; intro W9 hB9 hO9 hbl9 hs9))
    exact bodyPost_ret (v := .agg ds.toArray) (results_cell_blk Tryd.results42 _ W9 (w.heap.size + 1) ds _ rfl hB9 Tryd.underlying36 rfl DI.out) rfl ⟨by rw [DV.out], KB.out.trans (hbl9 _ (by omega))⟩
theorem told_any (e : En) (w : World) (ht : TabIs w) (hg : 0 < w.heap.size) :
    Calls Tryd.prog 16 #[enV e] w fun r w' => r = .returned (stV (toldE e)) ∧ Below w.heap.size w w' := by
  obtain ⟨no, pc, op, rd, rs1, rs2, imm, guess, is, left, value, next, addr, halt, took, known, filled⟩ := e
  have HTB := Lib.hid ht
  clear ht
  obtain ⟨R, hR⟩ : ∃ R, toldE ⟨no, pc, op, rd, rs1, rs2, imm, guess, is, left, value, next, addr, halt, took, known, filled⟩ = R := ⟨_, rfl⟩
  rw [hR]
  have HTH := Lib.hid (fun w => toldHalt_any ⟨no, pc, op, rd, rs1, rs2, imm, guess, is, left, value, next, addr, halt, took, known, filled⟩ w)
  unfold toldE at hR
  simp only at hR
  have HK := Lib.hid (fun w => kind_any op rd rs1 rs2 imm w)
  have HS := Lib.hid (fun w => size_any op rd rs1 rs2 imm w)
  have HWr := Lib.hid (fun w ht hg => writes_any op rd rs1 rs2 imm w ht hg)
  have HWV := Lib.hid (fun w ht hg => written_any op rd rs1 rs2 imm value w ht hg)
  obtain ⟨V, hV⟩ : ∃ V, (if wrI op rd = 0 then 0 else value) = V := ⟨_, rfl⟩
  obtain ⟨wr, hwr⟩ : ∃ x, wrI op rd = x := ⟨_, rfl⟩
  obtain ⟨sz, hsz⟩ : ∃ x, sizeOp op = x := ⟨_, rfl⟩
  obtain ⟨kd, hkd⟩ : ∃ x, kindI op = x := ⟨_, rfl⟩
  have hRun : toldRunE ⟨no, pc, op, rd, rs1, rs2, imm, guess, is, left, value, next, addr, halt, took, known, filled⟩ = (if kd = 4 then ⟨pc, (pc + 4) % 4294967296, wr, value, addr, sz, true, 0, 0⟩ else if kd = 3 then ⟨pc, (pc + 4) % 4294967296, wr, V, addr, sz, false, 0, 0⟩ else if kd = 2 then ⟨pc, (pc + 4) % 4294967296, wr, V, 0, 0, false, 0, took⟩ else if kd = 5 then ⟨pc, next, wr, V, 0, 0, false, 0, 0⟩ else ⟨pc, (pc + 4) % 4294967296, wr, V, 0, 0, false, 0, 0⟩) := by
    unfold toldRunE
    simp only
    rw [hkd, hV, hwr, hsz]
  rw [hV] at HWV
  rw [hwr] at HWr
  rw [hsz] at HS
  rw [hkd] at HK
  rw [hRun] at hR
  have HR := Lib.hid hR
  clear hR hV hwr hsz hkd hRun
  unfold enV at HTH ⊢
  go_enter Tryd.func16, Tryd.ntmps16
  simp only [enC] at HTH ⊢
  go_upto_region 1 with fail
  refine wp_allocs [([.int .i64 no, .int .u32 pc, .int .i64 op, .int .i64 rd, .int .i64 rs1, .int .i64 rs2, .int .u32 imm, .int .u32 guess, .int .i64 is, .int .i64 left, .int .u32 value, .int .u32 next, .int .u32 addr, .int .i64 halt, .int .i64 took, .bool known, .bool filled], 40), (z9, 36)] rfl ?_
  intro W0 y1 KB y3
  have X1 := Lib.hid (show Blk W0 w.heap.size _ from y3 0 _ rfl)
  have X2 := Lib.hid (show Blk W0 (w.heap.size + 1) z9 from y3 1 _ rfl)
  replace KB := Lib.hid KB
  clear y1 y3
  have c13 := X1.out.2.1 13 _ rfl
  by_cases hh : halt = 0
  · subst hh
    have HR' := HR.out
    rw [if_neg (by simp)] at HR'
    replace HR := Lib.hid HR'
    clear HR' HTH
    go_upto_region 3 with fail
    clear c13
    have T0 := Lib.hid (HTB.out.below KB.out hg)
    have G0 := Lib.hid (Nat.lt_of_lt_of_le hg KB.out.size)
    have hb3' : w.heap.size + 1 < W0.heap.size := X2.out.1
    go_cut [3] from 9 to 17 (fun v wx => ∃ b, v = .pointer (some ⟨b, 0, none⟩) ∧ W0.heap.size ≤ b ∧ Blk wx b [.int .u32 pc, .int .u32 ((pc + 4) % 4294967296), .int .i64 wr, .int .u32 0, .int .u32 0, .int .i64 0, .bool false, .int .i64 0, .int .i64 0] ∧ RowKit.Below W0.heap.size W0 wx)
    case first =>
      have HST := Lib.hid (fun w' (hb : RowKit.Below W0.heap.size W0 w') => (show w'.cell? ⟨w.heap.size, 1, none⟩ = some (.int .u32 pc) ∧ w'.cell? ⟨w.heap.size, 2, none⟩ = some (.int .i64 op) ∧ w'.cell? ⟨w.heap.size, 3, none⟩ = some (.int .i64 rd) ∧ w'.cell? ⟨w.heap.size, 4, none⟩ = some (.int .i64 rs1) ∧ w'.cell? ⟨w.heap.size, 5, none⟩ = some (.int .i64 rs2) ∧ w'.cell? ⟨w.heap.size, 6, none⟩ = some (.int .u32 imm) from
        ⟨(X1.out.below hb X1.out.1).2.1 1 _ rfl, (X1.out.below hb X1.out.1).2.1 2 _ rfl, (X1.out.below hb X1.out.1).2.1 3 _ rfl, (X1.out.below hb X1.out.1).2.1 4 _ rfl, (X1.out.below hb X1.out.1).2.1 5 _ rfl, (X1.out.below hb X1.out.1).2.1 6 _ rfl⟩))
      have LD := Lib.hid (show RowKit.Below W0.heap.size W0 W0.drew from (RowKit.Below.refl W0.heap.size W0).drew)
      have LA := Lib.hid (fun o => show RowKit.Below W0.heap.size W0 (W0.drew.alloc o) from (RowKit.Below.refl W0.heap.size W0).drew.alloc (Nat.le_refl _) o)
      have LB := Lib.hid (fun o => show RowKit.Below W0.heap.size W0 (W0.alloc o).drew from ((RowKit.Below.refl W0.heap.size W0).alloc (Nat.le_refl _) o).drew)
      have LS := Lib.hid (fun w' i v (h : RowKit.Below W0.heap.size W0 w') => show RowKit.Below W0.heap.size W0 (w'.setCell ⟨W0.heap.size, i, none⟩ v) from h.setCell (p := ⟨W0.heap.size, i, none⟩) (Nat.le_refl _) v)
      have hwr : IntKind.u32.wrap (pc + 4) = (pc + 4) % 4294967296 := rfl
      go_region_held3 (fun w' => w'.cell? ⟨w.heap.size, 1, none⟩ = some (.int .u32 pc) ∧ w'.cell? ⟨w.heap.size, 2, none⟩ = some (.int .i64 op) ∧ w'.cell? ⟨w.heap.size, 3, none⟩ = some (.int .i64 rd) ∧ w'.cell? ⟨w.heap.size, 4, none⟩ = some (.int .i64 rs1) ∧ w'.cell? ⟨w.heap.size, 5, none⟩ = some (.int .i64 rs2) ∧ w'.cell? ⟨w.heap.size, 6, none⟩ = some (.int .u32 imm))
        ((refine HST.out _ ?_
          first
          | with_reducible exact LD.out
          | with_reducible exact B5.out
          | with_reducible exact LA.out _
          | with_reducible exact LB.out _
          | with_reducible exact B5.out.alloc B5.out.size _
          | (repeat (with_reducible refine LS.out _ _ _ ?_)
             with_reducible exact B5.out)))
        (first
          | (go_at_call 43
             refine (HWr.out _ (T0.out.below LD.out G0.out) (Nat.lt_of_lt_of_le G0.out LD.out.size)).mono ?_
             rintro e w5 ⟨rfl, b⟩
             have B5 := Lib.hid ((RowKit.Below.refl W0.heap.size W0).drew.trans b)
             clear b)
          | (go_at_call 43
             refine (HWr.out _ (T0.out.below (LB.out _) G0.out) (Nat.lt_of_lt_of_le G0.out (LB.out _).size)).mono ?_
             rintro e w5 ⟨rfl, b⟩
             have B5 := Lib.hid (((RowKit.Below.refl W0.heap.size W0).drew.alloc (Nat.le_refl _) _).trans (b.mono (by simp)))
             have F5 := Lib.hid (show Blk w5 W0.heap.size z9 from (Blk.new W0.drew 36 z9).below b (by simp))
             have f0 : w5.cell? ⟨W0.heap.size, 0, none⟩ = some (.int .u32 0) := F5.out.2.1 0 _ rfl
             have f1 : w5.cell? ⟨W0.heap.size, 1, none⟩ = some (.int .u32 0) := F5.out.2.1 1 _ rfl
             have f2 : w5.cell? ⟨W0.heap.size, 2, none⟩ = some (.int .i64 0) := F5.out.2.1 2 _ rfl
             have f3 : w5.cell? ⟨W0.heap.size, 3, none⟩ = some (.int .u32 0) := F5.out.2.1 3 _ rfl
             have f4 : w5.cell? ⟨W0.heap.size, 4, none⟩ = some (.int .u32 0) := F5.out.2.1 4 _ rfl
             have f5 : w5.cell? ⟨W0.heap.size, 5, none⟩ = some (.int .i64 0) := F5.out.2.1 5 _ rfl
             have f6 : w5.cell? ⟨W0.heap.size, 6, none⟩ = some (.bool false) := F5.out.2.1 6 _ rfl
             have f7 : w5.cell? ⟨W0.heap.size, 7, none⟩ = some (.int .i64 0) := F5.out.2.1 7 _ rfl
             have f8 : w5.cell? ⟨W0.heap.size, 8, none⟩ = some (.int .i64 0) := F5.out.2.1 8 _ rfl
             have e0 : w5.frozen? ⟨W0.heap.size, 0, none⟩ = false := F5.out.2.2 0 (by decide)
             have e1 : w5.frozen? ⟨W0.heap.size, 1, none⟩ = false := F5.out.2.2 1 (by decide)
             have e2 : w5.frozen? ⟨W0.heap.size, 2, none⟩ = false := F5.out.2.2 2 (by decide)
             have e3 : w5.frozen? ⟨W0.heap.size, 3, none⟩ = false := F5.out.2.2 3 (by decide)
             have e4 : w5.frozen? ⟨W0.heap.size, 4, none⟩ = false := F5.out.2.2 4 (by decide)
             have e5 : w5.frozen? ⟨W0.heap.size, 5, none⟩ = false := F5.out.2.2 5 (by decide)
             have e6 : w5.frozen? ⟨W0.heap.size, 6, none⟩ = false := F5.out.2.2 6 (by decide)
             have e7 : w5.frozen? ⟨W0.heap.size, 7, none⟩ = false := F5.out.2.2 7 (by decide)
             have e8 : w5.frozen? ⟨W0.heap.size, 8, none⟩ = false := F5.out.2.2 8 (by decide)
             clear b))
      all_goals go_wp2_with fail
      all_goals go_meet
      all_goals first
        | exact ⟨_, rfl, B5.out.size, Blk.new w5 36 [.int .u32 pc, .int .u32 ((pc + 4) % 4294967296), .int .i64 wr, .int .u32 0, .int .u32 0, .int .i64 0, .bool false, .int .i64 0, .int .i64 0], B5.out.alloc B5.out.size _⟩
        | exact ⟨_, rfl, Nat.le_refl _, F5.out.cellsHere (cs := [.int .u32 pc, .int .u32 ((pc + 4) % 4294967296), .int .i64 wr, .int .u32 0, .int .u32 0, .int .i64 0, .bool false, .int .i64 0, .int .i64 0]) rfl, (by (repeat (refine LS.out _ _ _ ?_)); exact B5.out)⟩
    case rest =>
      obtain ⟨b3, rfl, hb3'', y1, y2⟩ := hcut
      have hb3 : w.heap.size + 1 < b3 := Nat.lt_of_lt_of_le hb3' hb3''
      have z1 := X1.out.below y2 X1.out.1
      have z2 := X2.out.below y2 X2.out.1
      have z3 := KB.out.trans (y2.mono KB.out.size)
      clear X1 X2 KB hb3' hb3'' y2
      have X1 := Lib.hid z1
      have X2 := Lib.hid z2
      have KB := Lib.hid z3
      have X3 := Lib.hid y1
      clear z1 z2 z3 y1
      generalize wc = W1 at *
      have T1 := Lib.hid (HTB.out.below KB.out hg)
      have G1 := Lib.hid (Nat.lt_of_lt_of_le hg KB.out.size)
      have c2 := X1.out.2.1 2 _ rfl
      have c3 := X1.out.2.1 3 _ rfl
      have c4 := X1.out.2.1 4 _ rfl
      have c5 := X1.out.2.1 5 _ rfl
      have c6 := X1.out.2.1 6 _ rfl
      have c10 := X1.out.2.1 10 _ rfl
      go_upto_region 5 with (go_at_call 35
                             refine (HWV.out _ T1.out G1.out).mono ?_
                             rintro e w2 ⟨rfl, b⟩
                             have z1 := X1.out.below b X1.out.1
                             have z2 := X2.out.below b X2.out.1
                             have z4 := X3.out.below b X3.out.1
                             have z3 := KB.out.trans ((b).mono KB.out.size)
                             clear X1 X2 X3 KB
                             have X1 := Lib.hid z1
                             have X2 := Lib.hid z2
                             have X3 := Lib.hid z4
                             have KB := Lib.hid z3
                             clear z1 z2 z3 z4
                             clear b c2 c3 c4 c5 c6 c10
                             have t3 := X3.out.2.1 3 _ rfl
                             have e3 := X3.out.2.2 3 (by simp))
      clear t3 e3
      have z4 := (X3.out).set (i := 3) (v := .int .u32 V) (by simp)
      simp only [List.set_cons_succ, List.set_cons_zero] at z4
      have z1 := (X1.out).other (p := ⟨b3, 3, none⟩) (v := .int .u32 V) (by simp; omega)
      have z2 := (X2.out).other (p := ⟨b3, 3, none⟩) (v := .int .u32 V) (by simp; omega)
      have z3 := (KB.out).setCell (p := ⟨b3, 3, none⟩) (by show w.heap.size ≤ b3; omega) (.int .u32 V)
      clear X1 X2 X3 KB
      generalize (World.setCell w2 ⟨b3, 3, none⟩ (.int .u32 V)) = W2 at *
      have X1 := Lib.hid z1
      have X2 := Lib.hid z2
      have X3 := Lib.hid z4
      have KB := Lib.hid z3
      clear z1 z2 z3 z4
      have c2 := X1.out.2.1 2 _ rfl
      have c3 := X1.out.2.1 3 _ rfl
      have c4 := X1.out.2.1 4 _ rfl
      have c5 := X1.out.2.1 5 _ rfl
      have c6 := X1.out.2.1 6 _ rfl
      go_upto_region 6 with (go_at_call 32
                             refine (HK.out _).mono ?_
                             rintro e w3 ⟨rfl, b⟩
                             have z1 := X1.out.below b X1.out.1
                             have z2 := X2.out.below b X2.out.1
                             have z4 := X3.out.below b X3.out.1
                             have z3 := KB.out.trans ((b).mono KB.out.size)
                             clear X1 X2 X3 KB
                             have X1 := Lib.hid z1
                             have X2 := Lib.hid z2
                             have X3 := Lib.hid z4
                             have KB := Lib.hid z3
                             clear z1 z2 z3 z4
                             clear b c2 c3 c4 c5 c6)
      have HR' := HR.out
      clear HR HK HWr HWV T0 G0 T1 G1 HTB
      by_cases h4 : kd = 4
      · subst h4
        rw [if_pos rfl] at HR'
        have HF := Lib.hid (show stC R = [.int .u32 pc, .int .u32 ((pc + 4) % 4294967296), .int .i64 wr, .int .u32 value, .int .u32 addr, .int .i64 sz, .bool true, .int .i64 0, .int .i64 0] by rw [← HR']; rfl)
        clear HR'
        go_upto_region 10 with fail
        have c10 := X1.out.2.1 10 _ rfl
        have t6 := X3.out.2.1 6 _ rfl
        have e6 := X3.out.2.2 6 (by simp)
        have t3 := X3.out.2.1 3 _ rfl
        have e3 := X3.out.2.2 3 (by simp)
        have hne : b3 ≠ w.heap.size := by omega
        go_region_held3 (fun w' => w'.cell? ⟨w.heap.size, 10, none⟩ = some (.int .u32 value)) ((first | exact c10 | simp [*, World.cell?_setCell_far])) (first | fail)
        clear c10 t6 e6 t3 e3
        have z4 := (X3.out).set (i := 6) (v := .bool true) (by simp)
        simp only [List.set_cons_succ, List.set_cons_zero] at z4
        have z1 := (X1.out).other (p := ⟨b3, 6, none⟩) (v := .bool true) (by simp; omega)
        have z2 := (X2.out).other (p := ⟨b3, 6, none⟩) (v := .bool true) (by simp; omega)
        have z3 := (KB.out).setCell (p := ⟨b3, 6, none⟩) (by show w.heap.size ≤ b3; omega) (.bool true)
        clear X1 X2 X3 KB
        generalize (World.setCell w3 ⟨b3, 6, none⟩ (.bool true)) = W3 at *
        have X1 := Lib.hid z1
        have X2 := Lib.hid z2
        have X3 := Lib.hid z4
        have KB := Lib.hid z3
        clear z1 z2 z3 z4
        have z4 := (X3.out).set (i := 3) (v := .int .u32 value) (by simp)
        simp only [List.set_cons_succ, List.set_cons_zero] at z4
        have z1 := (X1.out).other (p := ⟨b3, 3, none⟩) (v := .int .u32 value) (by simp; omega)
        have z2 := (X2.out).other (p := ⟨b3, 3, none⟩) (v := .int .u32 value) (by simp; omega)
        have z3 := (KB.out).setCell (p := ⟨b3, 3, none⟩) (by show w.heap.size ≤ b3; omega) (.int .u32 value)
        clear X1 X2 X3 KB
        generalize (World.setCell W3 ⟨b3, 3, none⟩ (.int .u32 value)) = W4 at *
        have X1 := Lib.hid z1
        have X2 := Lib.hid z2
        have X3 := Lib.hid z4
        have KB := Lib.hid z3
        clear z1 z2 z3 z4
        have z1 := X1.out.drw
        have z2 := X2.out.drw
        have z4 := X3.out.drw
        have z3 := KB.out.drew
        clear X1 X2 X3 KB
        have X1 := Lib.hid z1
        have X2 := Lib.hid z2
        have X3 := Lib.hid z4
        have KB := Lib.hid z3
        clear z1 z2 z3 z4
        generalize W4.drew = WD at *
        go_upto_region 11 with fail
        have hne : b3 ≠ w.heap.size := by omega
        have HST := Lib.hid (fun w' (hb : RowKit.Below (WD).heap.size WD w') => (show w'.cell? ⟨w.heap.size, 12, none⟩ = some (.int .u32 addr) ∧ w'.cell? ⟨w.heap.size, 2, none⟩ = some (.int .i64 op) ∧ w'.cell? ⟨w.heap.size, 3, none⟩ = some (.int .i64 rd) ∧ w'.cell? ⟨w.heap.size, 4, none⟩ = some (.int .i64 rs1) ∧ w'.cell? ⟨w.heap.size, 5, none⟩ = some (.int .i64 rs2) ∧ w'.cell? ⟨w.heap.size, 6, none⟩ = some (.int .u32 imm) from
          ⟨(X1.out.below hb X1.out.1).2.1 12 _ rfl, (X1.out.below hb X1.out.1).2.1 2 _ rfl, (X1.out.below hb X1.out.1).2.1 3 _ rfl, (X1.out.below hb X1.out.1).2.1 4 _ rfl, (X1.out.below hb X1.out.1).2.1 5 _ rfl, (X1.out.below hb X1.out.1).2.1 6 _ rfl⟩))
        have LD := Lib.hid (show RowKit.Below (WD).heap.size WD (WD).drew from (RowKit.Below.refl (WD).heap.size WD).drew)
        go_region_held3 (fun w' => w'.cell? ⟨w.heap.size, 12, none⟩ = some (.int .u32 addr) ∧ w'.cell? ⟨w.heap.size, 2, none⟩ = some (.int .i64 op) ∧ w'.cell? ⟨w.heap.size, 3, none⟩ = some (.int .i64 rd) ∧ w'.cell? ⟨w.heap.size, 4, none⟩ = some (.int .i64 rs1) ∧ w'.cell? ⟨w.heap.size, 5, none⟩ = some (.int .i64 rs2) ∧ w'.cell? ⟨w.heap.size, 6, none⟩ = some (.int .u32 imm))
          ((first
            | with_reducible exact HST.out _ LD.out
            | with_reducible exact HST.out _ B5.out
            | simp [*, World.cell?_setCell_far]))
          (first
            | (go_at_call 34
               refine (HS.out _).mono ?_
               rintro e w5 ⟨rfl, b⟩
               have B5 := Lib.hid ((RowKit.Below.refl (WD).heap.size WD).drew.trans b)
               have Y5 := X3.out.below B5.out X3.out.1
               have t4 := Y5.2.1 4 _ rfl
               have e4 := Y5.2.2 4 (by simp)
               have t5 := Y5.2.1 5 _ rfl
               have e5 := Y5.2.2 5 (by simp)
               clear b Y5))
        clear t4 e4 t5 e5 hne
        have bb := B5.out
        have z1 := X1.out.below bb X1.out.1
        have z2 := X2.out.below bb X2.out.1
        have z4 := X3.out.below bb X3.out.1
        have z3 := KB.out.trans ((bb).mono KB.out.size)
        clear X1 X2 X3 KB
        have X1 := Lib.hid z1
        have X2 := Lib.hid z2
        have X3 := Lib.hid z4
        have KB := Lib.hid z3
        clear z1 z2 z3 z4
        clear bb B5 HST LD
        have z4 := (X3.out).set (i := 4) (v := .int .u32 addr) (by simp)
        simp only [List.set_cons_succ, List.set_cons_zero] at z4
        have z1 := (X1.out).other (p := ⟨b3, 4, none⟩) (v := .int .u32 addr) (by simp; omega)
        have z2 := (X2.out).other (p := ⟨b3, 4, none⟩) (v := .int .u32 addr) (by simp; omega)
        have z3 := (KB.out).setCell (p := ⟨b3, 4, none⟩) (by show w.heap.size ≤ b3; omega) (.int .u32 addr)
        clear X1 X2 X3 KB
        generalize (World.setCell w5 ⟨b3, 4, none⟩ (.int .u32 addr)) = W5 at *
        have X1 := Lib.hid z1
        have X2 := Lib.hid z2
        have X3 := Lib.hid z4
        have KB := Lib.hid z3
        clear z1 z2 z3 z4
        have z4 := (X3.out).set (i := 5) (v := .int .i64 sz) (by simp)
        simp only [List.set_cons_succ, List.set_cons_zero] at z4
        have z1 := (X1.out).other (p := ⟨b3, 5, none⟩) (v := .int .i64 sz) (by simp; omega)
        have z2 := (X2.out).other (p := ⟨b3, 5, none⟩) (v := .int .i64 sz) (by simp; omega)
        have z3 := (KB.out).setCell (p := ⟨b3, 5, none⟩) (by show w.heap.size ≤ b3; omega) (.int .i64 sz)
        clear X1 X2 X3 KB
        generalize (World.setCell W5 ⟨b3, 5, none⟩ (.int .i64 sz)) = W6 at *
        have X1 := Lib.hid z1
        have X2 := Lib.hid z2
        have X3 := Lib.hid z4
        have KB := Lib.hid z3
        clear z1 z2 z3 z4
        have Y3 := Lib.hid (show stC R = [.int .u32 pc, .int .u32 ((pc + 4) % 4294967296), .int .i64 wr, .int .u32 value, .int .u32 addr, .int .i64 sz, .bool true, .int .i64 0, .int .i64 0] from HF.out)
        obtain ⟨ds, hds⟩ : ∃ ds, stC R = ds := ⟨_, rfl⟩
        have hx3 := X3.out
        rw [← Y3.out, hds] at hx3
        have hl3 : ds.length = 9 := by rw [← hds]; rfl
        have ho3 := stC_one R
        rw [hds] at ho3
        have Z3 := Lib.hid hx3
        have DI := Lib.hid (show (Tryd.prog.info? 36).map (·.size) = some ds.length by rw [hl3]; exact st_info)
        have DJ := Lib.hid (show (Tryd.prog.info? 36).map (·.size) = some ds.toArray.size by rw [List.size_toArray, hl3]; exact st_info)
        have DZ := Lib.hid (show z9.length = ds.toArray.size by rw [List.size_toArray, hl3]; rfl)
        have DO := Lib.hid ho3
        have DV := Lib.hid (show stV R = .agg ds.toArray by rw [← hds]; rfl)
        clear hx3 hl3 ho3 hds
        go_wp2_with (first
          | (refine wpList_load_mid rfl 36 (.tmp 3) rfl b3 0 rfl ds _ Z3.out.range Tryd.underlying36 rfl DI.out ?_)
          | (refine wpList_store_blk rfl 36 (.tmp 2) (.tmp 52) rfl (w.heap.size + 1) z9 ds.toArray X2.out DZ.out rfl rfl DJ.out DO.out ?_; intro W9 hB9 hO9 hbl9 hs9))
        exact bodyPost_ret (v := .agg ds.toArray) (results_cell_blk Tryd.results16 _ W9 (w.heap.size + 1) ds _ rfl hB9 Tryd.underlying36 rfl DI.out) rfl ⟨by rw [DV.out], KB.out.trans (hbl9 _ (by omega))⟩
      · rw [if_neg h4] at HR'
        have q4 : (kd == 4) = false := by simpa using h4
        by_cases h3 : kd = 3
        · subst h3
          rw [if_pos rfl] at HR'
          have HF := Lib.hid (show stC R = [.int .u32 pc, .int .u32 ((pc + 4) % 4294967296), .int .i64 wr, .int .u32 V, .int .u32 addr, .int .i64 sz, .bool false, .int .i64 0, .int .i64 0] by rw [← HR']; rfl)
          clear HR'
          go_upto_region 11 with fail
          have hne : b3 ≠ w.heap.size := by omega
          have HST := Lib.hid (fun w' (hb : RowKit.Below (w3).heap.size w3 w') => (show w'.cell? ⟨w.heap.size, 12, none⟩ = some (.int .u32 addr) ∧ w'.cell? ⟨w.heap.size, 2, none⟩ = some (.int .i64 op) ∧ w'.cell? ⟨w.heap.size, 3, none⟩ = some (.int .i64 rd) ∧ w'.cell? ⟨w.heap.size, 4, none⟩ = some (.int .i64 rs1) ∧ w'.cell? ⟨w.heap.size, 5, none⟩ = some (.int .i64 rs2) ∧ w'.cell? ⟨w.heap.size, 6, none⟩ = some (.int .u32 imm) from
            ⟨(X1.out.below hb X1.out.1).2.1 12 _ rfl, (X1.out.below hb X1.out.1).2.1 2 _ rfl, (X1.out.below hb X1.out.1).2.1 3 _ rfl, (X1.out.below hb X1.out.1).2.1 4 _ rfl, (X1.out.below hb X1.out.1).2.1 5 _ rfl, (X1.out.below hb X1.out.1).2.1 6 _ rfl⟩))
          have LD := Lib.hid (show RowKit.Below (w3).heap.size w3 (w3).drew from (RowKit.Below.refl (w3).heap.size w3).drew)
          go_region_held3 (fun w' => w'.cell? ⟨w.heap.size, 12, none⟩ = some (.int .u32 addr) ∧ w'.cell? ⟨w.heap.size, 2, none⟩ = some (.int .i64 op) ∧ w'.cell? ⟨w.heap.size, 3, none⟩ = some (.int .i64 rd) ∧ w'.cell? ⟨w.heap.size, 4, none⟩ = some (.int .i64 rs1) ∧ w'.cell? ⟨w.heap.size, 5, none⟩ = some (.int .i64 rs2) ∧ w'.cell? ⟨w.heap.size, 6, none⟩ = some (.int .u32 imm))
            ((first
              | with_reducible exact HST.out _ LD.out
              | with_reducible exact HST.out _ B5.out
              | simp [*, World.cell?_setCell_far]))
            (first
              | (go_at_call 34
                 refine (HS.out _).mono ?_
                 rintro e w5 ⟨rfl, b⟩
                 have B5 := Lib.hid ((RowKit.Below.refl (w3).heap.size w3).drew.trans b)
                 have Y5 := X3.out.below B5.out X3.out.1
                 have t4 := Y5.2.1 4 _ rfl
                 have e4 := Y5.2.2 4 (by simp)
                 have t5 := Y5.2.1 5 _ rfl
                 have e5 := Y5.2.2 5 (by simp)
                 clear b Y5))
          clear t4 e4 t5 e5 hne
          have bb := B5.out
          have z1 := X1.out.below bb X1.out.1
          have z2 := X2.out.below bb X2.out.1
          have z4 := X3.out.below bb X3.out.1
          have z3 := KB.out.trans ((bb).mono KB.out.size)
          clear X1 X2 X3 KB
          have X1 := Lib.hid z1
          have X2 := Lib.hid z2
          have X3 := Lib.hid z4
          have KB := Lib.hid z3
          clear z1 z2 z3 z4
          clear bb B5 HST LD
          have z4 := (X3.out).set (i := 4) (v := .int .u32 addr) (by simp)
          simp only [List.set_cons_succ, List.set_cons_zero] at z4
          have z1 := (X1.out).other (p := ⟨b3, 4, none⟩) (v := .int .u32 addr) (by simp; omega)
          have z2 := (X2.out).other (p := ⟨b3, 4, none⟩) (v := .int .u32 addr) (by simp; omega)
          have z3 := (KB.out).setCell (p := ⟨b3, 4, none⟩) (by show w.heap.size ≤ b3; omega) (.int .u32 addr)
          clear X1 X2 X3 KB
          generalize (World.setCell w5 ⟨b3, 4, none⟩ (.int .u32 addr)) = W5 at *
          have X1 := Lib.hid z1
          have X2 := Lib.hid z2
          have X3 := Lib.hid z4
          have KB := Lib.hid z3
          clear z1 z2 z3 z4
          have z4 := (X3.out).set (i := 5) (v := .int .i64 sz) (by simp)
          simp only [List.set_cons_succ, List.set_cons_zero] at z4
          have z1 := (X1.out).other (p := ⟨b3, 5, none⟩) (v := .int .i64 sz) (by simp; omega)
          have z2 := (X2.out).other (p := ⟨b3, 5, none⟩) (v := .int .i64 sz) (by simp; omega)
          have z3 := (KB.out).setCell (p := ⟨b3, 5, none⟩) (by show w.heap.size ≤ b3; omega) (.int .i64 sz)
          clear X1 X2 X3 KB
          generalize (World.setCell W5 ⟨b3, 5, none⟩ (.int .i64 sz)) = W6 at *
          have X1 := Lib.hid z1
          have X2 := Lib.hid z2
          have X3 := Lib.hid z4
          have KB := Lib.hid z3
          clear z1 z2 z3 z4
          have Y3 := Lib.hid (show stC R = [.int .u32 pc, .int .u32 ((pc + 4) % 4294967296), .int .i64 wr, .int .u32 V, .int .u32 addr, .int .i64 sz, .bool false, .int .i64 0, .int .i64 0] from HF.out)
          obtain ⟨ds, hds⟩ : ∃ ds, stC R = ds := ⟨_, rfl⟩
          have hx3 := X3.out
          rw [← Y3.out, hds] at hx3
          have hl3 : ds.length = 9 := by rw [← hds]; rfl
          have ho3 := stC_one R
          rw [hds] at ho3
          have Z3 := Lib.hid hx3
          have DI := Lib.hid (show (Tryd.prog.info? 36).map (·.size) = some ds.length by rw [hl3]; exact st_info)
          have DJ := Lib.hid (show (Tryd.prog.info? 36).map (·.size) = some ds.toArray.size by rw [List.size_toArray, hl3]; exact st_info)
          have DZ := Lib.hid (show z9.length = ds.toArray.size by rw [List.size_toArray, hl3]; rfl)
          have DO := Lib.hid ho3
          have DV := Lib.hid (show stV R = .agg ds.toArray by rw [← hds]; rfl)
          clear hx3 hl3 ho3 hds
          go_wp2_with (first
            | (refine wpList_load_mid rfl 36 (.tmp 3) rfl b3 0 rfl ds _ Z3.out.range Tryd.underlying36 rfl DI.out ?_)
            | (refine wpList_store_blk rfl 36 (.tmp 2) (.tmp 52) rfl (w.heap.size + 1) z9 ds.toArray X2.out DZ.out rfl rfl DJ.out DO.out ?_; intro W9 hB9 hO9 hbl9 hs9))
          exact bodyPost_ret (v := .agg ds.toArray) (results_cell_blk Tryd.results16 _ W9 (w.heap.size + 1) ds _ rfl hB9 Tryd.underlying36 rfl DI.out) rfl ⟨by rw [DV.out], KB.out.trans (hbl9 _ (by omega))⟩
        · rw [if_neg h3] at HR'
          have q3 : (kd == 3) = false := by simpa using h3
          by_cases h2 : kd = 2
          · subst h2
            rw [if_pos rfl] at HR'
            have HF := Lib.hid (show stC R = [.int .u32 pc, .int .u32 ((pc + 4) % 4294967296), .int .i64 wr, .int .u32 V, .int .u32 0, .int .i64 0, .bool false, .int .i64 0, .int .i64 took] by rw [← HR']; rfl)
            clear HR' h4 h3
            have c14 := X1.out.2.1 14 _ rfl
            have t8 := X3.out.2.1 8 _ rfl
            have e8 := X3.out.2.2 8 (by simp)
            go_upto_region 14 with fail
            clear c14 t8 e8
            have z4 := (X3.out).set (i := 8) (v := .int .i64 took) (by simp)
            simp only [List.set_cons_succ, List.set_cons_zero] at z4
            have z1 := (X1.out).other (p := ⟨b3, 8, none⟩) (v := .int .i64 took) (by simp; omega)
            have z2 := (X2.out).other (p := ⟨b3, 8, none⟩) (v := .int .i64 took) (by simp; omega)
            have z3 := (KB.out).setCell (p := ⟨b3, 8, none⟩) (by show w.heap.size ≤ b3; omega) (.int .i64 took)
            clear X1 X2 X3 KB
            generalize (World.setCell w3 ⟨b3, 8, none⟩ (.int .i64 took)) = W3 at *
            have X1 := Lib.hid z1
            have X2 := Lib.hid z2
            have X3 := Lib.hid z4
            have KB := Lib.hid z3
            clear z1 z2 z3 z4
            have Y3 := Lib.hid (show stC R = [.int .u32 pc, .int .u32 ((pc + 4) % 4294967296), .int .i64 wr, .int .u32 V, .int .u32 0, .int .i64 0, .bool false, .int .i64 0, .int .i64 took] from HF.out)
            obtain ⟨ds, hds⟩ : ∃ ds, stC R = ds := ⟨_, rfl⟩
            have hx3 := X3.out
            rw [← Y3.out, hds] at hx3
            have hl3 : ds.length = 9 := by rw [← hds]; rfl
            have ho3 := stC_one R
            rw [hds] at ho3
            have Z3 := Lib.hid hx3
            have DI := Lib.hid (show (Tryd.prog.info? 36).map (·.size) = some ds.length by rw [hl3]; exact st_info)
            have DJ := Lib.hid (show (Tryd.prog.info? 36).map (·.size) = some ds.toArray.size by rw [List.size_toArray, hl3]; exact st_info)
            have DZ := Lib.hid (show z9.length = ds.toArray.size by rw [List.size_toArray, hl3]; rfl)
            have DO := Lib.hid ho3
            have DV := Lib.hid (show stV R = .agg ds.toArray by rw [← hds]; rfl)
            clear hx3 hl3 ho3 hds
            go_wp2_with (first
              | (refine wpList_load_mid rfl 36 (.tmp 3) rfl b3 0 rfl ds _ Z3.out.range Tryd.underlying36 rfl DI.out ?_)
              | (refine wpList_store_blk rfl 36 (.tmp 2) (.tmp 52) rfl (w.heap.size + 1) z9 ds.toArray X2.out DZ.out rfl rfl DJ.out DO.out ?_; intro W9 hB9 hO9 hbl9 hs9))
            exact bodyPost_ret (v := .agg ds.toArray) (results_cell_blk Tryd.results16 _ W9 (w.heap.size + 1) ds _ rfl hB9 Tryd.underlying36 rfl DI.out) rfl ⟨by rw [DV.out], KB.out.trans (hbl9 _ (by omega))⟩
          · rw [if_neg h2] at HR'
            have q2 : (kd == 2) = false := by simpa using h2
            by_cases h5 : kd = 5
            · subst h5
              rw [if_pos rfl] at HR'
              have HF := Lib.hid (show stC R = [.int .u32 pc, .int .u32 next, .int .i64 wr, .int .u32 V, .int .u32 0, .int .i64 0, .bool false, .int .i64 0, .int .i64 0] by rw [← HR']; rfl)
              clear HR' h4 h3 h2
              have c11 := X1.out.2.1 11 _ rfl
              have t1 := X3.out.2.1 1 _ rfl
              have e1 := X3.out.2.2 1 (by simp)
              go_upto_region 14 with fail
              clear c11 t1 e1
              have z4 := (X3.out).set (i := 1) (v := .int .u32 next) (by simp)
              simp only [List.set_cons_succ, List.set_cons_zero] at z4
              have z1 := (X1.out).other (p := ⟨b3, 1, none⟩) (v := .int .u32 next) (by simp; omega)
              have z2 := (X2.out).other (p := ⟨b3, 1, none⟩) (v := .int .u32 next) (by simp; omega)
              have z3 := (KB.out).setCell (p := ⟨b3, 1, none⟩) (by show w.heap.size ≤ b3; omega) (.int .u32 next)
              clear X1 X2 X3 KB
              generalize (World.setCell w3 ⟨b3, 1, none⟩ (.int .u32 next)) = W3 at *
              have X1 := Lib.hid z1
              have X2 := Lib.hid z2
              have X3 := Lib.hid z4
              have KB := Lib.hid z3
              clear z1 z2 z3 z4
              have Y3 := Lib.hid (show stC R = [.int .u32 pc, .int .u32 next, .int .i64 wr, .int .u32 V, .int .u32 0, .int .i64 0, .bool false, .int .i64 0, .int .i64 0] from HF.out)
              obtain ⟨ds, hds⟩ : ∃ ds, stC R = ds := ⟨_, rfl⟩
              have hx3 := X3.out
              rw [← Y3.out, hds] at hx3
              have hl3 : ds.length = 9 := by rw [← hds]; rfl
              have ho3 := stC_one R
              rw [hds] at ho3
              have Z3 := Lib.hid hx3
              have DI := Lib.hid (show (Tryd.prog.info? 36).map (·.size) = some ds.length by rw [hl3]; exact st_info)
              have DJ := Lib.hid (show (Tryd.prog.info? 36).map (·.size) = some ds.toArray.size by rw [List.size_toArray, hl3]; exact st_info)
              have DZ := Lib.hid (show z9.length = ds.toArray.size by rw [List.size_toArray, hl3]; rfl)
              have DO := Lib.hid ho3
              have DV := Lib.hid (show stV R = .agg ds.toArray by rw [← hds]; rfl)
              clear hx3 hl3 ho3 hds
              go_wp2_with (first
                | (refine wpList_load_mid rfl 36 (.tmp 3) rfl b3 0 rfl ds _ Z3.out.range Tryd.underlying36 rfl DI.out ?_)
                | (refine wpList_store_blk rfl 36 (.tmp 2) (.tmp 52) rfl (w.heap.size + 1) z9 ds.toArray X2.out DZ.out rfl rfl DJ.out DO.out ?_; intro W9 hB9 hO9 hbl9 hs9))
              exact bodyPost_ret (v := .agg ds.toArray) (results_cell_blk Tryd.results16 _ W9 (w.heap.size + 1) ds _ rfl hB9 Tryd.underlying36 rfl DI.out) rfl ⟨by rw [DV.out], KB.out.trans (hbl9 _ (by omega))⟩
            · rw [if_neg h5] at HR'
              have q5 : (kd == 5) = false := by simpa using h5
              have HF := Lib.hid (show stC R = [.int .u32 pc, .int .u32 ((pc + 4) % 4294967296), .int .i64 wr, .int .u32 V, .int .u32 0, .int .i64 0, .bool false, .int .i64 0, .int .i64 0] by rw [← HR']; rfl)
              clear HR' h4 h3 h2 h5
              go_upto_region 14 with fail
              have Y3 := Lib.hid (show stC R = [.int .u32 pc, .int .u32 ((pc + 4) % 4294967296), .int .i64 wr, .int .u32 V, .int .u32 0, .int .i64 0, .bool false, .int .i64 0, .int .i64 0] from HF.out)
              obtain ⟨ds, hds⟩ : ∃ ds, stC R = ds := ⟨_, rfl⟩
              have hx3 := X3.out
              rw [← Y3.out, hds] at hx3
              have hl3 : ds.length = 9 := by rw [← hds]; rfl
              have ho3 := stC_one R
              rw [hds] at ho3
              have Z3 := Lib.hid hx3
              have DI := Lib.hid (show (Tryd.prog.info? 36).map (·.size) = some ds.length by rw [hl3]; exact st_info)
              have DJ := Lib.hid (show (Tryd.prog.info? 36).map (·.size) = some ds.toArray.size by rw [List.size_toArray, hl3]; exact st_info)
              have DZ := Lib.hid (show z9.length = ds.toArray.size by rw [List.size_toArray, hl3]; rfl)
              have DO := Lib.hid ho3
              have DV := Lib.hid (show stV R = .agg ds.toArray by rw [← hds]; rfl)
              clear hx3 hl3 ho3 hds
              go_wp2_with (first
                | (refine wpList_load_mid rfl 36 (.tmp 3) rfl b3 0 rfl ds _ Z3.out.range Tryd.underlying36 rfl DI.out ?_)
                | (refine wpList_store_blk rfl 36 (.tmp 2) (.tmp 52) rfl (w.heap.size + 1) z9 ds.toArray X2.out DZ.out rfl rfl DJ.out DO.out ?_; intro W9 hB9 hO9 hbl9 hs9))
              exact bodyPost_ret (v := .agg ds.toArray) (results_cell_blk Tryd.results16 _ W9 (w.heap.size + 1) ds _ rfl hB9 Tryd.underlying36 rfl DI.out) rfl ⟨by rw [DV.out], KB.out.trans (hbl9 _ (by omega))⟩
  · have HR' := HR.out
    rw [if_pos (by simpa using hh)] at HR'
    have q : (halt != 0) = true := by simpa using hh
    replace HTH := Lib.hid (fun w => (show Calls Tryd.prog 42 _ w fun r w' => r = .returned (stV R) ∧ Below w.heap.size w w' by rw [← HR']; exact HTH.out w))
    obtain ⟨ds, hds⟩ : ∃ ds, stC R = ds := ⟨_, rfl⟩
    have hl3 : ds.length = 9 := by rw [← hds]; rfl
    have ho3 := stC_one R
    rw [hds] at ho3
    have DI := Lib.hid (show (Tryd.prog.info? 36).map (·.size) = some ds.length by rw [hl3]; exact st_info)
    have DJ := Lib.hid (show (Tryd.prog.info? 36).map (·.size) = some ds.toArray.size by rw [List.size_toArray, hl3]; exact st_info)
    have DZ := Lib.hid (show z9.length = ds.toArray.size by rw [List.size_toArray, hl3]; rfl)
    have DO := Lib.hid ho3
    have hvd : stV R = .agg ds.toArray := by rw [← hds]; rfl
    simp only [hvd] at HTH
    have HVD := Lib.hid hvd
    clear hvd hl3 ho3 hds HR HR' hh
    go_upto_region 2 with fail
    clear c13
    go_wp2_with (first
      | (refine wpList_load_mid rfl 40 (.tmp 1) rfl w.heap.size 0 rfl _ _ X1.out.range Tryd.underlying40 rfl ent_info ?_)
      | (go_at_call 42
         refine (HTH.out _).mono ?_
         rintro e w1 ⟨rfl, b⟩
         have z2 := X2.out.below b X2.out.1
         have z3 := KB.out.trans (b.mono KB.out.size)
         clear X2 KB b
         have X2 := Lib.hid z2
         have KB := Lib.hid z3
         clear z2 z3)
      | (refine wpList_store_blk rfl 36 (.tmp 2) (.tmp 8) rfl (w.heap.size + 1) z9 ds.toArray X2.out DZ.out rfl rfl DJ.out DO.out ?_; intro W9 hB9 hO9 hbl9 hs9))
    exact bodyPost_ret (v := .agg ds.toArray) (results_cell_blk Tryd.results16 _ W9 (w.heap.size + 1) ds _ rfl hB9 Tryd.underlying36 rfl DI.out) rfl ⟨by rw [HVD.out], KB.out.trans (hbl9 _ (by omega))⟩
end Go.Proofs.YtaokhegbfaokdaaDoor
