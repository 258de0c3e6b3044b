/- THE CONTRACTS of exec.Go; auspexref02's Kind; alive. -/
import Derived.Test.YtkamljmopbocnaaDoorExec
namespace Go.Proofs.YtkamljmopbocnaaDoor
open Go.ChangeShapes Go.WideShapes Go.ChangeAt Go.RowKit
set_option linter.unusedVariables false
set_option linter.unusedSimpArgs false
set_option maxHeartbeats 2000000
set_option maxRecDepth 100000

def goE (e : En) : En :=
  if e.is ≠ 1 then e else if 0 < e.left - 1 then { e with left := e.left - 1 } else { e with left := 0, is := 3, known := if kindI e.op = 5 ∧ e.halt = 0 then true else e.known }
theorem go_any (e : En) (h0 : e.is = 1 → -9223372036854775808 < e.left) (h1 : e.left ≤ 9223372036854775807) (w : World) :
    Calls Tryd.prog 26 #[enV e] w fun r w' => r = .returned (enV (goE e)) ∧ Below w.heap.size w w' := by
  obtain ⟨no, pc, op, rd, rs1, rs2, imm, guess, is, left, value, next, addr, halt, took, known, filled⟩ := e
  simp only at h0 h1
  have H0 := Lib.hid h0
  clear h0
  have HK := Lib.hid (fun w => kind_any op rd rs1 rs2 imm w)
  obtain ⟨R, hR⟩ : ∃ R, goE ⟨no, pc, op, rd, rs1, rs2, imm, guess, is, left, value, next, addr, halt, took, known, filled⟩ = R := ⟨_, rfl⟩
  rw [hR]
  unfold goE at hR
  simp only at hR
  obtain ⟨kd, hkd⟩ : ∃ kd, kindI op = kd := ⟨_, rfl⟩
  rw [hkd] at HK hR
  have HR := Lib.hid hR
  clear hR hkd
  obtain ⟨f1, f2, f3, f4⟩ := two_new w (enC ⟨no, pc, op, rd, rs1, rs2, imm, guess, is, left, value, next, addr, halt, took, known, filled⟩) (enC zeroE) 55 55
  unfold enV
  go_enter Tryd.func26, Tryd.ntmps26
  simp only [enC, zeroE] at f1 f2 f3 f4 ⊢
  go_upto_region 1 with fail
  generalize (w.alloc (.cells #[.int .i64 no, .int .u32 pc, .int .i64 op, .int .i64 rd, .int .i64 rs1, .int .i64 rs2, .int .u32 imm, .int .u32 guess, .int .i64 is, .int .i64 left, .int .u32 value, .int .u32 next, .int .u32 addr, .int .i64 halt, .int .i64 took, .bool known, .bool filled] 55)).alloc (.cells #[.int .i64 0, .int .u32 0, .int .i64 0, .int .i64 0, .int .i64 0, .int .i64 0, .int .u32 0, .int .u32 0, .int .i64 0, .int .i64 0, .int .u32 0, .int .u32 0, .int .u32 0, .int .i64 0, .int .i64 0, .bool false, .bool false] 55) = W0 at *
  have X1 := Lib.hid f1
  have X2 := Lib.hid f2
  have X3 := Lib.hid f3
  clear f1 f2 f3 f4
  have s8 := X1.out.2.1 8 _ rfl
  by_cases hi : is = 1
  · subst hi
    have h0 := H0.out rfl
    clear H0
    have HR1 := Lib.hid (HR.out.symm.trans (if_neg (by decide)))
    clear HR
    have s9 := X1.out.2.1 9 _ rfl
    have f9 := X1.out.2.2 9 (by simp)
    go_upto_region 4 with fail
    have z1 := (X1.out).set (i := 9) (v := .int .i64 (left - 1)) (by simp)
    simp only [List.set_cons_succ, List.set_cons_zero] at z1
    have z2 := (X2.out).other (p := ⟨w.heap.size, 9, none⟩) (v := .int .i64 (left - 1)) (by simp)
    have z3 := (X3.out).setCell (p := ⟨w.heap.size, 9, none⟩) (Nat.le_refl _) (.int .i64 (left - 1))
    generalize (W0.setCell ⟨w.heap.size, 9, none⟩ (.int .i64 (left - 1))) = W1 at *
    clear X1 X2 X3
    have X1 := Lib.hid z1
    have X2 := Lib.hid z2
    have X3 := Lib.hid z3
    clear z1 z2 z3
    clear s8 s9 f9
    have s9 := X1.out.2.1 9 _ rfl
    by_cases hl : 0 < left - 1
    · have HF := Lib.hid (show enC ⟨no, pc, op, rd, rs1, rs2, imm, guess, 1, (left - 1), value, next, addr, halt, took, known, filled⟩ = enC R by rw [HR1.out, if_pos hl])
      clear HR1
      have q := decide_eq_true hl
      go_upto_region 5 with fail
      clear s9 q
      obtain ⟨cs, hcs, hx1⟩ : ∃ cs, cs = enC R ∧ Blk W1 w.heap.size cs := ⟨_, HF.out, X1.out⟩
      have hcl : cs.length = 17 := by rw [hcs]; rfl
      have hco : cs.toArray.all (·.oneCell') = true := by rw [hcs]; exact enC_one R
      have Y1 := Lib.hid hx1
      have YL := Lib.hid hcl
      have YO := Lib.hid hco
      have YC := Lib.hid hcs
      have YI := Lib.hid (show (Tryd.prog.info? 55).map (·.size) = some cs.length by rw [hcl]; exact ent_info)
      have YJ := Lib.hid (show (Tryd.prog.info? 55).map (·.size) = some cs.toArray.size by rw [List.size_toArray, hcl]; exact ent_info)
      have YZ := Lib.hid (show (enC zeroE).length = cs.toArray.size by rw [List.size_toArray, hcl]; rfl)
      clear hx1 hcl hco hcs X1
      go_wp2_with (first
        | (refine wpList_load_mid rfl 55 (.tmp 1) rfl w.heap.size 0 rfl cs _ Y1.out.range Tryd.underlying55 rfl YI.out ?_)
        | (refine wpList_store_blk rfl 55 (.tmp 2) (.tmp 14) rfl (w.heap.size + 1) _ cs.toArray X2.out YZ.out rfl rfl YJ.out YO.out ?_; intro W9 hB9 hO9 hbl9 hs9))
      exact bodyPost_ret (v := .agg cs.toArray) (results_cell_blk Tryd.results26 _ W9 (w.heap.size + 1) cs _ rfl hB9 Tryd.underlying55 rfl YI.out) rfl ⟨by rw [YC.out]; rfl, X3.out.trans (hbl9 _ (by omega))⟩
    · have HR2 := Lib.hid (HR1.out.trans (if_neg hl))
      clear HR1
      have q := decide_eq_false hl
      have f9 := X1.out.2.2 9 (by simp)
      have s8 := X1.out.2.1 8 _ rfl
      have f8 := X1.out.2.2 8 (by simp)
      go_upto_region 7 with fail
      have z1 := ((X1.out).set (i := 9) (v := .int .i64 0) (by simp)).set (i := 8) (v := .int .i64 3) (by simp)
      simp only [List.set_cons_succ, List.set_cons_zero] at z1
      have z2 := ((X2.out).other (p := ⟨w.heap.size, 9, none⟩) (v := .int .i64 0) (by simp)).other (p := ⟨w.heap.size, 8, none⟩) (v := .int .i64 3) (by simp)
      have z3 := ((X3.out).setCell (p := ⟨w.heap.size, 9, none⟩) (Nat.le_refl _) (.int .i64 0)).setCell (p := ⟨w.heap.size, 8, none⟩) (Nat.le_refl _) (.int .i64 3)
      generalize ((W1.setCell ⟨w.heap.size, 9, none⟩ (.int .i64 0)).setCell ⟨w.heap.size, 8, none⟩ (.int .i64 3)) = W2 at *
      clear X1 X2 X3
      have X1 := Lib.hid z1
      have X2 := Lib.hid z2
      have X3 := Lib.hid z3
      clear z1 z2 z3
      clear s8 s9 f8 f9 q hl
      have s2 := X1.out.2.1 2 _ rfl
      have s3 := X1.out.2.1 3 _ rfl
      have s4 := X1.out.2.1 4 _ rfl
      have s5 := X1.out.2.1 5 _ rfl
      have s6 := X1.out.2.1 6 _ rfl
      go_wp2_with fail
      go_at_call 46
      refine (HK.out _).mono ?_
      rintro r w5 ⟨rfl, b5⟩
      have z1 := X1.out.below b5 X1.out.1
      have z2 := X2.out.below b5 X2.out.1
      have z3 := X3.out.trans (b5.mono X3.out.size)
      clear X1 X2 X3 s2 s3 s4 s5 s6 b5
      have X1 := Lib.hid z1
      have X2 := Lib.hid z2
      have X3 := Lib.hid z3
      clear z1 z2 z3
      have s13 := X1.out.2.1 13 _ rfl
      have s15 := X1.out.2.1 15 _ rfl
      have f15 := X1.out.2.2 15 (by simp)
      by_cases hk : kd = 5 ∧ halt = 0
      · obtain ⟨rfl, rfl⟩ := hk
        have HF := Lib.hid (show enC ⟨no, pc, op, rd, rs1, rs2, imm, guess, 3, 0, value, next, addr, 0, took, true, filled⟩ = enC R by rw [HR2.out, if_pos ⟨rfl, rfl⟩])
        clear HR2
        go_upto_region 9 with fail
        have z1 := (X1.out).set (i := 15) (v := .bool true) (by simp)
        simp only [List.set_cons_succ, List.set_cons_zero] at z1
        have z2 := (X2.out).other (p := ⟨w.heap.size, 15, none⟩) (v := .bool true) (by simp)
        have z3 := (X3.out).setCell (p := ⟨w.heap.size, 15, none⟩) (Nat.le_refl _) (.bool true)
        generalize (w5.setCell ⟨w.heap.size, 15, none⟩ (.bool true)) = W6 at *
        clear X1 X2 X3
        have X1 := Lib.hid z1
        have X2 := Lib.hid z2
        have X3 := Lib.hid z3
        clear z1 z2 z3
        clear s13 s15 f15
        obtain ⟨cs, hcs, hx1⟩ : ∃ cs, cs = enC R ∧ Blk W6 w.heap.size cs := ⟨_, HF.out, X1.out⟩
        have hcl : cs.length = 17 := by rw [hcs]; rfl
        have hco : cs.toArray.all (·.oneCell') = true := by rw [hcs]; exact enC_one R
        have Y1 := Lib.hid hx1
        have YL := Lib.hid hcl
        have YO := Lib.hid hco
        have YC := Lib.hid hcs
        have YI := Lib.hid (show (Tryd.prog.info? 55).map (·.size) = some cs.length by rw [hcl]; exact ent_info)
        have YJ := Lib.hid (show (Tryd.prog.info? 55).map (·.size) = some cs.toArray.size by rw [List.size_toArray, hcl]; exact ent_info)
        have YZ := Lib.hid (show (enC zeroE).length = cs.toArray.size by rw [List.size_toArray, hcl]; rfl)
        clear hx1 hcl hco hcs X1
        go_wp2_with (first
          | (refine wpList_load_mid rfl 55 (.tmp 1) rfl w.heap.size 0 rfl cs _ Y1.out.range Tryd.underlying55 rfl YI.out ?_)
          | (refine wpList_store_blk rfl 55 (.tmp 2) (.tmp 27) rfl (w.heap.size + 1) _ cs.toArray X2.out YZ.out rfl rfl YJ.out YO.out ?_; intro W9 hB9 hO9 hbl9 hs9))
        exact bodyPost_ret (v := .agg cs.toArray) (results_cell_blk Tryd.results26 _ W9 (w.heap.size + 1) cs _ rfl hB9 Tryd.underlying55 rfl YI.out) rfl ⟨by rw [YC.out]; rfl, X3.out.trans (hbl9 _ (by omega))⟩
      · have HF := Lib.hid (show enC ⟨no, pc, op, rd, rs1, rs2, imm, guess, 3, 0, value, next, addr, halt, took, known, filled⟩ = enC R by rw [HR2.out, if_neg hk])
        clear HR2
        by_cases hk5 : kd = 5
        · have hh : ¬ halt = 0 := fun h => hk ⟨hk5, h⟩
          have q5 : (kd == 5) = true := by simpa using hk5
          have q6 : (halt == 0) = false := by simpa using hh
          clear hk hk5 hh s15 f15
          obtain ⟨cs, hcs, hx1⟩ : ∃ cs, cs = enC R ∧ Blk w5 w.heap.size cs := ⟨_, HF.out, X1.out⟩
          have hcl : cs.length = 17 := by rw [hcs]; rfl
          have hco : cs.toArray.all (·.oneCell') = true := by rw [hcs]; exact enC_one R
          have Y1 := Lib.hid hx1
          have YL := Lib.hid hcl
          have YO := Lib.hid hco
          have YC := Lib.hid hcs
          have YI := Lib.hid (show (Tryd.prog.info? 55).map (·.size) = some cs.length by rw [hcl]; exact ent_info)
          have YJ := Lib.hid (show (Tryd.prog.info? 55).map (·.size) = some cs.toArray.size by rw [List.size_toArray, hcl]; exact ent_info)
          have YZ := Lib.hid (show (enC zeroE).length = cs.toArray.size by rw [List.size_toArray, hcl]; rfl)
          clear hx1 hcl hco hcs X1
          go_wp2_with (first
            | (refine wpList_load_mid rfl 55 (.tmp 1) rfl w.heap.size 0 rfl cs _ Y1.out.range Tryd.underlying55 rfl YI.out ?_)
            | (refine wpList_store_blk rfl 55 (.tmp 2) (.tmp 27) rfl (w.heap.size + 1) _ cs.toArray X2.out YZ.out rfl rfl YJ.out YO.out ?_; intro W9 hB9 hO9 hbl9 hs9))
          exact bodyPost_ret (v := .agg cs.toArray) (results_cell_blk Tryd.results26 _ W9 (w.heap.size + 1) cs _ rfl hB9 Tryd.underlying55 rfl YI.out) rfl ⟨by rw [YC.out]; rfl, X3.out.trans (hbl9 _ (by omega))⟩
        · have q5 : (kd == 5) = false := by simpa using hk5
          clear hk hk5 s15 f15
          obtain ⟨cs, hcs, hx1⟩ : ∃ cs, cs = enC R ∧ Blk w5 w.heap.size cs := ⟨_, HF.out, X1.out⟩
          have hcl : cs.length = 17 := by rw [hcs]; rfl
          have hco : cs.toArray.all (·.oneCell') = true := by rw [hcs]; exact enC_one R
          have Y1 := Lib.hid hx1
          have YL := Lib.hid hcl
          have YO := Lib.hid hco
          have YC := Lib.hid hcs
          have YI := Lib.hid (show (Tryd.prog.info? 55).map (·.size) = some cs.length by rw [hcl]; exact ent_info)
          have YJ := Lib.hid (show (Tryd.prog.info? 55).map (·.size) = some cs.toArray.size by rw [List.size_toArray, hcl]; exact ent_info)
          have YZ := Lib.hid (show (enC zeroE).length = cs.toArray.size by rw [List.size_toArray, hcl]; rfl)
          clear hx1 hcl hco hcs X1
          go_wp2_with (first
            | (refine wpList_load_mid rfl 55 (.tmp 1) rfl w.heap.size 0 rfl cs _ Y1.out.range Tryd.underlying55 rfl YI.out ?_)
            | (refine wpList_store_blk rfl 55 (.tmp 2) (.tmp 27) rfl (w.heap.size + 1) _ cs.toArray X2.out YZ.out rfl rfl YJ.out YO.out ?_; intro W9 hB9 hO9 hbl9 hs9))
          exact bodyPost_ret (v := .agg cs.toArray) (results_cell_blk Tryd.results26 _ W9 (w.heap.size + 1) cs _ rfl hB9 Tryd.underlying55 rfl YI.out) rfl ⟨by rw [YC.out]; rfl, X3.out.trans (hbl9 _ (by omega))⟩
  · clear H0
    have HF := Lib.hid (show enC ⟨no, pc, op, rd, rs1, rs2, imm, guess, is, left, value, next, addr, halt, took, known, filled⟩ = enC R by rw [← HR.out, if_pos hi])
    clear HR
    have q : (is != 1) = true := by simpa using hi
    clear hi
    obtain ⟨cs, hcs, hx1⟩ : ∃ cs, cs = enC R ∧ Blk W0 w.heap.size cs := ⟨_, HF.out, X1.out⟩
    have hcl : cs.length = 17 := by rw [hcs]; rfl
    have hco : cs.toArray.all (·.oneCell') = true := by rw [hcs]; exact enC_one R
    have Y1 := Lib.hid hx1
    have YL := Lib.hid hcl
    have YO := Lib.hid hco
    have YC := Lib.hid hcs
    have YI := Lib.hid (show (Tryd.prog.info? 55).map (·.size) = some cs.length by rw [hcl]; exact ent_info)
    have YJ := Lib.hid (show (Tryd.prog.info? 55).map (·.size) = some cs.toArray.size by rw [List.size_toArray, hcl]; exact ent_info)
    have YZ := Lib.hid (show (enC zeroE).length = cs.toArray.size by rw [List.size_toArray, hcl]; rfl)
    clear hx1 hcl hco hcs X1
    go_wp2_with (first
      | (refine wpList_load_mid rfl 55 (.tmp 1) rfl w.heap.size 0 rfl cs _ Y1.out.range Tryd.underlying55 rfl YI.out ?_)
      | (refine wpList_store_blk rfl 55 (.tmp 2) (.tmp 6) rfl (w.heap.size + 1) _ cs.toArray X2.out YZ.out rfl rfl YJ.out YO.out ?_; intro W9 hB9 hO9 hbl9 hs9))
    exact bodyPost_ret (v := .agg cs.toArray) (results_cell_blk Tryd.results26 _ W9 (w.heap.size + 1) cs _ rfl hB9 Tryd.underlying55 rfl YI.out) rfl ⟨by rw [YC.out]; rfl, X3.out.trans (hbl9 _ (by omega))⟩
theorem alive18_any (w : World) (ht : TabIs w) (hg : 0 < w.heap.size) : Calls Tryd.prog 17 #[] w fun r w' => r = .returned (.bool true) ∧ Below w.heap.size w w' := by
  have h := start_any ⟨0, 0, 28, 0, 0, 0, 0, 0, 0, 0, 0, 0, 0, 0, 0, false, false⟩ 1 1 (by decide) (by decide) (by decide) (by decide) (by decide) (by decide) w ht hg
  have hi : (startE ⟨0, 0, 28, 0, 0, 0, 0, 0, 0, 0, 0, 0, 0, 0, 0, false, false⟩ 1 1).is = 1 := by
    simp [startE, startG, kindI]
  obtain ⟨r, hr⟩ : ∃ r, startE ⟨0, 0, 28, 0, 0, 0, 0, 0, 0, 0, 0, 0, 0, 0, 0, false, false⟩ 1 1 = r := ⟨_, rfl⟩
  rw [hr] at h hi
  clear hr
  obtain ⟨no, pc, op, rd, rs1, rs2, imm, guess, is, left, value, next, addr, halt, took, known, filled⟩ := r
  simp only at hi
  subst hi
  have H := Lib.hid h
  clear h ht
  go_enter Tryd.func17, Tryd.ntmps17
  go_wp2_with fail
  go_at_call 21
  refine H.out.mono ?_
  rintro r w5 ⟨rfl, b⟩
  have B := Lib.hid b
  clear b
  unfold enV enC
  have hf : ∀ w, (Instr.field 55 (.agg #[.int .i64 no, .int .u32 pc, .int .i64 op, .int .i64 rd, .int .i64 rs1, .int .i64 rs2, .int .u32 imm, .int .u32 guess, .int .i64 1, .int .i64 left, .int .u32 value, .int .u32 next, .int .u32 addr, .int .i64 halt, .int .i64 took, .bool known, .bool filled]) 4).run Tryd.prog w = .ok (.int .i64 1) w := fun _ => by kernel_rfl
  go_wp2
  go_ret
  exact ⟨rfl, B.out⟩
end Go.Proofs.YtkamljmopbocnaaDoor
