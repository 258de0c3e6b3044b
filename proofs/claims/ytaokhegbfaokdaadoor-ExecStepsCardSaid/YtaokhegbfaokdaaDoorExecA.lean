/- THE CONTRACTS of mem.Right (any size), exec.Address. -/
import Derived.Test.YtaokhegbfaokdaaDoorExecG
import Derived.Deep.QuietTactic
import Derived.BigQuiet
import Derived.Lib.QuietBelow
namespace Go.Proofs.YtaokhegbfaokdaaDoor
open Go.ChangeShapes Go.WideShapes Go.ChangeAt Go.RowKit Go.Sort
set_option linter.unusedVariables false
set_option linter.unusedSimpArgs false
set_option maxHeartbeats 2000000
set_option maxRecDepth 100000

def rtA (size addr many : Int) : Bool := decide ((many = 1 ∨ many = 2 ∨ many = 4) ∧ addr % many = 0 ∧ addr + many ≤ size)
theorem right_all (size addr many : Int) (s0 : -9223372036854775808 ≤ size) (s1 : size ≤ 9223372036854775807) (h0 : 0 ≤ addr) (h1 : addr < 4294967296) (w : World) :
    Calls Tryd.prog 33 #[.int .i64 size, .int .u32 addr, .int .i64 many] w fun e w' => e = .returned (.bool (rtA size addr many)) ∧ w = w' := by
  by_cases m1 : many = 1
  · subst m1
    by_cases y : addr + 1 ≤ size
    · have H := Lib.hid (show rtA size addr 1 = true by unfold rtA; simp; omega)
      have z2 : decide (addr + 1 ≤ size) = true := by simp [y]
      go_enter Tryd.func33, Tryd.ntmps33
      go_wp2
      go_ret
      exact ⟨retb H.out.symm, rfl⟩
    · have H := Lib.hid (show rtA size addr 1 = false by unfold rtA; simp; omega)
      have z2 : decide (addr + 1 ≤ size) = false := by simp; omega
      go_enter Tryd.func33, Tryd.ntmps33
      go_wp2
      go_ret
      exact ⟨retb H.out.symm, rfl⟩
  by_cases m2 : many = 2
  · subst m2
    by_cases z : addr % 2 = 0
    · by_cases y : addr + 2 ≤ size
      · have H := Lib.hid (show rtA size addr 2 = true by unfold rtA; simp; omega)
        have z1 : (addr % 2 == 0) = true := by simp [z]
        have z2 : decide (addr + 2 ≤ size) = true := by simp [y]
        clear z
        go_enter Tryd.func33, Tryd.ntmps33
        go_wp2
        go_ret
        exact ⟨retb H.out.symm, rfl⟩
      · have H := Lib.hid (show rtA size addr 2 = false by unfold rtA; simp; omega)
        have z1 : (addr % 2 == 0) = true := by simp [z]
        have z2 : decide (addr + 2 ≤ size) = false := by simp; omega
        clear z
        go_enter Tryd.func33, Tryd.ntmps33
        go_wp2
        go_ret
        exact ⟨retb H.out.symm, rfl⟩
    · have H := Lib.hid (show rtA size addr 2 = false by unfold rtA; simp; omega)
      have z1 : (addr % 2 == 0) = false := by simp [z]
      clear z
      go_enter Tryd.func33, Tryd.ntmps33
      go_wp2
      go_ret
      exact ⟨retb H.out.symm, rfl⟩
  by_cases m4 : many = 4
  · subst m4
    by_cases z : addr % 4 = 0
    · by_cases y : addr + 4 ≤ size
      · have H := Lib.hid (show rtA size addr 4 = true by unfold rtA; simp; omega)
        have z1 : (addr % 4 == 0) = true := by simp [z]
        have z2 : decide (addr + 4 ≤ size) = true := by simp [y]
        clear z
        go_enter Tryd.func33, Tryd.ntmps33
        go_wp2
        go_ret
        exact ⟨retb H.out.symm, rfl⟩
      · have H := Lib.hid (show rtA size addr 4 = false by unfold rtA; simp; omega)
        have z1 : (addr % 4 == 0) = true := by simp [z]
        have z2 : decide (addr + 4 ≤ size) = false := by simp; omega
        clear z
        go_enter Tryd.func33, Tryd.ntmps33
        go_wp2
        go_ret
        exact ⟨retb H.out.symm, rfl⟩
    · have H := Lib.hid (show rtA size addr 4 = false by unfold rtA; simp; omega)
      have z1 : (addr % 4 == 0) = false := by simp [z]
      clear z
      go_enter Tryd.func33, Tryd.ntmps33
      go_wp2
      go_ret
      exact ⟨retb H.out.symm, rfl⟩
  have H := Lib.hid (show rtA size addr many = false by unfold rtA; simp [m1, m2, m4])
  go_enter Tryd.func33, Tryd.ntmps33
  go_wp2
  go_ret
  exact ⟨retb H.out.symm, rfl⟩

def addrE (e : En) (size a : Int) : En :=
  if e.is ≠ 0 ∨ e.known = true ∨ (kindI e.op ≠ 3 ∧ kindI e.op ≠ 4) then e
  else if rtA size ((a + e.imm) % 4294967296) (sizeOp e.op) = true then { e with addr := (a + e.imm) % 4294967296, known := true }
  else if kindI e.op = 3 then { e with addr := (a + e.imm) % 4294967296, halt := 4, is := 3 }
  else { e with addr := (a + e.imm) % 4294967296, halt := 5, is := 3 }
theorem address_any (e : En) (size a : Int) (s0 : -9223372036854775808 ≤ size) (s1 : size ≤ 9223372036854775807) (w : World) :
    Calls Tryd.prog 9 #[enV e, .int .i64 size, .int .u32 a] w fun r w' => r = .returned (enV (addrE e size a)) ∧ Below w.heap.size w w' := by
  obtain ⟨no, pc, op, rd, rs1, rs2, imm, guess, is, left, value, next, addr, halt, took, known, filled⟩ := e
  have HK := Lib.hid (fun w => kind_any op rd rs1 rs2 imm w)
  have HS := Lib.hid (fun w => size_any op rd rs1 rs2 imm w)
  have HRT := Lib.hid (fun w : World => (right_all size ((a + imm) % 4294967296) (sizeOp op) s0 s1 (by omega) (by omega) w).mono (fun r w' (h : _ ∧ w = w') => (show r = .returned (.bool (rtA size ((a + imm) % 4294967296) (sizeOp op))) ∧ Below w.heap.size w w' from ⟨h.1, h.2 ▸ Below.refl _ _⟩)))
  obtain ⟨R, hR⟩ : ∃ R, addrE ⟨no, pc, op, rd, rs1, rs2, imm, guess, is, left, value, next, addr, halt, took, known, filled⟩ size a = R := ⟨_, rfl⟩
  rw [hR]
  unfold addrE at hR
  simp only at hR
  obtain ⟨kd, hkd⟩ : ∃ kd, kindI op = kd := ⟨_, rfl⟩
  obtain ⟨sz, hsz⟩ : ∃ sz, sizeOp op = sz := ⟨_, rfl⟩
  obtain ⟨rt, hrt⟩ : ∃ rt, rtA size ((a + imm) % 4294967296) sz = rt := ⟨_, rfl⟩
  rw [hkd] at HK
  rw [hsz] at HS HRT
  rw [hrt] at HRT
  rw [hkd, hsz, hrt] at hR
  have HR := Lib.hid hR
  clear hR hkd hsz hrt s0 s1
  obtain ⟨f1, f2, f3, f4⟩ := two_new w (enC ⟨no, pc, op, rd, rs1, rs2, imm, guess, is, left, value, next, addr, halt, took, known, filled⟩) (enC zeroE) 40 40
  unfold enV
  go_enter Tryd.func9, Tryd.ntmps9
  simp only [enC, zeroE] at f1 f2 f3 f4 ⊢
  go_upto_region 1 with fail
  generalize (w.alloc (.cells #[.int .i64 no, .int .u32 pc, .int .i64 op, .int .i64 rd, .int .i64 rs1, .int .i64 rs2, .int .u32 imm, .int .u32 guess, .int .i64 is, .int .i64 left, .int .u32 value, .int .u32 next, .int .u32 addr, .int .i64 halt, .int .i64 took, .bool known, .bool filled] 40)).alloc (.cells #[.int .i64 0, .int .u32 0, .int .i64 0, .int .i64 0, .int .i64 0, .int .i64 0, .int .u32 0, .int .u32 0, .int .i64 0, .int .i64 0, .int .u32 0, .int .u32 0, .int .u32 0, .int .i64 0, .int .i64 0, .bool false, .bool false] 40) = W0 at *
  have X1 := Lib.hid f1
  have X2 := Lib.hid f2
  have X3 := Lib.hid f3
  clear f1 f2 f3 f4
  have s2 := X1.out.2.1 2 _ rfl
  have s3 := X1.out.2.1 3 _ rfl
  have s4 := X1.out.2.1 4 _ rfl
  have s5 := X1.out.2.1 5 _ rfl
  have s6 := X1.out.2.1 6 _ rfl
  go_wp2_with fail
  go_at_call 32
  refine (HK.out _).mono ?_
  rintro r w5 ⟨rfl, b5⟩
  have z1 := X1.out.below b5 X1.out.1
  have z2 := X2.out.below b5 X2.out.1
  have z3 := X3.out.trans (b5.mono X3.out.size)
  clear X1 X2 X3 s2 s3 s4 s5 s6 b5
  have X1 := Lib.hid z1
  have X2 := Lib.hid z2
  have X3 := Lib.hid z3
  clear z1 z2 z3
  have s8 := X1.out.2.1 8 _ rfl
  have s15 := X1.out.2.1 15 _ rfl
  by_cases hno : is ≠ 0 ∨ known = true ∨ (kd ≠ 3 ∧ kd ≠ 4)
  · have HF := Lib.hid (show enC ⟨no, pc, op, rd, rs1, rs2, imm, guess, is, left, value, next, addr, halt, took, known, filled⟩ = enC R by rw [← HR.out, if_pos hno])
    clear HR
    by_cases h0 : is = 0
    · subst h0
      cases known
      · have q3 : (kd != 3) = true := by simp at hno; simp; omega
        have q4 : (kd != 4) = true := by simp at hno; simp; omega
        clear hno
        go_upto_region 3 with fail
        clear s8 s15 q3 q4
        obtain ⟨cs, hcs, hx1⟩ : ∃ cs, cs = enC R ∧ Blk w5 w.heap.size cs := ⟨_, HF.out, X1.out⟩
        have hcl : cs.length = 17 := by rw [hcs]; rfl
        have hco : cs.toArray.all (·.oneCell') = true := by rw [hcs]; exact enC_one R
        have Y1 := Lib.hid hx1
        have YL := Lib.hid hcl
        have YO := Lib.hid hco
        have YC := Lib.hid hcs
        have YI := Lib.hid (show (Tryd.prog.info? 40).map (·.size) = some cs.length by rw [hcl]; exact ent_info)
        have YJ := Lib.hid (show (Tryd.prog.info? 40).map (·.size) = some cs.toArray.size by rw [List.size_toArray, hcl]; exact ent_info)
        have YZ := Lib.hid (show (enC zeroE).length = cs.toArray.size by rw [List.size_toArray, hcl]; rfl)
        clear hx1 hcl hco hcs X1
        go_wp2_with (first
          | (refine wpList_load_mid rfl 40 (.tmp 3) rfl w.heap.size 0 rfl cs _ Y1.out.range Tryd.underlying40 rfl YI.out ?_)
          | (refine wpList_store_blk rfl 40 (.tmp 6) (.tmp 26) rfl (w.heap.size + 1) _ cs.toArray X2.out YZ.out rfl rfl YJ.out YO.out ?_; intro W9 hB9 hO9 hbl9 hs9))
        exact bodyPost_ret (v := .agg cs.toArray) (results_cell_blk Tryd.results9 _ W9 (w.heap.size + 1) cs _ rfl hB9 Tryd.underlying40 rfl YI.out) rfl ⟨by rw [YC.out]; rfl, X3.out.trans (hbl9 _ (by omega))⟩
      · clear hno
        go_upto_region 3 with fail
        clear s8 s15
        obtain ⟨cs, hcs, hx1⟩ : ∃ cs, cs = enC R ∧ Blk w5 w.heap.size cs := ⟨_, HF.out, X1.out⟩
        have hcl : cs.length = 17 := by rw [hcs]; rfl
        have hco : cs.toArray.all (·.oneCell') = true := by rw [hcs]; exact enC_one R
        have Y1 := Lib.hid hx1
        have YL := Lib.hid hcl
        have YO := Lib.hid hco
        have YC := Lib.hid hcs
        have YI := Lib.hid (show (Tryd.prog.info? 40).map (·.size) = some cs.length by rw [hcl]; exact ent_info)
        have YJ := Lib.hid (show (Tryd.prog.info? 40).map (·.size) = some cs.toArray.size by rw [List.size_toArray, hcl]; exact ent_info)
        have YZ := Lib.hid (show (enC zeroE).length = cs.toArray.size by rw [List.size_toArray, hcl]; rfl)
        clear hx1 hcl hco hcs X1
        go_wp2_with (first
          | (refine wpList_load_mid rfl 40 (.tmp 3) rfl w.heap.size 0 rfl cs _ Y1.out.range Tryd.underlying40 rfl YI.out ?_)
          | (refine wpList_store_blk rfl 40 (.tmp 6) (.tmp 26) rfl (w.heap.size + 1) _ cs.toArray X2.out YZ.out rfl rfl YJ.out YO.out ?_; intro W9 hB9 hO9 hbl9 hs9))
        exact bodyPost_ret (v := .agg cs.toArray) (results_cell_blk Tryd.results9 _ W9 (w.heap.size + 1) cs _ rfl hB9 Tryd.underlying40 rfl YI.out) rfl ⟨by rw [YC.out]; rfl, X3.out.trans (hbl9 _ (by omega))⟩
    · have q : (is != 0) = true := by simpa using h0
      clear hno h0
      go_upto_region 3 with fail
      clear s8 s15 q
      obtain ⟨cs, hcs, hx1⟩ : ∃ cs, cs = enC R ∧ Blk w5 w.heap.size cs := ⟨_, HF.out, X1.out⟩
      have hcl : cs.length = 17 := by rw [hcs]; rfl
      have hco : cs.toArray.all (·.oneCell') = true := by rw [hcs]; exact enC_one R
      have Y1 := Lib.hid hx1
      have YL := Lib.hid hcl
      have YO := Lib.hid hco
      have YC := Lib.hid hcs
      have YI := Lib.hid (show (Tryd.prog.info? 40).map (·.size) = some cs.length by rw [hcl]; exact ent_info)
      have YJ := Lib.hid (show (Tryd.prog.info? 40).map (·.size) = some cs.toArray.size by rw [List.size_toArray, hcl]; exact ent_info)
      have YZ := Lib.hid (show (enC zeroE).length = cs.toArray.size by rw [List.size_toArray, hcl]; rfl)
      clear hx1 hcl hco hcs X1
      go_wp2_with (first
        | (refine wpList_load_mid rfl 40 (.tmp 3) rfl w.heap.size 0 rfl cs _ Y1.out.range Tryd.underlying40 rfl YI.out ?_)
        | (refine wpList_store_blk rfl 40 (.tmp 6) (.tmp 26) rfl (w.heap.size + 1) _ cs.toArray X2.out YZ.out rfl rfl YJ.out YO.out ?_; intro W9 hB9 hO9 hbl9 hs9))
      exact bodyPost_ret (v := .agg cs.toArray) (results_cell_blk Tryd.results9 _ W9 (w.heap.size + 1) cs _ rfl hB9 Tryd.underlying40 rfl YI.out) rfl ⟨by rw [YC.out]; rfl, X3.out.trans (hbl9 _ (by omega))⟩
  · have h0 : is = 0 := Classical.byContradiction fun h => hno (Or.inl h)
    subst h0
    have hkn : known = false := by cases known; rfl; exact absurd (Or.inr (Or.inl rfl)) hno
    subst hkn
    have hk34 : kd = 3 ∨ kd = 4 := by
      by_cases h3 : kd = 3
      · exact Or.inl h3
      · by_cases h4 : kd = 4
        · exact Or.inr h4
        · exact absurd (Or.inr (Or.inr ⟨h3, h4⟩)) hno
    have HR2 := Lib.hid (HR.out.symm.trans (if_neg hno))
    have s6 := X1.out.2.1 6 _ rfl
    have s12 := X1.out.2.1 12 _ rfl
    have f12 := X1.out.2.2 12 (by simp)
    clear hno HR
    have HK34 := Lib.hid hk34
    clear hk34
    rcases HK34.out with rfl | rfl
    ·
      go_upto_region 6 with fail
      have z1 := (X1.out).set (i := 12) (v := .int .u32 ((a + imm) % 4294967296)) (by simp)
      simp only [List.set_cons_succ, List.set_cons_zero] at z1
      have z2 := (X2.out).other (p := ⟨w.heap.size, 12, none⟩) (v := .int .u32 ((a + imm) % 4294967296)) (by simp)
      have z3 := (X3.out).setCell (p := ⟨w.heap.size, 12, none⟩) (Nat.le_refl _) (.int .u32 ((a + imm) % 4294967296))
      generalize (w5.setCell ⟨w.heap.size, 12, none⟩ (.int .u32 ((a + imm) % 4294967296))) = W1 at *
      clear X1 X2 X3
      have X1 := Lib.hid z1
      have X2 := Lib.hid z2
      have X3 := Lib.hid z3
      clear z1 z2 z3
      clear s6 s8 s12 s15 f12 HK34
      cases rt
      · have HF := Lib.hid (show enC ⟨no, pc, op, rd, rs1, rs2, imm, guess, 3, left, value, next, ((a + imm) % 4294967296), 4, took, false, filled⟩ = enC R by rw [HR2.out, if_neg (by decide)]; rfl)
        clear HR2
        have c2 := X1.out.2.1 2 _ rfl
        have c3 := X1.out.2.1 3 _ rfl
        have c4 := X1.out.2.1 4 _ rfl
        have c5 := X1.out.2.1 5 _ rfl
        have c6 := X1.out.2.1 6 _ rfl
        have c12 := X1.out.2.1 12 _ rfl
        have g2 := fun d os => cell_regrown c2 d os
        have g3 := fun d os => cell_regrown c3 d os
        have g4 := fun d os => cell_regrown c4 d os
        have g5 := fun d os => cell_regrown c5 d os
        have g6 := fun d os => cell_regrown c6 d os
        have g12 := fun d os => cell_regrown c12 d os
        clear c2 c3 c4 c5 c6 c12
        refine wp_region_quiet_below (by kernel_rfl) (by kernel_rfl) ?_
        repeat (go_big_quiet_step (first
          | (go_at_call 34; exact Calls.regrown_of (HS.out _))
          | (go_at_call 33; exact Calls.regrown_of (HRT.out _))))
        refine wpQuiet_nil ?_
        intro _ hw'
        obtain ⟨⟨nq, osq⟩, hw''⟩ := hw'
        subst hw''
        have z1 := X1.out.below (below_regrown W1 nq osq) X1.out.1
        have z2 := X2.out.below (below_regrown W1 nq osq) X2.out.1
        have z3 := X3.out.trans ((below_regrown W1 nq osq).mono X3.out.size)
        generalize grow (redrawn W1 nq) osq = W2 at *
        clear X1 X2 X3 g2 g3 g4 g5 g6 g12
        have X1 := Lib.hid z1
        have X2 := Lib.hid z2
        have X3 := Lib.hid z3
        clear z1 z2 z3
        have s15 := X1.out.2.1 15 _ rfl
        have f15 := X1.out.2.2 15 (by simp)
        have s13 := X1.out.2.1 13 _ rfl
        have f13 := X1.out.2.2 13 (by simp)
        have s8 := X1.out.2.1 8 _ rfl
        have f8 := X1.out.2.2 8 (by simp)
        go_upto_region 10 with fail
        have z1 := ((X1.out).set (i := 13) (v := .int .i64 4) (by simp)).set (i := 8) (v := .int .i64 3) (by simp)
        simp only [List.set_cons_succ, List.set_cons_zero] at z1
        have z2 := ((X2.out).other (p := ⟨w.heap.size, 13, none⟩) (v := .int .i64 4) (by simp)).other (p := ⟨w.heap.size, 8, none⟩) (v := .int .i64 3) (by simp)
        have z3 := ((X3.out).setCell (p := ⟨w.heap.size, 13, none⟩) (Nat.le_refl _) (.int .i64 4)).setCell (p := ⟨w.heap.size, 8, none⟩) (Nat.le_refl _) (.int .i64 3)
        generalize ((W2.setCell ⟨w.heap.size, 13, none⟩ (.int .i64 4)).setCell ⟨w.heap.size, 8, none⟩ (.int .i64 3)) = W4 at *
        clear X1 X2 X3
        have X1 := Lib.hid z1
        have X2 := Lib.hid z2
        have X3 := Lib.hid z3
        clear z1 z2 z3
        clear s15 f15 s13 f13 s8 f8
        obtain ⟨cs, hcs, hx1⟩ : ∃ cs, cs = enC R ∧ Blk W4 w.heap.size cs := ⟨_, HF.out, X1.out⟩
        have hcl : cs.length = 17 := by rw [hcs]; rfl
        have hco : cs.toArray.all (·.oneCell') = true := by rw [hcs]; exact enC_one R
        have Y1 := Lib.hid hx1
        have YL := Lib.hid hcl
        have YO := Lib.hid hco
        have YC := Lib.hid hcs
        have YI := Lib.hid (show (Tryd.prog.info? 40).map (·.size) = some cs.length by rw [hcl]; exact ent_info)
        have YJ := Lib.hid (show (Tryd.prog.info? 40).map (·.size) = some cs.toArray.size by rw [List.size_toArray, hcl]; exact ent_info)
        have YZ := Lib.hid (show (enC zeroE).length = cs.toArray.size by rw [List.size_toArray, hcl]; rfl)
        clear hx1 hcl hco hcs X1
        go_wp2_with (first
          | (refine wpList_load_mid rfl 40 (.tmp 3) rfl w.heap.size 0 rfl cs _ Y1.out.range Tryd.underlying40 rfl YI.out ?_)
          | (refine wpList_store_blk rfl 40 (.tmp 6) (.tmp 49) rfl (w.heap.size + 1) _ cs.toArray X2.out YZ.out rfl rfl YJ.out YO.out ?_; intro W9 hB9 hO9 hbl9 hs9))
        exact bodyPost_ret (v := .agg cs.toArray) (results_cell_blk Tryd.results9 _ W9 (w.heap.size + 1) cs _ rfl hB9 Tryd.underlying40 rfl YI.out) rfl ⟨by rw [YC.out]; rfl, X3.out.trans (hbl9 _ (by omega))⟩
      · have HF := Lib.hid (show enC ⟨no, pc, op, rd, rs1, rs2, imm, guess, 0, left, value, next, ((a + imm) % 4294967296), halt, took, true, filled⟩ = enC R by rw [HR2.out, if_pos rfl])
        clear HR2
        have c2 := X1.out.2.1 2 _ rfl
        have c3 := X1.out.2.1 3 _ rfl
        have c4 := X1.out.2.1 4 _ rfl
        have c5 := X1.out.2.1 5 _ rfl
        have c6 := X1.out.2.1 6 _ rfl
        have c12 := X1.out.2.1 12 _ rfl
        have g2 := fun d os => cell_regrown c2 d os
        have g3 := fun d os => cell_regrown c3 d os
        have g4 := fun d os => cell_regrown c4 d os
        have g5 := fun d os => cell_regrown c5 d os
        have g6 := fun d os => cell_regrown c6 d os
        have g12 := fun d os => cell_regrown c12 d os
        clear c2 c3 c4 c5 c6 c12
        refine wp_region_quiet_below (by kernel_rfl) (by kernel_rfl) ?_
        repeat (go_big_quiet_step (first
          | (go_at_call 34; exact Calls.regrown_of (HS.out _))
          | (go_at_call 33; exact Calls.regrown_of (HRT.out _))))
        refine wpQuiet_nil ?_
        intro _ hw'
        obtain ⟨⟨nq, osq⟩, hw''⟩ := hw'
        subst hw''
        have z1 := X1.out.below (below_regrown W1 nq osq) X1.out.1
        have z2 := X2.out.below (below_regrown W1 nq osq) X2.out.1
        have z3 := X3.out.trans ((below_regrown W1 nq osq).mono X3.out.size)
        generalize grow (redrawn W1 nq) osq = W2 at *
        clear X1 X2 X3 g2 g3 g4 g5 g6 g12
        have X1 := Lib.hid z1
        have X2 := Lib.hid z2
        have X3 := Lib.hid z3
        clear z1 z2 z3
        have s15 := X1.out.2.1 15 _ rfl
        have f15 := X1.out.2.2 15 (by simp)
        have s13 := X1.out.2.1 13 _ rfl
        have f13 := X1.out.2.2 13 (by simp)
        have s8 := X1.out.2.1 8 _ rfl
        have f8 := X1.out.2.2 8 (by simp)
        go_upto_region 10 with fail
        have z1 := (X1.out).set (i := 15) (v := .bool true) (by simp)
        simp only [List.set_cons_succ, List.set_cons_zero] at z1
        have z2 := (X2.out).other (p := ⟨w.heap.size, 15, none⟩) (v := .bool true) (by simp)
        have z3 := (X3.out).setCell (p := ⟨w.heap.size, 15, none⟩) (Nat.le_refl _) (.bool true)
        generalize (W2.setCell ⟨w.heap.size, 15, none⟩ (.bool true)) = W4 at *
        clear X1 X2 X3
        have X1 := Lib.hid z1
        have X2 := Lib.hid z2
        have X3 := Lib.hid z3
        clear z1 z2 z3
        clear s15 f15 s13 f13 s8 f8
        obtain ⟨cs, hcs, hx1⟩ : ∃ cs, cs = enC R ∧ Blk W4 w.heap.size cs := ⟨_, HF.out, X1.out⟩
        have hcl : cs.length = 17 := by rw [hcs]; rfl
        have hco : cs.toArray.all (·.oneCell') = true := by rw [hcs]; exact enC_one R
        have Y1 := Lib.hid hx1
        have YL := Lib.hid hcl
        have YO := Lib.hid hco
        have YC := Lib.hid hcs
        have YI := Lib.hid (show (Tryd.prog.info? 40).map (·.size) = some cs.length by rw [hcl]; exact ent_info)
        have YJ := Lib.hid (show (Tryd.prog.info? 40).map (·.size) = some cs.toArray.size by rw [List.size_toArray, hcl]; exact ent_info)
        have YZ := Lib.hid (show (enC zeroE).length = cs.toArray.size by rw [List.size_toArray, hcl]; rfl)
        clear hx1 hcl hco hcs X1
        go_wp2_with (first
          | (refine wpList_load_mid rfl 40 (.tmp 3) rfl w.heap.size 0 rfl cs _ Y1.out.range Tryd.underlying40 rfl YI.out ?_)
          | (refine wpList_store_blk rfl 40 (.tmp 6) (.tmp 49) rfl (w.heap.size + 1) _ cs.toArray X2.out YZ.out rfl rfl YJ.out YO.out ?_; intro W9 hB9 hO9 hbl9 hs9))
        exact bodyPost_ret (v := .agg cs.toArray) (results_cell_blk Tryd.results9 _ W9 (w.heap.size + 1) cs _ rfl hB9 Tryd.underlying40 rfl YI.out) rfl ⟨by rw [YC.out]; rfl, X3.out.trans (hbl9 _ (by omega))⟩
    ·
      go_upto_region 6 with fail
      have z1 := (X1.out).set (i := 12) (v := .int .u32 ((a + imm) % 4294967296)) (by simp)
      simp only [List.set_cons_succ, List.set_cons_zero] at z1
      have z2 := (X2.out).other (p := ⟨w.heap.size, 12, none⟩) (v := .int .u32 ((a + imm) % 4294967296)) (by simp)
      have z3 := (X3.out).setCell (p := ⟨w.heap.size, 12, none⟩) (Nat.le_refl _) (.int .u32 ((a + imm) % 4294967296))
      generalize (w5.setCell ⟨w.heap.size, 12, none⟩ (.int .u32 ((a + imm) % 4294967296))) = W1 at *
      clear X1 X2 X3
      have X1 := Lib.hid z1
      have X2 := Lib.hid z2
      have X3 := Lib.hid z3
      clear z1 z2 z3
      clear s6 s8 s12 s15 f12 HK34
      cases rt
      · have HF := Lib.hid (show enC ⟨no, pc, op, rd, rs1, rs2, imm, guess, 3, left, value, next, ((a + imm) % 4294967296), 5, took, false, filled⟩ = enC R by rw [HR2.out, if_neg (by decide), if_neg (by decide)])
        clear HR2
        have c2 := X1.out.2.1 2 _ rfl
        have c3 := X1.out.2.1 3 _ rfl
        have c4 := X1.out.2.1 4 _ rfl
        have c5 := X1.out.2.1 5 _ rfl
        have c6 := X1.out.2.1 6 _ rfl
        have c12 := X1.out.2.1 12 _ rfl
        have g2 := fun d os => cell_regrown c2 d os
        have g3 := fun d os => cell_regrown c3 d os
        have g4 := fun d os => cell_regrown c4 d os
        have g5 := fun d os => cell_regrown c5 d os
        have g6 := fun d os => cell_regrown c6 d os
        have g12 := fun d os => cell_regrown c12 d os
        clear c2 c3 c4 c5 c6 c12
        refine wp_region_quiet_below (by kernel_rfl) (by kernel_rfl) ?_
        repeat (go_big_quiet_step (first
          | (go_at_call 34; exact Calls.regrown_of (HS.out _))
          | (go_at_call 33; exact Calls.regrown_of (HRT.out _))))
        refine wpQuiet_nil ?_
        intro _ hw'
        obtain ⟨⟨nq, osq⟩, hw''⟩ := hw'
        subst hw''
        have z1 := X1.out.below (below_regrown W1 nq osq) X1.out.1
        have z2 := X2.out.below (below_regrown W1 nq osq) X2.out.1
        have z3 := X3.out.trans ((below_regrown W1 nq osq).mono X3.out.size)
        generalize grow (redrawn W1 nq) osq = W2 at *
        clear X1 X2 X3 g2 g3 g4 g5 g6 g12
        have X1 := Lib.hid z1
        have X2 := Lib.hid z2
        have X3 := Lib.hid z3
        clear z1 z2 z3
        have s15 := X1.out.2.1 15 _ rfl
        have f15 := X1.out.2.2 15 (by simp)
        have s13 := X1.out.2.1 13 _ rfl
        have f13 := X1.out.2.2 13 (by simp)
        have s8 := X1.out.2.1 8 _ rfl
        have f8 := X1.out.2.2 8 (by simp)
        go_upto_region 10 with fail
        have z1 := ((X1.out).set (i := 13) (v := .int .i64 5) (by simp)).set (i := 8) (v := .int .i64 3) (by simp)
        simp only [List.set_cons_succ, List.set_cons_zero] at z1
        have z2 := ((X2.out).other (p := ⟨w.heap.size, 13, none⟩) (v := .int .i64 5) (by simp)).other (p := ⟨w.heap.size, 8, none⟩) (v := .int .i64 3) (by simp)
        have z3 := ((X3.out).setCell (p := ⟨w.heap.size, 13, none⟩) (Nat.le_refl _) (.int .i64 5)).setCell (p := ⟨w.heap.size, 8, none⟩) (Nat.le_refl _) (.int .i64 3)
        generalize ((W2.setCell ⟨w.heap.size, 13, none⟩ (.int .i64 5)).setCell ⟨w.heap.size, 8, none⟩ (.int .i64 3)) = W4 at *
        clear X1 X2 X3
        have X1 := Lib.hid z1
        have X2 := Lib.hid z2
        have X3 := Lib.hid z3
        clear z1 z2 z3
        clear s15 f15 s13 f13 s8 f8
        obtain ⟨cs, hcs, hx1⟩ : ∃ cs, cs = enC R ∧ Blk W4 w.heap.size cs := ⟨_, HF.out, X1.out⟩
        have hcl : cs.length = 17 := by rw [hcs]; rfl
        have hco : cs.toArray.all (·.oneCell') = true := by rw [hcs]; exact enC_one R
        have Y1 := Lib.hid hx1
        have YL := Lib.hid hcl
        have YO := Lib.hid hco
        have YC := Lib.hid hcs
        have YI := Lib.hid (show (Tryd.prog.info? 40).map (·.size) = some cs.length by rw [hcl]; exact ent_info)
        have YJ := Lib.hid (show (Tryd.prog.info? 40).map (·.size) = some cs.toArray.size by rw [List.size_toArray, hcl]; exact ent_info)
        have YZ := Lib.hid (show (enC zeroE).length = cs.toArray.size by rw [List.size_toArray, hcl]; rfl)
        clear hx1 hcl hco hcs X1
        go_wp2_with (first
          | (refine wpList_load_mid rfl 40 (.tmp 3) rfl w.heap.size 0 rfl cs _ Y1.out.range Tryd.underlying40 rfl YI.out ?_)
          | (refine wpList_store_blk rfl 40 (.tmp 6) (.tmp 49) rfl (w.heap.size + 1) _ cs.toArray X2.out YZ.out rfl rfl YJ.out YO.out ?_; intro W9 hB9 hO9 hbl9 hs9))
        exact bodyPost_ret (v := .agg cs.toArray) (results_cell_blk Tryd.results9 _ W9 (w.heap.size + 1) cs _ rfl hB9 Tryd.underlying40 rfl YI.out) rfl ⟨by rw [YC.out]; rfl, X3.out.trans (hbl9 _ (by omega))⟩
      · have HF := Lib.hid (show enC ⟨no, pc, op, rd, rs1, rs2, imm, guess, 0, left, value, next, ((a + imm) % 4294967296), halt, took, true, filled⟩ = enC R by rw [HR2.out, if_pos rfl])
        clear HR2
        have c2 := X1.out.2.1 2 _ rfl
        have c3 := X1.out.2.1 3 _ rfl
        have c4 := X1.out.2.1 4 _ rfl
        have c5 := X1.out.2.1 5 _ rfl
        have c6 := X1.out.2.1 6 _ rfl
        have c12 := X1.out.2.1 12 _ rfl
        have g2 := fun d os => cell_regrown c2 d os
        have g3 := fun d os => cell_regrown c3 d os
        have g4 := fun d os => cell_regrown c4 d os
        have g5 := fun d os => cell_regrown c5 d os
        have g6 := fun d os => cell_regrown c6 d os
        have g12 := fun d os => cell_regrown c12 d os
        clear c2 c3 c4 c5 c6 c12
        refine wp_region_quiet_below (by kernel_rfl) (by kernel_rfl) ?_
        repeat (go_big_quiet_step (first
          | (go_at_call 34; exact Calls.regrown_of (HS.out _))
          | (go_at_call 33; exact Calls.regrown_of (HRT.out _))))
        refine wpQuiet_nil ?_
        intro _ hw'
        obtain ⟨⟨nq, osq⟩, hw''⟩ := hw'
        subst hw''
        have z1 := X1.out.below (below_regrown W1 nq osq) X1.out.1
        have z2 := X2.out.below (below_regrown W1 nq osq) X2.out.1
        have z3 := X3.out.trans ((below_regrown W1 nq osq).mono X3.out.size)
        generalize grow (redrawn W1 nq) osq = W2 at *
        clear X1 X2 X3 g2 g3 g4 g5 g6 g12
        have X1 := Lib.hid z1
        have X2 := Lib.hid z2
        have X3 := Lib.hid z3
        clear z1 z2 z3
        have s15 := X1.out.2.1 15 _ rfl
        have f15 := X1.out.2.2 15 (by simp)
        have s13 := X1.out.2.1 13 _ rfl
        have f13 := X1.out.2.2 13 (by simp)
        have s8 := X1.out.2.1 8 _ rfl
        have f8 := X1.out.2.2 8 (by simp)
        go_upto_region 10 with fail
        have z1 := (X1.out).set (i := 15) (v := .bool true) (by simp)
        simp only [List.set_cons_succ, List.set_cons_zero] at z1
        have z2 := (X2.out).other (p := ⟨w.heap.size, 15, none⟩) (v := .bool true) (by simp)
        have z3 := (X3.out).setCell (p := ⟨w.heap.size, 15, none⟩) (Nat.le_refl _) (.bool true)
        generalize (W2.setCell ⟨w.heap.size, 15, none⟩ (.bool true)) = W4 at *
        clear X1 X2 X3
        have X1 := Lib.hid z1
        have X2 := Lib.hid z2
        have X3 := Lib.hid z3
        clear z1 z2 z3
        clear s15 f15 s13 f13 s8 f8
        obtain ⟨cs, hcs, hx1⟩ : ∃ cs, cs = enC R ∧ Blk W4 w.heap.size cs := ⟨_, HF.out, X1.out⟩
        have hcl : cs.length = 17 := by rw [hcs]; rfl
        have hco : cs.toArray.all (·.oneCell') = true := by rw [hcs]; exact enC_one R
        have Y1 := Lib.hid hx1
        have YL := Lib.hid hcl
        have YO := Lib.hid hco
        have YC := Lib.hid hcs
        have YI := Lib.hid (show (Tryd.prog.info? 40).map (·.size) = some cs.length by rw [hcl]; exact ent_info)
        have YJ := Lib.hid (show (Tryd.prog.info? 40).map (·.size) = some cs.toArray.size by rw [List.size_toArray, hcl]; exact ent_info)
        have YZ := Lib.hid (show (enC zeroE).length = cs.toArray.size by rw [List.size_toArray, hcl]; rfl)
        clear hx1 hcl hco hcs X1
        go_wp2_with (first
          | (refine wpList_load_mid rfl 40 (.tmp 3) rfl w.heap.size 0 rfl cs _ Y1.out.range Tryd.underlying40 rfl YI.out ?_)
          | (refine wpList_store_blk rfl 40 (.tmp 6) (.tmp 49) rfl (w.heap.size + 1) _ cs.toArray X2.out YZ.out rfl rfl YJ.out YO.out ?_; intro W9 hB9 hO9 hbl9 hs9))
        exact bodyPost_ret (v := .agg cs.toArray) (results_cell_blk Tryd.results9 _ W9 (w.heap.size + 1) cs _ rfl hB9 Tryd.underlying40 rfl YI.out) rfl ⟨by rw [YC.out]; rfl, X3.out.trans (hbl9 _ (by omega))⟩
end Go.Proofs.YtaokhegbfaokdaaDoor
