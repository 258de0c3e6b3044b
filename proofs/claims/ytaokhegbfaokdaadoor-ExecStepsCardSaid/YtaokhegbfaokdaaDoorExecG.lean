import Derived.Test.YtaokhegbfaokdaaDoorExecV
import Derived.Test.YtaokhegbfaokdaaDoorEntries
import Derived.Test.YtaokhegbfaokdaaDoorOwnB
import Derived.Deep.RegionLaw
import Derived.Deep.RegionWith
import Derived.Deep.Cut
import Derived.Deep.CutRange
/- THE CONTRACTS of exec.Start, exec.Go. -/
namespace Go.Proofs.YtaokhegbfaokdaaDoor
open Go.ChangeShapes Go.WideShapes Go.ChangeAt Go.RowKit
set_option linter.unusedVariables false
set_option linter.unusedSimpArgs false
set_option maxHeartbeats 2000000
set_option maxRecDepth 100000

theorem kindI_cases (op : Int) : kindI op = 0 ∨ kindI op = 1 ∨ kindI op = 2 ∨ kindI op = 3 ∨ kindI op = 4 ∨ kindI op = 5 ∨ kindI op = 6 := by
  unfold kindI
  repeat' split
  all_goals simp
theorem Blk.drw {w : World} {b : Nat} {cs : List Value} (h : Blk w b cs) : Blk w.drew b cs := h
theorem below_undrew {w w' : World} (h : Below w.drew.heap.size w.drew w') : Below w.heap.size w w' := ⟨h.os, h.tape, h.output, h.size, h.block⟩
/-- what Start makes of an entry that waits and is no load and no store -/
def startG (e : En) (a b : Int) : En :=
  let e1 : En := { e with is := 1, left := 1, next := (e.pc + 4) % 4294967296, value := if wrI e.op e.rd = 0 then 0 else valW e.op e.imm e.pc a b }
  if kindI e.op = 1 then { e1 with left := 3 }
  else if kindI e.op = 2 then { e1 with took := tookW e.op a b, left := tookW e.op a b }
  else if kindI e.op = 5 then (if nextW e.op e.imm e.pc a b % 4 = 0 then { e1 with next := nextW e.op e.imm e.pc a b } else { e1 with halt := 3, value := 0 })
  else e1
def startE (e : En) (a b : Int) : En := if e.is ≠ 0 ∨ kindI e.op = 3 ∨ kindI e.op = 4 then e else startG e a b

theorem start_any (e : En) (a b : Int) (hi : 0 ≤ e.imm) (hi' : e.imm < 4294967296) (ha : 0 ≤ a) (ha' : a < 4294967296) (hb : 0 ≤ b) (hb' : b < 4294967296) (w : World) (ht : TabIs w) (hg : 0 < w.heap.size) :
    Calls Tryd.prog 10 #[enV e, .int .u32 a, .int .u32 b] w fun r w' => r = .returned (enV (startE e a b)) ∧ Below w.heap.size w w' := by
  obtain ⟨no, pc, op, rd, rs1, rs2, imm, guess, is, left, value, next, addr, halt, took, known, filled⟩ := e
  simp only at hi hi'
  have HK := Lib.hid (fun w => kind_any op rd rs1 rs2 imm w)
  have HV := Lib.hid (fun w => value_any op rd rs1 rs2 imm pc a b hi hi' ha ha' hb hb' w)
  have HW := Lib.hid (fun w ht hg => written_any op rd rs1 rs2 imm (valW op imm pc a b) w ht hg)
  have HT := Lib.hid (fun w => target_any op rd rs1 rs2 imm pc a b w)
  have HTk := Lib.hid (fun w => divTook_any op a b ha ha' hb hb' w)
  have HKC := Lib.hid (kindI_cases op)
  have HTB := Lib.hid ht
  clear hi hi' ha ha' hb hb' ht
  obtain ⟨R, hR⟩ : ∃ R, startE ⟨no, pc, op, rd, rs1, rs2, imm, guess, is, left, value, next, addr, halt, took, known, filled⟩ a b = R := ⟨_, rfl⟩
  rw [hR]
  unfold startE startG at hR
  simp only at hR
  obtain ⟨VV, hVV⟩ : ∃ VV, (if wrI op rd = 0 then 0 else valW op imm pc a b) = VV := ⟨_, rfl⟩
  rw [hVV] at HW hR
  clear hVV
  obtain ⟨kd, hkd⟩ : ∃ kd, kindI op = kd := ⟨_, rfl⟩
  rw [hkd] at HK HKC hR
  have HR := Lib.hid hR
  clear hR hkd
  obtain ⟨f1, f2, f3, f4⟩ := two_new w (enC ⟨no, pc, op, rd, rs1, rs2, imm, guess, is, left, value, next, addr, halt, took, known, filled⟩) (enC zeroE) 40 40
  have F1 := Lib.hid f1
  have F2 := Lib.hid f2
  have F3 := Lib.hid f3
  have F4 := Lib.hid f4
  clear f1 f2 f3 f4
  unfold enV
  unfold enC
  go_enter Tryd.func10, Tryd.ntmps10
  go_wp2_with fail
  go_at_call 32
  refine (HK.out _).mono ?_
  rintro r w1 ⟨rfl, b1⟩
  have X1 := Lib.hid (F1.out.below b1 (by simp; omega))
  have X2 := Lib.hid (F2.out.below b1 (by simp))
  have X3 := Lib.hid (F3.out.trans (b1.mono F3.out.size))
  have GB := Lib.hid (show 0 < w1.heap.size from Nat.lt_of_lt_of_le hg (X3.out.size))
  clear b1 F1 F2 F3 F4 HK
  unfold enC at X1
  simp only at X1
  have s1 := X1.out.2.1 1 _ rfl
  have s8 := X1.out.2.1 8 _ rfl
  by_cases hno : is ≠ 0 ∨ kd = 3 ∨ kd = 4
  · have HF := Lib.hid (show enC ⟨no, pc, op, rd, rs1, rs2, imm, guess, is, left, value, next, addr, halt, took, known, filled⟩ = enC R by rw [← HR.out, if_pos hno])
    clear HR
    by_cases h0 : is = 0
    · subst h0
      rcases (show kd = 3 ∨ kd = 4 by omega) with rfl | rfl
      · clear hno
        obtain ⟨cs, hcs, hx1⟩ : ∃ cs, cs = enC R ∧ Blk w1 w.heap.size cs := ⟨_, HF.out, X1.out⟩
        have hcl : cs.length = 17 := by rw [hcs]; rfl
        have hco : cs.toArray.all (·.oneCell') = true := by rw [hcs]; exact enC_one R
        have Y1 := Lib.hid hx1
        have YL := Lib.hid hcl
        have YO := Lib.hid hco
        have YC := Lib.hid hcs
        have YI := Lib.hid (show (Tryd.prog.info? 40).map (·.size) = some cs.length by rw [hcl]; exact ent_info)
        have YJ := Lib.hid (show (Tryd.prog.info? 40).map (·.size) = some cs.toArray.size by rw [List.size_toArray, hcl]; exact ent_info)
        have YZ := Lib.hid (show (enC zeroE).length = cs.toArray.size by rw [List.size_toArray, hcl]; rfl)
        clear hx1 hcl hco hcs X1
        go_wp2_with (first
          | (refine wpList_load_mid rfl 40 (.tmp 3) rfl w.heap.size 0 rfl cs _ Y1.out.range Tryd.underlying40 rfl YI.out ?_)
          | (refine wpList_store_blk rfl 40 (.tmp 6) (.tmp 24) rfl (w.heap.size + 1) _ cs.toArray X2.out YZ.out rfl rfl YJ.out YO.out ?_; intro W9 hB9 hO9 hbl9 hs9))
        exact bodyPost_ret (v := .agg cs.toArray) (results_cell_blk Tryd.results10 _ W9 (w.heap.size + 1) cs _ rfl hB9 Tryd.underlying40 rfl YI.out) rfl ⟨by rw [YC.out]; rfl, X3.out.trans (hbl9 _ (by omega))⟩
      · clear hno
        obtain ⟨cs, hcs, hx1⟩ : ∃ cs, cs = enC R ∧ Blk w1 w.heap.size cs := ⟨_, HF.out, X1.out⟩
        have hcl : cs.length = 17 := by rw [hcs]; rfl
        have hco : cs.toArray.all (·.oneCell') = true := by rw [hcs]; exact enC_one R
        have Y1 := Lib.hid hx1
        have YL := Lib.hid hcl
        have YO := Lib.hid hco
        have YC := Lib.hid hcs
        have YI := Lib.hid (show (Tryd.prog.info? 40).map (·.size) = some cs.length by rw [hcl]; exact ent_info)
        have YJ := Lib.hid (show (Tryd.prog.info? 40).map (·.size) = some cs.toArray.size by rw [List.size_toArray, hcl]; exact ent_info)
        have YZ := Lib.hid (show (enC zeroE).length = cs.toArray.size by rw [List.size_toArray, hcl]; rfl)
        clear hx1 hcl hco hcs X1
        go_wp2_with (first
          | (refine wpList_load_mid rfl 40 (.tmp 3) rfl w.heap.size 0 rfl cs _ Y1.out.range Tryd.underlying40 rfl YI.out ?_)
          | (refine wpList_store_blk rfl 40 (.tmp 6) (.tmp 24) rfl (w.heap.size + 1) _ cs.toArray X2.out YZ.out rfl rfl YJ.out YO.out ?_; intro W9 hB9 hO9 hbl9 hs9))
        exact bodyPost_ret (v := .agg cs.toArray) (results_cell_blk Tryd.results10 _ W9 (w.heap.size + 1) cs _ rfl hB9 Tryd.underlying40 rfl YI.out) rfl ⟨by rw [YC.out]; rfl, X3.out.trans (hbl9 _ (by omega))⟩
    · have q : (is != 0) = true := by simpa using h0
      clear hno h0
      obtain ⟨cs, hcs, hx1⟩ : ∃ cs, cs = enC R ∧ Blk w1 w.heap.size cs := ⟨_, HF.out, X1.out⟩
      have hcl : cs.length = 17 := by rw [hcs]; rfl
      have hco : cs.toArray.all (·.oneCell') = true := by rw [hcs]; exact enC_one R
      have Y1 := Lib.hid hx1
      have YL := Lib.hid hcl
      have YO := Lib.hid hco
      have YC := Lib.hid hcs
      have YI := Lib.hid (show (Tryd.prog.info? 40).map (·.size) = some cs.length by rw [hcl]; exact ent_info)
      have YJ := Lib.hid (show (Tryd.prog.info? 40).map (·.size) = some cs.toArray.size by rw [List.size_toArray, hcl]; exact ent_info)
      have YZ := Lib.hid (show (enC zeroE).length = cs.toArray.size by rw [List.size_toArray, hcl]; rfl)
      clear hx1 hcl hco hcs X1
      go_wp2_with (first
        | (refine wpList_load_mid rfl 40 (.tmp 3) rfl w.heap.size 0 rfl cs _ Y1.out.range Tryd.underlying40 rfl YI.out ?_)
        | (refine wpList_store_blk rfl 40 (.tmp 6) (.tmp 24) rfl (w.heap.size + 1) _ cs.toArray X2.out YZ.out rfl rfl YJ.out YO.out ?_; intro W9 hB9 hO9 hbl9 hs9))
      exact bodyPost_ret (v := .agg cs.toArray) (results_cell_blk Tryd.results10 _ W9 (w.heap.size + 1) cs _ rfl hB9 Tryd.underlying40 rfl YI.out) rfl ⟨by rw [YC.out]; rfl, X3.out.trans (hbl9 _ (by omega))⟩
  · have h0 : is = 0 := by omega
    subst h0
    have q3 : (kd == 3) = false := by simp; omega
    have q4 : (kd == 4) = false := by simp; omega
    have f8 := X1.out.2.2 8 (by simp)
    have f9 := X1.out.2.2 9 (by simp)
    have f11 := X1.out.2.2 11 (by simp)
    have s9 := X1.out.2.1 9 _ rfl
    have s11 := X1.out.2.1 11 _ rfl
    have HR2 := Lib.hid (HR.out.symm.trans (if_neg hno))
    have HN34 := Lib.hid (show kd ≠ 3 ∧ kd ≠ 4 by omega)
    clear hno HR
    go_upto_region 5 with fail
    clear q3 q4
    have x1 := ((X1.out.set (i := 8) (v := .int .i64 1) (by simp)).set (i := 9) (v := .int .i64 1) (by simp)).set (i := 11) (v := .int .u32 ((pc + 4) % 4294967296)) (by simp)
    simp only [List.set_cons_succ, List.set_cons_zero] at x1
    have x2 := ((X2.out.other (p := ⟨w.heap.size, 8, none⟩) (v := .int .i64 1) (by simp)).other (p := ⟨w.heap.size, 9, none⟩) (v := .int .i64 1) (by simp)).other (p := ⟨w.heap.size, 11, none⟩) (v := .int .u32 ((pc + 4) % 4294967296)) (by simp)
    have x3 := ((X3.out.setCell (p := ⟨w.heap.size, 8, none⟩) (Nat.le_refl _) (.int .i64 1)).setCell (p := ⟨w.heap.size, 9, none⟩) (Nat.le_refl _) (.int .i64 1)).setCell (p := ⟨w.heap.size, 11, none⟩) (Nat.le_refl _) (.int .u32 ((pc + 4) % 4294967296))
    clear s1 s8 s9 s11 f8 f9 f11 X1 X2 X3 GB
    generalize ((w1.setCell ⟨w.heap.size, 8, none⟩ (.int .i64 1)).setCell ⟨w.heap.size, 9, none⟩ (.int .i64 1)).setCell ⟨w.heap.size, 11, none⟩ (.int .u32 ((pc + 4) % 4294967296)) = W2 at *
    have hgb := Nat.lt_of_lt_of_le hg x3.size
    have htb := HTB.out.below x3 hg
    have X1 := Lib.hid x1
    have X2 := Lib.hid x2
    have X3 := Lib.hid x3
    have GB := Lib.hid hgb
    have TB := Lib.hid htb
    clear x1 x2 x3 hgb htb
    have c1 := X1.out.2.1 1 _ rfl
    have c2 := X1.out.2.1 2 _ rfl
    have c3 := X1.out.2.1 3 _ rfl
    have c4 := X1.out.2.1 4 _ rfl
    have c5 := X1.out.2.1 5 _ rfl
    have c6 := X1.out.2.1 6 _ rfl
    go_cut [] from 31 to 41 (fun wx => Blk wx w.heap.size [.int .i64 no, .int .u32 pc, .int .i64 op, .int .i64 rd, .int .i64 rs1, .int .i64 rs2, .int .u32 imm, .int .u32 guess, .int .i64 1, .int .i64 1, .int .u32 VV, .int .u32 ((pc + 4) % 4294967296), .int .u32 addr, .int .i64 halt, .int .i64 took, .bool known, .bool filled] ∧ Blk wx (w.heap.size + 1) (enC zeroE) ∧ Below w.heap.size w wx)
    case first =>
      go_region_law (first
        | (go_simp; go_at_call 36; refine (HV.out _).mono ?_; rintro r w5 ⟨rfl, b5⟩
           have B5 := Lib.hid (below_undrew b5)
           have d1 := (X1.out.below B5.out X1.out.1).2.1 1 _ rfl
           have d2 := (X1.out.below B5.out X1.out.1).2.1 2 _ rfl
           have d3 := (X1.out.below B5.out X1.out.1).2.1 3 _ rfl
           have d4 := (X1.out.below B5.out X1.out.1).2.1 4 _ rfl
           have d5 := (X1.out.below B5.out X1.out.1).2.1 5 _ rfl
           have d6 := (X1.out.below B5.out X1.out.1).2.1 6 _ rfl
           clear b5)
        | (go_simp; go_at_call 35; refine (HW.out _ (TB.out.below B5.out GB.out) (Nat.lt_of_lt_of_le GB.out B5.out.size)).mono ?_; rintro r w6 ⟨rfl, b6⟩
           have B6 := Lib.hid (B5.out.trans (b6.mono B5.out.size))
           have f10 := (X1.out.below B6.out X1.out.1).2.2 10 (by simp)
           have d10 := (X1.out.below B6.out X1.out.1).2.1 10 _ rfl
           clear b6))
      all_goals
        have z1 := (X1.out.below B6.out X1.out.1).set (i := 10) (v := .int .u32 VV) (by simp)
        simp only [List.set_cons_succ, List.set_cons_zero] at z1
        go_wp2_with fail
        go_meet
        exact ⟨z1, (X2.out.below B6.out X2.out.1).other (by simp), (X3.out.trans (B6.out.mono X3.out.size)).setCell (Nat.le_refl _) _⟩
    case rest =>
      obtain ⟨y1, y2, y3⟩ := hcut
      clear c1 c2 c3 c4 c5 c6 X1 X2 X3 GB TB HV HW
      generalize wc = W3 at *
      have X1 := Lib.hid y1
      have X2 := Lib.hid y2
      have X3 := Lib.hid y3
      clear y1 y2 y3
      rcases HKC.out with rfl | rfl | rfl | rfl | rfl | rfl | rfl
      · have HF := Lib.hid (show enC ⟨no, pc, op, rd, rs1, rs2, imm, guess, 1, 1, VV, ((pc + 4) % 4294967296), addr, halt, took, known, filled⟩ = enC R by rw [HR2.out, if_neg (by decide), if_neg (by decide), if_neg (by decide)])
        clear HR2
        obtain ⟨cs, hcs, hx1⟩ : ∃ cs, cs = enC R ∧ Blk W3 w.heap.size cs := ⟨_, HF.out, X1.out⟩
        have hcl : cs.length = 17 := by rw [hcs]; rfl
        have hco : cs.toArray.all (·.oneCell') = true := by rw [hcs]; exact enC_one R
        have Y1 := Lib.hid hx1
        have YL := Lib.hid hcl
        have YO := Lib.hid hco
        have YC := Lib.hid hcs
        have YI := Lib.hid (show (Tryd.prog.info? 40).map (·.size) = some cs.length by rw [hcl]; exact ent_info)
        have YJ := Lib.hid (show (Tryd.prog.info? 40).map (·.size) = some cs.toArray.size by rw [List.size_toArray, hcl]; exact ent_info)
        have YZ := Lib.hid (show (enC zeroE).length = cs.toArray.size by rw [List.size_toArray, hcl]; rfl)
        clear hx1 hcl hco hcs X1
        go_wp2_with (first
          | (refine wpList_load_mid rfl 40 (.tmp 3) rfl w.heap.size 0 rfl cs _ Y1.out.range Tryd.underlying40 rfl YI.out ?_)
          | (refine wpList_store_blk rfl 40 (.tmp 6) (.tmp 75) rfl (w.heap.size + 1) _ cs.toArray X2.out YZ.out rfl rfl YJ.out YO.out ?_; intro W9 hB9 hO9 hbl9 hs9))
        exact bodyPost_ret (v := .agg cs.toArray) (results_cell_blk Tryd.results10 _ W9 (w.heap.size + 1) cs _ rfl hB9 Tryd.underlying40 rfl YI.out) rfl ⟨by rw [YC.out]; rfl, X3.out.trans (hbl9 _ (by omega))⟩
      · have HF := Lib.hid (show enC ⟨no, pc, op, rd, rs1, rs2, imm, guess, 1, 3, VV, ((pc + 4) % 4294967296), addr, halt, took, known, filled⟩ = enC R by rw [HR2.out, if_pos rfl])
        clear HR2
        have s9 := X1.out.2.1 9 _ rfl
        have f9 := X1.out.2.2 9 (by simp)
        go_upto_region 17 with fail
        have z1 := (X1.out).set (i := 9) (v := .int .i64 3) (by simp)
        simp only [List.set_cons_succ, List.set_cons_zero] at z1
        have z2 := (X2.out).other (p := ⟨w.heap.size, 9, none⟩) (v := .int .i64 3) (by simp)
        have z3 := (X3.out).setCell (p := ⟨w.heap.size, 9, none⟩) (Nat.le_refl _) (.int .i64 3)
        generalize (W3.setCell ⟨w.heap.size, 9, none⟩ (.int .i64 3)) = W4 at *
        clear X1 X2 X3
        have X1 := Lib.hid z1
        have X2 := Lib.hid z2
        have X3 := Lib.hid z3
        clear z1 z2 z3
        clear s9 f9
        obtain ⟨cs, hcs, hx1⟩ : ∃ cs, cs = enC R ∧ Blk W4 w.heap.size cs := ⟨_, HF.out, X1.out⟩
        have hcl : cs.length = 17 := by rw [hcs]; rfl
        have hco : cs.toArray.all (·.oneCell') = true := by rw [hcs]; exact enC_one R
        have Y1 := Lib.hid hx1
        have YL := Lib.hid hcl
        have YO := Lib.hid hco
        have YC := Lib.hid hcs
        have YI := Lib.hid (show (Tryd.prog.info? 40).map (·.size) = some cs.length by rw [hcl]; exact ent_info)
        have YJ := Lib.hid (show (Tryd.prog.info? 40).map (·.size) = some cs.toArray.size by rw [List.size_toArray, hcl]; exact ent_info)
        have YZ := Lib.hid (show (enC zeroE).length = cs.toArray.size by rw [List.size_toArray, hcl]; rfl)
        clear hx1 hcl hco hcs X1
        go_wp2_with (first
          | (refine wpList_load_mid rfl 40 (.tmp 3) rfl w.heap.size 0 rfl cs _ Y1.out.range Tryd.underlying40 rfl YI.out ?_)
          | (refine wpList_store_blk rfl 40 (.tmp 6) (.tmp 75) rfl (w.heap.size + 1) _ cs.toArray X2.out YZ.out rfl rfl YJ.out YO.out ?_; intro W9 hB9 hO9 hbl9 hs9))
        exact bodyPost_ret (v := .agg cs.toArray) (results_cell_blk Tryd.results10 _ W9 (w.heap.size + 1) cs _ rfl hB9 Tryd.underlying40 rfl YI.out) rfl ⟨by rw [YC.out]; rfl, X3.out.trans (hbl9 _ (by omega))⟩
      · have HF := Lib.hid (show enC ⟨no, pc, op, rd, rs1, rs2, imm, guess, 1, (tookW op a b), VV, ((pc + 4) % 4294967296), addr, halt, (tookW op a b), known, filled⟩ = enC R by rw [HR2.out, if_neg (by decide), if_pos rfl])
        clear HR2
        obtain ⟨tk, htk⟩ : ∃ tk, tookW op a b = tk := ⟨_, rfl⟩
        rw [htk] at HTk HF
        clear htk
        have s2 := X1.out.2.1 2 _ rfl
        have s9 := X1.out.2.1 9 _ rfl
        have f9 := X1.out.2.2 9 (by simp)
        have s14 := X1.out.2.1 14 _ rfl
        have f14 := X1.out.2.2 14 (by simp)
        go_upto_region 17 with (go_at_call 37; refine (HTk.out _).mono ?_; rintro r w5 ⟨rfl, rfl⟩)
        have z1 := ((X1.out).set (i := 14) (v := .int .i64 tk) (by simp)).set (i := 9) (v := .int .i64 tk) (by simp)
        simp only [List.set_cons_succ, List.set_cons_zero] at z1
        have z2 := ((X2.out).other (p := ⟨w.heap.size, 14, none⟩) (v := .int .i64 tk) (by simp)).other (p := ⟨w.heap.size, 9, none⟩) (v := .int .i64 tk) (by simp)
        have z3 := ((X3.out).setCell (p := ⟨w.heap.size, 14, none⟩) (Nat.le_refl _) (.int .i64 tk)).setCell (p := ⟨w.heap.size, 9, none⟩) (Nat.le_refl _) (.int .i64 tk)
        generalize ((W3.setCell ⟨w.heap.size, 14, none⟩ (.int .i64 tk)).setCell ⟨w.heap.size, 9, none⟩ (.int .i64 tk)) = W4 at *
        clear X1 X2 X3
        have X1 := Lib.hid z1
        have X2 := Lib.hid z2
        have X3 := Lib.hid z3
        clear z1 z2 z3
        clear s2 s9 f9 s14 f14
        obtain ⟨cs, hcs, hx1⟩ : ∃ cs, cs = enC R ∧ Blk W4 w.heap.size cs := ⟨_, HF.out, X1.out⟩
        have hcl : cs.length = 17 := by rw [hcs]; rfl
        have hco : cs.toArray.all (·.oneCell') = true := by rw [hcs]; exact enC_one R
        have Y1 := Lib.hid hx1
        have YL := Lib.hid hcl
        have YO := Lib.hid hco
        have YC := Lib.hid hcs
        have YI := Lib.hid (show (Tryd.prog.info? 40).map (·.size) = some cs.length by rw [hcl]; exact ent_info)
        have YJ := Lib.hid (show (Tryd.prog.info? 40).map (·.size) = some cs.toArray.size by rw [List.size_toArray, hcl]; exact ent_info)
        have YZ := Lib.hid (show (enC zeroE).length = cs.toArray.size by rw [List.size_toArray, hcl]; rfl)
        clear hx1 hcl hco hcs X1
        go_wp2_with (first
          | (refine wpList_load_mid rfl 40 (.tmp 3) rfl w.heap.size 0 rfl cs _ Y1.out.range Tryd.underlying40 rfl YI.out ?_)
          | (refine wpList_store_blk rfl 40 (.tmp 6) (.tmp 75) rfl (w.heap.size + 1) _ cs.toArray X2.out YZ.out rfl rfl YJ.out YO.out ?_; intro W9 hB9 hO9 hbl9 hs9))
        exact bodyPost_ret (v := .agg cs.toArray) (results_cell_blk Tryd.results10 _ W9 (w.heap.size + 1) cs _ rfl hB9 Tryd.underlying40 rfl YI.out) rfl ⟨by rw [YC.out]; rfl, X3.out.trans (hbl9 _ (by omega))⟩
      · exact absurd rfl HN34.out.1
      · exact absurd rfl HN34.out.2
      · obtain ⟨nx, hnx⟩ : ∃ nx, nextW op imm pc a b = nx := ⟨_, rfl⟩
        rw [hnx] at HT HR2
        clear hnx
        have s1 := X1.out.2.1 1 _ rfl
        have s2 := X1.out.2.1 2 _ rfl
        have s3 := X1.out.2.1 3 _ rfl
        have s4 := X1.out.2.1 4 _ rfl
        have s5 := X1.out.2.1 5 _ rfl
        have s6 := X1.out.2.1 6 _ rfl
        by_cases hN : nx % 4 = 0
        · have HF := Lib.hid (show enC ⟨no, pc, op, rd, rs1, rs2, imm, guess, 1, 1, VV, nx, addr, halt, took, known, filled⟩ = enC R by rw [HR2.out, if_neg (by decide), if_neg (by decide), if_pos rfl, if_pos hN])
          clear HR2
          rw [decide_eq_true hN] at HT
          clear hN
          go_upto_region 15 with (go_at_call 38; refine (HT.out _).mono ?_; rintro r w5 ⟨rfl, b5⟩; have B5 := Lib.hid b5; have s11 := (X1.out.below B5.out X1.out.1).2.1 11 _ rfl; have f11 := (X1.out.below B5.out X1.out.1).2.2 11 (by simp); clear b5)
          go_upto_region 17 with fail
          have z1 := (X1.out.below B5.out X1.out.1).set (i := 11) (v := .int .u32 nx) (by simp)
          simp only [List.set_cons_succ, List.set_cons_zero] at z1
          have z2 := (X2.out.below B5.out X2.out.1).other (p := ⟨w.heap.size, 11, none⟩) (v := .int .u32 nx) (by simp)
          have z3 := (X3.out.trans (B5.out.mono X3.out.size)).setCell (p := ⟨w.heap.size, 11, none⟩) (Nat.le_refl _) (.int .u32 nx)
          generalize (w5.setCell ⟨w.heap.size, 11, none⟩ (.int .u32 nx)) = W4 at *
          clear X1 X2 X3
          have X1 := Lib.hid z1
          have X2 := Lib.hid z2
          have X3 := Lib.hid z3
          clear z1 z2 z3
          clear s1 s2 s3 s4 s5 s6 s11 f11 B5
          obtain ⟨cs, hcs, hx1⟩ : ∃ cs, cs = enC R ∧ Blk W4 w.heap.size cs := ⟨_, HF.out, X1.out⟩
          have hcl : cs.length = 17 := by rw [hcs]; rfl
          have hco : cs.toArray.all (·.oneCell') = true := by rw [hcs]; exact enC_one R
          have Y1 := Lib.hid hx1
          have YL := Lib.hid hcl
          have YO := Lib.hid hco
          have YC := Lib.hid hcs
          have YI := Lib.hid (show (Tryd.prog.info? 40).map (·.size) = some cs.length by rw [hcl]; exact ent_info)
          have YJ := Lib.hid (show (Tryd.prog.info? 40).map (·.size) = some cs.toArray.size by rw [List.size_toArray, hcl]; exact ent_info)
          have YZ := Lib.hid (show (enC zeroE).length = cs.toArray.size by rw [List.size_toArray, hcl]; rfl)
          clear hx1 hcl hco hcs X1
          go_wp2_with (first
            | (refine wpList_load_mid rfl 40 (.tmp 3) rfl w.heap.size 0 rfl cs _ Y1.out.range Tryd.underlying40 rfl YI.out ?_)
            | (refine wpList_store_blk rfl 40 (.tmp 6) (.tmp 75) rfl (w.heap.size + 1) _ cs.toArray X2.out YZ.out rfl rfl YJ.out YO.out ?_; intro W9 hB9 hO9 hbl9 hs9))
          exact bodyPost_ret (v := .agg cs.toArray) (results_cell_blk Tryd.results10 _ W9 (w.heap.size + 1) cs _ rfl hB9 Tryd.underlying40 rfl YI.out) rfl ⟨by rw [YC.out]; rfl, X3.out.trans (hbl9 _ (by omega))⟩
        · have HF := Lib.hid (show enC ⟨no, pc, op, rd, rs1, rs2, imm, guess, 1, 1, 0, ((pc + 4) % 4294967296), addr, 3, took, known, filled⟩ = enC R by rw [HR2.out, if_neg (by decide), if_neg (by decide), if_pos rfl, if_neg hN])
          clear HR2
          rw [decide_eq_false hN] at HT
          clear hN
          go_upto_region 16 with (go_at_call 38; refine (HT.out _).mono ?_; rintro r w5 ⟨rfl, b5⟩; have B5 := Lib.hid b5; have s13 := (X1.out.below B5.out X1.out.1).2.1 13 _ rfl; have f13 := (X1.out.below B5.out X1.out.1).2.2 13 (by simp); have s10 := (X1.out.below B5.out X1.out.1).2.1 10 _ rfl; have f10 := (X1.out.below B5.out X1.out.1).2.2 10 (by simp); clear b5)
          go_upto_region 17 with fail
          have z1 := ((X1.out.below B5.out X1.out.1).set (i := 13) (v := .int .i64 3) (by simp)).set (i := 10) (v := .int .u32 0) (by simp)
          simp only [List.set_cons_succ, List.set_cons_zero] at z1
          have z2 := ((X2.out.below B5.out X2.out.1).other (p := ⟨w.heap.size, 13, none⟩) (v := .int .i64 3) (by simp)).other (p := ⟨w.heap.size, 10, none⟩) (v := .int .u32 0) (by simp)
          have z3 := ((X3.out.trans (B5.out.mono X3.out.size)).setCell (p := ⟨w.heap.size, 13, none⟩) (Nat.le_refl _) (.int .i64 3)).setCell (p := ⟨w.heap.size, 10, none⟩) (Nat.le_refl _) (.int .u32 0)
          generalize ((w5.setCell ⟨w.heap.size, 13, none⟩ (.int .i64 3)).setCell ⟨w.heap.size, 10, none⟩ (.int .u32 0)) = W4 at *
          clear X1 X2 X3
          have X1 := Lib.hid z1
          have X2 := Lib.hid z2
          have X3 := Lib.hid z3
          clear z1 z2 z3
          clear s1 s2 s3 s4 s5 s6 s13 f13 s10 f10 B5
          obtain ⟨cs, hcs, hx1⟩ : ∃ cs, cs = enC R ∧ Blk W4 w.heap.size cs := ⟨_, HF.out, X1.out⟩
          have hcl : cs.length = 17 := by rw [hcs]; rfl
          have hco : cs.toArray.all (·.oneCell') = true := by rw [hcs]; exact enC_one R
          have Y1 := Lib.hid hx1
          have YL := Lib.hid hcl
          have YO := Lib.hid hco
          have YC := Lib.hid hcs
          have YI := Lib.hid (show (Tryd.prog.info? 40).map (·.size) = some cs.length by rw [hcl]; exact ent_info)
          have YJ := Lib.hid (show (Tryd.prog.info? 40).map (·.size) = some cs.toArray.size by rw [List.size_toArray, hcl]; exact ent_info)
          have YZ := Lib.hid (show (enC zeroE).length = cs.toArray.size by rw [List.size_toArray, hcl]; rfl)
          clear hx1 hcl hco hcs X1
          go_wp2_with (first
            | (refine wpList_load_mid rfl 40 (.tmp 3) rfl w.heap.size 0 rfl cs _ Y1.out.range Tryd.underlying40 rfl YI.out ?_)
            | (refine wpList_store_blk rfl 40 (.tmp 6) (.tmp 75) rfl (w.heap.size + 1) _ cs.toArray X2.out YZ.out rfl rfl YJ.out YO.out ?_; intro W9 hB9 hO9 hbl9 hs9))
          exact bodyPost_ret (v := .agg cs.toArray) (results_cell_blk Tryd.results10 _ W9 (w.heap.size + 1) cs _ rfl hB9 Tryd.underlying40 rfl YI.out) rfl ⟨by rw [YC.out]; rfl, X3.out.trans (hbl9 _ (by omega))⟩
      · have HF := Lib.hid (show enC ⟨no, pc, op, rd, rs1, rs2, imm, guess, 1, 1, VV, ((pc + 4) % 4294967296), addr, halt, took, known, filled⟩ = enC R by rw [HR2.out, if_neg (by decide), if_neg (by decide), if_neg (by decide)])
        clear HR2
        obtain ⟨cs, hcs, hx1⟩ : ∃ cs, cs = enC R ∧ Blk W3 w.heap.size cs := ⟨_, HF.out, X1.out⟩
        have hcl : cs.length = 17 := by rw [hcs]; rfl
        have hco : cs.toArray.all (·.oneCell') = true := by rw [hcs]; exact enC_one R
        have Y1 := Lib.hid hx1
        have YL := Lib.hid hcl
        have YO := Lib.hid hco
        have YC := Lib.hid hcs
        have YI := Lib.hid (show (Tryd.prog.info? 40).map (·.size) = some cs.length by rw [hcl]; exact ent_info)
        have YJ := Lib.hid (show (Tryd.prog.info? 40).map (·.size) = some cs.toArray.size by rw [List.size_toArray, hcl]; exact ent_info)
        have YZ := Lib.hid (show (enC zeroE).length = cs.toArray.size by rw [List.size_toArray, hcl]; rfl)
        clear hx1 hcl hco hcs X1
        go_wp2_with (first
          | (refine wpList_load_mid rfl 40 (.tmp 3) rfl w.heap.size 0 rfl cs _ Y1.out.range Tryd.underlying40 rfl YI.out ?_)
          | (refine wpList_store_blk rfl 40 (.tmp 6) (.tmp 75) rfl (w.heap.size + 1) _ cs.toArray X2.out YZ.out rfl rfl YJ.out YO.out ?_; intro W9 hB9 hO9 hbl9 hs9))
        exact bodyPost_ret (v := .agg cs.toArray) (results_cell_blk Tryd.results10 _ W9 (w.heap.size + 1) cs _ rfl hB9 Tryd.underlying40 rfl YI.out) rfl ⟨by rw [YC.out]; rfl, X3.out.trans (hbl9 _ (by omega))⟩
end Go.Proofs.YtaokhegbfaokdaaDoor

/- THE CONTRACTS of exec.Go; auspexref02's Kind; alive. -/
namespace Go.Proofs.YtaokhegbfaokdaaDoor
open Go.ChangeShapes Go.WideShapes Go.ChangeAt Go.RowKit
set_option linter.unusedVariables false
set_option linter.unusedSimpArgs false
set_option maxHeartbeats 2000000
set_option maxRecDepth 100000

def goE (e : En) : En :=
  if e.is ≠ 1 then e else if 0 < e.left - 1 then { e with left := e.left - 1 } else { e with left := 0, is := 3, known := if kindI e.op = 5 ∧ e.halt = 0 then true else e.known }
theorem go_any (e : En) (h0 : e.is = 1 → -9223372036854775808 < e.left) (h1 : e.left ≤ 9223372036854775807) (w : World) :
    Calls Tryd.prog 15 #[enV e] w fun r w' => r = .returned (enV (goE e)) ∧ Below w.heap.size w w' := by
  obtain ⟨no, pc, op, rd, rs1, rs2, imm, guess, is, left, value, next, addr, halt, took, known, filled⟩ := e
  simp only at h0 h1
  have H0 := Lib.hid h0
  clear h0
  have HK := Lib.hid (fun w => kind_any op rd rs1 rs2 imm w)
  obtain ⟨R, hR⟩ : ∃ R, goE ⟨no, pc, op, rd, rs1, rs2, imm, guess, is, left, value, next, addr, halt, took, known, filled⟩ = R := ⟨_, rfl⟩
  rw [hR]
  unfold goE at hR
  simp only at hR
  obtain ⟨kd, hkd⟩ : ∃ kd, kindI op = kd := ⟨_, rfl⟩
  rw [hkd] at HK hR
  have HR := Lib.hid hR
  clear hR hkd
  obtain ⟨f1, f2, f3, f4⟩ := two_new w (enC ⟨no, pc, op, rd, rs1, rs2, imm, guess, is, left, value, next, addr, halt, took, known, filled⟩) (enC zeroE) 40 40
  unfold enV
  go_enter Tryd.func15, Tryd.ntmps15
  simp only [enC, zeroE] at f1 f2 f3 f4 ⊢
  go_upto_region 1 with fail
  generalize (w.alloc (.cells #[.int .i64 no, .int .u32 pc, .int .i64 op, .int .i64 rd, .int .i64 rs1, .int .i64 rs2, .int .u32 imm, .int .u32 guess, .int .i64 is, .int .i64 left, .int .u32 value, .int .u32 next, .int .u32 addr, .int .i64 halt, .int .i64 took, .bool known, .bool filled] 40)).alloc (.cells #[.int .i64 0, .int .u32 0, .int .i64 0, .int .i64 0, .int .i64 0, .int .i64 0, .int .u32 0, .int .u32 0, .int .i64 0, .int .i64 0, .int .u32 0, .int .u32 0, .int .u32 0, .int .i64 0, .int .i64 0, .bool false, .bool false] 40) = W0 at *
  have X1 := Lib.hid f1
  have X2 := Lib.hid f2
  have X3 := Lib.hid f3
  clear f1 f2 f3 f4
  have s8 := X1.out.2.1 8 _ rfl
  by_cases hi : is = 1
  · subst hi
    have h0 := H0.out rfl
    clear H0
    have HR1 := Lib.hid (HR.out.symm.trans (if_neg (by decide)))
    clear HR
    have s9 := X1.out.2.1 9 _ rfl
    have f9 := X1.out.2.2 9 (by simp)
    go_upto_region 4 with fail
    have z1 := (X1.out).set (i := 9) (v := .int .i64 (left - 1)) (by simp)
    simp only [List.set_cons_succ, List.set_cons_zero] at z1
    have z2 := (X2.out).other (p := ⟨w.heap.size, 9, none⟩) (v := .int .i64 (left - 1)) (by simp)
    have z3 := (X3.out).setCell (p := ⟨w.heap.size, 9, none⟩) (Nat.le_refl _) (.int .i64 (left - 1))
    generalize (W0.setCell ⟨w.heap.size, 9, none⟩ (.int .i64 (left - 1))) = W1 at *
    clear X1 X2 X3
    have X1 := Lib.hid z1
    have X2 := Lib.hid z2
    have X3 := Lib.hid z3
    clear z1 z2 z3
    clear s8 s9 f9
    have s9 := X1.out.2.1 9 _ rfl
    by_cases hl : 0 < left - 1
    · have HF := Lib.hid (show enC ⟨no, pc, op, rd, rs1, rs2, imm, guess, 1, (left - 1), value, next, addr, halt, took, known, filled⟩ = enC R by rw [HR1.out, if_pos hl])
      clear HR1
      have q := decide_eq_true hl
      go_upto_region 5 with fail
      clear s9 q
      obtain ⟨cs, hcs, hx1⟩ : ∃ cs, cs = enC R ∧ Blk W1 w.heap.size cs := ⟨_, HF.out, X1.out⟩
      have hcl : cs.length = 17 := by rw [hcs]; rfl
      have hco : cs.toArray.all (·.oneCell') = true := by rw [hcs]; exact enC_one R
      have Y1 := Lib.hid hx1
      have YL := Lib.hid hcl
      have YO := Lib.hid hco
      have YC := Lib.hid hcs
      have YI := Lib.hid (show (Tryd.prog.info? 40).map (·.size) = some cs.length by rw [hcl]; exact ent_info)
      have YJ := Lib.hid (show (Tryd.prog.info? 40).map (·.size) = some cs.toArray.size by rw [List.size_toArray, hcl]; exact ent_info)
      have YZ := Lib.hid (show (enC zeroE).length = cs.toArray.size by rw [List.size_toArray, hcl]; rfl)
      clear hx1 hcl hco hcs X1
      go_wp2_with (first
        | (refine wpList_load_mid rfl 40 (.tmp 1) rfl w.heap.size 0 rfl cs _ Y1.out.range Tryd.underlying40 rfl YI.out ?_)
        | (refine wpList_store_blk rfl 40 (.tmp 2) (.tmp 14) rfl (w.heap.size + 1) _ cs.toArray X2.out YZ.out rfl rfl YJ.out YO.out ?_; intro W9 hB9 hO9 hbl9 hs9))
      exact bodyPost_ret (v := .agg cs.toArray) (results_cell_blk Tryd.results15 _ W9 (w.heap.size + 1) cs _ rfl hB9 Tryd.underlying40 rfl YI.out) rfl ⟨by rw [YC.out]; rfl, X3.out.trans (hbl9 _ (by omega))⟩
    · have HR2 := Lib.hid (HR1.out.trans (if_neg hl))
      clear HR1
      have q := decide_eq_false hl
      have f9 := X1.out.2.2 9 (by simp)
      have s8 := X1.out.2.1 8 _ rfl
      have f8 := X1.out.2.2 8 (by simp)
      go_upto_region 7 with fail
      have z1 := ((X1.out).set (i := 9) (v := .int .i64 0) (by simp)).set (i := 8) (v := .int .i64 3) (by simp)
      simp only [List.set_cons_succ, List.set_cons_zero] at z1
      have z2 := ((X2.out).other (p := ⟨w.heap.size, 9, none⟩) (v := .int .i64 0) (by simp)).other (p := ⟨w.heap.size, 8, none⟩) (v := .int .i64 3) (by simp)
      have z3 := ((X3.out).setCell (p := ⟨w.heap.size, 9, none⟩) (Nat.le_refl _) (.int .i64 0)).setCell (p := ⟨w.heap.size, 8, none⟩) (Nat.le_refl _) (.int .i64 3)
      generalize ((W1.setCell ⟨w.heap.size, 9, none⟩ (.int .i64 0)).setCell ⟨w.heap.size, 8, none⟩ (.int .i64 3)) = W2 at *
      clear X1 X2 X3
      have X1 := Lib.hid z1
      have X2 := Lib.hid z2
      have X3 := Lib.hid z3
      clear z1 z2 z3
      clear s8 s9 f8 f9 q hl
      have s2 := X1.out.2.1 2 _ rfl
      have s3 := X1.out.2.1 3 _ rfl
      have s4 := X1.out.2.1 4 _ rfl
      have s5 := X1.out.2.1 5 _ rfl
      have s6 := X1.out.2.1 6 _ rfl
      go_wp2_with fail
      go_at_call 32
      refine (HK.out _).mono ?_
      rintro r w5 ⟨rfl, b5⟩
      have z1 := X1.out.below b5 X1.out.1
      have z2 := X2.out.below b5 X2.out.1
      have z3 := X3.out.trans (b5.mono X3.out.size)
      clear X1 X2 X3 s2 s3 s4 s5 s6 b5
      have X1 := Lib.hid z1
      have X2 := Lib.hid z2
      have X3 := Lib.hid z3
      clear z1 z2 z3
      have s13 := X1.out.2.1 13 _ rfl
      have s15 := X1.out.2.1 15 _ rfl
      have f15 := X1.out.2.2 15 (by simp)
      by_cases hk : kd = 5 ∧ halt = 0
      · obtain ⟨rfl, rfl⟩ := hk
        have HF := Lib.hid (show enC ⟨no, pc, op, rd, rs1, rs2, imm, guess, 3, 0, value, next, addr, 0, took, true, filled⟩ = enC R by rw [HR2.out, if_pos ⟨rfl, rfl⟩])
        clear HR2
        go_upto_region 9 with fail
        have z1 := (X1.out).set (i := 15) (v := .bool true) (by simp)
        simp only [List.set_cons_succ, List.set_cons_zero] at z1
        have z2 := (X2.out).other (p := ⟨w.heap.size, 15, none⟩) (v := .bool true) (by simp)
        have z3 := (X3.out).setCell (p := ⟨w.heap.size, 15, none⟩) (Nat.le_refl _) (.bool true)
        generalize (w5.setCell ⟨w.heap.size, 15, none⟩ (.bool true)) = W6 at *
        clear X1 X2 X3
        have X1 := Lib.hid z1
        have X2 := Lib.hid z2
        have X3 := Lib.hid z3
        clear z1 z2 z3
        clear s13 s15 f15
        obtain ⟨cs, hcs, hx1⟩ : ∃ cs, cs = enC R ∧ Blk W6 w.heap.size cs := ⟨_, HF.out, X1.out⟩
        have hcl : cs.length = 17 := by rw [hcs]; rfl
        have hco : cs.toArray.all (·.oneCell') = true := by rw [hcs]; exact enC_one R
        have Y1 := Lib.hid hx1
        have YL := Lib.hid hcl
        have YO := Lib.hid hco
        have YC := Lib.hid hcs
        have YI := Lib.hid (show (Tryd.prog.info? 40).map (·.size) = some cs.length by rw [hcl]; exact ent_info)
        have YJ := Lib.hid (show (Tryd.prog.info? 40).map (·.size) = some cs.toArray.size by rw [List.size_toArray, hcl]; exact ent_info)
        have YZ := Lib.hid (show (enC zeroE).length = cs.toArray.size by rw [List.size_toArray, hcl]; rfl)
        clear hx1 hcl hco hcs X1
        go_wp2_with (first
          | (refine wpList_load_mid rfl 40 (.tmp 1) rfl w.heap.size 0 rfl cs _ Y1.out.range Tryd.underlying40 rfl YI.out ?_)
          | (refine wpList_store_blk rfl 40 (.tmp 2) (.tmp 27) rfl (w.heap.size + 1) _ cs.toArray X2.out YZ.out rfl rfl YJ.out YO.out ?_; intro W9 hB9 hO9 hbl9 hs9))
        exact bodyPost_ret (v := .agg cs.toArray) (results_cell_blk Tryd.results15 _ W9 (w.heap.size + 1) cs _ rfl hB9 Tryd.underlying40 rfl YI.out) rfl ⟨by rw [YC.out]; rfl, X3.out.trans (hbl9 _ (by omega))⟩
      · have HF := Lib.hid (show enC ⟨no, pc, op, rd, rs1, rs2, imm, guess, 3, 0, value, next, addr, halt, took, known, filled⟩ = enC R by rw [HR2.out, if_neg hk])
        clear HR2
        by_cases hk5 : kd = 5
        · have hh : ¬ halt = 0 := fun h => hk ⟨hk5, h⟩
          have q5 : (kd == 5) = true := by simpa using hk5
          have q6 : (halt == 0) = false := by simpa using hh
          clear hk hk5 hh s15 f15
          obtain ⟨cs, hcs, hx1⟩ : ∃ cs, cs = enC R ∧ Blk w5 w.heap.size cs := ⟨_, HF.out, X1.out⟩
          have hcl : cs.length = 17 := by rw [hcs]; rfl
          have hco : cs.toArray.all (·.oneCell') = true := by rw [hcs]; exact enC_one R
          have Y1 := Lib.hid hx1
          have YL := Lib.hid hcl
          have YO := Lib.hid hco
          have YC := Lib.hid hcs
          have YI := Lib.hid (show (Tryd.prog.info? 40).map (·.size) = some cs.length by rw [hcl]; exact ent_info)
          have YJ := Lib.hid (show (Tryd.prog.info? 40).map (·.size) = some cs.toArray.size by rw [List.size_toArray, hcl]; exact ent_info)
          have YZ := Lib.hid (show (enC zeroE).length = cs.toArray.size by rw [List.size_toArray, hcl]; rfl)
          clear hx1 hcl hco hcs X1
          go_wp2_with (first
            | (refine wpList_load_mid rfl 40 (.tmp 1) rfl w.heap.size 0 rfl cs _ Y1.out.range Tryd.underlying40 rfl YI.out ?_)
            | (refine wpList_store_blk rfl 40 (.tmp 2) (.tmp 27) rfl (w.heap.size + 1) _ cs.toArray X2.out YZ.out rfl rfl YJ.out YO.out ?_; intro W9 hB9 hO9 hbl9 hs9))
          exact bodyPost_ret (v := .agg cs.toArray) (results_cell_blk Tryd.results15 _ W9 (w.heap.size + 1) cs _ rfl hB9 Tryd.underlying40 rfl YI.out) rfl ⟨by rw [YC.out]; rfl, X3.out.trans (hbl9 _ (by omega))⟩
        · have q5 : (kd == 5) = false := by simpa using hk5
          clear hk hk5 s15 f15
          obtain ⟨cs, hcs, hx1⟩ : ∃ cs, cs = enC R ∧ Blk w5 w.heap.size cs := ⟨_, HF.out, X1.out⟩
          have hcl : cs.length = 17 := by rw [hcs]; rfl
          have hco : cs.toArray.all (·.oneCell') = true := by rw [hcs]; exact enC_one R
          have Y1 := Lib.hid hx1
          have YL := Lib.hid hcl
          have YO := Lib.hid hco
          have YC := Lib.hid hcs
          have YI := Lib.hid (show (Tryd.prog.info? 40).map (·.size) = some cs.length by rw [hcl]; exact ent_info)
          have YJ := Lib.hid (show (Tryd.prog.info? 40).map (·.size) = some cs.toArray.size by rw [List.size_toArray, hcl]; exact ent_info)
          have YZ := Lib.hid (show (enC zeroE).length = cs.toArray.size by rw [List.size_toArray, hcl]; rfl)
          clear hx1 hcl hco hcs X1
          go_wp2_with (first
            | (refine wpList_load_mid rfl 40 (.tmp 1) rfl w.heap.size 0 rfl cs _ Y1.out.range Tryd.underlying40 rfl YI.out ?_)
            | (refine wpList_store_blk rfl 40 (.tmp 2) (.tmp 27) rfl (w.heap.size + 1) _ cs.toArray X2.out YZ.out rfl rfl YJ.out YO.out ?_; intro W9 hB9 hO9 hbl9 hs9))
          exact bodyPost_ret (v := .agg cs.toArray) (results_cell_blk Tryd.results15 _ W9 (w.heap.size + 1) cs _ rfl hB9 Tryd.underlying40 rfl YI.out) rfl ⟨by rw [YC.out]; rfl, X3.out.trans (hbl9 _ (by omega))⟩
  · clear H0
    have HF := Lib.hid (show enC ⟨no, pc, op, rd, rs1, rs2, imm, guess, is, left, value, next, addr, halt, took, known, filled⟩ = enC R by rw [← HR.out, if_pos hi])
    clear HR
    have q : (is != 1) = true := by simpa using hi
    clear hi
    obtain ⟨cs, hcs, hx1⟩ : ∃ cs, cs = enC R ∧ Blk W0 w.heap.size cs := ⟨_, HF.out, X1.out⟩
    have hcl : cs.length = 17 := by rw [hcs]; rfl
    have hco : cs.toArray.all (·.oneCell') = true := by rw [hcs]; exact enC_one R
    have Y1 := Lib.hid hx1
    have YL := Lib.hid hcl
    have YO := Lib.hid hco
    have YC := Lib.hid hcs
    have YI := Lib.hid (show (Tryd.prog.info? 40).map (·.size) = some cs.length by rw [hcl]; exact ent_info)
    have YJ := Lib.hid (show (Tryd.prog.info? 40).map (·.size) = some cs.toArray.size by rw [List.size_toArray, hcl]; exact ent_info)
    have YZ := Lib.hid (show (enC zeroE).length = cs.toArray.size by rw [List.size_toArray, hcl]; rfl)
    clear hx1 hcl hco hcs X1
    go_wp2_with (first
      | (refine wpList_load_mid rfl 40 (.tmp 1) rfl w.heap.size 0 rfl cs _ Y1.out.range Tryd.underlying40 rfl YI.out ?_)
      | (refine wpList_store_blk rfl 40 (.tmp 2) (.tmp 6) rfl (w.heap.size + 1) _ cs.toArray X2.out YZ.out rfl rfl YJ.out YO.out ?_; intro W9 hB9 hO9 hbl9 hs9))
    exact bodyPost_ret (v := .agg cs.toArray) (results_cell_blk Tryd.results15 _ W9 (w.heap.size + 1) cs _ rfl hB9 Tryd.underlying40 rfl YI.out) rfl ⟨by rw [YC.out]; rfl, X3.out.trans (hbl9 _ (by omega))⟩
theorem alive18_any (w : World) (ht : TabIs w) (hg : 0 < w.heap.size) : Calls Tryd.prog 6 #[] w fun r w' => r = .returned (.bool true) ∧ Below w.heap.size w w' := by
  have h := start_any ⟨0, 0, 28, 0, 0, 0, 0, 0, 0, 0, 0, 0, 0, 0, 0, false, false⟩ 1 1 (by decide) (by decide) (by decide) (by decide) (by decide) (by decide) w ht hg
  have hi : (startE ⟨0, 0, 28, 0, 0, 0, 0, 0, 0, 0, 0, 0, 0, 0, 0, false, false⟩ 1 1).is = 1 := by
    simp [startE, startG, kindI]
  obtain ⟨r, hr⟩ : ∃ r, startE ⟨0, 0, 28, 0, 0, 0, 0, 0, 0, 0, 0, 0, 0, 0, 0, false, false⟩ 1 1 = r := ⟨_, rfl⟩
  rw [hr] at h hi
  clear hr
  obtain ⟨no, pc, op, rd, rs1, rs2, imm, guess, is, left, value, next, addr, halt, took, known, filled⟩ := r
  simp only at hi
  subst hi
  have H := Lib.hid h
  clear h ht
  go_enter Tryd.func6, Tryd.ntmps6
  go_wp2_with fail
  go_at_call 10
  refine H.out.mono ?_
  rintro r w5 ⟨rfl, b⟩
  have B := Lib.hid b
  clear b
  unfold enV enC
  have hf : ∀ w, (Instr.field 40 (.agg #[.int .i64 no, .int .u32 pc, .int .i64 op, .int .i64 rd, .int .i64 rs1, .int .i64 rs2, .int .u32 imm, .int .u32 guess, .int .i64 1, .int .i64 left, .int .u32 value, .int .u32 next, .int .u32 addr, .int .i64 halt, .int .i64 took, .bool known, .bool filled]) 4).run Tryd.prog w = .ok (.int .i64 1) w := fun _ => by kernel_rfl
  go_wp2
  go_ret
  exact ⟨rfl, B.out⟩
end Go.Proofs.YtaokhegbfaokdaaDoor

/- THE CONTRACT of exec.Go at whatever is left: the least number goes round. -/
namespace Go.Proofs.YtaokhegbfaokdaaDoor
open Go.ChangeShapes Go.WideShapes Go.ChangeAt Go.RowKit
set_option linter.unusedVariables false
set_option linter.unusedSimpArgs false
set_option maxHeartbeats 2000000
set_option maxRecDepth 100000

theorem go_min (no pc op rd rs1 rs2 imm guess value next addr halt took : Int) (known filled : Bool) (w : World) :
    Calls Tryd.prog 15 #[enV ⟨no, pc, op, rd, rs1, rs2, imm, guess, 1, -9223372036854775808, value, next, addr, halt, took, known, filled⟩] w fun r w' => r = .returned (enV ⟨no, pc, op, rd, rs1, rs2, imm, guess, 1, 9223372036854775807, value, next, addr, halt, took, known, filled⟩) ∧ Below w.heap.size w w' := by
  obtain ⟨R, hR⟩ : ∃ R : En, (⟨no, pc, op, rd, rs1, rs2, imm, guess, 1, 9223372036854775807, value, next, addr, halt, took, known, filled⟩ : En) = R := ⟨_, rfl⟩
  rw [hR]
  have HF := Lib.hid (show enC ⟨no, pc, op, rd, rs1, rs2, imm, guess, 1, 9223372036854775807, value, next, addr, halt, took, known, filled⟩ = enC R by rw [hR])
  clear hR
  obtain ⟨f1, f2, f3, f4⟩ := two_new w (enC ⟨no, pc, op, rd, rs1, rs2, imm, guess, 1, -9223372036854775808, value, next, addr, halt, took, known, filled⟩) (enC zeroE) 40 40
  unfold enV
  go_enter Tryd.func15, Tryd.ntmps15
  simp only [enC, zeroE] at f1 f2 f3 f4 ⊢
  go_upto_region 1 with fail
  generalize (w.alloc (.cells #[.int .i64 no, .int .u32 pc, .int .i64 op, .int .i64 rd, .int .i64 rs1, .int .i64 rs2, .int .u32 imm, .int .u32 guess, .int .i64 1, .int .i64 (-9223372036854775808), .int .u32 value, .int .u32 next, .int .u32 addr, .int .i64 halt, .int .i64 took, .bool known, .bool filled] 40)).alloc (.cells #[.int .i64 0, .int .u32 0, .int .i64 0, .int .i64 0, .int .i64 0, .int .i64 0, .int .u32 0, .int .u32 0, .int .i64 0, .int .i64 0, .int .u32 0, .int .u32 0, .int .u32 0, .int .i64 0, .int .i64 0, .bool false, .bool false] 40) = W0 at *
  have X1 := Lib.hid f1
  have X2 := Lib.hid f2
  have X3 := Lib.hid f3
  clear f1 f2 f3 f4
  have s8 := X1.out.2.1 8 _ rfl
  have s9 := X1.out.2.1 9 _ rfl
  have f9 := X1.out.2.2 9 (by simp)
  have hwr : wrap64 (-9223372036854775809) = 9223372036854775807 := by simp [wrap64]
  go_upto_region 4 with fail
  rw [hwr]
  have z1 := (X1.out).set (i := 9) (v := .int .i64 9223372036854775807) (by simp)
  simp only [List.set_cons_succ, List.set_cons_zero] at z1
  have z2 := (X2.out).other (p := ⟨w.heap.size, 9, none⟩) (v := .int .i64 9223372036854775807) (by simp)
  have z3 := (X3.out).setCell (p := ⟨w.heap.size, 9, none⟩) (Nat.le_refl _) (.int .i64 9223372036854775807)
  generalize (W0.setCell ⟨w.heap.size, 9, none⟩ (.int .i64 9223372036854775807)) = W1 at *
  clear X1 X2 X3
  have X1 := Lib.hid z1
  have X2 := Lib.hid z2
  have X3 := Lib.hid z3
  clear z1 z2 z3
  clear s8 s9 f9
  have s9 := X1.out.2.1 9 _ rfl
  go_upto_region 5 with fail
  clear s9
  obtain ⟨cs, hcs, hx1⟩ : ∃ cs, cs = enC R ∧ Blk W1 w.heap.size cs := ⟨_, HF.out, X1.out⟩
  have hcl : cs.length = 17 := by rw [hcs]; rfl
  have hco : cs.toArray.all (·.oneCell') = true := by rw [hcs]; exact enC_one R
  have Y1 := Lib.hid hx1
  have YL := Lib.hid hcl
  have YO := Lib.hid hco
  have YC := Lib.hid hcs
  have YI := Lib.hid (show (Tryd.prog.info? 40).map (·.size) = some cs.length by rw [hcl]; exact ent_info)
  have YJ := Lib.hid (show (Tryd.prog.info? 40).map (·.size) = some cs.toArray.size by rw [List.size_toArray, hcl]; exact ent_info)
  have YZ := Lib.hid (show (enC zeroE).length = cs.toArray.size by rw [List.size_toArray, hcl]; rfl)
  clear hx1 hcl hco hcs X1
  go_wp2_with (first
    | (refine wpList_load_mid rfl 40 (.tmp 1) rfl w.heap.size 0 rfl cs _ Y1.out.range Tryd.underlying40 rfl YI.out ?_)
    | (refine wpList_store_blk rfl 40 (.tmp 2) (.tmp 14) rfl (w.heap.size + 1) _ cs.toArray X2.out YZ.out rfl rfl YJ.out YO.out ?_; intro W9 hB9 hO9 hbl9 hs9))
  exact bodyPost_ret (v := .agg cs.toArray) (results_cell_blk Tryd.results15 _ W9 (w.heap.size + 1) cs _ rfl hB9 Tryd.underlying40 rfl YI.out) rfl ⟨by rw [YC.out]; rfl, X3.out.trans (hbl9 _ (by omega))⟩
def goW (e : En) : En := if e.is = 1 ∧ e.left = -9223372036854775808 then { e with left := 9223372036854775807 } else goE e
theorem go_all (e : En) (h0 : -9223372036854775808 ≤ e.left) (h1 : e.left ≤ 9223372036854775807) (w : World) :
    Calls Tryd.prog 15 #[enV e] w fun r w' => r = .returned (enV (goW e)) ∧ Below w.heap.size w w' := by
  by_cases hm : e.left = -9223372036854775808
  · by_cases hi : e.is = 1
    · obtain ⟨no, pc, op, rd, rs1, rs2, imm, guess, is, left, value, next, addr, halt, took, known, filled⟩ := e
      simp only at hm hi
      subst hm hi
      exact go_min no pc op rd rs1 rs2 imm guess value next addr halt took known filled w
    · have hg : goW e = e := by unfold goW goE; rw [if_neg (fun h => hi h.1), if_pos hi]
      rw [hg]
      have h2 : goE e = e := by unfold goE; rw [if_pos hi]
      have := go_any e (fun h => absurd h hi) h1 w
      rwa [h2] at this
  · have hg : goW e = goE e := by unfold goW; rw [if_neg (fun h => hm h.2)]
    rw [hg]
    exact go_any e (fun _ => by omega) h1 w
end Go.Proofs.YtaokhegbfaokdaaDoor
