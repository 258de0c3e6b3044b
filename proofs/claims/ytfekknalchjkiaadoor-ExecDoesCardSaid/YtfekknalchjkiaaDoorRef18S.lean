/- THE CONTRACT of auspexref18's Start: its answer is exec.Start's. -/
import Derived.Test.YtfekknalchjkiaaDoorRef18
import Derived.Test.YtfekknalchjkiaaDoorRefVal
namespace Go.Proofs.YtfekknalchjkiaaDoor
open Go.ChangeShapes Go.WideShapes Go.ChangeAt Go.RowKit
set_option linter.unusedVariables false
set_option linter.unusedSimpArgs false
set_option maxHeartbeats 4000000
set_option maxRecDepth 100000

theorem size_kind (op : Int) : (0 < sizeOp op) ↔ (kindI op = 3 ∨ kindI op = 4) := by
  unfold sizeOp kindI
  constructor
  · intro h
    by_cases h1 : op = 11 ∨ op = 14 ∨ op = 16 ∨ op = 12 ∨ op = 15 ∨ op = 17 ∨ op = 13 ∨ op = 18
    · rcases h1 with rfl | rfl | rfl | rfl | rfl | rfl | rfl | rfl <;> simp
    · rw [if_neg (by omega), if_neg (by omega), if_neg (by omega)] at h
      omega
  · intro h
    by_cases h1 : op = 11 ∨ op = 14 ∨ op = 16 ∨ op = 12 ∨ op = 15 ∨ op = 17 ∨ op = 13 ∨ op = 18
    · rcases h1 with rfl | rfl | rfl | rfl | rfl | rfl | rfl | rfl <;> simp
    · exfalso
      repeat' split at h
      all_goals omega
theorem size_low (op : Int) : 0 ≤ sizeOp op := by
  unfold sizeOp
  repeat' split
  all_goals omega

theorem refStart_any (e : En) (a b : Int) (hi : 0 ≤ e.imm) (hi' : e.imm < 4294967296) (ha : 0 ≤ a) (ha' : a < 4294967296) (hb : 0 ≤ b) (hb' : b < 4294967296) (w : World) :
    Calls Tryd.prog 45 #[enV e, .int .u32 a, .int .u32 b] w fun r w' => r = .returned (enV (startE e a b)) ∧ Below w.heap.size w w' := by
  obtain ⟨no, pc, op, rd, rs1, rs2, imm, guess, is, left, value, next, addr, halt, took, known, filled⟩ := e
  simp only at hi hi'
  have HK := Lib.hid (fun is left value next addr halt took known w => ref18kind_any ⟨no, pc, op, rd, rs1, rs2, imm, guess, is, left, value, next, addr, halt, took, known, filled⟩ w)
  have HS := Lib.hid (fun w => ref18size_any ⟨no, pc, op, rd, rs1, rs2, imm, guess, is, left, value, next, addr, halt, took, known, filled⟩ w)
  have HW := Lib.hid (fun is left value next addr halt took known w => ref18writes_any ⟨no, pc, op, rd, rs1, rs2, imm, guess, is, left, value, next, addr, halt, took, known, filled⟩ w)
  have HV := Lib.hid (fun w => refValue_any op rd rs1 rs2 imm pc a b hi hi' ha ha' hb hb' w)
  have HT := Lib.hid (fun w => refNext_any op rd rs1 rs2 imm pc a b ha ha' hb hb' w)
  have HTk := Lib.hid (fun w => refTook_any op a b ha ha' hb hb' w)
  have HSK := Lib.hid (size_kind op)
  have HSL := Lib.hid (size_low op)
  have HNX := Lib.hid (nextW_low op imm pc a b)
  clear hi hi' ha ha' hb hb'
  obtain ⟨R, hR⟩ : ∃ R, startE ⟨no, pc, op, rd, rs1, rs2, imm, guess, is, left, value, next, addr, halt, took, known, filled⟩ a b = R := ⟨_, rfl⟩
  rw [hR]
  unfold startE startG at hR
  unfold enV enC at HK HS HW
  simp only at hR HK HS HW
  obtain ⟨wr, hwr⟩ : ∃ wr, wrI op rd = wr := ⟨_, rfl⟩
  obtain ⟨VW, hVW⟩ : ∃ VW, valW op imm pc a b = VW := ⟨_, rfl⟩
  obtain ⟨tk, htk⟩ : ∃ tk, tookW op a b = tk := ⟨_, rfl⟩
  obtain ⟨nx, hnx⟩ : ∃ nx, nextW op imm pc a b = nx := ⟨_, rfl⟩
  obtain ⟨kd, hkd⟩ : ∃ kd, kindI op = kd := ⟨_, rfl⟩
  obtain ⟨sz, hsz⟩ : ∃ sz, sizeOp op = sz := ⟨_, rfl⟩
  rw [hwr, hVW, htk, hnx, hkd] at hR
  obtain ⟨VV, hVV⟩ : ∃ VV, (if wr = 0 then 0 else VW) = VV := ⟨_, rfl⟩
  rw [hVV] at hR
  have HVV := Lib.hid hVV
  simp only [hkd] at HK HSK
  simp only [hsz] at HS HSK HSL
  simp only [hwr] at HW
  rw [hVW] at HV
  rw [htk] at HTk
  rw [hnx] at HT HNX
  have HR := Lib.hid hR
  clear hR hkd hsz hwr hVW htk hnx hVV
  obtain ⟨f1, f2, f3, f4⟩ := two_new w (enC ⟨no, pc, op, rd, rs1, rs2, imm, guess, is, left, value, next, addr, halt, took, known, filled⟩) (enC zeroE) 60 60
  unfold enV
  go_enter Tryd.func45, Tryd.ntmps45
  simp only [enC, zeroE] at f1 f2 f3 f4 ⊢
  go_upto_region 1 with fail
  generalize (w.alloc (.cells #[.int .i64 no, .int .u32 pc, .int .i64 op, .int .i64 rd, .int .i64 rs1, .int .i64 rs2, .int .u32 imm, .int .u32 guess, .int .i64 is, .int .i64 left, .int .u32 value, .int .u32 next, .int .u32 addr, .int .i64 halt, .int .i64 took, .bool known, .bool filled] 60)).alloc (.cells #[.int .i64 0, .int .u32 0, .int .i64 0, .int .i64 0, .int .i64 0, .int .i64 0, .int .u32 0, .int .u32 0, .int .i64 0, .int .i64 0, .int .u32 0, .int .u32 0, .int .u32 0, .int .i64 0, .int .i64 0, .bool false, .bool false] 60) = W0 at *
  have X1 := Lib.hid f1
  have X2 := Lib.hid f2
  have X3 := Lib.hid f3
  clear f1 f2 f3 f4
  have s8 := X1.out.2.1 8 _ rfl
  by_cases h0 : is = 0
  · subst h0
    go_wp2_with (refine wpList_load_want 60 (.tmp 3) rfl rfl w.heap.size 0 rfl _ _ X1.out.range Tryd.underlying60 rfl ent_info ?_)
    go_at_call 77
    refine (HS.out _).mono ?_
    rintro r w1 ⟨rfl, b5⟩
    have z1 := X1.out.below b5 X1.out.1
    have z2 := X2.out.below b5 X2.out.1
    have z3 := X3.out.trans ((b5).mono X3.out.size)
    clear X1 X2 X3
    have X1 := Lib.hid z1
    have X2 := Lib.hid z2
    have X3 := Lib.hid z3
    clear z1 z2 z3
    clear b5 s8
    by_cases hz : 0 < sz
    · have q : decide (0 < sz) = true := decide_eq_true hz
      have hkk := HSK.out.1 hz
      have HF := Lib.hid (show enC ⟨no, pc, op, rd, rs1, rs2, imm, guess, 0, left, value, next, addr, halt, took, known, filled⟩ = enC R by rw [← HR.out, if_pos (Or.inr hkk)])
      clear HR hkk hz
      obtain ⟨cs, hcs, hx1⟩ : ∃ cs, cs = enC R ∧ Blk w1 w.heap.size cs := ⟨_, HF.out, X1.out⟩
      have hcl : cs.length = 17 := by rw [hcs]; rfl
      have hco : cs.toArray.all (·.oneCell') = true := by rw [hcs]; exact enC_one R
      have Y1 := Lib.hid hx1
      have YL := Lib.hid hcl
      have YO := Lib.hid hco
      have YC := Lib.hid hcs
      have YI := Lib.hid (show (Tryd.prog.info? 60).map (·.size) = some cs.length by rw [hcl]; exact ent_info)
      have YJ := Lib.hid (show (Tryd.prog.info? 60).map (·.size) = some cs.toArray.size by rw [List.size_toArray, hcl]; exact ent_info)
      have YZ := Lib.hid (show (enC zeroE).length = cs.toArray.size by rw [List.size_toArray, hcl]; rfl)
      clear hx1 hcl hco hcs X1
      go_wp2_with (first
        | (refine wpList_load_mid rfl 60 (.tmp 3) rfl w.heap.size 0 rfl cs _ Y1.out.range Tryd.underlying60 rfl YI.out ?_)
        | (refine wpList_store_blk rfl 60 (.tmp 6) (.tmp 16) rfl (w.heap.size + 1) _ cs.toArray X2.out YZ.out rfl rfl YJ.out YO.out ?_; intro W9 hB9 hO9 hbl9 hs9))
      exact bodyPost_ret (v := .agg cs.toArray) (results_cell_blk Tryd.results45 _ W9 (w.heap.size + 1) cs _ rfl hB9 Tryd.underlying60 rfl YI.out) rfl ⟨by rw [YC.out]; rfl, X3.out.trans (hbl9 _ (by omega))⟩
    · have q : decide (0 < sz) = false := decide_eq_false hz
      have hkk : ¬ (kd = 3 ∨ kd = 4) := fun h => hz (HSK.out.2 h)
      have HR1 := Lib.hid (HR.out.symm.trans (if_neg (fun h => h.elim (fun h => h rfl) hkk)))
      clear HR hkk hz
      have s8 := X1.out.2.1 8 _ rfl
      have f8 := X1.out.2.2 8 (by simp)
      go_upto_region 4 with fail
      clear s8 f8 q
      have z1 := (X1.out).set (i := 8) (v := .int .i64 1) (by simp)
      simp only [List.set_cons_succ, List.set_cons_zero] at z1
      have z2 := (X2.out).other (p := ⟨w.heap.size, 8, none⟩) (v := .int .i64 1) (by simp)
      have z3 := (X3.out).setCell (p := ⟨w.heap.size, 8, none⟩) (Nat.le_refl _) (.int .i64 1)
      generalize (World.setCell w1 ⟨w.heap.size, 8, none⟩ (.int .i64 1)) = V1 at *
      clear X1 X2 X3
      have X1 := Lib.hid z1
      have X2 := Lib.hid z2
      have X3 := Lib.hid z3
      clear z1 z2 z3
      have s9 := X1.out.2.1 9 _ rfl
      have f9 := X1.out.2.2 9 (by simp)
      go_upto_region 5 with fail
      clear s9 f9
      have z1 := (X1.out).set (i := 9) (v := .int .i64 1) (by simp)
      simp only [List.set_cons_succ, List.set_cons_zero] at z1
      have z2 := (X2.out).other (p := ⟨w.heap.size, 9, none⟩) (v := .int .i64 1) (by simp)
      have z3 := (X3.out).setCell (p := ⟨w.heap.size, 9, none⟩) (Nat.le_refl _) (.int .i64 1)
      generalize (World.setCell V1 ⟨w.heap.size, 9, none⟩ (.int .i64 1)) = V2 at *
      clear X1 X2 X3
      have X1 := Lib.hid z1
      have X2 := Lib.hid z2
      have X3 := Lib.hid z3
      clear z1 z2 z3
      have s1 := X1.out.2.1 1 _ rfl
      have s11 := X1.out.2.1 11 _ rfl
      have f11 := X1.out.2.2 11 (by simp)
      go_upto_region 6 with fail
      clear s1 s11 f11
      have z1 := (X1.out).set (i := 11) (v := .int .u32 ((pc + 4) % 4294967296)) (by simp)
      simp only [List.set_cons_succ, List.set_cons_zero] at z1
      have z2 := (X2.out).other (p := ⟨w.heap.size, 11, none⟩) (v := .int .u32 ((pc + 4) % 4294967296)) (by simp)
      have z3 := (X3.out).setCell (p := ⟨w.heap.size, 11, none⟩) (Nat.le_refl _) (.int .u32 ((pc + 4) % 4294967296))
      generalize (World.setCell V2 ⟨w.heap.size, 11, none⟩ (.int .u32 ((pc + 4) % 4294967296))) = V3 at *
      clear X1 X2 X3
      have X1 := Lib.hid z1
      have X2 := Lib.hid z2
      have X3 := Lib.hid z3
      clear z1 z2 z3
      have s10 := X1.out.2.1 10 _ rfl
      have f10 := X1.out.2.2 10 (by simp)
      go_upto_region 7 with fail
      clear s10 f10
      have z1 := (X1.out).set (i := 10) (v := .int .u32 0) (by simp)
      simp only [List.set_cons_succ, List.set_cons_zero] at z1
      have z2 := (X2.out).other (p := ⟨w.heap.size, 10, none⟩) (v := .int .u32 0) (by simp)
      have z3 := (X3.out).setCell (p := ⟨w.heap.size, 10, none⟩) (Nat.le_refl _) (.int .u32 0)
      generalize (World.setCell V3 ⟨w.heap.size, 10, none⟩ (.int .u32 0)) = V4 at *
      clear X1 X2 X3
      have X1 := Lib.hid z1
      have X2 := Lib.hid z2
      have X3 := Lib.hid z3
      clear z1 z2 z3
      go_wp2_with (refine wpList_load_mid rfl 60 (.tmp 3) rfl w.heap.size 0 rfl _ _ X1.out.range Tryd.underlying60 rfl ent_info ?_)
      go_at_call 78
      refine (HW.out _ _ _ _ _ _ _ _ _).mono ?_
      rintro r w2 ⟨rfl, b5⟩
      have z1 := X1.out.below b5 X1.out.1
      have z2 := X2.out.below b5 X2.out.1
      have z3 := X3.out.trans ((b5).mono X3.out.size)
      clear X1 X2 X3
      have X1 := Lib.hid z1
      have X2 := Lib.hid z2
      have X3 := Lib.hid z3
      clear z1 z2 z3
      clear b5
      by_cases hw : wr = 0
      · subst hw
        have hvv : VV = 0 := HVV.out.symm.trans (if_pos rfl)
        clear HVV
        subst hvv
        have HR2 := HR1
        clear HR1
        by_cases k1 : kd = 1
        · subst k1
          have HF := Lib.hid (show enC ⟨no, pc, op, rd, rs1, rs2, imm, guess, 1, 3, 0, ((pc + 4) % 4294967296), addr, halt, took, known, filled⟩ = enC R by rw [HR2.out, if_pos rfl])
          clear HR2
          go_wp2_with (refine wpList_load_mid rfl 60 (.tmp 3) rfl w.heap.size 0 rfl _ _ X1.out.range Tryd.underlying60 rfl ent_info ?_)
          go_at_call 80
          refine (HK.out _ _ _ _ _ _ _ _ _).mono ?_
          rintro r w5 ⟨rfl, b5⟩
          have z1 := X1.out.below b5 X1.out.1
          have z2 := X2.out.below b5 X2.out.1
          have z3 := X3.out.trans ((b5).mono X3.out.size)
          clear X1 X2 X3
          have X1 := Lib.hid z1
          have X2 := Lib.hid z2
          have X3 := Lib.hid z3
          clear z1 z2 z3
          clear b5
          have s9 := X1.out.2.1 9 _ rfl
          have f9 := X1.out.2.2 9 (by simp)
          go_upto_region 11 with fail
          clear s9 f9
          have z1 := (X1.out).set (i := 9) (v := .int .i64 3) (by simp)
          simp only [List.set_cons_succ, List.set_cons_zero] at z1
          have z2 := (X2.out).other (p := ⟨w.heap.size, 9, none⟩) (v := .int .i64 3) (by simp)
          have z3 := (X3.out).setCell (p := ⟨w.heap.size, 9, none⟩) (Nat.le_refl _) (.int .i64 3)
          generalize (World.setCell w5 ⟨w.heap.size, 9, none⟩ (.int .i64 3)) = W5 at *
          clear X1 X2 X3
          have X1 := Lib.hid z1
          have X2 := Lib.hid z2
          have X3 := Lib.hid z3
          clear z1 z2 z3
          go_wp2_with (refine wpList_load_mid rfl 60 (.tmp 3) rfl w.heap.size 0 rfl _ _ X1.out.range Tryd.underlying60 rfl ent_info ?_)
          go_at_call 80
          refine (HK.out _ _ _ _ _ _ _ _ _).mono ?_
          rintro r w6 ⟨rfl, b5⟩
          have z1 := X1.out.below b5 X1.out.1
          have z2 := X2.out.below b5 X2.out.1
          have z3 := X3.out.trans ((b5).mono X3.out.size)
          clear X1 X2 X3
          have X1 := Lib.hid z1
          have X2 := Lib.hid z2
          have X3 := Lib.hid z3
          clear z1 z2 z3
          clear b5
          go_wp2_with (refine wpList_load_mid rfl 60 (.tmp 3) rfl w.heap.size 0 rfl _ _ X1.out.range Tryd.underlying60 rfl ent_info ?_)
          go_at_call 80
          refine (HK.out _ _ _ _ _ _ _ _ _).mono ?_
          rintro r w7 ⟨rfl, b5⟩
          have z1 := X1.out.below b5 X1.out.1
          have z2 := X2.out.below b5 X2.out.1
          have z3 := X3.out.trans ((b5).mono X3.out.size)
          clear X1 X2 X3
          have X1 := Lib.hid z1
          have X2 := Lib.hid z2
          have X3 := Lib.hid z3
          clear z1 z2 z3
          clear b5
          obtain ⟨cs, hcs, hx1⟩ : ∃ cs, cs = enC R ∧ Blk w7 w.heap.size cs := ⟨_, HF.out, X1.out⟩
          have hcl : cs.length = 17 := by rw [hcs]; rfl
          have hco : cs.toArray.all (·.oneCell') = true := by rw [hcs]; exact enC_one R
          have Y1 := Lib.hid hx1
          have YL := Lib.hid hcl
          have YO := Lib.hid hco
          have YC := Lib.hid hcs
          have YI := Lib.hid (show (Tryd.prog.info? 60).map (·.size) = some cs.length by rw [hcl]; exact ent_info)
          have YJ := Lib.hid (show (Tryd.prog.info? 60).map (·.size) = some cs.toArray.size by rw [List.size_toArray, hcl]; exact ent_info)
          have YZ := Lib.hid (show (enC zeroE).length = cs.toArray.size by rw [List.size_toArray, hcl]; rfl)
          clear hx1 hcl hco hcs X1
          go_wp2_with (first
            | (refine wpList_load_mid rfl 60 (.tmp 3) rfl w.heap.size 0 rfl cs _ Y1.out.range Tryd.underlying60 rfl YI.out ?_)
            | (refine wpList_store_blk rfl 60 (.tmp 6) (.tmp 69) rfl (w.heap.size + 1) _ cs.toArray X2.out YZ.out rfl rfl YJ.out YO.out ?_; intro W9 hB9 hO9 hbl9 hs9))
          exact bodyPost_ret (v := .agg cs.toArray) (results_cell_blk Tryd.results45 _ W9 (w.heap.size + 1) cs _ rfl hB9 Tryd.underlying60 rfl YI.out) rfl ⟨by rw [YC.out]; rfl, X3.out.trans (hbl9 _ (by omega))⟩
        by_cases k2 : kd = 2
        · subst k2
          have HF := Lib.hid (show enC ⟨no, pc, op, rd, rs1, rs2, imm, guess, 1, tk, 0, ((pc + 4) % 4294967296), addr, halt, tk, known, filled⟩ = enC R by rw [HR2.out, if_neg (by decide), if_pos rfl])
          clear HR2
          go_wp2_with (refine wpList_load_mid rfl 60 (.tmp 3) rfl w.heap.size 0 rfl _ _ X1.out.range Tryd.underlying60 rfl ent_info ?_)
          go_at_call 80
          refine (HK.out _ _ _ _ _ _ _ _ _).mono ?_
          rintro r w5 ⟨rfl, b5⟩
          have z1 := X1.out.below b5 X1.out.1
          have z2 := X2.out.below b5 X2.out.1
          have z3 := X3.out.trans ((b5).mono X3.out.size)
          clear X1 X2 X3
          have X1 := Lib.hid z1
          have X2 := Lib.hid z2
          have X3 := Lib.hid z3
          clear z1 z2 z3
          clear b5
          go_wp2_with (refine wpList_load_mid rfl 60 (.tmp 3) rfl w.heap.size 0 rfl _ _ X1.out.range Tryd.underlying60 rfl ent_info ?_)
          go_at_call 80
          refine (HK.out _ _ _ _ _ _ _ _ _).mono ?_
          rintro r w6 ⟨rfl, b5⟩
          have z1 := X1.out.below b5 X1.out.1
          have z2 := X2.out.below b5 X2.out.1
          have z3 := X3.out.trans ((b5).mono X3.out.size)
          clear X1 X2 X3
          have X1 := Lib.hid z1
          have X2 := Lib.hid z2
          have X3 := Lib.hid z3
          clear z1 z2 z3
          clear b5
          have s2 := X1.out.2.1 2 _ rfl
          have s9 := X1.out.2.1 9 _ rfl
          have f9 := X1.out.2.2 9 (by simp)
          go_upto_region 13 with (go_at_call 81; refine (HTk.out _).mono ?_; rintro r w7 ⟨rfl, rfl⟩)
          clear s2 s9 f9
          have z1 := (X1.out).set (i := 9) (v := .int .i64 tk) (by simp)
          simp only [List.set_cons_succ, List.set_cons_zero] at z1
          have z2 := (X2.out).other (p := ⟨w.heap.size, 9, none⟩) (v := .int .i64 tk) (by simp)
          have z3 := (X3.out).setCell (p := ⟨w.heap.size, 9, none⟩) (Nat.le_refl _) (.int .i64 tk)
          generalize (World.setCell w6 ⟨w.heap.size, 9, none⟩ (.int .i64 tk)) = W7 at *
          clear X1 X2 X3
          have X1 := Lib.hid z1
          have X2 := Lib.hid z2
          have X3 := Lib.hid z3
          clear z1 z2 z3
          have s9 := X1.out.2.1 9 _ rfl
          have s14 := X1.out.2.1 14 _ rfl
          have f14 := X1.out.2.2 14 (by simp)
          go_upto_region 14 with fail
          clear s9 s14 f14
          have z1 := (X1.out).set (i := 14) (v := .int .i64 tk) (by simp)
          simp only [List.set_cons_succ, List.set_cons_zero] at z1
          have z2 := (X2.out).other (p := ⟨w.heap.size, 14, none⟩) (v := .int .i64 tk) (by simp)
          have z3 := (X3.out).setCell (p := ⟨w.heap.size, 14, none⟩) (Nat.le_refl _) (.int .i64 tk)
          generalize (World.setCell W7 ⟨w.heap.size, 14, none⟩ (.int .i64 tk)) = W8 at *
          clear X1 X2 X3
          have X1 := Lib.hid z1
          have X2 := Lib.hid z2
          have X3 := Lib.hid z3
          clear z1 z2 z3
          go_wp2_with (refine wpList_load_mid rfl 60 (.tmp 3) rfl w.heap.size 0 rfl _ _ X1.out.range Tryd.underlying60 rfl ent_info ?_)
          go_at_call 80
          refine (HK.out _ _ _ _ _ _ _ _ _).mono ?_
          rintro r w8 ⟨rfl, b5⟩
          have z1 := X1.out.below b5 X1.out.1
          have z2 := X2.out.below b5 X2.out.1
          have z3 := X3.out.trans ((b5).mono X3.out.size)
          clear X1 X2 X3
          have X1 := Lib.hid z1
          have X2 := Lib.hid z2
          have X3 := Lib.hid z3
          clear z1 z2 z3
          clear b5
          obtain ⟨cs, hcs, hx1⟩ : ∃ cs, cs = enC R ∧ Blk w8 w.heap.size cs := ⟨_, HF.out, X1.out⟩
          have hcl : cs.length = 17 := by rw [hcs]; rfl
          have hco : cs.toArray.all (·.oneCell') = true := by rw [hcs]; exact enC_one R
          have Y1 := Lib.hid hx1
          have YL := Lib.hid hcl
          have YO := Lib.hid hco
          have YC := Lib.hid hcs
          have YI := Lib.hid (show (Tryd.prog.info? 60).map (·.size) = some cs.length by rw [hcl]; exact ent_info)
          have YJ := Lib.hid (show (Tryd.prog.info? 60).map (·.size) = some cs.toArray.size by rw [List.size_toArray, hcl]; exact ent_info)
          have YZ := Lib.hid (show (enC zeroE).length = cs.toArray.size by rw [List.size_toArray, hcl]; rfl)
          clear hx1 hcl hco hcs X1
          go_wp2_with (first
            | (refine wpList_load_mid rfl 60 (.tmp 3) rfl w.heap.size 0 rfl cs _ Y1.out.range Tryd.underlying60 rfl YI.out ?_)
            | (refine wpList_store_blk rfl 60 (.tmp 6) (.tmp 69) rfl (w.heap.size + 1) _ cs.toArray X2.out YZ.out rfl rfl YJ.out YO.out ?_; intro W9 hB9 hO9 hbl9 hs9))
          exact bodyPost_ret (v := .agg cs.toArray) (results_cell_blk Tryd.results45 _ W9 (w.heap.size + 1) cs _ rfl hB9 Tryd.underlying60 rfl YI.out) rfl ⟨by rw [YC.out]; rfl, X3.out.trans (hbl9 _ (by omega))⟩
        have q1 : (kd == 1) = false := by simpa using k1
        have q2 : (kd == 2) = false := by simpa using k2
        by_cases k5 : kd = 5
        · subst k5
          have HFY := Lib.hid (fun hN : nx % 4 = 0 => show enC ⟨no, pc, op, rd, rs1, rs2, imm, guess, 1, 1, 0, nx, addr, halt, took, known, filled⟩ = enC R by rw [HR2.out, if_neg (by decide), if_neg (by decide), if_pos rfl, if_pos hN])
          have HFN := Lib.hid (fun hN : ¬ nx % 4 = 0 => show enC ⟨no, pc, op, rd, rs1, rs2, imm, guess, 1, 1, 0, ((pc + 4) % 4294967296), addr, 3, took, known, filled⟩ = enC R by rw [HR2.out, if_neg (by decide), if_neg (by decide), if_pos rfl, if_neg hN])
          clear HR2
          go_wp2_with (refine wpList_load_mid rfl 60 (.tmp 3) rfl w.heap.size 0 rfl _ _ X1.out.range Tryd.underlying60 rfl ent_info ?_)
          go_at_call 80
          refine (HK.out _ _ _ _ _ _ _ _ _).mono ?_
          rintro r w5 ⟨rfl, b5⟩
          have z1 := X1.out.below b5 X1.out.1
          have z2 := X2.out.below b5 X2.out.1
          have z3 := X3.out.trans ((b5).mono X3.out.size)
          clear X1 X2 X3
          have X1 := Lib.hid z1
          have X2 := Lib.hid z2
          have X3 := Lib.hid z3
          clear z1 z2 z3
          clear b5
          go_wp2_with (refine wpList_load_mid rfl 60 (.tmp 3) rfl w.heap.size 0 rfl _ _ X1.out.range Tryd.underlying60 rfl ent_info ?_)
          go_at_call 80
          refine (HK.out _ _ _ _ _ _ _ _ _).mono ?_
          rintro r w6 ⟨rfl, b5⟩
          have z1 := X1.out.below b5 X1.out.1
          have z2 := X2.out.below b5 X2.out.1
          have z3 := X3.out.trans ((b5).mono X3.out.size)
          clear X1 X2 X3
          have X1 := Lib.hid z1
          have X2 := Lib.hid z2
          have X3 := Lib.hid z3
          clear z1 z2 z3
          clear b5
          go_wp2_with (refine wpList_load_mid rfl 60 (.tmp 3) rfl w.heap.size 0 rfl _ _ X1.out.range Tryd.underlying60 rfl ent_info ?_)
          go_at_call 80
          refine (HK.out _ _ _ _ _ _ _ _ _).mono ?_
          rintro r w7 ⟨rfl, b5⟩
          have z1 := X1.out.below b5 X1.out.1
          have z2 := X2.out.below b5 X2.out.1
          have z3 := X3.out.trans ((b5).mono X3.out.size)
          clear X1 X2 X3
          have X1 := Lib.hid z1
          have X2 := Lib.hid z2
          have X3 := Lib.hid z3
          clear z1 z2 z3
          clear b5
          clear q1 q2
          have s1 := X1.out.2.1 1 _ rfl
          have s2 := X1.out.2.1 2 _ rfl
          have s3 := X1.out.2.1 3 _ rfl
          have s4 := X1.out.2.1 4 _ rfl
          have s5 := X1.out.2.1 5 _ rfl
          have s6 := X1.out.2.1 6 _ rfl
          go_wp2_with fail
          go_at_call 82
          refine (HT.out _).mono ?_
          rintro r w8 ⟨rfl, b5⟩
          have z1 := X1.out.below b5 X1.out.1
          have z2 := X2.out.below b5 X2.out.1
          have z3 := X3.out.trans ((b5).mono X3.out.size)
          clear X1 X2 X3
          have X1 := Lib.hid z1
          have X2 := Lib.hid z2
          have X3 := Lib.hid z3
          clear z1 z2 z3
          clear b5 s1 s2 s3 s4 s5 s6
          by_cases hN : nx % 4 = 0
          · have HF := Lib.hid (HFY.out hN)
            clear HFY HFN
            have q : (nx.tmod 4 == 0) = true := by rw [Int.tmod_eq_emod_of_nonneg HNX.out]; simpa using hN
            have s11 := X1.out.2.1 11 _ rfl
            have f11 := X1.out.2.2 11 (by simp)
            go_upto_region 20 with fail
            clear s11 f11 q hN
            have z1 := (X1.out).set (i := 11) (v := .int .u32 nx) (by simp)
            simp only [List.set_cons_succ, List.set_cons_zero] at z1
            have z2 := (X2.out).other (p := ⟨w.heap.size, 11, none⟩) (v := .int .u32 nx) (by simp)
            have z3 := (X3.out).setCell (p := ⟨w.heap.size, 11, none⟩) (Nat.le_refl _) (.int .u32 nx)
            generalize (World.setCell w8 ⟨w.heap.size, 11, none⟩ (.int .u32 nx)) = W9 at *
            clear X1 X2 X3
            have X1 := Lib.hid z1
            have X2 := Lib.hid z2
            have X3 := Lib.hid z3
            clear z1 z2 z3
            obtain ⟨cs, hcs, hx1⟩ : ∃ cs, cs = enC R ∧ Blk W9 w.heap.size cs := ⟨_, HF.out, X1.out⟩
            have hcl : cs.length = 17 := by rw [hcs]; rfl
            have hco : cs.toArray.all (·.oneCell') = true := by rw [hcs]; exact enC_one R
            have Y1 := Lib.hid hx1
            have YL := Lib.hid hcl
            have YO := Lib.hid hco
            have YC := Lib.hid hcs
            have YI := Lib.hid (show (Tryd.prog.info? 60).map (·.size) = some cs.length by rw [hcl]; exact ent_info)
            have YJ := Lib.hid (show (Tryd.prog.info? 60).map (·.size) = some cs.toArray.size by rw [List.size_toArray, hcl]; exact ent_info)
            have YZ := Lib.hid (show (enC zeroE).length = cs.toArray.size by rw [List.size_toArray, hcl]; rfl)
            clear hx1 hcl hco hcs X1
            go_wp2_with (first
              | (refine wpList_load_mid rfl 60 (.tmp 3) rfl w.heap.size 0 rfl cs _ Y1.out.range Tryd.underlying60 rfl YI.out ?_)
              | (refine wpList_store_blk rfl 60 (.tmp 6) (.tmp 69) rfl (w.heap.size + 1) _ cs.toArray X2.out YZ.out rfl rfl YJ.out YO.out ?_; intro W9 hB9 hO9 hbl9 hs9))
            exact bodyPost_ret (v := .agg cs.toArray) (results_cell_blk Tryd.results45 _ W9 (w.heap.size + 1) cs _ rfl hB9 Tryd.underlying60 rfl YI.out) rfl ⟨by rw [YC.out]; rfl, X3.out.trans (hbl9 _ (by omega))⟩
          · have HF := Lib.hid (HFN.out hN)
            clear HFY HFN
            have q : (nx.tmod 4 == 0) = false := by rw [Int.tmod_eq_emod_of_nonneg HNX.out]; simpa using hN
            have s13 := X1.out.2.1 13 _ rfl
            have f13 := X1.out.2.2 13 (by simp)
            go_upto_region 19 with fail
            clear s13 f13 q hN
            have z1 := (X1.out).set (i := 13) (v := .int .i64 3) (by simp)
            simp only [List.set_cons_succ, List.set_cons_zero] at z1
            have z2 := (X2.out).other (p := ⟨w.heap.size, 13, none⟩) (v := .int .i64 3) (by simp)
            have z3 := (X3.out).setCell (p := ⟨w.heap.size, 13, none⟩) (Nat.le_refl _) (.int .i64 3)
            generalize (World.setCell w8 ⟨w.heap.size, 13, none⟩ (.int .i64 3)) = W8 at *
            clear X1 X2 X3
            have X1 := Lib.hid z1
            have X2 := Lib.hid z2
            have X3 := Lib.hid z3
            clear z1 z2 z3
            have s10 := X1.out.2.1 10 _ rfl
            have f10 := X1.out.2.2 10 (by simp)
            go_upto_region 20 with fail
            clear s10 f10
            have z1 := (X1.out).set (i := 10) (v := .int .u32 0) (by simp)
            simp only [List.set_cons_succ, List.set_cons_zero] at z1
            have z2 := (X2.out).other (p := ⟨w.heap.size, 10, none⟩) (v := .int .u32 0) (by simp)
            have z3 := (X3.out).setCell (p := ⟨w.heap.size, 10, none⟩) (Nat.le_refl _) (.int .u32 0)
            generalize (World.setCell W8 ⟨w.heap.size, 10, none⟩ (.int .u32 0)) = W9 at *
            clear X1 X2 X3
            have X1 := Lib.hid z1
            have X2 := Lib.hid z2
            have X3 := Lib.hid z3
            clear z1 z2 z3
            obtain ⟨cs, hcs, hx1⟩ : ∃ cs, cs = enC R ∧ Blk W9 w.heap.size cs := ⟨_, HF.out, X1.out⟩
            have hcl : cs.length = 17 := by rw [hcs]; rfl
            have hco : cs.toArray.all (·.oneCell') = true := by rw [hcs]; exact enC_one R
            have Y1 := Lib.hid hx1
            have YL := Lib.hid hcl
            have YO := Lib.hid hco
            have YC := Lib.hid hcs
            have YI := Lib.hid (show (Tryd.prog.info? 60).map (·.size) = some cs.length by rw [hcl]; exact ent_info)
            have YJ := Lib.hid (show (Tryd.prog.info? 60).map (·.size) = some cs.toArray.size by rw [List.size_toArray, hcl]; exact ent_info)
            have YZ := Lib.hid (show (enC zeroE).length = cs.toArray.size by rw [List.size_toArray, hcl]; rfl)
            clear hx1 hcl hco hcs X1
            go_wp2_with (first
              | (refine wpList_load_mid rfl 60 (.tmp 3) rfl w.heap.size 0 rfl cs _ Y1.out.range Tryd.underlying60 rfl YI.out ?_)
              | (refine wpList_store_blk rfl 60 (.tmp 6) (.tmp 69) rfl (w.heap.size + 1) _ cs.toArray X2.out YZ.out rfl rfl YJ.out YO.out ?_; intro W9 hB9 hO9 hbl9 hs9))
            exact bodyPost_ret (v := .agg cs.toArray) (results_cell_blk Tryd.results45 _ W9 (w.heap.size + 1) cs _ rfl hB9 Tryd.underlying60 rfl YI.out) rfl ⟨by rw [YC.out]; rfl, X3.out.trans (hbl9 _ (by omega))⟩
        have q5 : (kd == 5) = false := by simpa using k5
        have HF := Lib.hid (show enC ⟨no, pc, op, rd, rs1, rs2, imm, guess, 1, 1, 0, ((pc + 4) % 4294967296), addr, halt, took, known, filled⟩ = enC R by rw [HR2.out, if_neg k1, if_neg k2, if_neg k5])
        clear HR2 k1 k2 k5
        go_wp2_with (refine wpList_load_mid rfl 60 (.tmp 3) rfl w.heap.size 0 rfl _ _ X1.out.range Tryd.underlying60 rfl ent_info ?_)
        go_at_call 80
        refine (HK.out _ _ _ _ _ _ _ _ _).mono ?_
        rintro r w5 ⟨rfl, b5⟩
        have z1 := X1.out.below b5 X1.out.1
        have z2 := X2.out.below b5 X2.out.1
        have z3 := X3.out.trans ((b5).mono X3.out.size)
        clear X1 X2 X3
        have X1 := Lib.hid z1
        have X2 := Lib.hid z2
        have X3 := Lib.hid z3
        clear z1 z2 z3
        clear b5
        go_wp2_with (refine wpList_load_mid rfl 60 (.tmp 3) rfl w.heap.size 0 rfl _ _ X1.out.range Tryd.underlying60 rfl ent_info ?_)
        go_at_call 80
        refine (HK.out _ _ _ _ _ _ _ _ _).mono ?_
        rintro r w6 ⟨rfl, b5⟩
        have z1 := X1.out.below b5 X1.out.1
        have z2 := X2.out.below b5 X2.out.1
        have z3 := X3.out.trans ((b5).mono X3.out.size)
        clear X1 X2 X3
        have X1 := Lib.hid z1
        have X2 := Lib.hid z2
        have X3 := Lib.hid z3
        clear z1 z2 z3
        clear b5
        go_wp2_with (refine wpList_load_mid rfl 60 (.tmp 3) rfl w.heap.size 0 rfl _ _ X1.out.range Tryd.underlying60 rfl ent_info ?_)
        go_at_call 80
        refine (HK.out _ _ _ _ _ _ _ _ _).mono ?_
        rintro r w7 ⟨rfl, b5⟩
        have z1 := X1.out.below b5 X1.out.1
        have z2 := X2.out.below b5 X2.out.1
        have z3 := X3.out.trans ((b5).mono X3.out.size)
        clear X1 X2 X3
        have X1 := Lib.hid z1
        have X2 := Lib.hid z2
        have X3 := Lib.hid z3
        clear z1 z2 z3
        clear b5
        clear q1 q2
        obtain ⟨cs, hcs, hx1⟩ : ∃ cs, cs = enC R ∧ Blk w7 w.heap.size cs := ⟨_, HF.out, X1.out⟩
        have hcl : cs.length = 17 := by rw [hcs]; rfl
        have hco : cs.toArray.all (·.oneCell') = true := by rw [hcs]; exact enC_one R
        have Y1 := Lib.hid hx1
        have YL := Lib.hid hcl
        have YO := Lib.hid hco
        have YC := Lib.hid hcs
        have YI := Lib.hid (show (Tryd.prog.info? 60).map (·.size) = some cs.length by rw [hcl]; exact ent_info)
        have YJ := Lib.hid (show (Tryd.prog.info? 60).map (·.size) = some cs.toArray.size by rw [List.size_toArray, hcl]; exact ent_info)
        have YZ := Lib.hid (show (enC zeroE).length = cs.toArray.size by rw [List.size_toArray, hcl]; rfl)
        clear hx1 hcl hco hcs X1
        go_wp2_with (first
          | (refine wpList_load_mid rfl 60 (.tmp 3) rfl w.heap.size 0 rfl cs _ Y1.out.range Tryd.underlying60 rfl YI.out ?_)
          | (refine wpList_store_blk rfl 60 (.tmp 6) (.tmp 69) rfl (w.heap.size + 1) _ cs.toArray X2.out YZ.out rfl rfl YJ.out YO.out ?_; intro W9 hB9 hO9 hbl9 hs9))
        exact bodyPost_ret (v := .agg cs.toArray) (results_cell_blk Tryd.results45 _ W9 (w.heap.size + 1) cs _ rfl hB9 Tryd.underlying60 rfl YI.out) rfl ⟨by rw [YC.out]; rfl, X3.out.trans (hbl9 _ (by omega))⟩
      · have q : (wr != 0) = true := by simpa using hw
        have hvv : VW = VV := (if_neg hw).symm.trans HVV.out
        clear HVV
        subst hvv
        have HR2 := HR1
        clear HR1 hw
        have s1 := X1.out.2.1 1 _ rfl
        have s2 := X1.out.2.1 2 _ rfl
        have s3 := X1.out.2.1 3 _ rfl
        have s4 := X1.out.2.1 4 _ rfl
        have s5 := X1.out.2.1 5 _ rfl
        have s6 := X1.out.2.1 6 _ rfl
        go_wp2_with fail
        go_at_call 79
        refine (HV.out _).mono ?_
        rintro r w3 ⟨rfl, b5⟩
        have z1 := X1.out.below b5 X1.out.1
        have z2 := X2.out.below b5 X2.out.1
        have z3 := X3.out.trans ((b5).mono X3.out.size)
        clear X1 X2 X3
        have X1 := Lib.hid z1
        have X2 := Lib.hid z2
        have X3 := Lib.hid z3
        clear z1 z2 z3
        clear b5 s1 s2 s3 s4 s5 s6
        have s10 := X1.out.2.1 10 _ rfl
        have f10 := X1.out.2.2 10 (by simp)
        go_upto_region 9 with fail
        clear s10 f10 q
        have z1 := (X1.out).set (i := 10) (v := .int .u32 VW) (by simp)
        simp only [List.set_cons_succ, List.set_cons_zero] at z1
        have z2 := (X2.out).other (p := ⟨w.heap.size, 10, none⟩) (v := .int .u32 VW) (by simp)
        have z3 := (X3.out).setCell (p := ⟨w.heap.size, 10, none⟩) (Nat.le_refl _) (.int .u32 VW)
        generalize (World.setCell w3 ⟨w.heap.size, 10, none⟩ (.int .u32 VW)) = V5 at *
        clear X1 X2 X3
        have X1 := Lib.hid z1
        have X2 := Lib.hid z2
        have X3 := Lib.hid z3
        clear z1 z2 z3
        by_cases k1 : kd = 1
        · subst k1
          have HF := Lib.hid (show enC ⟨no, pc, op, rd, rs1, rs2, imm, guess, 1, 3, VW, ((pc + 4) % 4294967296), addr, halt, took, known, filled⟩ = enC R by rw [HR2.out, if_pos rfl])
          clear HR2
          go_wp2_with (refine wpList_load_mid rfl 60 (.tmp 3) rfl w.heap.size 0 rfl _ _ X1.out.range Tryd.underlying60 rfl ent_info ?_)
          go_at_call 80
          refine (HK.out _ _ _ _ _ _ _ _ _).mono ?_
          rintro r w5 ⟨rfl, b5⟩
          have z1 := X1.out.below b5 X1.out.1
          have z2 := X2.out.below b5 X2.out.1
          have z3 := X3.out.trans ((b5).mono X3.out.size)
          clear X1 X2 X3
          have X1 := Lib.hid z1
          have X2 := Lib.hid z2
          have X3 := Lib.hid z3
          clear z1 z2 z3
          clear b5
          have s9 := X1.out.2.1 9 _ rfl
          have f9 := X1.out.2.2 9 (by simp)
          go_upto_region 11 with fail
          clear s9 f9
          have z1 := (X1.out).set (i := 9) (v := .int .i64 3) (by simp)
          simp only [List.set_cons_succ, List.set_cons_zero] at z1
          have z2 := (X2.out).other (p := ⟨w.heap.size, 9, none⟩) (v := .int .i64 3) (by simp)
          have z3 := (X3.out).setCell (p := ⟨w.heap.size, 9, none⟩) (Nat.le_refl _) (.int .i64 3)
          generalize (World.setCell w5 ⟨w.heap.size, 9, none⟩ (.int .i64 3)) = W5 at *
          clear X1 X2 X3
          have X1 := Lib.hid z1
          have X2 := Lib.hid z2
          have X3 := Lib.hid z3
          clear z1 z2 z3
          go_wp2_with (refine wpList_load_mid rfl 60 (.tmp 3) rfl w.heap.size 0 rfl _ _ X1.out.range Tryd.underlying60 rfl ent_info ?_)
          go_at_call 80
          refine (HK.out _ _ _ _ _ _ _ _ _).mono ?_
          rintro r w6 ⟨rfl, b5⟩
          have z1 := X1.out.below b5 X1.out.1
          have z2 := X2.out.below b5 X2.out.1
          have z3 := X3.out.trans ((b5).mono X3.out.size)
          clear X1 X2 X3
          have X1 := Lib.hid z1
          have X2 := Lib.hid z2
          have X3 := Lib.hid z3
          clear z1 z2 z3
          clear b5
          go_wp2_with (refine wpList_load_mid rfl 60 (.tmp 3) rfl w.heap.size 0 rfl _ _ X1.out.range Tryd.underlying60 rfl ent_info ?_)
          go_at_call 80
          refine (HK.out _ _ _ _ _ _ _ _ _).mono ?_
          rintro r w7 ⟨rfl, b5⟩
          have z1 := X1.out.below b5 X1.out.1
          have z2 := X2.out.below b5 X2.out.1
          have z3 := X3.out.trans ((b5).mono X3.out.size)
          clear X1 X2 X3
          have X1 := Lib.hid z1
          have X2 := Lib.hid z2
          have X3 := Lib.hid z3
          clear z1 z2 z3
          clear b5
          obtain ⟨cs, hcs, hx1⟩ : ∃ cs, cs = enC R ∧ Blk w7 w.heap.size cs := ⟨_, HF.out, X1.out⟩
          have hcl : cs.length = 17 := by rw [hcs]; rfl
          have hco : cs.toArray.all (·.oneCell') = true := by rw [hcs]; exact enC_one R
          have Y1 := Lib.hid hx1
          have YL := Lib.hid hcl
          have YO := Lib.hid hco
          have YC := Lib.hid hcs
          have YI := Lib.hid (show (Tryd.prog.info? 60).map (·.size) = some cs.length by rw [hcl]; exact ent_info)
          have YJ := Lib.hid (show (Tryd.prog.info? 60).map (·.size) = some cs.toArray.size by rw [List.size_toArray, hcl]; exact ent_info)
          have YZ := Lib.hid (show (enC zeroE).length = cs.toArray.size by rw [List.size_toArray, hcl]; rfl)
          clear hx1 hcl hco hcs X1
          go_wp2_with (first
            | (refine wpList_load_mid rfl 60 (.tmp 3) rfl w.heap.size 0 rfl cs _ Y1.out.range Tryd.underlying60 rfl YI.out ?_)
            | (refine wpList_store_blk rfl 60 (.tmp 6) (.tmp 69) rfl (w.heap.size + 1) _ cs.toArray X2.out YZ.out rfl rfl YJ.out YO.out ?_; intro W9 hB9 hO9 hbl9 hs9))
          exact bodyPost_ret (v := .agg cs.toArray) (results_cell_blk Tryd.results45 _ W9 (w.heap.size + 1) cs _ rfl hB9 Tryd.underlying60 rfl YI.out) rfl ⟨by rw [YC.out]; rfl, X3.out.trans (hbl9 _ (by omega))⟩
        by_cases k2 : kd = 2
        · subst k2
          have HF := Lib.hid (show enC ⟨no, pc, op, rd, rs1, rs2, imm, guess, 1, tk, VW, ((pc + 4) % 4294967296), addr, halt, tk, known, filled⟩ = enC R by rw [HR2.out, if_neg (by decide), if_pos rfl])
          clear HR2
          go_wp2_with (refine wpList_load_mid rfl 60 (.tmp 3) rfl w.heap.size 0 rfl _ _ X1.out.range Tryd.underlying60 rfl ent_info ?_)
          go_at_call 80
          refine (HK.out _ _ _ _ _ _ _ _ _).mono ?_
          rintro r w5 ⟨rfl, b5⟩
          have z1 := X1.out.below b5 X1.out.1
          have z2 := X2.out.below b5 X2.out.1
          have z3 := X3.out.trans ((b5).mono X3.out.size)
          clear X1 X2 X3
          have X1 := Lib.hid z1
          have X2 := Lib.hid z2
          have X3 := Lib.hid z3
          clear z1 z2 z3
          clear b5
          go_wp2_with (refine wpList_load_mid rfl 60 (.tmp 3) rfl w.heap.size 0 rfl _ _ X1.out.range Tryd.underlying60 rfl ent_info ?_)
          go_at_call 80
          refine (HK.out _ _ _ _ _ _ _ _ _).mono ?_
          rintro r w6 ⟨rfl, b5⟩
          have z1 := X1.out.below b5 X1.out.1
          have z2 := X2.out.below b5 X2.out.1
          have z3 := X3.out.trans ((b5).mono X3.out.size)
          clear X1 X2 X3
          have X1 := Lib.hid z1
          have X2 := Lib.hid z2
          have X3 := Lib.hid z3
          clear z1 z2 z3
          clear b5
          have s2 := X1.out.2.1 2 _ rfl
          have s9 := X1.out.2.1 9 _ rfl
          have f9 := X1.out.2.2 9 (by simp)
          go_upto_region 13 with (go_at_call 81; refine (HTk.out _).mono ?_; rintro r w7 ⟨rfl, rfl⟩)
          clear s2 s9 f9
          have z1 := (X1.out).set (i := 9) (v := .int .i64 tk) (by simp)
          simp only [List.set_cons_succ, List.set_cons_zero] at z1
          have z2 := (X2.out).other (p := ⟨w.heap.size, 9, none⟩) (v := .int .i64 tk) (by simp)
          have z3 := (X3.out).setCell (p := ⟨w.heap.size, 9, none⟩) (Nat.le_refl _) (.int .i64 tk)
          generalize (World.setCell w6 ⟨w.heap.size, 9, none⟩ (.int .i64 tk)) = W7 at *
          clear X1 X2 X3
          have X1 := Lib.hid z1
          have X2 := Lib.hid z2
          have X3 := Lib.hid z3
          clear z1 z2 z3
          have s9 := X1.out.2.1 9 _ rfl
          have s14 := X1.out.2.1 14 _ rfl
          have f14 := X1.out.2.2 14 (by simp)
          go_upto_region 14 with fail
          clear s9 s14 f14
          have z1 := (X1.out).set (i := 14) (v := .int .i64 tk) (by simp)
          simp only [List.set_cons_succ, List.set_cons_zero] at z1
          have z2 := (X2.out).other (p := ⟨w.heap.size, 14, none⟩) (v := .int .i64 tk) (by simp)
          have z3 := (X3.out).setCell (p := ⟨w.heap.size, 14, none⟩) (Nat.le_refl _) (.int .i64 tk)
          generalize (World.setCell W7 ⟨w.heap.size, 14, none⟩ (.int .i64 tk)) = W8 at *
          clear X1 X2 X3
          have X1 := Lib.hid z1
          have X2 := Lib.hid z2
          have X3 := Lib.hid z3
          clear z1 z2 z3
          go_wp2_with (refine wpList_load_mid rfl 60 (.tmp 3) rfl w.heap.size 0 rfl _ _ X1.out.range Tryd.underlying60 rfl ent_info ?_)
          go_at_call 80
          refine (HK.out _ _ _ _ _ _ _ _ _).mono ?_
          rintro r w8 ⟨rfl, b5⟩
          have z1 := X1.out.below b5 X1.out.1
          have z2 := X2.out.below b5 X2.out.1
          have z3 := X3.out.trans ((b5).mono X3.out.size)
          clear X1 X2 X3
          have X1 := Lib.hid z1
          have X2 := Lib.hid z2
          have X3 := Lib.hid z3
          clear z1 z2 z3
          clear b5
          obtain ⟨cs, hcs, hx1⟩ : ∃ cs, cs = enC R ∧ Blk w8 w.heap.size cs := ⟨_, HF.out, X1.out⟩
          have hcl : cs.length = 17 := by rw [hcs]; rfl
          have hco : cs.toArray.all (·.oneCell') = true := by rw [hcs]; exact enC_one R
          have Y1 := Lib.hid hx1
          have YL := Lib.hid hcl
          have YO := Lib.hid hco
          have YC := Lib.hid hcs
          have YI := Lib.hid (show (Tryd.prog.info? 60).map (·.size) = some cs.length by rw [hcl]; exact ent_info)
          have YJ := Lib.hid (show (Tryd.prog.info? 60).map (·.size) = some cs.toArray.size by rw [List.size_toArray, hcl]; exact ent_info)
          have YZ := Lib.hid (show (enC zeroE).length = cs.toArray.size by rw [List.size_toArray, hcl]; rfl)
          clear hx1 hcl hco hcs X1
          go_wp2_with (first
            | (refine wpList_load_mid rfl 60 (.tmp 3) rfl w.heap.size 0 rfl cs _ Y1.out.range Tryd.underlying60 rfl YI.out ?_)
            | (refine wpList_store_blk rfl 60 (.tmp 6) (.tmp 69) rfl (w.heap.size + 1) _ cs.toArray X2.out YZ.out rfl rfl YJ.out YO.out ?_; intro W9 hB9 hO9 hbl9 hs9))
          exact bodyPost_ret (v := .agg cs.toArray) (results_cell_blk Tryd.results45 _ W9 (w.heap.size + 1) cs _ rfl hB9 Tryd.underlying60 rfl YI.out) rfl ⟨by rw [YC.out]; rfl, X3.out.trans (hbl9 _ (by omega))⟩
        have q1 : (kd == 1) = false := by simpa using k1
        have q2 : (kd == 2) = false := by simpa using k2
        by_cases k5 : kd = 5
        · subst k5
          have HFY := Lib.hid (fun hN : nx % 4 = 0 => show enC ⟨no, pc, op, rd, rs1, rs2, imm, guess, 1, 1, VW, nx, addr, halt, took, known, filled⟩ = enC R by rw [HR2.out, if_neg (by decide), if_neg (by decide), if_pos rfl, if_pos hN])
          have HFN := Lib.hid (fun hN : ¬ nx % 4 = 0 => show enC ⟨no, pc, op, rd, rs1, rs2, imm, guess, 1, 1, 0, ((pc + 4) % 4294967296), addr, 3, took, known, filled⟩ = enC R by rw [HR2.out, if_neg (by decide), if_neg (by decide), if_pos rfl, if_neg hN])
          clear HR2
          go_wp2_with (refine wpList_load_mid rfl 60 (.tmp 3) rfl w.heap.size 0 rfl _ _ X1.out.range Tryd.underlying60 rfl ent_info ?_)
          go_at_call 80
          refine (HK.out _ _ _ _ _ _ _ _ _).mono ?_
          rintro r w5 ⟨rfl, b5⟩
          have z1 := X1.out.below b5 X1.out.1
          have z2 := X2.out.below b5 X2.out.1
          have z3 := X3.out.trans ((b5).mono X3.out.size)
          clear X1 X2 X3
          have X1 := Lib.hid z1
          have X2 := Lib.hid z2
          have X3 := Lib.hid z3
          clear z1 z2 z3
          clear b5
          go_wp2_with (refine wpList_load_mid rfl 60 (.tmp 3) rfl w.heap.size 0 rfl _ _ X1.out.range Tryd.underlying60 rfl ent_info ?_)
          go_at_call 80
          refine (HK.out _ _ _ _ _ _ _ _ _).mono ?_
          rintro r w6 ⟨rfl, b5⟩
          have z1 := X1.out.below b5 X1.out.1
          have z2 := X2.out.below b5 X2.out.1
          have z3 := X3.out.trans ((b5).mono X3.out.size)
          clear X1 X2 X3
          have X1 := Lib.hid z1
          have X2 := Lib.hid z2
          have X3 := Lib.hid z3
          clear z1 z2 z3
          clear b5
          go_wp2_with (refine wpList_load_mid rfl 60 (.tmp 3) rfl w.heap.size 0 rfl _ _ X1.out.range Tryd.underlying60 rfl ent_info ?_)
          go_at_call 80
          refine (HK.out _ _ _ _ _ _ _ _ _).mono ?_
          rintro r w7 ⟨rfl, b5⟩
          have z1 := X1.out.below b5 X1.out.1
          have z2 := X2.out.below b5 X2.out.1
          have z3 := X3.out.trans ((b5).mono X3.out.size)
          clear X1 X2 X3
          have X1 := Lib.hid z1
          have X2 := Lib.hid z2
          have X3 := Lib.hid z3
          clear z1 z2 z3
          clear b5
          clear q1 q2
          have s1 := X1.out.2.1 1 _ rfl
          have s2 := X1.out.2.1 2 _ rfl
          have s3 := X1.out.2.1 3 _ rfl
          have s4 := X1.out.2.1 4 _ rfl
          have s5 := X1.out.2.1 5 _ rfl
          have s6 := X1.out.2.1 6 _ rfl
          go_wp2_with fail
          go_at_call 82
          refine (HT.out _).mono ?_
          rintro r w8 ⟨rfl, b5⟩
          have z1 := X1.out.below b5 X1.out.1
          have z2 := X2.out.below b5 X2.out.1
          have z3 := X3.out.trans ((b5).mono X3.out.size)
          clear X1 X2 X3
          have X1 := Lib.hid z1
          have X2 := Lib.hid z2
          have X3 := Lib.hid z3
          clear z1 z2 z3
          clear b5 s1 s2 s3 s4 s5 s6
          by_cases hN : nx % 4 = 0
          · have HF := Lib.hid (HFY.out hN)
            clear HFY HFN
            have q : (nx.tmod 4 == 0) = true := by rw [Int.tmod_eq_emod_of_nonneg HNX.out]; simpa using hN
            have s11 := X1.out.2.1 11 _ rfl
            have f11 := X1.out.2.2 11 (by simp)
            go_upto_region 20 with fail
            clear s11 f11 q hN
            have z1 := (X1.out).set (i := 11) (v := .int .u32 nx) (by simp)
            simp only [List.set_cons_succ, List.set_cons_zero] at z1
            have z2 := (X2.out).other (p := ⟨w.heap.size, 11, none⟩) (v := .int .u32 nx) (by simp)
            have z3 := (X3.out).setCell (p := ⟨w.heap.size, 11, none⟩) (Nat.le_refl _) (.int .u32 nx)
            generalize (World.setCell w8 ⟨w.heap.size, 11, none⟩ (.int .u32 nx)) = W9 at *
            clear X1 X2 X3
            have X1 := Lib.hid z1
            have X2 := Lib.hid z2
            have X3 := Lib.hid z3
            clear z1 z2 z3
            obtain ⟨cs, hcs, hx1⟩ : ∃ cs, cs = enC R ∧ Blk W9 w.heap.size cs := ⟨_, HF.out, X1.out⟩
            have hcl : cs.length = 17 := by rw [hcs]; rfl
            have hco : cs.toArray.all (·.oneCell') = true := by rw [hcs]; exact enC_one R
            have Y1 := Lib.hid hx1
            have YL := Lib.hid hcl
            have YO := Lib.hid hco
            have YC := Lib.hid hcs
            have YI := Lib.hid (show (Tryd.prog.info? 60).map (·.size) = some cs.length by rw [hcl]; exact ent_info)
            have YJ := Lib.hid (show (Tryd.prog.info? 60).map (·.size) = some cs.toArray.size by rw [List.size_toArray, hcl]; exact ent_info)
            have YZ := Lib.hid (show (enC zeroE).length = cs.toArray.size by rw [List.size_toArray, hcl]; rfl)
            clear hx1 hcl hco hcs X1
            go_wp2_with (first
              | (refine wpList_load_mid rfl 60 (.tmp 3) rfl w.heap.size 0 rfl cs _ Y1.out.range Tryd.underlying60 rfl YI.out ?_)
              | (refine wpList_store_blk rfl 60 (.tmp 6) (.tmp 69) rfl (w.heap.size + 1) _ cs.toArray X2.out YZ.out rfl rfl YJ.out YO.out ?_; intro W9 hB9 hO9 hbl9 hs9))
            exact bodyPost_ret (v := .agg cs.toArray) (results_cell_blk Tryd.results45 _ W9 (w.heap.size + 1) cs _ rfl hB9 Tryd.underlying60 rfl YI.out) rfl ⟨by rw [YC.out]; rfl, X3.out.trans (hbl9 _ (by omega))⟩
          · have HF := Lib.hid (HFN.out hN)
            clear HFY HFN
            have q : (nx.tmod 4 == 0) = false := by rw [Int.tmod_eq_emod_of_nonneg HNX.out]; simpa using hN
            have s13 := X1.out.2.1 13 _ rfl
            have f13 := X1.out.2.2 13 (by simp)
            go_upto_region 19 with fail
            clear s13 f13 q hN
            have z1 := (X1.out).set (i := 13) (v := .int .i64 3) (by simp)
            simp only [List.set_cons_succ, List.set_cons_zero] at z1
            have z2 := (X2.out).other (p := ⟨w.heap.size, 13, none⟩) (v := .int .i64 3) (by simp)
            have z3 := (X3.out).setCell (p := ⟨w.heap.size, 13, none⟩) (Nat.le_refl _) (.int .i64 3)
            generalize (World.setCell w8 ⟨w.heap.size, 13, none⟩ (.int .i64 3)) = W8 at *
            clear X1 X2 X3
            have X1 := Lib.hid z1
            have X2 := Lib.hid z2
            have X3 := Lib.hid z3
            clear z1 z2 z3
            have s10 := X1.out.2.1 10 _ rfl
            have f10 := X1.out.2.2 10 (by simp)
            go_upto_region 20 with fail
            clear s10 f10
            have z1 := (X1.out).set (i := 10) (v := .int .u32 0) (by simp)
            simp only [List.set_cons_succ, List.set_cons_zero] at z1
            have z2 := (X2.out).other (p := ⟨w.heap.size, 10, none⟩) (v := .int .u32 0) (by simp)
            have z3 := (X3.out).setCell (p := ⟨w.heap.size, 10, none⟩) (Nat.le_refl _) (.int .u32 0)
            generalize (World.setCell W8 ⟨w.heap.size, 10, none⟩ (.int .u32 0)) = W9 at *
            clear X1 X2 X3
            have X1 := Lib.hid z1
            have X2 := Lib.hid z2
            have X3 := Lib.hid z3
            clear z1 z2 z3
            obtain ⟨cs, hcs, hx1⟩ : ∃ cs, cs = enC R ∧ Blk W9 w.heap.size cs := ⟨_, HF.out, X1.out⟩
            have hcl : cs.length = 17 := by rw [hcs]; rfl
            have hco : cs.toArray.all (·.oneCell') = true := by rw [hcs]; exact enC_one R
            have Y1 := Lib.hid hx1
            have YL := Lib.hid hcl
            have YO := Lib.hid hco
            have YC := Lib.hid hcs
            have YI := Lib.hid (show (Tryd.prog.info? 60).map (·.size) = some cs.length by rw [hcl]; exact ent_info)
            have YJ := Lib.hid (show (Tryd.prog.info? 60).map (·.size) = some cs.toArray.size by rw [List.size_toArray, hcl]; exact ent_info)
            have YZ := Lib.hid (show (enC zeroE).length = cs.toArray.size by rw [List.size_toArray, hcl]; rfl)
            clear hx1 hcl hco hcs X1
            go_wp2_with (first
              | (refine wpList_load_mid rfl 60 (.tmp 3) rfl w.heap.size 0 rfl cs _ Y1.out.range Tryd.underlying60 rfl YI.out ?_)
              | (refine wpList_store_blk rfl 60 (.tmp 6) (.tmp 69) rfl (w.heap.size + 1) _ cs.toArray X2.out YZ.out rfl rfl YJ.out YO.out ?_; intro W9 hB9 hO9 hbl9 hs9))
            exact bodyPost_ret (v := .agg cs.toArray) (results_cell_blk Tryd.results45 _ W9 (w.heap.size + 1) cs _ rfl hB9 Tryd.underlying60 rfl YI.out) rfl ⟨by rw [YC.out]; rfl, X3.out.trans (hbl9 _ (by omega))⟩
        have q5 : (kd == 5) = false := by simpa using k5
        have HF := Lib.hid (show enC ⟨no, pc, op, rd, rs1, rs2, imm, guess, 1, 1, VW, ((pc + 4) % 4294967296), addr, halt, took, known, filled⟩ = enC R by rw [HR2.out, if_neg k1, if_neg k2, if_neg k5])
        clear HR2 k1 k2 k5
        go_wp2_with (refine wpList_load_mid rfl 60 (.tmp 3) rfl w.heap.size 0 rfl _ _ X1.out.range Tryd.underlying60 rfl ent_info ?_)
        go_at_call 80
        refine (HK.out _ _ _ _ _ _ _ _ _).mono ?_
        rintro r w5 ⟨rfl, b5⟩
        have z1 := X1.out.below b5 X1.out.1
        have z2 := X2.out.below b5 X2.out.1
        have z3 := X3.out.trans ((b5).mono X3.out.size)
        clear X1 X2 X3
        have X1 := Lib.hid z1
        have X2 := Lib.hid z2
        have X3 := Lib.hid z3
        clear z1 z2 z3
        clear b5
        go_wp2_with (refine wpList_load_mid rfl 60 (.tmp 3) rfl w.heap.size 0 rfl _ _ X1.out.range Tryd.underlying60 rfl ent_info ?_)
        go_at_call 80
        refine (HK.out _ _ _ _ _ _ _ _ _).mono ?_
        rintro r w6 ⟨rfl, b5⟩
        have z1 := X1.out.below b5 X1.out.1
        have z2 := X2.out.below b5 X2.out.1
        have z3 := X3.out.trans ((b5).mono X3.out.size)
        clear X1 X2 X3
        have X1 := Lib.hid z1
        have X2 := Lib.hid z2
        have X3 := Lib.hid z3
        clear z1 z2 z3
        clear b5
        go_wp2_with (refine wpList_load_mid rfl 60 (.tmp 3) rfl w.heap.size 0 rfl _ _ X1.out.range Tryd.underlying60 rfl ent_info ?_)
        go_at_call 80
        refine (HK.out _ _ _ _ _ _ _ _ _).mono ?_
        rintro r w7 ⟨rfl, b5⟩
        have z1 := X1.out.below b5 X1.out.1
        have z2 := X2.out.below b5 X2.out.1
        have z3 := X3.out.trans ((b5).mono X3.out.size)
        clear X1 X2 X3
        have X1 := Lib.hid z1
        have X2 := Lib.hid z2
        have X3 := Lib.hid z3
        clear z1 z2 z3
        clear b5
        clear q1 q2
        obtain ⟨cs, hcs, hx1⟩ : ∃ cs, cs = enC R ∧ Blk w7 w.heap.size cs := ⟨_, HF.out, X1.out⟩
        have hcl : cs.length = 17 := by rw [hcs]; rfl
        have hco : cs.toArray.all (·.oneCell') = true := by rw [hcs]; exact enC_one R
        have Y1 := Lib.hid hx1
        have YL := Lib.hid hcl
        have YO := Lib.hid hco
        have YC := Lib.hid hcs
        have YI := Lib.hid (show (Tryd.prog.info? 60).map (·.size) = some cs.length by rw [hcl]; exact ent_info)
        have YJ := Lib.hid (show (Tryd.prog.info? 60).map (·.size) = some cs.toArray.size by rw [List.size_toArray, hcl]; exact ent_info)
        have YZ := Lib.hid (show (enC zeroE).length = cs.toArray.size by rw [List.size_toArray, hcl]; rfl)
        clear hx1 hcl hco hcs X1
        go_wp2_with (first
          | (refine wpList_load_mid rfl 60 (.tmp 3) rfl w.heap.size 0 rfl cs _ Y1.out.range Tryd.underlying60 rfl YI.out ?_)
          | (refine wpList_store_blk rfl 60 (.tmp 6) (.tmp 69) rfl (w.heap.size + 1) _ cs.toArray X2.out YZ.out rfl rfl YJ.out YO.out ?_; intro W9 hB9 hO9 hbl9 hs9))
        exact bodyPost_ret (v := .agg cs.toArray) (results_cell_blk Tryd.results45 _ W9 (w.heap.size + 1) cs _ rfl hB9 Tryd.underlying60 rfl YI.out) rfl ⟨by rw [YC.out]; rfl, X3.out.trans (hbl9 _ (by omega))⟩
  · have HF := Lib.hid (show enC ⟨no, pc, op, rd, rs1, rs2, imm, guess, is, left, value, next, addr, halt, took, known, filled⟩ = enC R by rw [← HR.out, if_pos (Or.inl h0)])
    clear HR
    have q : (is != 0) = true := by simpa using h0
    clear h0
    obtain ⟨cs, hcs, hx1⟩ : ∃ cs, cs = enC R ∧ Blk W0 w.heap.size cs := ⟨_, HF.out, X1.out⟩
    have hcl : cs.length = 17 := by rw [hcs]; rfl
    have hco : cs.toArray.all (·.oneCell') = true := by rw [hcs]; exact enC_one R
    have Y1 := Lib.hid hx1
    have YL := Lib.hid hcl
    have YO := Lib.hid hco
    have YC := Lib.hid hcs
    have YI := Lib.hid (show (Tryd.prog.info? 60).map (·.size) = some cs.length by rw [hcl]; exact ent_info)
    have YJ := Lib.hid (show (Tryd.prog.info? 60).map (·.size) = some cs.toArray.size by rw [List.size_toArray, hcl]; exact ent_info)
    have YZ := Lib.hid (show (enC zeroE).length = cs.toArray.size by rw [List.size_toArray, hcl]; rfl)
    clear hx1 hcl hco hcs X1
    go_wp2_with (first
      | (refine wpList_load_mid rfl 60 (.tmp 3) rfl w.heap.size 0 rfl cs _ Y1.out.range Tryd.underlying60 rfl YI.out ?_)
      | (refine wpList_store_blk rfl 60 (.tmp 6) (.tmp 16) rfl (w.heap.size + 1) _ cs.toArray X2.out YZ.out rfl rfl YJ.out YO.out ?_; intro W9 hB9 hO9 hbl9 hs9))
    exact bodyPost_ret (v := .agg cs.toArray) (results_cell_blk Tryd.results45 _ W9 (w.heap.size + 1) cs _ rfl hB9 Tryd.underlying60 rfl YI.out) rfl ⟨by rw [YC.out]; rfl, X3.out.trans (hbl9 _ (by omega))⟩
end Go.Proofs.YtfekknalchjkiaaDoor
