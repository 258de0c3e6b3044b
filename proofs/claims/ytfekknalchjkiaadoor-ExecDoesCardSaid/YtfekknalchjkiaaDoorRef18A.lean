/- THE CONTRACTS of auspexref05's Right (any size), auspexref18's Address: its answer is exec.Address's. -/
import Derived.Test.YtfekknalchjkiaaDoorRef18S
import Derived.Test.YtfekknalchjkiaaDoorExecA
import Derived.Test.YtfekknalchjkiaaDoorQuietTail
namespace Go.Proofs.YtfekknalchjkiaaDoor
open Go.ChangeShapes Go.WideShapes Go.ChangeAt Go.RowKit Go.Sort
set_option linter.unusedVariables false
set_option linter.unusedSimpArgs false
set_option maxHeartbeats 4000000
set_option maxRecDepth 100000

theorem refRight_all (size addr many : Int) (s0 : -9223372036854775808 ≤ size) (s1 : size ≤ 9223372036854775807) (h0 : 0 ≤ addr) (h1 : addr < 4294967296) (w : World) :
    Calls Tryd.prog 85 #[.int .i64 size, .int .u32 addr, .int .i64 many] w fun e w' => e = .returned (.bool (rtA size addr many)) ∧ w = w' := by
  by_cases m1 : many = 1
  · subst m1
    by_cases hs0 : 0 ≤ size
    · have z2 : decide (0 ≤ size) = true := by simp [hs0]
      by_cases y : addr + 1 ≤ size
      · have H := Lib.hid (show rtA size addr 1 = true by unfold rtA; simp; omega)
        have z3 : decide (addr + 1 ≤ size) = true := by simp [y]
        go_enter Tryd.func85, Tryd.ntmps85
        go_wp2
        go_ret
        exact ⟨retb H.out.symm, rfl⟩
      · have H := Lib.hid (show rtA size addr 1 = false by unfold rtA; simp; omega)
        have z3 : decide (addr + 1 ≤ size) = false := by simp; omega
        go_enter Tryd.func85, Tryd.ntmps85
        go_wp2
        go_ret
        exact ⟨retb H.out.symm, rfl⟩
    · have H := Lib.hid (show rtA size addr 1 = false by unfold rtA; simp; omega)
      have z2 : decide (0 ≤ size) = false := by simp; omega
      go_enter Tryd.func85, Tryd.ntmps85
      go_wp2
      go_ret
      exact ⟨retb H.out.symm, rfl⟩
  by_cases m2 : many = 2
  · subst m2
    by_cases hz : addr % 2 = 0
    · have z1 : (addr % 2 == 0) = true := by simp [hz]
      by_cases hs0 : 0 ≤ size
      · have z2 : decide (0 ≤ size) = true := by simp [hs0]
        by_cases y : addr + 2 ≤ size
        · have H := Lib.hid (show rtA size addr 2 = true by unfold rtA; simp; omega)
          have z3 : decide (addr + 2 ≤ size) = true := by simp [y]
          clear hz
          go_enter Tryd.func85, Tryd.ntmps85
          go_wp2
          go_ret
          exact ⟨retb H.out.symm, rfl⟩
        · have H := Lib.hid (show rtA size addr 2 = false by unfold rtA; simp; omega)
          have z3 : decide (addr + 2 ≤ size) = false := by simp; omega
          clear hz
          go_enter Tryd.func85, Tryd.ntmps85
          go_wp2
          go_ret
          exact ⟨retb H.out.symm, rfl⟩
      · have H := Lib.hid (show rtA size addr 2 = false by unfold rtA; simp; omega)
        have z2 : decide (0 ≤ size) = false := by simp; omega
        clear hz
        go_enter Tryd.func85, Tryd.ntmps85
        go_wp2
        go_ret
        exact ⟨retb H.out.symm, rfl⟩
    · have H := Lib.hid (show rtA size addr 2 = false by unfold rtA; simp; omega)
      have z1 : (addr % 2 == 0) = false := by simp [hz]
      clear hz
      go_enter Tryd.func85, Tryd.ntmps85
      go_wp2
      go_ret
      exact ⟨retb H.out.symm, rfl⟩
  by_cases m4 : many = 4
  · subst m4
    by_cases hz : addr % 4 = 0
    · have z1 : (addr % 4 == 0) = true := by simp [hz]
      by_cases hs0 : 0 ≤ size
      · have z2 : decide (0 ≤ size) = true := by simp [hs0]
        by_cases y : addr + 4 ≤ size
        · have H := Lib.hid (show rtA size addr 4 = true by unfold rtA; simp; omega)
          have z3 : decide (addr + 4 ≤ size) = true := by simp [y]
          clear hz
          go_enter Tryd.func85, Tryd.ntmps85
          go_wp2
          go_ret
          exact ⟨retb H.out.symm, rfl⟩
        · have H := Lib.hid (show rtA size addr 4 = false by unfold rtA; simp; omega)
          have z3 : decide (addr + 4 ≤ size) = false := by simp; omega
          clear hz
          go_enter Tryd.func85, Tryd.ntmps85
          go_wp2
          go_ret
          exact ⟨retb H.out.symm, rfl⟩
      · have H := Lib.hid (show rtA size addr 4 = false by unfold rtA; simp; omega)
        have z2 : decide (0 ≤ size) = false := by simp; omega
        clear hz
        go_enter Tryd.func85, Tryd.ntmps85
        go_wp2
        go_ret
        exact ⟨retb H.out.symm, rfl⟩
    · have H := Lib.hid (show rtA size addr 4 = false by unfold rtA; simp; omega)
      have z1 : (addr % 4 == 0) = false := by simp [hz]
      clear hz
      go_enter Tryd.func85, Tryd.ntmps85
      go_wp2
      go_ret
      exact ⟨retb H.out.symm, rfl⟩
  have H := Lib.hid (show rtA size addr many = false by unfold rtA; simp [m1, m2, m4])
  have q1 : (many != 1) = true := by simpa using m1
  have q2 : (many != 2) = true := by simpa using m2
  have q4 : (many != 4) = true := by simpa using m4
  go_enter Tryd.func85, Tryd.ntmps85
  go_wp2
  go_ret
  exact ⟨retb H.out.symm, rfl⟩

theorem refAddress_any (e : En) (size a : Int) (s0 : -9223372036854775808 ≤ size) (s1 : size ≤ 9223372036854775807) (w : World) :
    Calls Tryd.prog 47 #[enV e, .int .i64 size, .int .u32 a] w fun r w' => r = .returned (enV (addrE e size a)) ∧ Below w.heap.size w w' := by
  obtain ⟨no, pc, op, rd, rs1, rs2, imm, guess, is, left, value, next, addr, halt, took, known, filled⟩ := e
  have HK := Lib.hid (fun is left value next addr halt took known w => ref18kind_any ⟨no, pc, op, rd, rs1, rs2, imm, guess, is, left, value, next, addr, halt, took, known, filled⟩ w)
  have HS := Lib.hid (fun is left value next addr halt took known w => ref18size_any ⟨no, pc, op, rd, rs1, rs2, imm, guess, is, left, value, next, addr, halt, took, known, filled⟩ w)
  have HRT := Lib.hid (fun w : World => (refRight_all size ((a + imm) % 4294967296) (sizeOp op) s0 s1 (by omega) (by omega) w).mono (fun r w' (h : _ ∧ w = w') => (show r = .returned (.bool (rtA size ((a + imm) % 4294967296) (sizeOp op))) ∧ Below w.heap.size w w' from ⟨h.1, h.2 ▸ Below.refl _ _⟩)))
  have HSK := Lib.hid (size_kind op)
  have HSL := Lib.hid (size_low op)
  obtain ⟨R, hR⟩ : ∃ R, addrE ⟨no, pc, op, rd, rs1, rs2, imm, guess, is, left, value, next, addr, halt, took, known, filled⟩ size a = R := ⟨_, rfl⟩
  rw [hR]
  unfold addrE at hR
  unfold enV enC at HK HS
  simp only at hR HK HS
  obtain ⟨kd, hkd⟩ : ∃ kd, kindI op = kd := ⟨_, rfl⟩
  obtain ⟨sz, hsz⟩ : ∃ sz, sizeOp op = sz := ⟨_, rfl⟩
  obtain ⟨rt, hrt⟩ : ∃ rt, rtA size ((a + imm) % 4294967296) sz = rt := ⟨_, rfl⟩
  simp only [hkd] at HK HSK
  simp only [hsz] at HS HSK HSL
  rw [hsz] at HRT
  rw [hrt] at HRT
  rw [hkd, hsz, hrt] at hR
  have HR := Lib.hid hR
  clear hR hkd hsz hrt s0 s1
  obtain ⟨f1, f2, f3, f4⟩ := two_new w (enC ⟨no, pc, op, rd, rs1, rs2, imm, guess, is, left, value, next, addr, halt, took, known, filled⟩) (enC zeroE) 60 60
  unfold enV
  go_enter Tryd.func47, Tryd.ntmps47
  simp only [enC, zeroE] at f1 f2 f3 f4 ⊢
  go_upto_region 1 with fail
  generalize (w.alloc (.cells #[.int .i64 no, .int .u32 pc, .int .i64 op, .int .i64 rd, .int .i64 rs1, .int .i64 rs2, .int .u32 imm, .int .u32 guess, .int .i64 is, .int .i64 left, .int .u32 value, .int .u32 next, .int .u32 addr, .int .i64 halt, .int .i64 took, .bool known, .bool filled] 60)).alloc (.cells #[.int .i64 0, .int .u32 0, .int .i64 0, .int .i64 0, .int .i64 0, .int .i64 0, .int .u32 0, .int .u32 0, .int .i64 0, .int .i64 0, .int .u32 0, .int .u32 0, .int .u32 0, .int .i64 0, .int .i64 0, .bool false, .bool false] 60) = W0 at *
  have X1 := Lib.hid f1
  have X2 := Lib.hid f2
  have X3 := Lib.hid f3
  clear f1 f2 f3 f4
  have s8 := X1.out.2.1 8 _ rfl
  by_cases h0 : is = 0
  · subst h0
    have s15 := X1.out.2.1 15 _ rfl
    cases known
    · go_wp2_with (refine wpList_load_want 60 (.tmp 3) rfl rfl w.heap.size 0 rfl _ _ X1.out.range Tryd.underlying60 rfl ent_info ?_)
      go_at_call 77
      refine (HS.out _ _ _ _ _ _ _ _ _).mono ?_
      rintro r w1 ⟨rfl, b5⟩
      have z1 := X1.out.below b5 X1.out.1
      have z2 := X2.out.below b5 X2.out.1
      have z3 := X3.out.trans ((b5).mono X3.out.size)
      clear X1 X2 X3
      have X1 := Lib.hid z1
      have X2 := Lib.hid z2
      have X3 := Lib.hid z3
      clear z1 z2 z3
      clear b5 s8 s15
      by_cases hz : sz = 0
      · have hkk : ¬ (kd = 3 ∨ kd = 4) := fun h => absurd (HSK.out.2 h) (by omega)
        have HF := Lib.hid (show enC ⟨no, pc, op, rd, rs1, rs2, imm, guess, 0, left, value, next, addr, halt, took, false, filled⟩ = enC R by rw [← HR.out, if_pos (Or.inr (Or.inr ⟨fun h => hkk (Or.inl h), fun h => hkk (Or.inr h)⟩))])
        have q : (sz == 0) = true := by simpa using hz
        clear HR hkk hz
        obtain ⟨cs, hcs, hx1⟩ : ∃ cs, cs = enC R ∧ Blk w1 w.heap.size cs := ⟨_, HF.out, X1.out⟩
        have hcl : cs.length = 17 := by rw [hcs]; rfl
        have hco : cs.toArray.all (·.oneCell') = true := by rw [hcs]; exact enC_one R
        have Y1 := Lib.hid hx1
        have YL := Lib.hid hcl
        have YO := Lib.hid hco
        have YC := Lib.hid hcs
        have YI := Lib.hid (show (Tryd.prog.info? 60).map (·.size) = some cs.length by rw [hcl]; exact ent_info)
        have YJ := Lib.hid (show (Tryd.prog.info? 60).map (·.size) = some cs.toArray.size by rw [List.size_toArray, hcl]; exact ent_info)
        have YZ := Lib.hid (show (enC zeroE).length = cs.toArray.size by rw [List.size_toArray, hcl]; rfl)
        clear hx1 hcl hco hcs X1
        go_wp2_with (first
          | (refine wpList_load_mid rfl 60 (.tmp 3) rfl w.heap.size 0 rfl cs _ Y1.out.range Tryd.underlying60 rfl YI.out ?_)
          | (refine wpList_store_blk rfl 60 (.tmp 6) (.tmp 19) rfl (w.heap.size + 1) _ cs.toArray X2.out YZ.out rfl rfl YJ.out YO.out ?_; intro W9 hB9 hO9 hbl9 hs9))
        exact bodyPost_ret (v := .agg cs.toArray) (results_cell_blk Tryd.results47 _ W9 (w.heap.size + 1) cs _ rfl hB9 Tryd.underlying60 rfl YI.out) rfl ⟨by rw [YC.out]; rfl, X3.out.trans (hbl9 _ (by omega))⟩
      · have q : (sz == 0) = false := by simpa using hz
        have hsp : 0 < sz := by have := HSL.out; omega
        have hkk := HSK.out.1 hsp
        have HR2 := Lib.hid (HR.out.symm.trans (if_neg (fun h => by
          rcases h with h | h | h
          · exact h rfl
          · cases h
          · rcases hkk with hk | hk
            · exact h.1 hk
            · exact h.2 hk)))
        have HKK := Lib.hid hkk
        clear HR hkk hz hsp
        have s6 := X1.out.2.1 6 _ rfl
        have s12 := X1.out.2.1 12 _ rfl
        have f12 := X1.out.2.2 12 (by simp)
        go_upto_region 4 with fail
        clear s6 s12 f12 q
        have z1 := (X1.out).set (i := 12) (v := .int .u32 ((a + imm) % 4294967296)) (by simp)
        simp only [List.set_cons_succ, List.set_cons_zero] at z1
        have z2 := (X2.out).other (p := ⟨w.heap.size, 12, none⟩) (v := .int .u32 ((a + imm) % 4294967296)) (by simp)
        have z3 := (X3.out).setCell (p := ⟨w.heap.size, 12, none⟩) (Nat.le_refl _) (.int .u32 ((a + imm) % 4294967296))
        generalize (World.setCell w1 ⟨w.heap.size, 12, none⟩ (.int .u32 ((a + imm) % 4294967296))) = W1 at *
        clear X1 X2 X3
        have X1 := Lib.hid z1
        have X2 := Lib.hid z2
        have X3 := Lib.hid z3
        clear z1 z2 z3
        cases rt
        · have HF3 := Lib.hid (fun hk : kd = 3 => show enC ⟨no, pc, op, rd, rs1, rs2, imm, guess, 3, left, value, next, ((a + imm) % 4294967296), 4, took, false, filled⟩ = enC R by rw [HR2.out, if_neg (by decide), if_pos hk])
          have HF4 := Lib.hid (fun hk : kd = 4 => show enC ⟨no, pc, op, rd, rs1, rs2, imm, guess, 3, left, value, next, ((a + imm) % 4294967296), 5, took, false, filled⟩ = enC R by rw [HR2.out, if_neg (by decide), if_neg (by omega)])
          clear HR2
          have c12 := X1.out.2.1 12 _ rfl
          have g12 := fun d os => cell_regrown c12 d os
          clear c12
          refine wp_region_below_tail 7 (by kernel_rfl) (by kernel_rfl) ?_
          simp only [List.take_succ_cons, List.take_zero, List.drop_succ_cons, List.drop_zero]
          repeat (first
            | (go_big_quiet_want; refine quiet_load_mid 60 (.tmp 3) rfl _ rfl _ _ X1.out Tryd.underlying60 rfl ent_info ?_; simp only [Act.put, List.setIfInBounds_toArray, List.set_cons_succ, List.set_cons_zero]; go_big_quiet_on)
            | (go_big_quiet_step (first
              | (go_at_call 77; exact Calls.regrown_of (HS.out _ _ _ _ _ _ _ _ _))
              | (go_at_call 85; exact Calls.regrown_of (HRT.out _)))))
          refine wpQuiet_nil ?_
          intro _ hw'
          obtain ⟨⟨nq, osq⟩, hw''⟩ := hw'
          subst hw''
          have bq := below_regrown W1 nq osq
          clear g12
          have z1 := X1.out.below bq X1.out.1
          have z2 := X2.out.below bq X2.out.1
          have z3 := X3.out.trans ((bq).mono X3.out.size)
          clear X1 X2 X3
          have X1 := Lib.hid z1
          have X2 := Lib.hid z2
          have X3 := Lib.hid z3
          clear z1 z2 z3
          generalize grow (redrawn W1 nq) osq = W2 at *
          clear bq
          have s15 := X1.out.2.1 15 _ rfl
          have f15 := X1.out.2.2 15 (by simp)
          go_upto_region 5 with fail
          clear s15 f15
          have z1 := (X1.out).set (i := 15) (v := .bool false) (by simp)
          simp only [List.set_cons_succ, List.set_cons_zero] at z1
          have z2 := (X2.out).other (p := ⟨w.heap.size, 15, none⟩) (v := .bool false) (by simp)
          have z3 := (X3.out).setCell (p := ⟨w.heap.size, 15, none⟩) (Nat.le_refl _) (.bool false)
          generalize (World.setCell W2 ⟨w.heap.size, 15, none⟩ (.bool false)) = W3 at *
          clear X1 X2 X3
          have X1 := Lib.hid z1
          have X2 := Lib.hid z2
          have X3 := Lib.hid z3
          clear z1 z2 z3
          have s15 := X1.out.2.1 15 _ rfl
          have s8 := X1.out.2.1 8 _ rfl
          have f8 := X1.out.2.2 8 (by simp)
          go_upto_region 7 with fail
          clear s15 s8 f8
          have z1 := (X1.out).set (i := 8) (v := .int .i64 3) (by simp)
          simp only [List.set_cons_succ, List.set_cons_zero] at z1
          have z2 := (X2.out).other (p := ⟨w.heap.size, 8, none⟩) (v := .int .i64 3) (by simp)
          have z3 := (X3.out).setCell (p := ⟨w.heap.size, 8, none⟩) (Nat.le_refl _) (.int .i64 3)
          generalize (World.setCell W3 ⟨w.heap.size, 8, none⟩ (.int .i64 3)) = W4 at *
          clear X1 X2 X3
          have X1 := Lib.hid z1
          have X2 := Lib.hid z2
          have X3 := Lib.hid z3
          clear z1 z2 z3
          have s13 := X1.out.2.1 13 _ rfl
          have f13 := X1.out.2.2 13 (by simp)
          go_upto_region 8 with fail
          clear s13 f13
          have z1 := (X1.out).set (i := 13) (v := .int .i64 5) (by simp)
          simp only [List.set_cons_succ, List.set_cons_zero] at z1
          have z2 := (X2.out).other (p := ⟨w.heap.size, 13, none⟩) (v := .int .i64 5) (by simp)
          have z3 := (X3.out).setCell (p := ⟨w.heap.size, 13, none⟩) (Nat.le_refl _) (.int .i64 5)
          generalize (World.setCell W4 ⟨w.heap.size, 13, none⟩ (.int .i64 5)) = W5 at *
          clear X1 X2 X3
          have X1 := Lib.hid z1
          have X2 := Lib.hid z2
          have X3 := Lib.hid z3
          clear z1 z2 z3
          go_wp2_with (refine wpList_load_mid rfl 60 (.tmp 3) rfl w.heap.size 0 rfl _ _ X1.out.range Tryd.underlying60 rfl ent_info ?_)
          go_at_call 80
          refine (HK.out _ _ _ _ _ _ _ _ _).mono ?_
          rintro r w6 ⟨rfl, b5⟩
          have z1 := X1.out.below b5 X1.out.1
          have z2 := X2.out.below b5 X2.out.1
          have z3 := X3.out.trans ((b5).mono X3.out.size)
          clear X1 X2 X3
          have X1 := Lib.hid z1
          have X2 := Lib.hid z2
          have X3 := Lib.hid z3
          clear z1 z2 z3
          clear b5
          rcases HKK.out with hk | hk
          · subst hk
            have HF := Lib.hid (HF3.out rfl)
            clear HF3 HF4
            have s13 := X1.out.2.1 13 _ rfl
            have f13 := X1.out.2.2 13 (by simp)
            go_upto_region 10 with fail
            clear s13 f13
            have z1 := (X1.out).set (i := 13) (v := .int .i64 4) (by simp)
            simp only [List.set_cons_succ, List.set_cons_zero] at z1
            have z2 := (X2.out).other (p := ⟨w.heap.size, 13, none⟩) (v := .int .i64 4) (by simp)
            have z3 := (X3.out).setCell (p := ⟨w.heap.size, 13, none⟩) (Nat.le_refl _) (.int .i64 4)
            generalize (World.setCell w6 ⟨w.heap.size, 13, none⟩ (.int .i64 4)) = W6 at *
            clear X1 X2 X3
            have X1 := Lib.hid z1
            have X2 := Lib.hid z2
            have X3 := Lib.hid z3
            clear z1 z2 z3
            obtain ⟨cs, hcs, hx1⟩ : ∃ cs, cs = enC R ∧ Blk W6 w.heap.size cs := ⟨_, HF.out, X1.out⟩
            have hcl : cs.length = 17 := by rw [hcs]; rfl
            have hco : cs.toArray.all (·.oneCell') = true := by rw [hcs]; exact enC_one R
            have Y1 := Lib.hid hx1
            have YL := Lib.hid hcl
            have YO := Lib.hid hco
            have YC := Lib.hid hcs
            have YI := Lib.hid (show (Tryd.prog.info? 60).map (·.size) = some cs.length by rw [hcl]; exact ent_info)
            have YJ := Lib.hid (show (Tryd.prog.info? 60).map (·.size) = some cs.toArray.size by rw [List.size_toArray, hcl]; exact ent_info)
            have YZ := Lib.hid (show (enC zeroE).length = cs.toArray.size by rw [List.size_toArray, hcl]; rfl)
            clear hx1 hcl hco hcs X1
            go_wp2_with (first
              | (refine wpList_load_mid rfl 60 (.tmp 3) rfl w.heap.size 0 rfl cs _ Y1.out.range Tryd.underlying60 rfl YI.out ?_)
              | (refine wpList_store_blk rfl 60 (.tmp 6) (.tmp 42) rfl (w.heap.size + 1) _ cs.toArray X2.out YZ.out rfl rfl YJ.out YO.out ?_; intro W9 hB9 hO9 hbl9 hs9))
            exact bodyPost_ret (v := .agg cs.toArray) (results_cell_blk Tryd.results47 _ W9 (w.heap.size + 1) cs _ rfl hB9 Tryd.underlying60 rfl YI.out) rfl ⟨by rw [YC.out]; rfl, X3.out.trans (hbl9 _ (by omega))⟩
          · subst hk
            have HF := Lib.hid (HF4.out rfl)
            clear HF3 HF4
            obtain ⟨cs, hcs, hx1⟩ : ∃ cs, cs = enC R ∧ Blk w6 w.heap.size cs := ⟨_, HF.out, X1.out⟩
            have hcl : cs.length = 17 := by rw [hcs]; rfl
            have hco : cs.toArray.all (·.oneCell') = true := by rw [hcs]; exact enC_one R
            have Y1 := Lib.hid hx1
            have YL := Lib.hid hcl
            have YO := Lib.hid hco
            have YC := Lib.hid hcs
            have YI := Lib.hid (show (Tryd.prog.info? 60).map (·.size) = some cs.length by rw [hcl]; exact ent_info)
            have YJ := Lib.hid (show (Tryd.prog.info? 60).map (·.size) = some cs.toArray.size by rw [List.size_toArray, hcl]; exact ent_info)
            have YZ := Lib.hid (show (enC zeroE).length = cs.toArray.size by rw [List.size_toArray, hcl]; rfl)
            clear hx1 hcl hco hcs X1
            go_wp2_with (first
              | (refine wpList_load_mid rfl 60 (.tmp 3) rfl w.heap.size 0 rfl cs _ Y1.out.range Tryd.underlying60 rfl YI.out ?_)
              | (refine wpList_store_blk rfl 60 (.tmp 6) (.tmp 42) rfl (w.heap.size + 1) _ cs.toArray X2.out YZ.out rfl rfl YJ.out YO.out ?_; intro W9 hB9 hO9 hbl9 hs9))
            exact bodyPost_ret (v := .agg cs.toArray) (results_cell_blk Tryd.results47 _ W9 (w.heap.size + 1) cs _ rfl hB9 Tryd.underlying60 rfl YI.out) rfl ⟨by rw [YC.out]; rfl, X3.out.trans (hbl9 _ (by omega))⟩
        · have HF := Lib.hid (show enC ⟨no, pc, op, rd, rs1, rs2, imm, guess, 0, left, value, next, ((a + imm) % 4294967296), halt, took, true, filled⟩ = enC R by rw [HR2.out, if_pos rfl])
          clear HR2
          have c12 := X1.out.2.1 12 _ rfl
          have g12 := fun d os => cell_regrown c12 d os
          clear c12
          refine wp_region_below_tail 7 (by kernel_rfl) (by kernel_rfl) ?_
          simp only [List.take_succ_cons, List.take_zero, List.drop_succ_cons, List.drop_zero]
          repeat (first
            | (go_big_quiet_want; refine quiet_load_mid 60 (.tmp 3) rfl _ rfl _ _ X1.out Tryd.underlying60 rfl ent_info ?_; simp only [Act.put, List.setIfInBounds_toArray, List.set_cons_succ, List.set_cons_zero]; go_big_quiet_on)
            | (go_big_quiet_step (first
              | (go_at_call 77; exact Calls.regrown_of (HS.out _ _ _ _ _ _ _ _ _))
              | (go_at_call 85; exact Calls.regrown_of (HRT.out _)))))
          refine wpQuiet_nil ?_
          intro _ hw'
          obtain ⟨⟨nq, osq⟩, hw''⟩ := hw'
          subst hw''
          have bq := below_regrown W1 nq osq
          clear g12
          have z1 := X1.out.below bq X1.out.1
          have z2 := X2.out.below bq X2.out.1
          have z3 := X3.out.trans ((bq).mono X3.out.size)
          clear X1 X2 X3
          have X1 := Lib.hid z1
          have X2 := Lib.hid z2
          have X3 := Lib.hid z3
          clear z1 z2 z3
          generalize grow (redrawn W1 nq) osq = W2 at *
          clear bq
          have s15 := X1.out.2.1 15 _ rfl
          have f15 := X1.out.2.2 15 (by simp)
          go_upto_region 5 with fail
          clear s15 f15
          have z1 := (X1.out).set (i := 15) (v := .bool true) (by simp)
          simp only [List.set_cons_succ, List.set_cons_zero] at z1
          have z2 := (X2.out).other (p := ⟨w.heap.size, 15, none⟩) (v := .bool true) (by simp)
          have z3 := (X3.out).setCell (p := ⟨w.heap.size, 15, none⟩) (Nat.le_refl _) (.bool true)
          generalize (World.setCell W2 ⟨w.heap.size, 15, none⟩ (.bool true)) = W3 at *
          clear X1 X2 X3
          have X1 := Lib.hid z1
          have X2 := Lib.hid z2
          have X3 := Lib.hid z3
          clear z1 z2 z3
          have s15 := X1.out.2.1 15 _ rfl
          go_upto_region 10 with fail
          clear s15
          obtain ⟨cs, hcs, hx1⟩ : ∃ cs, cs = enC R ∧ Blk W3 w.heap.size cs := ⟨_, HF.out, X1.out⟩
          have hcl : cs.length = 17 := by rw [hcs]; rfl
          have hco : cs.toArray.all (·.oneCell') = true := by rw [hcs]; exact enC_one R
          have Y1 := Lib.hid hx1
          have YL := Lib.hid hcl
          have YO := Lib.hid hco
          have YC := Lib.hid hcs
          have YI := Lib.hid (show (Tryd.prog.info? 60).map (·.size) = some cs.length by rw [hcl]; exact ent_info)
          have YJ := Lib.hid (show (Tryd.prog.info? 60).map (·.size) = some cs.toArray.size by rw [List.size_toArray, hcl]; exact ent_info)
          have YZ := Lib.hid (show (enC zeroE).length = cs.toArray.size by rw [List.size_toArray, hcl]; rfl)
          clear hx1 hcl hco hcs X1
          go_wp2_with (first
            | (refine wpList_load_mid rfl 60 (.tmp 3) rfl w.heap.size 0 rfl cs _ Y1.out.range Tryd.underlying60 rfl YI.out ?_)
            | (refine wpList_store_blk rfl 60 (.tmp 6) (.tmp 42) rfl (w.heap.size + 1) _ cs.toArray X2.out YZ.out rfl rfl YJ.out YO.out ?_; intro W9 hB9 hO9 hbl9 hs9))
          exact bodyPost_ret (v := .agg cs.toArray) (results_cell_blk Tryd.results47 _ W9 (w.heap.size + 1) cs _ rfl hB9 Tryd.underlying60 rfl YI.out) rfl ⟨by rw [YC.out]; rfl, X3.out.trans (hbl9 _ (by omega))⟩
    · have HF := Lib.hid (show enC ⟨no, pc, op, rd, rs1, rs2, imm, guess, 0, left, value, next, addr, halt, took, true, filled⟩ = enC R by rw [← HR.out, if_pos (Or.inr (Or.inl rfl))])
      clear HR
      obtain ⟨cs, hcs, hx1⟩ : ∃ cs, cs = enC R ∧ Blk W0 w.heap.size cs := ⟨_, HF.out, X1.out⟩
      have hcl : cs.length = 17 := by rw [hcs]; rfl
      have hco : cs.toArray.all (·.oneCell') = true := by rw [hcs]; exact enC_one R
      have Y1 := Lib.hid hx1
      have YL := Lib.hid hcl
      have YO := Lib.hid hco
      have YC := Lib.hid hcs
      have YI := Lib.hid (show (Tryd.prog.info? 60).map (·.size) = some cs.length by rw [hcl]; exact ent_info)
      have YJ := Lib.hid (show (Tryd.prog.info? 60).map (·.size) = some cs.toArray.size by rw [List.size_toArray, hcl]; exact ent_info)
      have YZ := Lib.hid (show (enC zeroE).length = cs.toArray.size by rw [List.size_toArray, hcl]; rfl)
      clear hx1 hcl hco hcs X1
      go_wp2_with (first
        | (refine wpList_load_mid rfl 60 (.tmp 3) rfl w.heap.size 0 rfl cs _ Y1.out.range Tryd.underlying60 rfl YI.out ?_)
        | (refine wpList_store_blk rfl 60 (.tmp 6) (.tmp 19) rfl (w.heap.size + 1) _ cs.toArray X2.out YZ.out rfl rfl YJ.out YO.out ?_; intro W9 hB9 hO9 hbl9 hs9))
      exact bodyPost_ret (v := .agg cs.toArray) (results_cell_blk Tryd.results47 _ W9 (w.heap.size + 1) cs _ rfl hB9 Tryd.underlying60 rfl YI.out) rfl ⟨by rw [YC.out]; rfl, X3.out.trans (hbl9 _ (by omega))⟩
  · have HF := Lib.hid (show enC ⟨no, pc, op, rd, rs1, rs2, imm, guess, is, left, value, next, addr, halt, took, known, filled⟩ = enC R by rw [← HR.out, if_pos (Or.inl h0)])
    clear HR
    have q : (is != 0) = true := by simpa using h0
    clear h0
    obtain ⟨cs, hcs, hx1⟩ : ∃ cs, cs = enC R ∧ Blk W0 w.heap.size cs := ⟨_, HF.out, X1.out⟩
    have hcl : cs.length = 17 := by rw [hcs]; rfl
    have hco : cs.toArray.all (·.oneCell') = true := by rw [hcs]; exact enC_one R
    have Y1 := Lib.hid hx1
    have YL := Lib.hid hcl
    have YO := Lib.hid hco
    have YC := Lib.hid hcs
    have YI := Lib.hid (show (Tryd.prog.info? 60).map (·.size) = some cs.length by rw [hcl]; exact ent_info)
    have YJ := Lib.hid (show (Tryd.prog.info? 60).map (·.size) = some cs.toArray.size by rw [List.size_toArray, hcl]; exact ent_info)
    have YZ := Lib.hid (show (enC zeroE).length = cs.toArray.size by rw [List.size_toArray, hcl]; rfl)
    clear hx1 hcl hco hcs X1
    go_wp2_with (first
      | (refine wpList_load_mid rfl 60 (.tmp 3) rfl w.heap.size 0 rfl cs _ Y1.out.range Tryd.underlying60 rfl YI.out ?_)
      | (refine wpList_store_blk rfl 60 (.tmp 6) (.tmp 19) rfl (w.heap.size + 1) _ cs.toArray X2.out YZ.out rfl rfl YJ.out YO.out ?_; intro W9 hB9 hO9 hbl9 hs9))
    exact bodyPost_ret (v := .agg cs.toArray) (results_cell_blk Tryd.results47 _ W9 (w.heap.size + 1) cs _ rfl hB9 Tryd.underlying60 rfl YI.out) rfl ⟨by rw [YC.out]; rfl, X3.out.trans (hbl9 _ (by omega))⟩
end Go.Proofs.YtfekknalchjkiaaDoor
