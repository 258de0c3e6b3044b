/- THE CONTRACT of exec.Go at whatever is left: the least number goes round. -/
import Derived.Test.YtfekknalchjkiaaDoorExecGo
namespace Go.Proofs.YtfekknalchjkiaaDoor
open Go.ChangeShapes Go.WideShapes Go.ChangeAt Go.RowKit
set_option linter.unusedVariables false
set_option linter.unusedSimpArgs false
set_option maxHeartbeats 2000000
set_option maxRecDepth 100000

theorem go_min (no pc op rd rs1 rs2 imm guess value next addr halt took : Int) (known filled : Bool) (w : World) :
    Calls Tryd.prog 48 #[enV ⟨no, pc, op, rd, rs1, rs2, imm, guess, 1, -9223372036854775808, value, next, addr, halt, took, known, filled⟩] w fun r w' => r = .returned (enV ⟨no, pc, op, rd, rs1, rs2, imm, guess, 1, 9223372036854775807, value, next, addr, halt, took, known, filled⟩) ∧ Below w.heap.size w w' := by
  obtain ⟨R, hR⟩ : ∃ R : En, (⟨no, pc, op, rd, rs1, rs2, imm, guess, 1, 9223372036854775807, value, next, addr, halt, took, known, filled⟩ : En) = R := ⟨_, rfl⟩
  rw [hR]
  have HF := Lib.hid (show enC ⟨no, pc, op, rd, rs1, rs2, imm, guess, 1, 9223372036854775807, value, next, addr, halt, took, known, filled⟩ = enC R by rw [hR])
  clear hR
  obtain ⟨f1, f2, f3, f4⟩ := two_new w (enC ⟨no, pc, op, rd, rs1, rs2, imm, guess, 1, -9223372036854775808, value, next, addr, halt, took, known, filled⟩) (enC zeroE) 60 60
  unfold enV
  go_enter Tryd.func48, Tryd.ntmps48
  simp only [enC, zeroE] at f1 f2 f3 f4 ⊢
  go_upto_region 1 with fail
  generalize (w.alloc (.cells #[.int .i64 no, .int .u32 pc, .int .i64 op, .int .i64 rd, .int .i64 rs1, .int .i64 rs2, .int .u32 imm, .int .u32 guess, .int .i64 1, .int .i64 (-9223372036854775808), .int .u32 value, .int .u32 next, .int .u32 addr, .int .i64 halt, .int .i64 took, .bool known, .bool filled] 60)).alloc (.cells #[.int .i64 0, .int .u32 0, .int .i64 0, .int .i64 0, .int .i64 0, .int .i64 0, .int .u32 0, .int .u32 0, .int .i64 0, .int .i64 0, .int .u32 0, .int .u32 0, .int .u32 0, .int .i64 0, .int .i64 0, .bool false, .bool false] 60) = W0 at *
  have X1 := Lib.hid f1
  have X2 := Lib.hid f2
  have X3 := Lib.hid f3
  clear f1 f2 f3 f4
  have s8 := X1.out.2.1 8 _ rfl
  have s9 := X1.out.2.1 9 _ rfl
  have f9 := X1.out.2.2 9 (by simp)
  have hwr : wrap64 (-9223372036854775809) = 9223372036854775807 := by simp [wrap64]
  go_upto_region 4 with fail
  rw [hwr]
  have z1 := (X1.out).set (i := 9) (v := .int .i64 9223372036854775807) (by simp)
  simp only [List.set_cons_succ, List.set_cons_zero] at z1
  have z2 := (X2.out).other (p := ⟨w.heap.size, 9, none⟩) (v := .int .i64 9223372036854775807) (by simp)
  have z3 := (X3.out).setCell (p := ⟨w.heap.size, 9, none⟩) (Nat.le_refl _) (.int .i64 9223372036854775807)
  generalize (W0.setCell ⟨w.heap.size, 9, none⟩ (.int .i64 9223372036854775807)) = W1 at *
  clear X1 X2 X3
  have X1 := Lib.hid z1
  have X2 := Lib.hid z2
  have X3 := Lib.hid z3
  clear z1 z2 z3
  clear s8 s9 f9
  have s9 := X1.out.2.1 9 _ rfl
  go_upto_region 5 with fail
  clear s9
  obtain ⟨cs, hcs, hx1⟩ : ∃ cs, cs = enC R ∧ Blk W1 w.heap.size cs := ⟨_, HF.out, X1.out⟩
  have hcl : cs.length = 17 := by rw [hcs]; rfl
  have hco : cs.toArray.all (·.oneCell') = true := by rw [hcs]; exact enC_one R
  have Y1 := Lib.hid hx1
  have YL := Lib.hid hcl
  have YO := Lib.hid hco
  have YC := Lib.hid hcs
  have YI := Lib.hid (show (Tryd.prog.info? 60).map (·.size) = some cs.length by rw [hcl]; exact ent_info)
  have YJ := Lib.hid (show (Tryd.prog.info? 60).map (·.size) = some cs.toArray.size by rw [List.size_toArray, hcl]; exact ent_info)
  have YZ := Lib.hid (show (enC zeroE).length = cs.toArray.size by rw [List.size_toArray, hcl]; rfl)
  clear hx1 hcl hco hcs X1
  go_wp2_with (first
    | (refine wpList_load_mid rfl 60 (.tmp 1) rfl w.heap.size 0 rfl cs _ Y1.out.range Tryd.underlying60 rfl YI.out ?_)
    | (refine wpList_store_blk rfl 60 (.tmp 2) (.tmp 14) rfl (w.heap.size + 1) _ cs.toArray X2.out YZ.out rfl rfl YJ.out YO.out ?_; intro W9 hB9 hO9 hbl9 hs9))
  exact bodyPost_ret (v := .agg cs.toArray) (results_cell_blk Tryd.results48 _ W9 (w.heap.size + 1) cs _ rfl hB9 Tryd.underlying60 rfl YI.out) rfl ⟨by rw [YC.out]; rfl, X3.out.trans (hbl9 _ (by omega))⟩
def goW (e : En) : En := if e.is = 1 ∧ e.left = -9223372036854775808 then { e with left := 9223372036854775807 } else goE e
theorem go_all (e : En) (h0 : -9223372036854775808 ≤ e.left) (h1 : e.left ≤ 9223372036854775807) (w : World) :
    Calls Tryd.prog 48 #[enV e] w fun r w' => r = .returned (enV (goW e)) ∧ Below w.heap.size w w' := by
  by_cases hm : e.left = -9223372036854775808
  · by_cases hi : e.is = 1
    · obtain ⟨no, pc, op, rd, rs1, rs2, imm, guess, is, left, value, next, addr, halt, took, known, filled⟩ := e
      simp only at hm hi
      subst hm hi
      exact go_min no pc op rd rs1 rs2 imm guess value next addr halt took known filled w
    · have hg : goW e = e := by unfold goW goE; rw [if_neg (fun h => hi h.1), if_pos hi]
      rw [hg]
      have h2 : goE e = e := by unfold goE; rw [if_pos hi]
      have := go_any e (fun h => absurd h hi) h1 w
      rwa [h2] at this
  · have hg : goW e = goE e := by unfold goW; rw [if_neg (fun h => hm h.2)]
    rw [hg]
    exact go_any e (fun _ => by omega) h1 w
end Go.Proofs.YtfekknalchjkiaaDoor
