/- Proved: the statement of AluJumps (auspexlaw03): whether any branch goes, and what comes behind any jump, is as the reference says; for every input; no condition. -/
import Derived.Test.YtbpafbogjhbogaaRows
import Derived.Test.YtbpafbogjhbogaaAluLaw
import Derived.OpenShut
import Derived.Test.YtbpafbogjhbogaaArgs
import Derived.Lib.QuietBelow
import Derived.BigQuiet
namespace Go.Proofs.Ytbpafbogjhbogaa.aluJumps
open Go.ChangeShapes Go.WideShapes Go.ChangeAt Go.RowKit
set_option linter.unusedVariables false

theorem next_ex (op rd r1 r2 imm pc a b : Int) (w : World) :
    Calls Try.prog 43 #[.agg #[.int .i64 op, .int .i64 rd, .int .i64 r1, .int .i64 r2, .int .u32 imm], .int .u32 pc, .int .u32 a, .int .u32 b] w fun e w' => e = .returned (.int .u32 (nextW op imm pc a b)) ∧ w' = w.alloc (.cells #[.int .i64 op, .int .i64 rd, .int .i64 r1, .int .i64 r2, .int .u32 imm] 42) := by
  go_enter Try.func43, Try.ntmps43
  go_wp2_with (first
    | (go_at_call 41; refine (taken_any _ _ _ _).mono ?_; rintro e w' ⟨rfl, rfl⟩))
  all_goals go_ret
  all_goals refine ⟨ret_int ?_, by first | rfl | simp_all⟩
  all_goals (simp_all [nextW, taken4, andNot1]; done)

theorem refNext_ex (op rd r1 r2 imm pc a b : Int) (ha : 0 ≤ a) (ha' : a < 4294967296) (hb : 0 ≤ b) (hb' : b < 4294967296) (w : World) :
    Calls Try.prog 44 #[.agg #[.int .i64 op, .int .i64 rd, .int .i64 r1, .int .i64 r2, .int .u32 imm], .int .u32 pc, .int .u32 a, .int .u32 b] w fun e w' => e = .returned (.int .u32 (nextW op imm pc a b)) ∧ w' = w.alloc (.cells #[.int .i64 op, .int .i64 rd, .int .i64 r1, .int .i64 r2, .int .u32 imm] 42) := by
  go_enter Try.func44, Try.ntmps44
  go_wp2_with (first
    | (go_at_call 42; refine (refTaken_any _ _ _ ha ha' hb hb' _).mono ?_; rintro e w' ⟨rfl, rfl⟩))
  all_goals go_ret
  all_goals refine ⟨ret_int ?_, by first | rfl | simp_all⟩
  all_goals (simp_all [nextW, taken4]; done)

/-- the contracts, as a drawn region takes them -/
theorem taken_q (op a b : Int) (w : World) : Calls Try.prog 41 #[.int .i64 op, .int .u32 a, .int .u32 b] w fun e w' => e = .returned (.bool (takenB op a b)) ∧ Below w.heap.size w w' :=
  (taken_any op a b w).mono fun e w' ⟨h, hw⟩ => ⟨h, by subst hw; exact Below.refl _ _⟩
theorem refTaken_q (op a b : Int) (ha : 0 ≤ a) (ha' : a < 4294967296) (hb : 0 ≤ b) (hb' : b < 4294967296) (w : World) : Calls Try.prog 42 #[.int .i64 op, .int .u32 a, .int .u32 b] w fun e w' => e = .returned (.bool (takenB op a b)) ∧ Below w.heap.size w w' :=
  (refTaken_any op a b ha ha' hb hb' w).mono fun e w' ⟨h, hw⟩ => ⟨h, by subst hw; exact Below.refl _ _⟩
theorem next_q (op rd r1 r2 imm pc a b : Int) (w : World) :
    Calls Try.prog 43 #[.agg #[.int .i64 op, .int .i64 rd, .int .i64 r1, .int .i64 r2, .int .u32 imm], .int .u32 pc, .int .u32 a, .int .u32 b] w fun e w' => e = .returned (.int .u32 (nextW op imm pc a b)) ∧ Below w.heap.size w w' :=
  (next_ex op rd r1 r2 imm pc a b w).mono fun e w' ⟨h, hw⟩ => ⟨h, by subst hw; exact (Below.refl _ _).alloc (Nat.le_refl _) _⟩
theorem refNext_q (op rd r1 r2 imm pc a b : Int) (ha : 0 ≤ a) (ha' : a < 4294967296) (hb : 0 ≤ b) (hb' : b < 4294967296) (w : World) :
    Calls Try.prog 44 #[.agg #[.int .i64 op, .int .i64 rd, .int .i64 r1, .int .i64 r2, .int .u32 imm], .int .u32 pc, .int .u32 a, .int .u32 b] w fun e w' => e = .returned (.int .u32 (nextW op imm pc a b)) ∧ Below w.heap.size w w' :=
  (refNext_ex op rd r1 r2 imm pc a b ha ha' hb hb' w).mono fun e w' ⟨h, hw⟩ => ⟨h, by subst hw; exact (Below.refl _ _).alloc (Nat.le_refl _) _⟩
theorem alive_q (w : World) : Calls Try.prog 38 #[] w fun e w' => e = .returned (.bool true) ∧ Below w.heap.size w w' :=
  (alive03_any w).mono fun e w' ⟨h, hw⟩ => ⟨h, by subst hw; exact Below.refl _ _⟩

set_option maxHeartbeats 4000000 in
theorem walk (op rd r1 r2 imm pc a b : Int) (wi : (Lit.int .u32 imm).wf = true) (wp : (Lit.int .u32 pc).wf = true) (wa : (Lit.int .u32 a).wf = true) (wb : (Lit.int .u32 b).wf = true) (w : World) :
    Calls Try.prog 11 #[.agg #[.int .i64 op, .int .i64 rd, .int .i64 r1, .int .i64 r2, .int .u32 imm], .int .u32 pc, .int .u32 a, .int .u32 b] w fun e w' => e = .returned (.bool true) ∧ Below w.heap.size w w' := by
  have HA := Lib.hid (show 0 ≤ a ∧ a < 4294967296 ∧ 0 ≤ b ∧ b < 4294967296 by have := bounds_u32 wa; have := bounds_u32 wb; omega)
  clear wi wp wa wb
  go_enter Try.func11, Try.ntmps11
  go_wp2
  go_loopw [9] (fun i wr => ∃ o : Nat, 3 ≤ o ∧ o ≤ 11 ∧ i = .int .i64 o ∧ Below (w.heap.size + 1) (w.alloc (.cells #[.int .i64 op, .int .i64 rd, .int .i64 r1, .int .i64 r2, .int .u32 imm] 42)) wr) (fun i _ => 19 - (intOf i).toNat)
  case atStart => exact ⟨3, by omega, by omega, rfl, Below.refl _ _⟩
  case round =>
    obtain ⟨o, h1, h2, rfl, hbel⟩ := hrel
    have hc : ∀ j, wr.cell? ⟨w.heap.size, j, none⟩ = (w.alloc (.cells #[.int .i64 op, .int .i64 rd, .int .i64 r1, .int .i64 r2, .int .u32 imm] 42)).cell? ⟨w.heap.size, j, none⟩ := fun j => hbel.cell (p := ⟨w.heap.size, j, none⟩) (by simp)
    have c0 : wr.cell? ⟨w.heap.size, 0, none⟩ = some (.int .i64 op) := (hc 0).trans (World.cell?_alloc_at _ _ _ _ rfl)
    have c1 : wr.cell? ⟨w.heap.size, 1, none⟩ = some (.int .i64 rd) := (hc 1).trans (World.cell?_alloc_at _ _ _ _ rfl)
    have c2 : wr.cell? ⟨w.heap.size, 2, none⟩ = some (.int .i64 r1) := (hc 2).trans (World.cell?_alloc_at _ _ _ _ rfl)
    have c3 : wr.cell? ⟨w.heap.size, 3, none⟩ = some (.int .i64 r2) := (hc 3).trans (World.cell?_alloc_at _ _ _ _ rfl)
    have c4 : wr.cell? ⟨w.heap.size, 4, none⟩ = some (.int .u32 imm) := (hc 4).trans (World.cell?_alloc_at _ _ _ _ rfl)
    clear hc
    have hsz := hbel.size
    simp only [World.size_alloc] at hsz
    by_cases h3 : o ≤ 10
    · clear c0 c1 c2 c3
      go_wp2
      clear c4
      have k0 : (wr.alloc (.cells #[.int .i64 (o : Int), .int .i64 0, .int .i64 0, .int .i64 0, .int .u32 imm] 42)).cell? ⟨wr.heap.size, 0, none⟩ = some (.int .i64 (o : Int)) := World.cell?_alloc_at _ _ _ _ rfl
      have k1 : (wr.alloc (.cells #[.int .i64 (o : Int), .int .i64 0, .int .i64 0, .int .i64 0, .int .u32 imm] 42)).cell? ⟨wr.heap.size, 1, none⟩ = some (.int .i64 0) := World.cell?_alloc_at _ _ _ _ rfl
      have k2 : (wr.alloc (.cells #[.int .i64 (o : Int), .int .i64 0, .int .i64 0, .int .i64 0, .int .u32 imm] 42)).cell? ⟨wr.heap.size, 2, none⟩ = some (.int .i64 0) := World.cell?_alloc_at _ _ _ _ rfl
      have k3 : (wr.alloc (.cells #[.int .i64 (o : Int), .int .i64 0, .int .i64 0, .int .i64 0, .int .u32 imm] 42)).cell? ⟨wr.heap.size, 3, none⟩ = some (.int .i64 0) := World.cell?_alloc_at _ _ _ _ rfl
      have k4 : (wr.alloc (.cells #[.int .i64 (o : Int), .int .i64 0, .int .i64 0, .int .i64 0, .int .u32 imm] 42)).cell? ⟨wr.heap.size, 4, none⟩ = some (.int .u32 imm) := World.cell?_alloc_at _ _ _ _ rfl
      replace hbel := hbel.trans (((Below.refl _ _).alloc (Nat.le_refl _) (.cells #[.int .i64 (o : Int), .int .i64 0, .int .i64 0, .int .i64 0, .int .u32 imm] 42) : Below wr.heap.size wr _).mono hsz)
      generalize wr.alloc (.cells #[.int .i64 (o : Int), .int .i64 0, .int .i64 0, .int .i64 0, .int .u32 imm] 42) = wk at *
      have g0 := fun d os => cell_regrown k0 d os
      have g1 := fun d os => cell_regrown k1 d os
      have g2 := fun d os => cell_regrown k2 d os
      have g3 := fun d os => cell_regrown k3 d os
      have g4 := fun d os => cell_regrown k4 d os
      clear k0 k1 k2 k3 k4
      refine wp_region_quiet_below (by kernel_rfl) (by kernel_rfl) ?_
      repeat (go_big_quiet_step (first
        | (go_at_call 38; exact Calls.regrown_of (alive_q _))
        | (go_at_call 41; exact Calls.regrown_of (taken_q _ _ _ _))
        | (go_at_call 42; exact Calls.regrown_of (refTaken_q _ _ _ HA.out.1 HA.out.2.1 HA.out.2.2.1 HA.out.2.2.2 _))
        | (go_at_call 43; exact Calls.regrown_of (next_q _ _ _ _ _ _ _ _ _))
        | (go_at_call 44; exact Calls.regrown_of (refNext_q _ _ _ _ _ _ _ _ HA.out.1 HA.out.2.1 HA.out.2.2.1 HA.out.2.2.2 _))))
      refine wpQuiet_nil ?_
      intro _ hw'
      obtain ⟨⟨nq, osq⟩, hw''⟩ := hw'
      subst hw''
      clear g0 g1 g2 g3 g4
      go_wp2
      go_roundw
      case rel => exact ⟨o + 1, by omega, by omega, by go_num, hbel.trans ((below_regrown _ _ _).mono (by have := hbel.size; simp only [World.size_alloc] at this; omega))⟩
      case measure => simp [intOf]; omega
    · clear h1 h2
      go_wp2
      have g0 := fun d os => cell_regrown c0 d os
      have g1 := fun d os => cell_regrown c1 d os
      have g2 := fun d os => cell_regrown c2 d os
      have g3 := fun d os => cell_regrown c3 d os
      have g4 := fun d os => cell_regrown c4 d os
      clear c0 c1 c2 c3 c4
      refine wp_region_quiet_below (by kernel_rfl) (by kernel_rfl) ?_
      repeat (go_big_quiet_step (first
        | (go_at_call 38; exact Calls.regrown_of (alive_q _))
        | (go_at_call 41; exact Calls.regrown_of (taken_q _ _ _ _))
        | (go_at_call 42; exact Calls.regrown_of (refTaken_q _ _ _ HA.out.1 HA.out.2.1 HA.out.2.2.1 HA.out.2.2.2 _))
        | (go_at_call 43; exact Calls.regrown_of (next_q _ _ _ _ _ _ _ _ _))
        | (go_at_call 44; exact Calls.regrown_of (refNext_q _ _ _ _ _ _ _ _ HA.out.1 HA.out.2.1 HA.out.2.2.1 HA.out.2.2.2 _))))
      refine wpQuiet_nil ?_
      intro _ hw'
      obtain ⟨⟨nq, osq⟩, hw''⟩ := hw'
      subst hw''
      clear g0 g1 g2 g3 g4
      go_wp2
      go_ret
      exact ⟨ret_bool (by simp), ((Below.refl w.heap.size w).alloc (Nat.le_refl _) _).trans ((hbel.trans ((below_regrown _ _ _).mono (by omega))).mono (by omega))⟩

theorem own : ownKnob Try.prog.godebug = none := by kernel_rfl
theorem laidOut : laidOutB Try.prog = true := by kernel_rfl

set_option maxRecDepth 100000 in
theorem lifted (os : Os) (started : os.Started) (H : Type) (enc : TypeId × Value → H) :
    ReturnsInHanded {} Try.checked os 11 .any (Rows.aluJumpsSpec.pre6 enc Try.prog Try.f11 Rows.aluJumpsRow.domain false) (Rows.aluJumpsSpec.post enc Try.prog Try.f11 false true false false) := by
  refine returnsInHanded_of_change (C := Try.checked) own started (by kernel_rfl) Try.func11
    (ChangeSpec.witness6 (enc := enc) (C := Try.checked) false ⟨#[], #[.agg #[.int .i64 0, .int .i64 0, .int .i64 0, .int .i64 0, .int .u32 0], .int .u32 0, .int .u32 0, .int .u32 0], []⟩ 8 (by kernel_rfl) (by kernel_rfl) (by kernel_rfl) (by kernel_rfl)) ?_
  intro W base args ds gs before hval0 hW hcnd _
  have hval : ∀ (j : Nat) t v, Try.f11.params[j]? = some t → args[j]? = some v → Value.okWide Try.prog W .any base t v := hval0
  have hW' := hW
  obtain ⟨p, q, hA0, hV, rfl, hfz, hnd⟩ := hW
  have hA : DataW.TrodAll enc Try.prog W 0 (fun _ => true) true Try.f11.params.toList args.toList ds p := hA0
  rw [Try.params11] at hA hval
  obtain ⟨v0, vs0, d0, ds0, p0, q0, hargs, rfl, rfl, h0, r0⟩ := trodAll_cons hA
  obtain ⟨v1, vs1, d1, ds1, p1, q1, rfl, rfl, rfl, h1, r1⟩ := trodAll_cons r0
  obtain ⟨v2, vs2, d2, ds2, p2, q2, rfl, rfl, rfl, h2, r2⟩ := trodAll_cons r1
  obtain ⟨v3, vs3, d3, ds3, p3, q3, rfl, rfl, rfl, h3, r3⟩ := trodAll_cons r2
  obtain ⟨rfl, rfl, rfl⟩ := trodAll_nil r3
  obtain rfl : args = #[v0, v1, v2, v3] := by cases args; simp_all
  obtain ⟨rfl, rfl⟩ := trodVars_none hV
  have hlt := hW'.lt
  have k0 := h0
  obtain ⟨i_op, i_rd, i_rs1, i_rs2, i_imm, rfl, w_i_op, w_i_rd, w_i_rs1, w_i_rs2, w_i_imm⟩ := arg_inst (hval 0 42 v0 rfl rfl) h0
  have k1 := h1
  obtain ⟨pc, rfl, -, -, w_pc⟩ := open_int Try.underlying22 (hval 1 22 v1 rfl rfl) h1
  have k2 := h2
  obtain ⟨a, rfl, -, -, w_a⟩ := open_int Try.underlying22 (hval 2 22 v2 rfl rfl) h2
  have k3 := h3
  obtain ⟨b, rfl, -, -, w_b⟩ := open_int Try.underlying22 (hval 3 22 v3 rfl rfl) h3
  clear hA0 hval0
  simp only [List.append_nil] at hW'
  refine (walk i_op i_rd i_rs1 i_rs2 i_imm pc a b w_i_imm w_pc w_a w_b W).mono fun e W' ⟨he, bel⟩ => ?_
  subst he
  exact ⟨_, rfl, _, _, _, [], _, [], hW', trodAll_mk1 (shut_bool Try.underlying4 _), (trodAll_cons_mk (Below.trod laidOut (by kernel_rfl) (of_decide_eq_true (by kernel_rfl)) k0 bel (fun x hx => hlt x (by simp [hx]))) (trodAll_cons_mk (Below.trod laidOut (by kernel_rfl) (of_decide_eq_true (by kernel_rfl)) k1 bel (fun x hx => hlt x (by simp [hx]))) (trodAll_cons_mk (Below.trod laidOut (by kernel_rfl) (of_decide_eq_true (by kernel_rfl)) k2 bel (fun x hx => hlt x (by simp [hx]))) (trodAll_cons_mk (Below.trod laidOut (by kernel_rfl) (of_decide_eq_true (by kernel_rfl)) k3 bel (fun x hx => hlt x (by simp [hx]))) trodAll_mk0)))), rfl, bel.frame _, fun h => by cases h⟩

/-- THE STATEMENT -/
theorem proved : Rows.AluJumpsSaid :=
  OpenClaim.holds_of_wide 11 Try.f11 rfl rfl rfl rfl rfl rfl rfl ⟨rfl, rfl, rfl, rfl, rfl⟩ rfl rfl rfl rfl rfl (by kernel_rfl) Try.func11 (by kernel_rfl)
    (of_decide_eq_true (by kernel_rfl)) (by unfold Func.isWrapper; first | (rw [if_pos (by decide +kernel)]; kernel_rfl) | (rw [if_neg (by decide +kernel)]; exact ⟨rfl, rfl⟩))
    (fun os started H enc _ => lifted os started H enc)
#print axioms proved
end Go.Proofs.Ytbpafbogjhbogaa.aluJumps
