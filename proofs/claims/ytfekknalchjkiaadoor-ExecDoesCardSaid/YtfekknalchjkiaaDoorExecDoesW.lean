/- The walk of ExecDoes (auspexlaw18): what starting, going on, and an address make of any entry is as the document says; for every input; on the world that holds the table of instructions. -/
import Derived.Test.YtfekknalchjkiaaDoorCards
import Derived.Test.YtfekknalchjkiaaDoorRef18A
import Derived.Test.YtfekknalchjkiaaDoorRef18GoW
import Derived.Test.YtfekknalchjkiaaDoorExecGoW
import Derived.Test.YtfekknalchjkiaaDoorExecLaid
import Derived.Laws.StructEq
import Derived.WalkKit
import Derived.ProofKit
import Derived.OpenShut
namespace Go.Proofs.YtfekknalchjkiaaDoor.execDoes
open Go.ChangeShapes Go.WideShapes Go.ChangeAt Go.RowKit Go.Sort
set_option linter.unusedVariables false
set_option linter.unusedSimpArgs false
set_option maxHeartbeats 8000000
set_option maxRecDepth 100000

theorem eql_ent (e : En) (w : World) : (binOp .eql 60 (.agg (enC e).toArray) (.agg (enC e).toArray)).run Tryd.prog w = .ok (.bool true) w := by
  obtain ⟨no, pc, op, rd, rs1, rs2, imm, guess, is, left, value, next, addr, halt, took, known, filled⟩ := e
  unfold enC
  rw [run_eql_struct, show (10000 : Nat) = 9999 + 1 from rfl, run_equalIn_agg w 9999 60 _ _ (by kernel_rfl) (by kernel_rfl)]
  simp only [Program.fieldsOf, Tryd.underlying60]
  have hJ : Tryd.prog.stoodInHeld 58 = false := by kernel_rfl
  go_simp

theorem walk (e : En) (a b size : Int) (we : enOK e) (wa : (Lit.int .u32 a).wf = true) (wb : (Lit.int .u32 b).wf = true) (ws : (Lit.int .i64 size).wf = true) (w : World) (ht : TabIs w ∧ 0 < w.heap.size) :
    Calls Tryd.prog 14 #[enV e, .int .u32 a, .int .u32 b, .int .i64 size] w fun r w' => r = .returned (.bool true) ∧ Below w.heap.size w w' := by
  obtain ⟨htb, hg⟩ := ht
  obtain ⟨ha, ha'⟩ := bounds_u32 wa
  obtain ⟨hb, hb'⟩ := bounds_u32 wb
  have hs := bounds_i64 ws
  have hl := bounds_i64 we.2.2.2.2.2.2.2.2.2.1
  have hi := bounds_u32 we.2.2.2.2.2.2.1
  have HST := Lib.hid (fun w ht hg => start_any e a b hi.1 (by omega) ha (by omega) hb (by omega) w ht hg)
  have HRS := Lib.hid (fun w => refStart_any e a b hi.1 (by omega) ha (by omega) hb (by omega) w)
  have HAD := Lib.hid (fun w => address_any e size a (by omega) (by omega) w)
  have HRA := Lib.hid (fun w => refAddress_any e size a (by omega) (by omega) w)
  have HGO := Lib.hid (fun w => go_all e (by omega) (by omega) w)
  have HRG := Lib.hid (fun w => refGo_all e (by omega) (by omega) w)
  have HAL := Lib.hid (fun w ht hg => alive18_any w ht hg)
  obtain ⟨x0, h0⟩ : ∃ x, startE e a b = x := ⟨_, rfl⟩
  obtain ⟨x1, h1⟩ : ∃ x, addrE e size a = x := ⟨_, rfl⟩
  obtain ⟨x2, h2⟩ : ∃ x, goW e = x := ⟨_, rfl⟩
  rw [h0] at HST HRS
  rw [h1] at HAD HRA
  rw [h2] at HGO HRG
  clear h0 h1 h2 we wa wb ws ha ha' hb hb' hs hl hi
  obtain ⟨v0, hv0⟩ : ∃ v, enC x0 = v := ⟨_, rfl⟩
  obtain ⟨v1, hv1⟩ : ∃ v, enC x1 = v := ⟨_, rfl⟩
  obtain ⟨v2, hv2⟩ : ∃ v, enC x2 = v := ⟨_, rfl⟩
  have E0 := eql_ent x0
  have E1 := eql_ent x1
  have E2 := eql_ent x2
  unfold enV at HST HRS HAD HRA HGO HRG ⊢
  rw [hv0] at HST HRS E0
  rw [hv1] at HAD HRA E1
  rw [hv2] at HGO HRG E2
  have EQ0 := Lib.hid E0
  have EQ1 := Lib.hid E1
  have EQ2 := Lib.hid E2
  clear E0 E1 E2 hv0 hv1 hv2
  have HTB := Lib.hid htb
  clear htb
  have HHG := Lib.hid (show Tryd.prog.eqGuardType Tryd.prog.depth 60 = false by kernel_rfl)
  obtain ⟨cs, hcs⟩ : ∃ cs, enC e = cs := ⟨_, rfl⟩
  have hl : cs.length = 17 := by rw [← hcs]; rfl
  have HI := Lib.hid (show (Tryd.prog.info? 60).map (·.size) = some cs.length by rw [hl]; exact ent_info)
  rw [hcs] at HST HRS HAD HRA HGO HRG ⊢
  have f1 := Blk.new w 60 cs
  have f3 : Below w.heap.size w (w.alloc (.cells cs.toArray 60)) := (Below.refl _ _).alloc (Nat.le_refl _) _
  clear hcs hl
  go_enter Tryd.func14, Tryd.ntmps14
  go_upto_region 1 with fail
  generalize w.alloc (.cells cs.toArray 60) = W0 at *
  have X1 := Lib.hid f1
  have X3 := Lib.hid f3
  have TB := Lib.hid (HTB.out.below f3 hg)
  have GB := Lib.hid (Nat.lt_of_lt_of_le hg f3.size)
  clear f1 f3
  refine wp_region_quiet_below (by kernel_rfl) (by kernel_rfl) ?_
  repeat (first
    | (go_big_quiet_want; refine quiet_load_mid 60 (.tmp 4) rfl _ rfl cs _ X1.out Tryd.underlying60 rfl HI.out ?_; simp only [Act.put, List.setIfInBounds_toArray, List.set_cons_succ, List.set_cons_zero]; go_big_quiet_on)
    | (go_big_quiet_want; refine quiet_eql 60 _ (.tmp 14) (.tmp 18) rfl _ _ rfl rfl true EQ0.out HHG.out ?_; simp only [Act.put, List.setIfInBounds_toArray, List.set_cons_succ, List.set_cons_zero]; go_big_quiet_on)
    | (go_big_quiet_want; refine quiet_eql 60 _ (.tmp 25) (.tmp 29) rfl _ _ rfl rfl true EQ1.out HHG.out ?_; simp only [Act.put, List.setIfInBounds_toArray, List.set_cons_succ, List.set_cons_zero]; go_big_quiet_on)
    | (go_big_quiet_want; refine quiet_eql 60 _ (.tmp 34) (.tmp 36) rfl _ _ rfl rfl true EQ2.out HHG.out ?_; simp only [Act.put, List.setIfInBounds_toArray, List.set_cons_succ, List.set_cons_zero]; go_big_quiet_on)
    | (go_big_quiet_step (first
      | (go_at_call 43; exact Calls.regrown_of (HAL.out _ (TB.out.below (below_regrown _ _ _) GB.out) (Nat.lt_of_lt_of_le GB.out (below_regrown _ _ _).size)))
      | (go_at_call 44; exact Calls.regrown_of (HST.out _ (TB.out.below (below_regrown _ _ _) GB.out) (Nat.lt_of_lt_of_le GB.out (below_regrown _ _ _).size)))
      | (go_at_call 45; exact Calls.regrown_of (HRS.out _))
      | (go_at_call 46; exact Calls.regrown_of (HAD.out _))
      | (go_at_call 47; exact Calls.regrown_of (HRA.out _))
      | (go_at_call 48; exact Calls.regrown_of (HGO.out _))
      | (go_at_call 49; exact Calls.regrown_of (HRG.out _)))))
  refine wpQuiet_nil ?_
  intro _ hw'
  obtain ⟨⟨nq, osq⟩, hw''⟩ := hw'
  subst hw''
  go_wp2
  go_ret
  exact ⟨rfl, X3.out.trans ((below_regrown _ _ _).mono X3.out.size)⟩
end Go.Proofs.YtfekknalchjkiaaDoor.execDoes
