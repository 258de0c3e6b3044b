/- THE CONTRACTS of auspexref18's kind, size, writes. -/
import Derived.Test.YtfekknalchjkiaaDoorExecGo
import Derived.Test.YtfekknalchjkiaaDoorRefExec
namespace Go.Proofs.YtfekknalchjkiaaDoor
open Go.ChangeShapes Go.WideShapes Go.ChangeAt Go.RowKit
set_option linter.unusedVariables false
set_option linter.unusedSimpArgs false
set_option maxHeartbeats 2000000
set_option maxRecDepth 100000

theorem ref18kind_any (e : En) (w : World) : Calls Tryd.prog 80 #[enV e] w fun r w' => r = .returned (.int .i64 (kindI e.op)) ∧ Below w.heap.size w w' := by
  obtain ⟨no, pc, op, rd, rs1, rs2, imm, guess, is, left, value, next, addr, halt, took, known, filled⟩ := e
  have H := Lib.hid (fun w => refKind_any op w)
  unfold enV enC
  go_enter Tryd.func80, Tryd.ntmps80
  go_wp2_with (go_at_call 51; refine (H.out _).mono ?_; rintro r w1 ⟨rfl, rfl⟩)
  go_ret
  exact ⟨rfl, (Below.refl _ _).alloc (Nat.le_refl _) _⟩
theorem ref18size_any (e : En) (w : World) : Calls Tryd.prog 77 #[enV e] w fun r w' => r = .returned (.int .i64 (sizeOp e.op)) ∧ Below w.heap.size w w' := by
  obtain ⟨no, pc, op, rd, rs1, rs2, imm, guess, is, left, value, next, addr, halt, took, known, filled⟩ := e
  have H := Lib.hid (fun w => refSize02_any op w)
  unfold enV enC
  go_enter Tryd.func77, Tryd.ntmps77
  go_wp2_with (go_at_call 54; refine (H.out _).mono ?_; rintro r w1 ⟨rfl, rfl⟩)
  go_ret
  exact ⟨rfl, (Below.refl _ _).alloc (Nat.le_refl _) _⟩
theorem ref18writes_any (e : En) (w : World) : Calls Tryd.prog 78 #[enV e] w fun r w' => r = .returned (.int .i64 (wrI e.op e.rd)) ∧ Below w.heap.size w w' := by
  obtain ⟨no, pc, op, rd, rs1, rs2, imm, guess, is, left, value, next, addr, halt, took, known, filled⟩ := e
  have H := Lib.hid (fun w => refWrites_any op rd rs1 rs2 imm w)
  have HB := Lib.hid ((Below.refl w.heap.size w).alloc (Nat.le_refl _) (.cells #[.int .i64 no, .int .u32 pc, .int .i64 op, .int .i64 rd, .int .i64 rs1, .int .i64 rs2, .int .u32 imm, .int .u32 guess, .int .i64 is, .int .i64 left, .int .u32 value, .int .u32 next, .int .u32 addr, .int .i64 halt, .int .i64 took, .bool known, .bool filled] 60))
  unfold enV enC
  go_enter Tryd.func78, Tryd.ntmps78
  go_wp2_with (go_at_call 92; refine (H.out _).mono ?_; rintro r w1 ⟨rfl, b⟩; have B := Lib.hid (HB.out.trans (b.mono HB.out.size)); clear b)
  go_ret
  exact ⟨rfl, B.out⟩
end Go.Proofs.YtfekknalchjkiaaDoor
