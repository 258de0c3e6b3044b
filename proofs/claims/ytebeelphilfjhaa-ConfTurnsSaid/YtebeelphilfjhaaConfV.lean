/- alive of auspexlaw08. -/
import Derived.Test.YtebeelphilfjhaaConfG
import Derived.Test.YtebeelphilfjhaaConfR
namespace Go.Proofs.Ytebeelphilfjhaa
open Go.ChangeShapes Go.WideShapes Go.ChangeAt Go.RowKit
set_option linter.unusedVariables false
set_option linter.unusedSimpArgs false
set_option maxHeartbeats 1000000
set_option maxRecDepth 100000
def cf0 : Cf := ⟨0, 0, 0, 0, 0, 0, 0, 0, none, 0, 0, false, none, 0, 0⟩
theorem cf0_at (w : World) : CfAt w cf0 [] [] := ⟨⟨rfl, fun j z hz => by simp at hz⟩, ⟨rfl, fun j z hz => by simp at hz⟩, Nat.le_refl _, Nat.zero_le _, Nat.le_refl _, Nat.zero_le _⟩
theorem alive08_any (w : World) : Calls Try.prog 22 #[] w fun e w' => e = .returned (.bool true) ∧ Below w.heap.size w w' := by
  have HC := Lib.hid (clean_conf cf0 [] [] (Nat.zero_le _) (Nat.zero_le _) w (cf0_at w))
  have HR := Lib.hid (fun wx => right_conf cf0 [] [] (Nat.zero_le _) (Nat.zero_le _) wx (cf0_at wx))
  have hr : rightB cf0 [] = false := by decide
  simp only [cfV, cf0, cfClean] at HC HR hr
  go_enter Try.func22, Try.ntmps22
  go_wp2_with fail
  refine HC.out.mono ?_
  rintro e w2 ⟨la2, lc2, ta2, tc2, rfl, hat, b⟩
  have hfd : ∀ wx : World, (Instr.field 25 (.agg #[.int .i64 (lim 0 0 2), .int .i64 (lim 0 1 2), .int .i64 (lim 0 2 8), .int .i64 (lim 0 1 4), .int .i64 (lim 0 1 4), .int .i64 (lim 0 2 6), .int .i64 (setsOf 0), .int .i64 (lim 0 1 2), .slice la2 0 lc2, .bool false, .slice ta2 0 tc2]) 1).run Try.prog wx = .ok (.int .i64 1) wx := fun _ => by kernel_rfl
  go_wp2_with fail
  refine (HR.out _).mono ?_
  rintro e w3 ⟨rfl, b3⟩
  rw [hr]
  go_wp2
  go_ret
  exact ⟨rfl, b.trans (b3.mono b.size)⟩

theorem CleanCf.right {k : Cf} {l : List Int} (h : CleanCf k l) : rightB k l = true := by
  unfold rightB
  simp only [decide_eq_true_eq]
  exact ⟨(lim_in h.mode).symm, (lim_in h.width).symm, (lim_in h.rob).symm, (lim_in h.queue).symm, (lim_in h.stores).symm, (lim_in h.slots).symm, (setsOf_in h.sets).symm, (lim_in h.ways).symm, (latOf_in h.ln h.lat).symm, by have := h.tn; omega⟩

end Go.Proofs.Ytebeelphilfjhaa
