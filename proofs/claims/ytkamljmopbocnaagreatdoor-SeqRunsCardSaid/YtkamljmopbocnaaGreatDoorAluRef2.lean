/- THE CONTRACTS of Do and Mul of auspexref03. -/
import Derived.Test.YtkamljmopbocnaaGreatDoorAluRef
namespace Go.Proofs.YtkamljmopbocnaaGreatDoor
open Go.ChangeShapes Go.WideShapes Go.ChangeAt Go.RowKit
set_option maxRecDepth 100000

theorem aluDo29 (op a b : Int) (h : (op == 29) = true) : aluDo op a b = (a - b) % 4294967296 := by
  have h29 : op = 29 := by simpa using h
  rw [h29]
  rfl

set_option maxRecDepth 100000 in
theorem refDo_any (op a b : Int) (ha : 0 ≤ a) (ha' : a < 4294967296) (hb : 0 ≤ b) (hb' : b < 4294967296) (w : World) :
    Calls Tryz.prog 46 #[.int .i64 op, .int .u32 a, .int .u32 b] w fun e w' => e = .returned (.int .u32 (aluDo op a b)) ∧ Below w.heap.size w w' := by
  have b1 : 0 ≤ b % 32 := by omega
  have b2 : b % 32 ≤ 31 := by omega
  go_enter Tryz.func46, Tryz.ntmps46
  have G1 := Lib.hid (mv_shl' a (b % 32) ha b1 b2)
  have G2 := Lib.hid (mv_shr' a (b % 32) ha ha' b1)
  have G3 := Lib.hid (mv_sra' a (b % 32) ha ha' b1 b2)
  have G4 := Lib.hid (bo_and' a b ha ha' hb hb')
  have G5 := Lib.hid (bo_or' a b ha ha' hb hb')
  have G6 := Lib.hid (bo_xor' a b ha ha' hb hb')
  go_wp2_with (first
    | (go_at_call 78; refine (one_any _ _).mono ?_; rintro e w' ⟨rfl, rfl⟩)
    | (go_at_call 77; refine (bit_any _ _ (by omega) (by omega) (by omega) _).mono ?_; rintro e w' ⟨rfl, rfl⟩)
    | (go_at_call 73; refine (signed_any _ (by omega) (by omega) _).mono ?_; rintro e w' ⟨rfl, rfl⟩)
    | (go_at_call 75; (with_reducible refine (both1_any _ _ ha hb _ _ (fun _ => rfl)).mono ?_); rintro e w' ⟨rfl, hb5⟩)
    | (go_at_call 75; (with_reducible refine (both2_any _ _ ha hb _ _ (fun _ => rfl)).mono ?_); rintro e w' ⟨rfl, hb5⟩)
    | (go_at_call 75; (with_reducible refine (both3_any _ _ ha hb _ _ (fun _ => rfl)).mono ?_); rintro e w' ⟨rfl, hb5⟩)
    | (go_at_call 76; (with_reducible refine (moved_any _ _ 0 false (by omega) (by omega) (by omega) rfl _).mono ?_); rintro e w' ⟨rfl, hb6⟩)
    | (go_at_call 76; (with_reducible refine (moved_any _ _ _ (a.toNat.testBit 31) (by omega) (by omega) (by omega) (by simp) _).mono ?_); rintro e w' ⟨rfl, hb6⟩))
  all_goals go_ret
  all_goals refine ⟨ret_int ?_, by repeat (first | exact Below.refl _ _ | assumption)⟩
  all_goals have H1 := G1.out
  all_goals have H2 := G2.out
  all_goals have H3 := G3.out
  all_goals have H4 := G4.out
  all_goals have H5 := G5.out
  all_goals have H6 := G6.out
  all_goals clear G1 G2 G3 G4 G5 G6 ha ha' hb hb'
  all_goals first | (simp_all [aluDo, aluSh]; done) | (rw [aluDo29 op a b ‹(op == 29) = true›]; clear H1 H2 H3 H4 H5 H6; omega)

theorem refMul_any (op a b : Int) (ha : 0 ≤ a) (ha' : a < 4294967296) (hb : 0 ≤ b) (hb' : b < 4294967296) (w : World) :
    Calls Tryz.prog 44 #[.int .i64 op, .int .u32 a, .int .u32 b] w fun e w' => e = .returned (.int .u32 (mulW op a b)) ∧ w = w' := by
  go_enter Tryz.func44, Tryz.ntmps44
  go_wp2_with (first
    | (go_at_call 72; refine (refHigh_any _ _ ha ha' hb hb' _).mono ?_; rintro e w' ⟨rfl, rfl⟩))
  all_goals go_ret
  all_goals refine ⟨ret_int ?_, rfl⟩
  all_goals have E39 := mul39 a b ha ha' hb hb'
  all_goals have E40 := mul40 a b ha ha'
  all_goals have E38 := mul38 (a * b)
  all_goals clear ha ha' hb hb'
  all_goals unfold mulW
  all_goals generalize a * b / 4294967296 = q at *
  all_goals generalize wrap32 a * wrap32 b / 4294967296 = r at *
  all_goals generalize wrap32 a * b / 4294967296 = t at *
  all_goals first | (simp_all; done) | (simp_all; split at * <;> omega) | (simp_all; omega)

end Go.Proofs.YtkamljmopbocnaaGreatDoor
