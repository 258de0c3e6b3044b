/- THE CONTRACTS of auspexref06's B and Value: in the words of seq's. -/
import Derived.Test.YtfekknalchjkiaaDoorRefExec
import Derived.Test.YtfekknalchjkiaaDoorExecV
import Derived.Test.YtfekknalchjkiaaDoorAluRef2
import Derived.Test.YtfekknalchjkiaaDoorDivideRef
namespace Go.Proofs.YtfekknalchjkiaaDoor
open Go.ChangeShapes Go.WideShapes Go.ChangeAt Go.RowKit
set_option linter.unusedVariables false
set_option linter.unusedSimpArgs false
set_option maxHeartbeats 4000000
set_option maxRecDepth 100000

theorem refB_any (op rd r1 r2 imm b : Int) (w : World) :
    Calls Tryd.prog 118 #[.agg #[.int .i64 op, .int .i64 rd, .int .i64 r1, .int .i64 r2, .int .u32 imm], .int .u32 b] w fun e w' => e = .returned (.int .u32 (if numB op then imm else b)) ∧ Below w.heap.size w w' := by
  by_cases h : 19 ≤ op ∧ op ≤ 27 ∨ op = 1
  · rcases (show op = 19 ∨ op = 20 ∨ op = 21 ∨ op = 22 ∨ op = 23 ∨ op = 24 ∨ op = 25 ∨ op = 26 ∨ op = 27 ∨ op = 1 by omega) with rfl | rfl | rfl | rfl | rfl | rfl | rfl | rfl | rfl | rfl
    · have HF := Lib.hid (show ∀ w, Calls Tryd.prog 87 #[.int .i64 19] w fun e w' => e = .returned (.int .u8 73) ∧ w = w' from fun w => refForm_any 19 w)
      have HK := Lib.hid (show ∀ w, Calls Tryd.prog 51 #[.int .i64 19] w fun e w' => e = .returned (.int .i64 0) ∧ w = w' from fun w => refKind_any 19 w)
      clear h
      go_enter Tryd.func118, Tryd.ntmps118
      go_wp2_with (first
        | (go_at_call 87; refine (HF.out _).mono ?_; rintro e w1 ⟨rfl, rfl⟩)
        | (go_at_call 51; refine (HK.out _).mono ?_; rintro e w1 ⟨rfl, rfl⟩))
      go_ret
      exact ⟨rfl, (Below.refl _ _).alloc (Nat.le_refl _) _⟩
    · have HF := Lib.hid (show ∀ w, Calls Tryd.prog 87 #[.int .i64 20] w fun e w' => e = .returned (.int .u8 73) ∧ w = w' from fun w => refForm_any 20 w)
      have HK := Lib.hid (show ∀ w, Calls Tryd.prog 51 #[.int .i64 20] w fun e w' => e = .returned (.int .i64 0) ∧ w = w' from fun w => refKind_any 20 w)
      clear h
      go_enter Tryd.func118, Tryd.ntmps118
      go_wp2_with (first
        | (go_at_call 87; refine (HF.out _).mono ?_; rintro e w1 ⟨rfl, rfl⟩)
        | (go_at_call 51; refine (HK.out _).mono ?_; rintro e w1 ⟨rfl, rfl⟩))
      go_ret
      exact ⟨rfl, (Below.refl _ _).alloc (Nat.le_refl _) _⟩
    · have HF := Lib.hid (show ∀ w, Calls Tryd.prog 87 #[.int .i64 21] w fun e w' => e = .returned (.int .u8 73) ∧ w = w' from fun w => refForm_any 21 w)
      have HK := Lib.hid (show ∀ w, Calls Tryd.prog 51 #[.int .i64 21] w fun e w' => e = .returned (.int .i64 0) ∧ w = w' from fun w => refKind_any 21 w)
      clear h
      go_enter Tryd.func118, Tryd.ntmps118
      go_wp2_with (first
        | (go_at_call 87; refine (HF.out _).mono ?_; rintro e w1 ⟨rfl, rfl⟩)
        | (go_at_call 51; refine (HK.out _).mono ?_; rintro e w1 ⟨rfl, rfl⟩))
      go_ret
      exact ⟨rfl, (Below.refl _ _).alloc (Nat.le_refl _) _⟩
    · have HF := Lib.hid (show ∀ w, Calls Tryd.prog 87 #[.int .i64 22] w fun e w' => e = .returned (.int .u8 73) ∧ w = w' from fun w => refForm_any 22 w)
      have HK := Lib.hid (show ∀ w, Calls Tryd.prog 51 #[.int .i64 22] w fun e w' => e = .returned (.int .i64 0) ∧ w = w' from fun w => refKind_any 22 w)
      clear h
      go_enter Tryd.func118, Tryd.ntmps118
      go_wp2_with (first
        | (go_at_call 87; refine (HF.out _).mono ?_; rintro e w1 ⟨rfl, rfl⟩)
        | (go_at_call 51; refine (HK.out _).mono ?_; rintro e w1 ⟨rfl, rfl⟩))
      go_ret
      exact ⟨rfl, (Below.refl _ _).alloc (Nat.le_refl _) _⟩
    · have HF := Lib.hid (show ∀ w, Calls Tryd.prog 87 #[.int .i64 23] w fun e w' => e = .returned (.int .u8 73) ∧ w = w' from fun w => refForm_any 23 w)
      have HK := Lib.hid (show ∀ w, Calls Tryd.prog 51 #[.int .i64 23] w fun e w' => e = .returned (.int .i64 0) ∧ w = w' from fun w => refKind_any 23 w)
      clear h
      go_enter Tryd.func118, Tryd.ntmps118
      go_wp2_with (first
        | (go_at_call 87; refine (HF.out _).mono ?_; rintro e w1 ⟨rfl, rfl⟩)
        | (go_at_call 51; refine (HK.out _).mono ?_; rintro e w1 ⟨rfl, rfl⟩))
      go_ret
      exact ⟨rfl, (Below.refl _ _).alloc (Nat.le_refl _) _⟩
    · have HF := Lib.hid (show ∀ w, Calls Tryd.prog 87 #[.int .i64 24] w fun e w' => e = .returned (.int .u8 73) ∧ w = w' from fun w => refForm_any 24 w)
      have HK := Lib.hid (show ∀ w, Calls Tryd.prog 51 #[.int .i64 24] w fun e w' => e = .returned (.int .i64 0) ∧ w = w' from fun w => refKind_any 24 w)
      clear h
      go_enter Tryd.func118, Tryd.ntmps118
      go_wp2_with (first
        | (go_at_call 87; refine (HF.out _).mono ?_; rintro e w1 ⟨rfl, rfl⟩)
        | (go_at_call 51; refine (HK.out _).mono ?_; rintro e w1 ⟨rfl, rfl⟩))
      go_ret
      exact ⟨rfl, (Below.refl _ _).alloc (Nat.le_refl _) _⟩
    · have HF := Lib.hid (show ∀ w, Calls Tryd.prog 87 #[.int .i64 25] w fun e w' => e = .returned (.int .u8 84) ∧ w = w' from fun w => refForm_any 25 w)
      have HK := Lib.hid (show ∀ w, Calls Tryd.prog 51 #[.int .i64 25] w fun e w' => e = .returned (.int .i64 0) ∧ w = w' from fun w => refKind_any 25 w)
      clear h
      go_enter Tryd.func118, Tryd.ntmps118
      go_wp2_with (first
        | (go_at_call 87; refine (HF.out _).mono ?_; rintro e w1 ⟨rfl, rfl⟩)
        | (go_at_call 51; refine (HK.out _).mono ?_; rintro e w1 ⟨rfl, rfl⟩))
      go_ret
      exact ⟨rfl, (Below.refl _ _).alloc (Nat.le_refl _) _⟩
    · have HF := Lib.hid (show ∀ w, Calls Tryd.prog 87 #[.int .i64 26] w fun e w' => e = .returned (.int .u8 84) ∧ w = w' from fun w => refForm_any 26 w)
      have HK := Lib.hid (show ∀ w, Calls Tryd.prog 51 #[.int .i64 26] w fun e w' => e = .returned (.int .i64 0) ∧ w = w' from fun w => refKind_any 26 w)
      clear h
      go_enter Tryd.func118, Tryd.ntmps118
      go_wp2_with (first
        | (go_at_call 87; refine (HF.out _).mono ?_; rintro e w1 ⟨rfl, rfl⟩)
        | (go_at_call 51; refine (HK.out _).mono ?_; rintro e w1 ⟨rfl, rfl⟩))
      go_ret
      exact ⟨rfl, (Below.refl _ _).alloc (Nat.le_refl _) _⟩
    · have HF := Lib.hid (show ∀ w, Calls Tryd.prog 87 #[.int .i64 27] w fun e w' => e = .returned (.int .u8 84) ∧ w = w' from fun w => refForm_any 27 w)
      have HK := Lib.hid (show ∀ w, Calls Tryd.prog 51 #[.int .i64 27] w fun e w' => e = .returned (.int .i64 0) ∧ w = w' from fun w => refKind_any 27 w)
      clear h
      go_enter Tryd.func118, Tryd.ntmps118
      go_wp2_with (first
        | (go_at_call 87; refine (HF.out _).mono ?_; rintro e w1 ⟨rfl, rfl⟩)
        | (go_at_call 51; refine (HK.out _).mono ?_; rintro e w1 ⟨rfl, rfl⟩))
      go_ret
      exact ⟨rfl, (Below.refl _ _).alloc (Nat.le_refl _) _⟩
    · have HF := Lib.hid (show ∀ w, Calls Tryd.prog 87 #[.int .i64 1] w fun e w' => e = .returned (.int .u8 85) ∧ w = w' from fun w => refForm_any 1 w)
      have HK := Lib.hid (show ∀ w, Calls Tryd.prog 51 #[.int .i64 1] w fun e w' => e = .returned (.int .i64 0) ∧ w = w' from fun w => refKind_any 1 w)
      clear h
      go_enter Tryd.func118, Tryd.ntmps118
      go_wp2_with (first
        | (go_at_call 87; refine (HF.out _).mono ?_; rintro e w1 ⟨rfl, rfl⟩)
        | (go_at_call 51; refine (HK.out _).mono ?_; rintro e w1 ⟨rfl, rfl⟩))
      go_ret
      exact ⟨rfl, (Below.refl _ _).alloc (Nat.le_refl _) _⟩
  · by_cases h2 : 11 ≤ op ∧ op ≤ 15 ∨ op = 4
    · rcases (show op = 11 ∨ op = 12 ∨ op = 13 ∨ op = 14 ∨ op = 15 ∨ op = 4 by omega) with rfl | rfl | rfl | rfl | rfl | rfl
      · have HF := Lib.hid (show ∀ w, Calls Tryd.prog 87 #[.int .i64 11] w fun e w' => e = .returned (.int .u8 73) ∧ w = w' from fun w => refForm_any 11 w)
        have HK := Lib.hid (show ∀ w, Calls Tryd.prog 51 #[.int .i64 11] w fun e w' => e = .returned (.int .i64 3) ∧ w = w' from fun w => refKind_any 11 w)
        clear h
        go_enter Tryd.func118, Tryd.ntmps118
        go_wp2_with (first
          | (go_at_call 87; refine (HF.out _).mono ?_; rintro e w1 ⟨rfl, rfl⟩)
          | (go_at_call 51; refine (HK.out _).mono ?_; rintro e w1 ⟨rfl, rfl⟩))
        go_ret
        exact ⟨rfl, (Below.refl _ _).alloc (Nat.le_refl _) _⟩
      · have HF := Lib.hid (show ∀ w, Calls Tryd.prog 87 #[.int .i64 12] w fun e w' => e = .returned (.int .u8 73) ∧ w = w' from fun w => refForm_any 12 w)
        have HK := Lib.hid (show ∀ w, Calls Tryd.prog 51 #[.int .i64 12] w fun e w' => e = .returned (.int .i64 3) ∧ w = w' from fun w => refKind_any 12 w)
        clear h
        go_enter Tryd.func118, Tryd.ntmps118
        go_wp2_with (first
          | (go_at_call 87; refine (HF.out _).mono ?_; rintro e w1 ⟨rfl, rfl⟩)
          | (go_at_call 51; refine (HK.out _).mono ?_; rintro e w1 ⟨rfl, rfl⟩))
        go_ret
        exact ⟨rfl, (Below.refl _ _).alloc (Nat.le_refl _) _⟩
      · have HF := Lib.hid (show ∀ w, Calls Tryd.prog 87 #[.int .i64 13] w fun e w' => e = .returned (.int .u8 73) ∧ w = w' from fun w => refForm_any 13 w)
        have HK := Lib.hid (show ∀ w, Calls Tryd.prog 51 #[.int .i64 13] w fun e w' => e = .returned (.int .i64 3) ∧ w = w' from fun w => refKind_any 13 w)
        clear h
        go_enter Tryd.func118, Tryd.ntmps118
        go_wp2_with (first
          | (go_at_call 87; refine (HF.out _).mono ?_; rintro e w1 ⟨rfl, rfl⟩)
          | (go_at_call 51; refine (HK.out _).mono ?_; rintro e w1 ⟨rfl, rfl⟩))
        go_ret
        exact ⟨rfl, (Below.refl _ _).alloc (Nat.le_refl _) _⟩
      · have HF := Lib.hid (show ∀ w, Calls Tryd.prog 87 #[.int .i64 14] w fun e w' => e = .returned (.int .u8 73) ∧ w = w' from fun w => refForm_any 14 w)
        have HK := Lib.hid (show ∀ w, Calls Tryd.prog 51 #[.int .i64 14] w fun e w' => e = .returned (.int .i64 3) ∧ w = w' from fun w => refKind_any 14 w)
        clear h
        go_enter Tryd.func118, Tryd.ntmps118
        go_wp2_with (first
          | (go_at_call 87; refine (HF.out _).mono ?_; rintro e w1 ⟨rfl, rfl⟩)
          | (go_at_call 51; refine (HK.out _).mono ?_; rintro e w1 ⟨rfl, rfl⟩))
        go_ret
        exact ⟨rfl, (Below.refl _ _).alloc (Nat.le_refl _) _⟩
      · have HF := Lib.hid (show ∀ w, Calls Tryd.prog 87 #[.int .i64 15] w fun e w' => e = .returned (.int .u8 73) ∧ w = w' from fun w => refForm_any 15 w)
        have HK := Lib.hid (show ∀ w, Calls Tryd.prog 51 #[.int .i64 15] w fun e w' => e = .returned (.int .i64 3) ∧ w = w' from fun w => refKind_any 15 w)
        clear h
        go_enter Tryd.func118, Tryd.ntmps118
        go_wp2_with (first
          | (go_at_call 87; refine (HF.out _).mono ?_; rintro e w1 ⟨rfl, rfl⟩)
          | (go_at_call 51; refine (HK.out _).mono ?_; rintro e w1 ⟨rfl, rfl⟩))
        go_ret
        exact ⟨rfl, (Below.refl _ _).alloc (Nat.le_refl _) _⟩
      · have HF := Lib.hid (show ∀ w, Calls Tryd.prog 87 #[.int .i64 4] w fun e w' => e = .returned (.int .u8 73) ∧ w = w' from fun w => refForm_any 4 w)
        have HK := Lib.hid (show ∀ w, Calls Tryd.prog 51 #[.int .i64 4] w fun e w' => e = .returned (.int .i64 5) ∧ w = w' from fun w => refKind_any 4 w)
        clear h
        go_enter Tryd.func118, Tryd.ntmps118
        go_wp2_with (first
          | (go_at_call 87; refine (HF.out _).mono ?_; rintro e w1 ⟨rfl, rfl⟩)
          | (go_at_call 51; refine (HK.out _).mono ?_; rintro e w1 ⟨rfl, rfl⟩))
        go_ret
        exact ⟨rfl, (Below.refl _ _).alloc (Nat.le_refl _) _⟩
    · have hn : numB op = false := decide_eq_false h
      rw [hn]
      have hF : formF op ≠ 84 ∧ formF op ≠ 73 := by
        unfold formF
        repeat' split
        all_goals first | (constructor <;> decide) | (exfalso; omega)
      have HF := Lib.hid (fun w => refForm_any op w)
      obtain ⟨F, hFF⟩ : ∃ F, formF op = F := ⟨_, rfl⟩
      rw [hFF] at HF hF
      have q1 : (op == 1) = false := by simp; omega
      have q2 : (F == 84) = false := by simp; exact hF.1
      have q3 : (F == 73) = false := by simp; exact hF.2
      clear h h2 hn hF hFF
      go_enter Tryd.func118, Tryd.ntmps118
      go_wp2_with (go_at_call 87; refine (HF.out _).mono ?_; rintro e w1 ⟨rfl, rfl⟩)
      go_ret
      exact ⟨rfl, (Below.refl _ _).alloc (Nat.le_refl _) _⟩
theorem num_kind {op : Int} (h : numB op = true) : kindI op = 0 := by
  have h := of_decide_eq_true h
  unfold kindI
  repeat (rw [if_neg (by omega)])
theorem refValue_any (op rd r1 r2 imm pc a b : Int) (hi : 0 ≤ imm) (hi' : imm < 4294967296) (ha : 0 ≤ a) (ha' : a < 4294967296) (hb : 0 ≤ b) (hb' : b < 4294967296) (w : World) :
    Calls Tryd.prog 79 #[.agg #[.int .i64 op, .int .i64 rd, .int .i64 r1, .int .i64 r2, .int .u32 imm], .int .u32 pc, .int .u32 a, .int .u32 b] w fun e w' => e = .returned (.int .u32 (valW op imm pc a b)) ∧ Below w.heap.size w w' := by
  have hn0 : 0 ≤ (if numB op then imm else b) := by split <;> assumption
  have hn1 : (if numB op then imm else b) < 4294967296 := by split <;> assumption
  have HB := Lib.hid (fun w => refB_any op rd r1 r2 imm b w)
  have HK := Lib.hid (fun w => refKind_any op w)
  have HV := Lib.hid (show valW op imm pc a b = if kindI op = 1 then mulW op a (if numB op then imm else b) else if kindI op = 2 then divW op a (if numB op then imm else b) else if op = 2 then (pc + imm) % 4294967296 else if op = 3 ∨ op = 4 then (pc + 4) % 4294967296 else aluDo op a (if numB op then imm else b) by
    unfold valW
    cases hn : numB op
    · simp only [Bool.false_eq_true, if_false]
    · rw [num_kind hn]; simp)
  obtain ⟨n, hn⟩ : ∃ n, (if numB op then imm else b) = n := ⟨_, rfl⟩
  rw [hn] at hn0 hn1 HB HV
  have HM := Lib.hid (fun w => refMul_any op a n ha ha' hn0 hn1 w)
  have HD := Lib.hid (fun w => refDiv_any op a n ha ha' hn0 hn1 w)
  have HA := Lib.hid (fun w => refDo_any op a n ha ha' hn0 hn1 w)
  clear hi hi' ha ha' hb hb' hn hn0 hn1
  obtain ⟨V, hV⟩ : ∃ V, valW op imm pc a b = V := ⟨_, rfl⟩
  rw [hV] at HV ⊢
  clear hV
  obtain ⟨kd, hkd⟩ : ∃ kd, kindI op = kd := ⟨_, rfl⟩
  rw [hkd] at HK HV
  clear hkd
  go_enter Tryd.func79, Tryd.ntmps79
  go_wp2_with fail
  go_at_call 118
  refine (HB.out _).mono ?_
  rintro e w1 ⟨rfl, b1⟩
  have hF := (five_new w 58 (.int .i64 op) (.int .i64 rd) (.int .i64 r1) (.int .i64 r2) (.int .u32 imm)).below b1 (by simp)
  have HB1 := Lib.hid (((Below.refl w.heap.size w).alloc (Nat.le_refl _) (.cells #[.int .i64 op, .int .i64 rd, .int .i64 r1, .int .i64 r2, .int .u32 imm] 58)).trans (b1.mono (by simp)))
  obtain ⟨⟨c0, c1, c2, c3, c4⟩, _⟩ := hF
  clear b1
  by_cases k1 : kd = 1
  · have q1 : (kd == 1) = true := by simpa using k1
    go_wp2_with (first
      | (go_at_call 51; refine (HK.out _).mono ?_; rintro e w2 ⟨rfl, rfl⟩)
      | (go_at_call 119; refine (HM.out _).mono ?_; rintro e w2 ⟨rfl, rfl⟩))
    go_ret
    exact ⟨ret_int (by rw [HV.out, if_pos k1]), HB1.out⟩
  have q1 : (kd == 1) = false := by simpa using k1
  by_cases k2 : kd = 2
  · have q2 : (kd == 2) = true := by simpa using k2
    go_wp2_with (first
      | (go_at_call 51; refine (HK.out _).mono ?_; rintro e w2 ⟨rfl, rfl⟩)
      | (go_at_call 120; refine (HD.out _).mono ?_; rintro e w2 ⟨rfl, rfl⟩))
    go_ret
    exact ⟨ret_int (by rw [HV.out, if_neg k1, if_pos k2]), HB1.out⟩
  have q2 : (kd == 2) = false := by simpa using k2
  by_cases k3 : op = 2
  · have q3 : (op == 2) = true := by simpa using k3
    have K3 := Lib.hid k3
    clear k3
    go_wp2_with (go_at_call 51; refine (HK.out _).mono ?_; rintro e w2 ⟨rfl, rfl⟩)
    go_ret
    exact ⟨ret_int (by rw [HV.out, if_neg k1, if_neg k2, if_pos K3.out]), HB1.out⟩
  have q3 : (op == 2) = false := by simpa using k3
  by_cases k4 : op = 3
  · have q4 : (op == 3) = true := by simpa using k4
    have K4 := Lib.hid k4
    clear k4
    go_wp2_with (go_at_call 51; refine (HK.out _).mono ?_; rintro e w2 ⟨rfl, rfl⟩)
    go_ret
    exact ⟨ret_int (by rw [HV.out, if_neg k1, if_neg k2, if_neg k3, if_pos (Or.inl K4.out)]), HB1.out⟩
  have q4 : (op == 3) = false := by simpa using k4
  by_cases k5 : op = 4
  · have q5 : (op == 4) = true := by simpa using k5
    have K5 := Lib.hid k5
    clear k5
    go_wp2_with (go_at_call 51; refine (HK.out _).mono ?_; rintro e w2 ⟨rfl, rfl⟩)
    go_ret
    exact ⟨ret_int (by rw [HV.out, if_neg k1, if_neg k2, if_neg k3, if_pos (Or.inr K5.out)]), HB1.out⟩
  have q5 : (op == 4) = false := by simpa using k5
  go_wp2_with (first
    | (go_at_call 51; refine (HK.out _).mono ?_; rintro e w2 ⟨rfl, rfl⟩)
    | (go_at_call 121; refine (HA.out _).mono ?_; rintro e w2 ⟨rfl, b2⟩; have HB2 := Lib.hid (HB1.out.trans (b2.mono HB1.out.size)); clear b2))
  go_ret
  exact ⟨ret_int (by rw [HV.out, if_neg k1, if_neg k2, if_neg k3, if_neg (show ¬ (op = 3 ∨ op = 4) from fun h => h.elim k4 k5)]), HB2.out⟩
end Go.Proofs.YtfekknalchjkiaaDoor
