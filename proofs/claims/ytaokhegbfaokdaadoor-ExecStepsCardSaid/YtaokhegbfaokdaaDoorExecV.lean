/- THE CONTRACTS of seq.isNumber, seq.Value, seq.Target, exec.written. -/
import Derived.Test.YtaokhegbfaokdaaDoorInstWrites
import Derived.Test.YtaokhegbfaokdaaDoorAluD
import Derived.WalkLawsBesides
namespace Go.Proofs.YtaokhegbfaokdaaDoor
open Go.ChangeShapes Go.WideShapes Go.ChangeAt Go.RowKit
set_option linter.unusedVariables false
set_option linter.unusedSimpArgs false
set_option maxHeartbeats 2000000
set_option maxRecDepth 100000

def numB (op : Int) : Bool := decide (19 ≤ op ∧ op ≤ 27 ∨ op = 1)
theorem isNumber_any (op : Int) (w : World) : Calls Tryd.prog 58 #[.int .i64 op] w fun e w' => e = .returned (.bool (numB op)) ∧ w = w' := by
  by_cases h : 19 ≤ op ∧ op ≤ 27 ∨ op = 1
  · have e : numB op = true := decide_eq_true h
    rw [e]
    rcases (show op = 19 ∨ op = 20 ∨ op = 21 ∨ op = 22 ∨ op = 23 ∨ op = 24 ∨ op = 25 ∨ op = 26 ∨ op = 27 ∨ op = 1 by omega) with rfl | rfl | rfl | rfl | rfl | rfl | rfl | rfl | rfl | rfl
    all_goals
      clear e h
      go_enter Tryd.func58, Tryd.ntmps58
      go_wp2
      go_ret
      exact ⟨rfl, rfl⟩
  · have e : numB op = false := decide_eq_false h
    rw [e]
    have q1 : (op == 19) = false := by simp; omega
    have q2 : (op == 20) = false := by simp; omega
    have q3 : (op == 21) = false := by simp; omega
    have q4 : (op == 22) = false := by simp; omega
    have q5 : (op == 23) = false := by simp; omega
    have q6 : (op == 24) = false := by simp; omega
    have q7 : (op == 25) = false := by simp; omega
    have q8 : (op == 26) = false := by simp; omega
    have q9 : (op == 27) = false := by simp; omega
    have q0 : (op == 1) = false := by simp; omega
    clear e h
    go_enter Tryd.func58, Tryd.ntmps58
    go_wp2
    go_ret
    exact ⟨rfl, rfl⟩

def valW (op imm pc a b : Int) : Int :=
  if kindI op = 1 then mulW op a b else if kindI op = 2 then divW op a b else if op = 2 then (pc + imm) % 4294967296 else if op = 3 ∨ op = 4 then (pc + 4) % 4294967296 else aluDo op a (if numB op then imm else b)
theorem value_any (op rd r1 r2 imm pc a b : Int) (hi : 0 ≤ imm) (hi' : imm < 4294967296) (ha : 0 ≤ a) (ha' : a < 4294967296) (hb : 0 ≤ b) (hb' : b < 4294967296) (w : World) :
    Calls Tryd.prog 36 #[.agg #[.int .i64 op, .int .i64 rd, .int .i64 r1, .int .i64 r2, .int .u32 imm], .int .u32 pc, .int .u32 a, .int .u32 b] w fun e w' => e = .returned (.int .u32 (valW op imm pc a b)) ∧ Below w.heap.size w w' := by
  have HK := Lib.hid (fun w => kind_any op rd r1 r2 imm w)
  have HM := Lib.hid (fun w => mul_any op a b ha ha' hb hb' w)
  have HD := Lib.hid (fun w => divDo_any op a b ha ha' hb hb' w)
  have HN := Lib.hid (fun w => isNumber_any op w)
  have HA := Lib.hid (fun w => aluDo_any op a (if numB op then imm else b) (by split <;> omega) (by split <;> omega) w)
  clear hi hi' ha ha' hb hb'
  obtain ⟨V, hV⟩ : ∃ V, valW op imm pc a b = V := ⟨_, rfl⟩
  rw [hV]
  unfold valW at hV
  have HV := Lib.hid hV
  clear hV
  go_enter Tryd.func36, Tryd.ntmps36
  go_wp2_with fail
  go_at_call 32
  refine (HK.out _).mono ?_
  rintro e w1 ⟨rfl, b1⟩
  have hF := (five_new w 25 (.int .i64 op) (.int .i64 rd) (.int .i64 r1) (.int .i64 r2) (.int .u32 imm)).below b1 (by simp)
  have HB := Lib.hid (((Below.refl w.heap.size w).alloc (Nat.le_refl _) (.cells #[.int .i64 op, .int .i64 rd, .int .i64 r1, .int .i64 r2, .int .u32 imm] 25)).trans (b1.mono (by simp)))
  obtain ⟨⟨c0, c1, c2, c3, c4⟩, _⟩ := hF
  clear b1
  by_cases k1 : kindI op = 1
  · have q1 : (kindI op == 1) = true := by simpa using k1
    go_wp2_with (go_at_call 56; refine (HM.out _).mono ?_; rintro e w2 ⟨rfl, rfl⟩)
    go_ret
    exact ⟨ret_int (by rw [← HV.out, if_pos k1]), HB.out⟩
  have q1 : (kindI op == 1) = false := by simpa using k1
  by_cases k2 : kindI op = 2
  · have q2 : (kindI op == 2) = true := by simpa using k2
    go_wp2_with (go_at_call 57; refine (HD.out _).mono ?_; rintro e w2 ⟨rfl, b2⟩; have HB2 := Lib.hid (HB.out.trans (b2.mono HB.out.size)); clear b2)
    go_ret
    exact ⟨ret_int (by rw [← HV.out, if_neg k1, if_pos k2]), HB2.out⟩
  have q2 : (kindI op == 2) = false := by simpa using k2
  by_cases k3 : op = 2
  · have q3 : (op == 2) = true := by simpa using k3
    go_wp2
    go_ret
    exact ⟨ret_int (by rw [← HV.out, if_neg k1, if_neg k2, if_pos k3]), HB.out⟩
  have q3 : (op == 2) = false := by simpa using k3
  by_cases k4 : op = 3
  · have q4 : (op == 3) = true := by simpa using k4
    go_wp2
    go_ret
    exact ⟨ret_int (by rw [← HV.out, if_neg k1, if_neg k2, if_neg k3, if_pos (Or.inl k4)]), HB.out⟩
  have q4 : (op == 3) = false := by simpa using k4
  by_cases k5 : op = 4
  · have q5 : (op == 4) = true := by simpa using k5
    go_wp2
    go_ret
    exact ⟨ret_int (by rw [← HV.out, if_neg k1, if_neg k2, if_neg k3, if_pos (Or.inr k5)]), HB.out⟩
  have q5 : (op == 4) = false := by simpa using k5
  have HV2 := Lib.hid (show aluDo op a (if numB op then imm else b) = V by rw [← HV.out, if_neg k1, if_neg k2, if_neg k3, if_neg (show ¬ (op = 3 ∨ op = 4) from fun h => h.elim k4 k5)])
  clear HV k1 k2 k3 k4 k5
  cases hn : numB op
  all_goals
    rw [hn] at HN HA HV2
    simp only [if_true, Bool.false_eq_true, if_false] at HA HV2
    go_wp2_with (first
      | (go_at_call 58; refine (HN.out _).mono ?_; rintro e w2 ⟨rfl, rfl⟩)
      | (go_at_call 59; refine (HA.out _).mono ?_; rintro e w2 ⟨rfl, rfl⟩))
    go_ret
    exact ⟨ret_int HV2.out, HB.out⟩
theorem nextW_low (op imm pc a b : Int) : 0 ≤ nextW op imm pc a b := by
  unfold nextW
  split
  · omega
  · split <;> omega
theorem target_any (op rd r1 r2 imm pc a b : Int) (w : World) :
    Calls Tryd.prog 38 #[.agg #[.int .i64 op, .int .i64 rd, .int .i64 r1, .int .i64 r2, .int .u32 imm], .int .u32 pc, .int .u32 a, .int .u32 b] w fun e w' => e = .returned (.tuple #[.int .u32 (nextW op imm pc a b), .bool (decide (nextW op imm pc a b % 4 = 0))]) ∧ Below w.heap.size w w' := by
  have HN := Lib.hid (fun w => next_any op rd r1 r2 imm pc a b w)
  have hl := nextW_low op imm pc a b
  obtain ⟨V, hV⟩ : ∃ V, nextW op imm pc a b = V := ⟨_, rfl⟩
  rw [hV] at HN hl ⊢
  clear hV
  go_enter Tryd.func38, Tryd.ntmps38
  go_wp2_with (go_at_call 63; refine (HN.out _).mono ?_; rintro e w1 ⟨rfl, b1⟩; have HB := Lib.hid (((Below.refl w.heap.size w).alloc (Nat.le_refl _) (.cells #[.int .i64 op, .int .i64 rd, .int .i64 r1, .int .i64 r2, .int .u32 imm] 25)).trans (b1.mono (by simp))); clear b1)
  refine bodyPost_ret (v := .tuple #[.int .u32 V, .bool (decide (V % 4 = 0))]) ?_ rfl ⟨rfl, HB.out⟩
  simp [results, Tryd.results38, go_sem, beq_dec]
theorem written_any (op rd r1 r2 imm v : Int) (w : World) (ht : TabIs w) (hg : 0 < w.heap.size) :
    Calls Tryd.prog 35 #[.agg #[.int .i64 op, .int .i64 rd, .int .i64 r1, .int .i64 r2, .int .u32 imm], .int .u32 v] w fun e w' => e = .returned (.int .u32 (if wrI op rd = 0 then 0 else v)) ∧ Below w.heap.size w w' := by
  have HW := Lib.hid (fun w ht hg => writes_any op rd r1 r2 imm w ht hg)
  have HB := Lib.hid ((Below.refl w.heap.size w).alloc (Nat.le_refl _) (.cells #[.int .i64 op, .int .i64 rd, .int .i64 r1, .int .i64 r2, .int .u32 imm] 25))
  have HT := Lib.hid ht
  obtain ⟨R, hR⟩ : ∃ R, (if wrI op rd = 0 then 0 else v) = R := ⟨_, rfl⟩
  rw [hR]
  have HR := Lib.hid hR
  clear ht hR
  go_enter Tryd.func35, Tryd.ntmps35
  go_wp2_with fail
  go_at_call 43
  refine (HW.out _ (HT.out.below HB.out hg) (Nat.lt_of_lt_of_le hg HB.out.size)).mono ?_
  rintro e w1 ⟨rfl, b1⟩
  have HB1 := Lib.hid (HB.out.trans (b1.mono HB.out.size))
  clear b1
  by_cases h : wrI op rd = 0
  · have q : (wrI op rd == 0) = true := by simpa using h
    go_wp2
    go_ret
    exact ⟨ret_int (by rw [← HR.out, if_pos h]), HB1.out⟩
  · have q : (wrI op rd == 0) = false := by simpa using h
    go_wp2
    go_ret
    exact ⟨ret_int (by rw [← HR.out, if_neg h]), HB1.out⟩
end Go.Proofs.YtaokhegbfaokdaaDoor
