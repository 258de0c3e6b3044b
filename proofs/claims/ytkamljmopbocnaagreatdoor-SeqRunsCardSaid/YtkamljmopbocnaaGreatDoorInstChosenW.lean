/- THE CONTRACT of chosen. -/
import Derived.Test.YtkamljmopbocnaaGreatDoorInstChosenA
import Derived.Test.YtkamljmopbocnaaGreatDoorInstChosenB
import Derived.Test.YtkamljmopbocnaaGreatDoorInstChosenC
import Derived.Test.YtkamljmopbocnaaGreatDoorInstChosenD
import Derived.Test.YtkamljmopbocnaaGreatDoorInstChosenE
namespace Go.Proofs.YtkamljmopbocnaaGreatDoor
open Go.ChangeShapes Go.WideShapes Go.ChangeAt Go.RowKit
set_option maxRecDepth 100000

theorem ch_eq (a : Int) (h1 : a ≠ 15) (h2 : a ≠ 115) (h3 : a ≠ 1048691) :
    chR a = selR (cOf a) (f3Of (cOf a) (fld a 12 3 : Nat)) (f7Of (cOf a) (fld a 12 3 : Nat) (fld a 25 7 : Nat)) ∧ chB a = selB (cOf a) (f3Of (cOf a) (fld a 12 3 : Nat)) (f7Of (cOf a) (fld a 12 3 : Nat) (fld a 25 7 : Nat)) := by
  unfold chR chB
  rw [if_neg h1, if_neg h2, if_neg h3, if_neg (by omega)]
  exact ⟨rfl, rfl⟩

set_option maxHeartbeats 1000000
theorem chosenW15 (w : World) : Calls Tryz.prog 81 #[.int .u32 15] w fun e w' => e = .returned (.tuple #[rowAgg (chR 15), .bool (chB 15)]) ∧ Below w.heap.size w w' := by
  have G := Lib.hid (show chR 15 = (46, 7, 15, 0, 0) ∧ chB 15 = true from ⟨by unfold chR; simp, by unfold chB; simp⟩)
  go_enter Tryz.func81, Tryz.ntmps81
  go_wp2_with fail
  have hf := five_new w 98 (.int .i64 0) (.int .i64 0) (.int .u32 0) (.int .u32 0) (.int .u32 0)
  have hb0 : Below w.heap.size w (w.alloc (.cells #[.int .i64 0, .int .i64 0, .int .u32 0, .int .u32 0, .int .u32 0] 98)) := (Below.refl _ _).alloc (Nat.le_refl _) _
  have hsz : w.heap.size < (w.alloc (.cells #[.int .i64 0, .int .i64 0, .int .u32 0, .int .u32 0, .int .u32 0] 98)).heap.size := by simp
  generalize w.alloc (.cells #[.int .i64 0, .int .i64 0, .int .u32 0, .int .u32 0, .int .u32 0] 98) = w0 at *
  (go_at_call 89; refine (rowOf46_any _).mono ?_; rintro e w1 ⟨rfl, b1⟩)
  replace hf := hf.below b1 hsz
  replace hb0 := hb0.trans (b1.mono (Nat.le_of_lt hsz))
  obtain ⟨⟨a0, a1, a2, a3, a4⟩, ⟨f0, f1, f2, f3, f4⟩⟩ := hf
  simp only [rowAgg]
  go_wp2
  refine bodyPost_ret (v := .tuple #[rowAgg (46, 7, 15, 0, 0), .bool true]) ?_ rfl ⟨?_, ?_⟩
  · simp [results, Tryz.results81, go_sem, rowAgg, a0, a1, a2, a3, a4]
  · rw [G.out.1, G.out.2]
  · exact ((((hb0.setCell (Nat.le_refl _) _).setCell (Nat.le_refl _) _).setCell (Nat.le_refl _) _).setCell (Nat.le_refl _) _).setCell (Nat.le_refl _) _
theorem chosenW115 (w : World) : Calls Tryz.prog 81 #[.int .u32 115] w fun e w' => e = .returned (.tuple #[rowAgg (chR 115), .bool (chB 115)]) ∧ Below w.heap.size w w' := by
  have G := Lib.hid (show chR 115 = (47, 7, 115, 0, 0) ∧ chB 115 = true from ⟨by unfold chR; simp, by unfold chB; simp⟩)
  go_enter Tryz.func81, Tryz.ntmps81
  go_wp2_with fail
  have hf := five_new w 98 (.int .i64 0) (.int .i64 0) (.int .u32 0) (.int .u32 0) (.int .u32 0)
  have hb0 : Below w.heap.size w (w.alloc (.cells #[.int .i64 0, .int .i64 0, .int .u32 0, .int .u32 0, .int .u32 0] 98)) := (Below.refl _ _).alloc (Nat.le_refl _) _
  have hsz : w.heap.size < (w.alloc (.cells #[.int .i64 0, .int .i64 0, .int .u32 0, .int .u32 0, .int .u32 0] 98)).heap.size := by simp
  generalize w.alloc (.cells #[.int .i64 0, .int .i64 0, .int .u32 0, .int .u32 0, .int .u32 0] 98) = w0 at *
  (go_at_call 89; refine (rowOf47_any _).mono ?_; rintro e w1 ⟨rfl, b1⟩)
  replace hf := hf.below b1 hsz
  replace hb0 := hb0.trans (b1.mono (Nat.le_of_lt hsz))
  obtain ⟨⟨a0, a1, a2, a3, a4⟩, ⟨f0, f1, f2, f3, f4⟩⟩ := hf
  simp only [rowAgg]
  go_wp2
  refine bodyPost_ret (v := .tuple #[rowAgg (47, 7, 115, 0, 0), .bool true]) ?_ rfl ⟨?_, ?_⟩
  · simp [results, Tryz.results81, go_sem, rowAgg, a0, a1, a2, a3, a4]
  · rw [G.out.1, G.out.2]
  · exact ((((hb0.setCell (Nat.le_refl _) _).setCell (Nat.le_refl _) _).setCell (Nat.le_refl _) _).setCell (Nat.le_refl _) _).setCell (Nat.le_refl _) _
theorem chosenW1048691 (w : World) : Calls Tryz.prog 81 #[.int .u32 1048691] w fun e w' => e = .returned (.tuple #[rowAgg (chR 1048691), .bool (chB 1048691)]) ∧ Below w.heap.size w w' := by
  have G := Lib.hid (show chR 1048691 = (48, 7, 1048691, 0, 0) ∧ chB 1048691 = true from ⟨by unfold chR; simp, by unfold chB; simp⟩)
  go_enter Tryz.func81, Tryz.ntmps81
  go_wp2_with fail
  have hf := five_new w 98 (.int .i64 0) (.int .i64 0) (.int .u32 0) (.int .u32 0) (.int .u32 0)
  have hb0 : Below w.heap.size w (w.alloc (.cells #[.int .i64 0, .int .i64 0, .int .u32 0, .int .u32 0, .int .u32 0] 98)) := (Below.refl _ _).alloc (Nat.le_refl _) _
  have hsz : w.heap.size < (w.alloc (.cells #[.int .i64 0, .int .i64 0, .int .u32 0, .int .u32 0, .int .u32 0] 98)).heap.size := by simp
  generalize w.alloc (.cells #[.int .i64 0, .int .i64 0, .int .u32 0, .int .u32 0, .int .u32 0] 98) = w0 at *
  (go_at_call 89; refine (rowOf48_any _).mono ?_; rintro e w1 ⟨rfl, b1⟩)
  replace hf := hf.below b1 hsz
  replace hb0 := hb0.trans (b1.mono (Nat.le_of_lt hsz))
  obtain ⟨⟨a0, a1, a2, a3, a4⟩, ⟨f0, f1, f2, f3, f4⟩⟩ := hf
  simp only [rowAgg]
  go_wp2
  refine bodyPost_ret (v := .tuple #[rowAgg (48, 7, 1048691, 0, 0), .bool true]) ?_ rfl ⟨?_, ?_⟩
  · simp [results, Tryz.results81, go_sem, rowAgg, a0, a1, a2, a3, a4]
  · rw [G.out.1, G.out.2]
  · exact ((((hb0.setCell (Nat.le_refl _) _).setCell (Nat.le_refl _) _).setCell (Nat.le_refl _) _).setCell (Nat.le_refl _) _).setCell (Nat.le_refl _) _

theorem chosen_any (a : Int) (ha : 0 ≤ a) (ha' : a < 4294967296) (w : World) (ht : TabIs w) (hg : 0 < w.heap.size) :
    Calls Tryz.prog 81 #[.int .u32 a] w fun e w' => e = .returned (.tuple #[rowAgg (chR a), .bool (chB a)]) ∧ Below w.heap.size w w' := by
  by_cases h1 : a = 15
  · subst h1; exact chosenW15 w
  by_cases h2 : a = 115
  · subst h2; exact chosenW115 w
  by_cases h3 : a = 1048691
  · subst h3; exact chosenW1048691 w
  have n1 : (a == 15) = false := by simpa using h1
  have n2 : (a == 115) = false := by simpa using h2
  have n3 : (a == 1048691) = false := by simpa using h3
  have E := ch_eq a h1 h2 h3
  unfold cOf at E
  clear h1 h2 h3
  generalize hC : ((fld a 0 7 : Nat) : Int) = c at E
  generalize hF3 : ((fld a 12 3 : Nat) : Int) = f3 at E
  generalize hF7 : ((fld a 25 7 : Nat) : Int) = f7 at E
  have C := Lib.hid hC
  have F3 := Lib.hid hF3
  have F7 := Lib.hid hF7
  clear hC hF3 hF7
  have beq : ∀ n : Int, c ≠ n → (c == n) = false := fun n h => by simpa using h
  by_cases q0 : c = 55
  · rw [show f3Of c f3 = 0 from (by subst q0; simp [f3Of]), show f7Of c f3 f7 = 0 from (by subst q0; simp [f7Of])] at E
    exact chosen55 a c f3 f7 ha ha' w ht hg n1 n2 n3 C F3 F7 (by simpa using q0) (Lib.hid E)
  by_cases q1 : c = 23
  · rw [show f3Of c f3 = 0 from (by subst q1; simp [f3Of]), show f7Of c f3 f7 = 0 from (by subst q1; simp [f7Of])] at E
    exact chosen23 a c f3 f7 ha ha' w ht hg n1 n2 n3 C F3 F7 (beq _ q0) (by simpa using q1) (Lib.hid E)
  by_cases q2 : c = 111
  · rw [show f3Of c f3 = 0 from (by subst q2; simp [f3Of]), show f7Of c f3 f7 = 0 from (by subst q2; simp [f7Of])] at E
    exact chosen111 a c f3 f7 ha ha' w ht hg n1 n2 n3 C F3 F7 (beq _ q0) (beq _ q1) (by simpa using q2) (Lib.hid E)
  rw [show f3Of c f3 = f3 by unfold f3Of; rw [if_neg (by omega)]] at E
  by_cases q3 : c = 103
  · rw [show f7Of c f3 f7 = 0 from (by subst q3; simp [f7Of])] at E
    exact chosen103 a c f3 f7 ha ha' w ht hg n1 n2 n3 C F3 F7 (beq _ q0) (beq _ q1) (beq _ q2) (by simpa using q3) (Lib.hid E)
  by_cases q4 : c = 99
  · rw [show f7Of c f3 f7 = 0 from (by subst q4; simp [f7Of])] at E
    exact chosen99 a c f3 f7 ha ha' w ht hg n1 n2 n3 C F3 F7 (beq _ q0) (beq _ q1) (beq _ q2) (beq _ q3) (by simpa using q4) (Lib.hid E)
  by_cases q5 : c = 3
  · rw [show f7Of c f3 f7 = 0 from (by subst q5; simp [f7Of])] at E
    exact chosen3 a c f3 f7 ha ha' w ht hg n1 n2 n3 C F3 F7 (beq _ q0) (beq _ q1) (beq _ q2) (beq _ q3) (beq _ q4) (by simpa using q5) (Lib.hid E)
  by_cases q6 : c = 35
  · rw [show f7Of c f3 f7 = 0 from (by subst q6; simp [f7Of])] at E
    exact chosen35 a c f3 f7 ha ha' w ht hg n1 n2 n3 C F3 F7 (beq _ q0) (beq _ q1) (beq _ q2) (beq _ q3) (beq _ q4) (beq _ q5) (by simpa using q6) (Lib.hid E)
  by_cases q7 : c = 19
  · by_cases m1 : f3 = 1
    · rw [show f7Of c f3 f7 = f7 by unfold f7Of; rw [if_neg (by omega), if_neg (by omega)]] at E
      exact chosen19a a c f3 f7 ha ha' w ht hg n1 n2 n3 C F3 F7 (beq _ q0) (beq _ q1) (beq _ q2) (beq _ q3) (beq _ q4) (beq _ q5) (beq _ q6) (by simpa using q7) (by simpa using m1) (Lib.hid E)
    by_cases m5 : f3 = 5
    · rw [show f7Of c f3 f7 = f7 by unfold f7Of; rw [if_neg (by omega), if_neg (by omega)]] at E
      exact chosen19b a c f3 f7 ha ha' w ht hg n1 n2 n3 C F3 F7 (beq _ q0) (beq _ q1) (beq _ q2) (beq _ q3) (beq _ q4) (beq _ q5) (beq _ q6) (by simpa using q7) (by simpa using m1) (by simpa using m5) (Lib.hid E)
    rw [show f7Of c f3 f7 = 0 by unfold f7Of; rw [if_neg (by omega), if_pos ⟨q7, m1, m5⟩]] at E
    exact chosen19c a c f3 f7 ha ha' w ht hg n1 n2 n3 C F3 F7 (beq _ q0) (beq _ q1) (beq _ q2) (beq _ q3) (beq _ q4) (beq _ q5) (beq _ q6) (by simpa using q7) (by simpa using m1) (by simpa using m5) (Lib.hid E)
  rw [show f7Of c f3 f7 = f7 by unfold f7Of; rw [if_neg (by omega), if_neg (by omega)]] at E
  exact chosenNo a c f3 f7 ha ha' w ht hg n1 n2 n3 C F3 F7 (beq _ q0) (beq _ q1) (beq _ q2) (beq _ q3) (beq _ q4) (beq _ q5) (beq _ q6) (beq _ q7) (Lib.hid E)

end Go.Proofs.YtkamljmopbocnaaGreatDoor
