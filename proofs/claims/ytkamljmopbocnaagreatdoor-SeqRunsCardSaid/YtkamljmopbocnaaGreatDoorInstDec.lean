/- THE CONTRACT of Decode. -/
import Derived.Test.YtkamljmopbocnaaGreatDoorInstPB
import Derived.Test.YtkamljmopbocnaaGreatDoorInstChosenW
import Derived.WalkLawsBesides
namespace Go.Proofs.YtkamljmopbocnaaGreatDoor
open Go.ChangeShapes Go.WideShapes Go.ChangeAt Go.RowKit
set_option maxRecDepth 100000

def decAgg (op : Int) (a form : Int) : Value := .agg #[.int .i64 op, .int .i64 (gth a (rdL form)), .int .i64 (gth a (rs1L form)), .int .i64 (gth a (rs2L form)), .int .u32 (numV a form)]
def zeroAgg : Value := .agg #[.int .i64 0, .int .i64 0, .int .i64 0, .int .i64 0, .int .u32 0]
theorem regsAgg_eq (a form : Int) : regsAgg a form = .agg #[.int .i64 0, .int .i64 (gth a (rdL form)), .int .i64 (gth a (rs1L form)), .int .i64 (gth a (rs2L form)), .int .u32 0] := rfl

set_option maxHeartbeats 1000000
theorem decode_no (a : Int) (ha : 0 ≤ a) (ha' : a < 4294967296) (w : World) (ht : TabIs w) (hg : 0 < w.heap.size) (hb : chB a = false) :
    Calls Tryz.prog 53 #[.int .u32 a] w fun e w' => e = .returned (.tuple #[zeroAgg, .int .i64 20]) ∧ Below w.heap.size w w' := by
  have HT := Lib.hid ht
  clear ht
  go_enter Tryz.func53, Tryz.ntmps53
  go_wp2_with fail
  have hf := five_new w 50 (.int .i64 0) (.int .i64 0) (.int .i64 0) (.int .i64 0) (.int .u32 0)
  have hb0 : Below w.heap.size w (w.alloc (.cells #[.int .i64 0, .int .i64 0, .int .i64 0, .int .i64 0, .int .u32 0] 50)) := (Below.refl _ _).alloc (Nat.le_refl _) _
  have hsz : w.heap.size < (w.alloc (.cells #[.int .i64 0, .int .i64 0, .int .i64 0, .int .i64 0, .int .u32 0] 50)).heap.size := by simp
  generalize w.alloc (.cells #[.int .i64 0, .int .i64 0, .int .i64 0, .int .i64 0, .int .u32 0] 50) = w0 at *
  go_at_call 81
  refine (chosen_any _ ha ha' _ (HT.out.below hb0 hg) (Nat.lt_trans hg hsz)).mono ?_
  rintro e w1 ⟨rfl, b1⟩
  replace hf := hf.below b1 hsz
  replace hb0 := hb0.trans (b1.mono (Nat.le_of_lt hsz))
  replace hsz := Nat.lt_of_lt_of_le hsz b1.size
  rw [hb]
  simp only [rowAgg]
  obtain ⟨⟨a0, a1, a2, a3, a4⟩, ⟨f0, f1, f2, f3, f4⟩⟩ := hf
  go_wp2
  refine bodyPost_ret (v := .tuple #[zeroAgg, .int .i64 20]) ?_ rfl ⟨rfl, ?_⟩
  · simp [results, Tryz.results53, go_sem, zeroAgg, a0, a1, a2, a3, a4, hsz]
  · exact (((((hb0.setCell (Nat.le_refl _) _).setCell (Nat.le_refl _) _).setCell (Nat.le_refl _) _).setCell (Nat.le_refl _) _).setCell (Nat.le_refl _) _).alloc (by simp; omega) _

theorem decode_yes (a : Int) (ha : 0 ≤ a) (ha' : a < 4294967296) (w : World) (ht : TabIs w) (hg : 0 < w.heap.size) (hb : chB a = true) :
    Calls Tryz.prog 53 #[.int .u32 a] w fun e w' => e = .returned (.tuple #[decAgg (chR a).1 a (chR a).2.1, .int .i64 0]) ∧ Below w.heap.size w w' := by
  have HT := Lib.hid ht
  clear ht
  generalize hR : chR a = R
  obtain ⟨op, form, c, f3, f7⟩ := R
  go_enter Tryz.func53, Tryz.ntmps53
  go_wp2_with fail
  have hf := five_new w 50 (.int .i64 0) (.int .i64 0) (.int .i64 0) (.int .i64 0) (.int .u32 0)
  have hb0 : Below w.heap.size w (w.alloc (.cells #[.int .i64 0, .int .i64 0, .int .i64 0, .int .i64 0, .int .u32 0] 50)) := (Below.refl _ _).alloc (Nat.le_refl _) _
  have hsz : w.heap.size < (w.alloc (.cells #[.int .i64 0, .int .i64 0, .int .i64 0, .int .i64 0, .int .u32 0] 50)).heap.size := by simp
  generalize w.alloc (.cells #[.int .i64 0, .int .i64 0, .int .i64 0, .int .i64 0, .int .u32 0] 50) = w0 at *
  go_at_call 81
  refine (chosen_any _ ha ha' _ (HT.out.below hb0 hg) (Nat.lt_trans hg hsz)).mono ?_
  rintro e w1 ⟨rfl, b1⟩
  replace hf := hf.below b1 hsz
  replace hb0 := hb0.trans (b1.mono (Nat.le_of_lt hsz))
  replace hsz := Nat.lt_of_lt_of_le hsz b1.size
  rw [hb, hR]
  clear hb hR
  simp only [rowAgg]
  go_wp2_with fail
  have hr := five_new w1 98 (.int .i64 op) (.int .i64 form) (.int .u32 c) (.int .u32 f3) (.int .u32 f7)
  have hb1 : Below w1.heap.size w1 (w1.alloc (.cells #[.int .i64 op, .int .i64 form, .int .u32 c, .int .u32 f3, .int .u32 f7] 98)) := (Below.refl _ _).alloc (Nat.le_refl _) _
  have hsz1 : w1.heap.size < (w1.alloc (.cells #[.int .i64 op, .int .i64 form, .int .u32 c, .int .u32 f3, .int .u32 f7] 98)).heap.size := by simp
  replace hf := hf.below hb1 hsz
  replace hb0 := hb0.trans (hb1.mono (Nat.le_of_lt hsz))
  clear hb1
  generalize hw2 : w1.alloc (.cells #[.int .i64 op, .int .i64 form, .int .u32 c, .int .u32 f3, .int .u32 f7] 98) = w2 at *
  clear hw2
  go_at_call 82
  refine (registers_any _ _ ha ha' _).mono ?_
  rintro e w3 ⟨rfl, b2⟩
  replace hf := hf.below b2 (Nat.lt_trans hsz hsz1)
  replace hr := hr.below b2 hsz1
  replace hb0 := hb0.trans (b2.mono (Nat.le_of_lt (Nat.lt_trans hsz hsz1)))
  replace hsz1 := Nat.lt_of_lt_of_le hsz1 b2.size
  have HF := Lib.hid hf
  have HR := Lib.hid hr
  rw [regsAgg_eq]
  obtain ⟨⟨r0, r1, r2, r3, r4⟩, ⟨q0, q1, q2, q3, q4⟩⟩ := hr
  clear hf
  go_wp2_with fail
  clear r0 r1 r2 r3 r4 q0 q1 q2 q3 q4
  have hi := five_new w3 50 (.int .i64 op) (.int .i64 (gth a (rdL form))) (.int .i64 (gth a (rs1L form))) (.int .i64 (gth a (rs2L form))) (.int .u32 0)
  have hb3 : Below w3.heap.size w3 (w3.alloc (.cells #[.int .i64 op, .int .i64 (gth a (rdL form)), .int .i64 (gth a (rs1L form)), .int .i64 (gth a (rs2L form)), .int .u32 0] 50)) := (Below.refl _ _).alloc (Nat.le_refl _) _
  have hsz3 : w3.heap.size < (w3.alloc (.cells #[.int .i64 op, .int .i64 (gth a (rdL form)), .int .i64 (gth a (rs1L form)), .int .i64 (gth a (rs2L form)), .int .u32 0] 50)).heap.size := by simp
  have hf := HF.out.below hb3 (Nat.lt_trans hsz hsz1)
  replace hb0 := hb0.trans (hb3.mono (Nat.le_of_lt (Nat.lt_trans hsz hsz1)))
  clear hb3 HF HR
  generalize hw4 : w3.alloc (.cells #[.int .i64 op, .int .i64 (gth a (rdL form)), .int .i64 (gth a (rs1L form)), .int .i64 (gth a (rs2L form)), .int .u32 0] 50) = w4 at *
  clear hw4
  go_at_call 83
  refine (number_any _ _ ha ha' _).mono ?_
  rintro e w5 ⟨rfl, b5⟩
  have hsz03 := Nat.lt_trans (Nat.lt_trans hsz hsz1) hsz3
  replace hf := hf.below b5 hsz03
  replace hi := hi.below b5 hsz3
  replace hb0 := hb0.trans (b5.mono (Nat.le_of_lt hsz03))
  replace hsz3 := Nat.lt_of_lt_of_le hsz3 b5.size
  clear b5 hsz03
  have n03 : w.heap.size ≠ w3.heap.size := by omega
  have n30 : w3.heap.size ≠ w.heap.size := by omega
  obtain ⟨⟨a0, a1, a2, a3, a4⟩, ⟨f0, f1, f2, f3', f4⟩⟩ := hf
  obtain ⟨⟨i0, i1, i2, i3, i4⟩, ⟨j0, j1, j2, j3, j4⟩⟩ := hi
  go_wp2
  refine bodyPost_ret (v := .tuple #[decAgg op a form, .int .i64 0]) ?_ rfl ⟨rfl, ?_⟩
  · simp [results, Tryz.results53, go_sem, decAgg, a0, a1, a2, a3, a4]
  · exact (((((hb0.setCell (Nat.le_of_lt (Nat.lt_trans hsz hsz1)) _).setCell (Nat.le_refl _) _).setCell (Nat.le_refl _) _).setCell (Nat.le_refl _) _).setCell (Nat.le_refl _) _).setCell (Nat.le_refl _) _

/-- what Decode answers -/
def decV (a : Int) : Value := if chB a = true then decAgg (chR a).1 a (chR a).2.1 else zeroAgg
def decE (a : Int) : Int := if chB a = true then 0 else 20
theorem decV_yes {a : Int} (h : chB a = true) : decV a = decAgg (chR a).1 a (chR a).2.1 ∧ decE a = 0 := by unfold decV decE; rw [if_pos h, if_pos h]; exact ⟨rfl, rfl⟩
theorem decV_no {a : Int} (h : chB a = false) : decV a = zeroAgg ∧ decE a = 20 := by unfold decV decE; rw [if_neg (by simp [h]), if_neg (by simp [h])]; exact ⟨rfl, rfl⟩
theorem decode_any (a : Int) (ha : 0 ≤ a) (ha' : a < 4294967296) (w : World) (ht : TabIs w) (hg : 0 < w.heap.size) :
    Calls Tryz.prog 53 #[.int .u32 a] w fun e w' => e = .returned (.tuple #[decV a, .int .i64 (decE a)]) ∧ Below w.heap.size w w' := by
  cases h : chB a
  · rw [(decV_no h).1, (decV_no h).2]; exact decode_no a ha ha' w ht hg h
  · rw [(decV_yes h).1, (decV_yes h).2]; exact decode_yes a ha ha' w ht hg h


end Go.Proofs.YtkamljmopbocnaaGreatDoor
