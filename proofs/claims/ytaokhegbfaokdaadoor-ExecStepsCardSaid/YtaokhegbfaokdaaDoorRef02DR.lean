/- THE CONTRACT of the reference's Decode, forms R. -/
import Derived.Test.YtaokhegbfaokdaaDoorR2B
import Derived.WalkLawsBesides
namespace Go.Proofs.YtaokhegbfaokdaaDoor
open Go.ChangeShapes Go.WideShapes Go.ChangeAt Go.RowKit
set_option maxRecDepth 100000

set_option linter.unusedSimpArgs false
set_option maxHeartbeats 4000000
theorem dec_R (w o N : Int) (hw : 0 ≤ w) (hop : opI w = o) (ho : 1 ≤ o ∧ o ≤ 48) (hl : formB o = 82) (hN : numV w 0 = N) (V : Value) (hV : Value.tuple #[.agg #[.int .i64 o, .int .i64 ((fld w 7 5 : Nat) : Int), .int .i64 ((fld w 15 5 : Nat) : Int), .int .i64 ((fld w 20 5 : Nat) : Int), .int .u32 N], .int .i64 0] = V) (W : World) :
    Calls Tryd.prog 4 #[.int .u32 w] W fun e w' => e = .returned V ∧ Below W.heap.size W w' := by
  have HV := Lib.hid (show Ending.returned (Value.tuple #[.agg #[.int .i64 o, .int .i64 ((fld w 7 5 : Nat) : Int), .int .i64 ((fld w 15 5 : Nat) : Int), .int .i64 ((fld w 20 5 : Nat) : Int), .int .u32 N], .int .i64 0]) = .returned V by rw [hV])
  have HW := Lib.hid hw
  have HO := Lib.hid hop
  have HL := Lib.hid hl
  have HN := Lib.hid hN
  have HF := Lib.hid (form_lit o.toNat (by omega) (by omega))
  have HC := Lib.hid (show ((o.toNat : Nat) : Int) = o by omega)
  have zo : (o == 0) = false := by simp; omega
  have x1 := fld_lt2 w 7 5
  have x2 := fld_lt2 w 15 5
  have x3 := fld_lt2 w 20 5
  simp only [show ((2 : Nat) ^ (5 : Int).toNat) = 32 from rfl] at x1 x2 x3
  clear hV hw hop hl hN ho
  go_enter Tryd.func4, Tryd.ntmps4
  go_wp2_with fail
  have hR := five_new W 25 (.int .i64 0) (.int .i64 0) (.int .i64 0) (.int .i64 0) (.int .u32 0)
  have hb : Below W.heap.size W (W.alloc (.cells #[.int .i64 0, .int .i64 0, .int .i64 0, .int .i64 0, .int .u32 0] 25)) := (Below.refl _ _).alloc (Nat.le_refl _) _
  have hsR : W.heap.size < (W.alloc (.cells #[.int .i64 0, .int .i64 0, .int .i64 0, .int .i64 0, .int .u32 0] 25)).heap.size := by simp
  generalize W.alloc (.cells #[.int .i64 0, .int .i64 0, .int .i64 0, .int .i64 0, .int .u32 0] 25) = w0 at *
  go_at_call 17
  refine (op_any w HW.out _).mono ?_
  rintro e w1 ⟨rfl, b⟩
  replace hR := hR.below b hsR
  replace hsR := Nat.lt_of_lt_of_le hsR b.size
  replace hb := hb.trans (b.mono hb.size)
  clear b
  rw [HO.out]
  go_wp2_with fail
  go_at_call 18
  have hf := HF.out w1
  rw [HC.out, HL.out] at hf
  refine hf.mono ?_
  clear hf
  rintro e w' ⟨rfl, rfl⟩
  go_wp2_with fail
  go_at_call 19
  refine (num_R w HW.out _).mono ?_
  rintro e w2 ⟨rfl, b⟩
  replace hR := hR.below b hsR
  replace hsR := Nat.lt_of_lt_of_le hsR b.size
  replace hb := hb.trans (b.mono hb.size)
  clear b
  rw [HN.out]
  go_wp2_with fail
  have hI := five_new w2 25 (.int .i64 o) (.int .i64 0) (.int .i64 0) (.int .i64 0) (.int .u32 N)
  have bx : Below w2.heap.size w2 (w2.alloc (.cells #[.int .i64 o, .int .i64 0, .int .i64 0, .int .i64 0, .int .u32 N] 25)) := (Below.refl _ _).alloc (Nat.le_refl _) _
  have hsI : w2.heap.size < (w2.alloc (.cells #[.int .i64 o, .int .i64 0, .int .i64 0, .int .i64 0, .int .u32 N] 25)).heap.size := by simp
  have hne : w2.heap.size ≠ W.heap.size := Nat.ne_of_gt hsR
  have hBW : W.heap.size ≤ w2.heap.size := hb.size
  replace hR := hR.below bx hsR
  replace hsR := Nat.lt_of_lt_of_le hsR bx.size
  replace hb := hb.trans (bx.mono hb.size)
  clear bx
  generalize w2.alloc (.cells #[.int .i64 o, .int .i64 0, .int .i64 0, .int .i64 0, .int .u32 N] 25) = w3 at *
  generalize w2.heap.size = B at *
  go_at_call 20
  refine (refF_any w 7 11 5 HW.out (by decide) (by decide) (by decide) rfl _).mono ?_
  rintro e wf ⟨rfl, b⟩
  replace hI := hI.below b hsI
  replace hR := hR.below b hsR
  replace hsI := Nat.lt_of_lt_of_le hsI b.size
  replace hsR := Nat.lt_of_lt_of_le hsR b.size
  replace hb := hb.trans (b.mono hb.size)
  clear b
  have HI := Lib.hid hI
  have HR := Lib.hid hR
  obtain ⟨⟨a0, a1, a2, a3, a4⟩, ⟨f0, f1, f2, f3, f4⟩⟩ := hI
  clear hR
  go_wp2_with fail
  clear a0 a1 a2 a3 a4 f0 f1 f2 f3 f4
  have hI := fset1 HI.out (.int .i64 ((fld w 7 5 : Nat) : Int))
  have hR := fset_far HR.out hne (.int .i64 ((fld w 7 5 : Nat) : Int)) 1
  have hz : (wf.setCell ⟨B, 1, none⟩ (.int .i64 ((fld w 7 5 : Nat) : Int))).heap.size = wf.heap.size := by simp [World.setCell]
  replace hb := hb.setCell (p := ⟨B, 1, none⟩) hBW (.int .i64 ((fld w 7 5 : Nat) : Int))
  rw [← hz] at hsI hsR
  clear HI HR hz
  generalize wf.setCell ⟨B, 1, none⟩ (.int .i64 ((fld w 7 5 : Nat) : Int)) = wg at *
  go_at_call 20
  refine (refF_any w 15 19 5 HW.out (by decide) (by decide) (by decide) rfl _).mono ?_
  rintro e wf ⟨rfl, b⟩
  replace hI := hI.below b hsI
  replace hR := hR.below b hsR
  replace hsI := Nat.lt_of_lt_of_le hsI b.size
  replace hsR := Nat.lt_of_lt_of_le hsR b.size
  replace hb := hb.trans (b.mono hb.size)
  clear b
  have HI := Lib.hid hI
  have HR := Lib.hid hR
  obtain ⟨⟨a0, a1, a2, a3, a4⟩, ⟨f0, f1, f2, f3, f4⟩⟩ := hI
  clear hR
  go_wp2_with fail
  clear a0 a1 a2 a3 a4 f0 f1 f2 f3 f4
  have hI := fset2 HI.out (.int .i64 ((fld w 15 5 : Nat) : Int))
  have hR := fset_far HR.out hne (.int .i64 ((fld w 15 5 : Nat) : Int)) 2
  have hz : (wf.setCell ⟨B, 2, none⟩ (.int .i64 ((fld w 15 5 : Nat) : Int))).heap.size = wf.heap.size := by simp [World.setCell]
  replace hb := hb.setCell (p := ⟨B, 2, none⟩) hBW (.int .i64 ((fld w 15 5 : Nat) : Int))
  rw [← hz] at hsI hsR
  clear HI HR hz
  generalize wf.setCell ⟨B, 2, none⟩ (.int .i64 ((fld w 15 5 : Nat) : Int)) = wg at *
  go_at_call 20
  refine (refF_any w 20 24 5 HW.out (by decide) (by decide) (by decide) rfl _).mono ?_
  rintro e wf ⟨rfl, b⟩
  replace hI := hI.below b hsI
  replace hR := hR.below b hsR
  replace hsI := Nat.lt_of_lt_of_le hsI b.size
  replace hsR := Nat.lt_of_lt_of_le hsR b.size
  replace hb := hb.trans (b.mono hb.size)
  clear b
  have HI := Lib.hid hI
  have HR := Lib.hid hR
  clear HI HR
  obtain ⟨⟨a0, a1, a2, a3, a4⟩, ⟨f0, f1, f2, f3, f4⟩⟩ := hI
  obtain ⟨⟨r0, r1, r2, r3, r4⟩, ⟨q0, q1, q2, q3, q4⟩⟩ := hR
  have HB := Lib.hid hb
  have hne' := Ne.symm hne
  clear hb
  go_wp2
  refine bodyPost_ret (v := .tuple #[.agg #[.int .i64 o, .int .i64 ((fld w 7 5 : Nat) : Int), .int .i64 ((fld w 15 5 : Nat) : Int), .int .i64 ((fld w 20 5 : Nat) : Int), .int .u32 N], .int .i64 0]) ?_ rfl ⟨by first | exact HV.out | (rw [HV.out]; done), ?_⟩
  · simp [results, Tryd.results4, go_sem, a0, a1, a2, a3, a4, r0, r1, r2, r3, r4, hne, hne']
  · repeat (first | exact HB.out | refine Below.setCell ?_ (by first | exact Nat.le_refl _ | exact hBW) _)

end Go.Proofs.YtaokhegbfaokdaaDoor
