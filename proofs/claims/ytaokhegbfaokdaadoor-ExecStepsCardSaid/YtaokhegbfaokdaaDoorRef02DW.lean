/- THE CONTRACT of the reference's Decode, form W. -/
import Derived.Test.YtaokhegbfaokdaaDoorR2B
import Derived.WalkLawsBesides
namespace Go.Proofs.YtaokhegbfaokdaaDoor
open Go.ChangeShapes Go.WideShapes Go.ChangeAt Go.RowKit
set_option maxRecDepth 100000

set_option linter.unusedSimpArgs false
set_option maxHeartbeats 4000000
theorem dec_W (w o N : Int) (hw : 0 ≤ w) (hop : opI w = o) (ho : 1 ≤ o ∧ o ≤ 48) (hl : formB o = 87) (hN : numV w 7 = N) (V : Value) (hV : Value.tuple #[.agg #[.int .i64 o, .int .i64 0, .int .i64 0, .int .i64 0, .int .u32 N], .int .i64 0] = V) (W : World) :
    Calls Tryd.prog 4 #[.int .u32 w] W fun e w' => e = .returned V ∧ Below W.heap.size W w' := by
  have HV := Lib.hid (show Ending.returned (Value.tuple #[.agg #[.int .i64 o, .int .i64 0, .int .i64 0, .int .i64 0, .int .u32 N], .int .i64 0]) = .returned V by rw [hV])
  have HW := Lib.hid hw
  have HO := Lib.hid hop
  have HL := Lib.hid hl
  have HN := Lib.hid hN
  have HF := Lib.hid (form_lit o.toNat (by omega) (by omega))
  have HC := Lib.hid (show ((o.toNat : Nat) : Int) = o by omega)
  have zo : (o == 0) = false := by simp; omega
  have x1 := fld_lt2 w 7 5
  have x2 := fld_lt2 w 15 5
  have x3 := fld_lt2 w 20 5
  simp only [show ((2 : Nat) ^ (5 : Int).toNat) = 32 from rfl] at x1 x2 x3
  clear hV hw hop hl hN ho
  go_enter Tryd.func4, Tryd.ntmps4
  go_wp2_with fail
  have hR := five_new W 25 (.int .i64 0) (.int .i64 0) (.int .i64 0) (.int .i64 0) (.int .u32 0)
  have hb : Below W.heap.size W (W.alloc (.cells #[.int .i64 0, .int .i64 0, .int .i64 0, .int .i64 0, .int .u32 0] 25)) := (Below.refl _ _).alloc (Nat.le_refl _) _
  have hsR : W.heap.size < (W.alloc (.cells #[.int .i64 0, .int .i64 0, .int .i64 0, .int .i64 0, .int .u32 0] 25)).heap.size := by simp
  generalize W.alloc (.cells #[.int .i64 0, .int .i64 0, .int .i64 0, .int .i64 0, .int .u32 0] 25) = w0 at *
  go_at_call 17
  refine (op_any w HW.out _).mono ?_
  rintro e w1 ⟨rfl, b⟩
  replace hR := hR.below b hsR
  replace hsR := Nat.lt_of_lt_of_le hsR b.size
  replace hb := hb.trans (b.mono hb.size)
  clear b
  rw [HO.out]
  go_wp2_with fail
  go_at_call 18
  have hf := HF.out w1
  rw [HC.out, HL.out] at hf
  refine hf.mono ?_
  clear hf
  rintro e w' ⟨rfl, rfl⟩
  go_wp2_with fail
  go_at_call 19
  refine (num_W w HW.out _).mono ?_
  rintro e w2 ⟨rfl, b⟩
  replace hR := hR.below b hsR
  replace hsR := Nat.lt_of_lt_of_le hsR b.size
  replace hb := hb.trans (b.mono hb.size)
  clear b
  rw [HN.out]
  have hBW : W.heap.size ≤ w2.heap.size := hb.size
  have hsR' := hsR
  obtain ⟨⟨r0, r1, r2, r3, r4⟩, ⟨q0, q1, q2, q3, q4⟩⟩ := hR
  have HB := Lib.hid hb
  clear hb
  go_wp2
  refine bodyPost_ret (v := .tuple #[.agg #[.int .i64 o, .int .i64 0, .int .i64 0, .int .i64 0, .int .u32 N], .int .i64 0]) ?_ rfl ⟨HV.out, ?_⟩
  · simp [results, Tryd.results4, go_sem, r0, r1, r2, r3, r4, hsR]
  · repeat (first | exact HB.out | refine Below.setCell ?_ (by exact Nat.le_refl _) _ | refine Below.alloc ?_ (by simp; omega) _)

end Go.Proofs.YtaokhegbfaokdaaDoor
