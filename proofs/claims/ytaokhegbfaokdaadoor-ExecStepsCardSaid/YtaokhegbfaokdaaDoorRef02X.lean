/- THE CONTRACT of the reference's Decode: it answers as Decode does. -/
import Derived.Test.YtaokhegbfaokdaaDoorRef02DR
import Derived.Test.YtaokhegbfaokdaaDoorRef02DI
import Derived.Test.YtaokhegbfaokdaaDoorRef02DS
import Derived.Test.YtaokhegbfaokdaaDoorRef02DU
import Derived.Test.YtaokhegbfaokdaaDoorRef02DW
namespace Go.Proofs.YtaokhegbfaokdaaDoor
open Go.ChangeShapes Go.WideShapes Go.ChangeAt Go.RowKit
set_option maxRecDepth 100000

theorem refDec_no (w : Int) (hw : 0 ≤ w) (h : chB w = false) (W : World) :
    Calls Tryd.prog 4 #[.int .u32 w] W fun e w' => e = .returned (.tuple #[zeroAgg, .int .i64 20]) ∧ Below W.heap.size W w' := by
  have HO := Lib.hid (show opI w = 0 by rw [op_eq, if_neg (by simp [h])])
  clear h
  go_enter Tryd.func4, Tryd.ntmps4
  go_wp2_with fail
  have hR := five_new W 25 (.int .i64 0) (.int .i64 0) (.int .i64 0) (.int .i64 0) (.int .u32 0)
  have hb : Below W.heap.size W (W.alloc (.cells #[.int .i64 0, .int .i64 0, .int .i64 0, .int .i64 0, .int .u32 0] 25)) := (Below.refl _ _).alloc (Nat.le_refl _) _
  have hsR : W.heap.size < (W.alloc (.cells #[.int .i64 0, .int .i64 0, .int .i64 0, .int .i64 0, .int .u32 0] 25)).heap.size := by simp
  generalize W.alloc (.cells #[.int .i64 0, .int .i64 0, .int .i64 0, .int .i64 0, .int .u32 0] 25) = w0 at *
  go_at_call 17
  refine (op_any w hw _).mono ?_
  rintro e w1 ⟨rfl, b⟩
  replace hR := hR.below b hsR
  replace hsR := Nat.lt_of_lt_of_le hsR b.size
  replace hb := hb.trans (b.mono hb.size)
  clear b
  rw [HO.out]
  have HB := Lib.hid hb
  obtain ⟨⟨r0, r1, r2, r3, r4⟩, ⟨q0, q1, q2, q3, q4⟩⟩ := hR
  clear hb
  go_wp2
  refine bodyPost_ret (v := .tuple #[zeroAgg, .int .i64 20]) ?_ rfl ⟨rfl, ?_⟩
  · simp [results, Tryd.results4, go_sem, zeroAgg, r0, r1, r2, r3, r4]
  · repeat (first | exact HB.out | refine Below.setCell ?_ (by exact Nat.le_refl _) _)

theorem refDec_any (w : Int) (hw : 0 ≤ w ∧ w < 4294967296) (W : World) :
    Calls Tryd.prog 4 #[.int .u32 w] W fun e w' => e = .returned (.tuple #[decV w, .int .i64 (decE w)]) ∧ Below W.heap.size W w' := by
  cases h : chB w
  · rw [(decV_no h).1, (decV_no h).2]; exact refDec_no w hw.1 h W
  · have ok := kindW_ok w h
    unfold kindOK at ok
    obtain ⟨_, _, _, _, _, _, _, _, _, f0, f7, i4, i6, i5, i2, i7, i3, o1, o48⟩ := ok
    have ho : 1 ≤ (chR w).1 ∧ (chR w).1 ≤ 48 := ⟨o1, o48⟩
    have hop : opI w = (chR w).1 := by rw [op_eq, if_pos h]
    have hl : formB (chR w).1 = letF (chR w).2.1 := letters _ (chR_mem w h)
    have g1 := gth_one w 7 5 (by omega)
    have g2 := gth_one w 15 5 (by omega)
    have g3 := gth_one w 20 5 (by omega)
    have gn := gth_nil w
    obtain e | e | e | e | e | e | e | e : 0 = (chR w).2.1 ∨ 1 = (chR w).2.1 ∨ 2 = (chR w).2.1 ∨ 3 = (chR w).2.1 ∨ 4 = (chR w).2.1 ∨ 5 = (chR w).2.1 ∨ 6 = (chR w).2.1 ∨ 7 = (chR w).2.1 := by omega
    · have hV : Value.tuple #[.agg #[.int .i64 (chR w).1, .int .i64 ((fld w 7 5 : Nat) : Int), .int .i64 ((fld w 15 5 : Nat) : Int), .int .i64 ((fld w 20 5 : Nat) : Int), .int .u32 (numV w 0)], .int .i64 0] = .tuple #[decV w, .int .i64 (decE w)] := by
        rw [(decV_yes h).1, (decV_yes h).2, ← e]
        unfold decAgg
        rw [show rdL 0 = [(7, 5)] from rfl, show rs1L 0 = [(15, 5)] from rfl, show rs2L 0 = [(20, 5)] from rfl, g1, g2, g3]
      exact dec_R w (chR w).1 (numV w 0) hw.1 hop ho (by rw [hl, ← e]; rfl) rfl _ hV W
    · have hV : Value.tuple #[.agg #[.int .i64 (chR w).1, .int .i64 ((fld w 7 5 : Nat) : Int), .int .i64 ((fld w 15 5 : Nat) : Int), .int .i64 0, .int .u32 (numV w 1)], .int .i64 0] = .tuple #[decV w, .int .i64 (decE w)] := by
        rw [(decV_yes h).1, (decV_yes h).2, ← e]
        unfold decAgg
        rw [show rdL 1 = [(7, 5)] from rfl, show rs1L 1 = [(15, 5)] from rfl, show rs2L 1 = [] from rfl, g1, g2, gn]
      exact dec_I w (chR w).1 (numV w 1) hw.1 hop ho (by rw [hl, ← e]; rfl) rfl _ hV W
    · have hV : Value.tuple #[.agg #[.int .i64 (chR w).1, .int .i64 ((fld w 7 5 : Nat) : Int), .int .i64 ((fld w 15 5 : Nat) : Int), .int .i64 0, .int .u32 (numV w 2)], .int .i64 0] = .tuple #[decV w, .int .i64 (decE w)] := by
        rw [(decV_yes h).1, (decV_yes h).2, ← e]
        unfold decAgg
        rw [show rdL 2 = [(7, 5)] from rfl, show rs1L 2 = [(15, 5)] from rfl, show rs2L 2 = [] from rfl, g1, g2, gn]
      exact dec_T w (chR w).1 (numV w 2) hw.1 hop ho (by rw [hl, ← e]; rfl) rfl _ hV W
    · have hV : Value.tuple #[.agg #[.int .i64 (chR w).1, .int .i64 0, .int .i64 ((fld w 15 5 : Nat) : Int), .int .i64 ((fld w 20 5 : Nat) : Int), .int .u32 (numV w 3)], .int .i64 0] = .tuple #[decV w, .int .i64 (decE w)] := by
        rw [(decV_yes h).1, (decV_yes h).2, ← e]
        unfold decAgg
        rw [show rdL 3 = [] from rfl, show rs1L 3 = [(15, 5)] from rfl, show rs2L 3 = [(20, 5)] from rfl, g2, g3, gn]
      exact dec_S w (chR w).1 (numV w 3) hw.1 hop ho (by rw [hl, ← e]; rfl) rfl _ hV W
    · have hV : Value.tuple #[.agg #[.int .i64 (chR w).1, .int .i64 0, .int .i64 ((fld w 15 5 : Nat) : Int), .int .i64 ((fld w 20 5 : Nat) : Int), .int .u32 (numV w 4)], .int .i64 0] = .tuple #[decV w, .int .i64 (decE w)] := by
        rw [(decV_yes h).1, (decV_yes h).2, ← e]
        unfold decAgg
        rw [show rdL 4 = [] from rfl, show rs1L 4 = [(15, 5)] from rfl, show rs2L 4 = [(20, 5)] from rfl, g2, g3, gn]
      exact dec_B w (chR w).1 (numV w 4) hw.1 hop ho (by rw [hl, ← e]; rfl) rfl _ hV W
    · have hV : Value.tuple #[.agg #[.int .i64 (chR w).1, .int .i64 ((fld w 7 5 : Nat) : Int), .int .i64 0, .int .i64 0, .int .u32 (numV w 5)], .int .i64 0] = .tuple #[decV w, .int .i64 (decE w)] := by
        rw [(decV_yes h).1, (decV_yes h).2, ← e]
        unfold decAgg
        rw [show rdL 5 = [(7, 5)] from rfl, show rs1L 5 = [] from rfl, show rs2L 5 = [] from rfl, g1, gn]
      exact dec_U w (chR w).1 (numV w 5) hw.1 hop ho (by rw [hl, ← e]; rfl) rfl _ hV W
    · have hV : Value.tuple #[.agg #[.int .i64 (chR w).1, .int .i64 ((fld w 7 5 : Nat) : Int), .int .i64 0, .int .i64 0, .int .u32 (numV w 6)], .int .i64 0] = .tuple #[decV w, .int .i64 (decE w)] := by
        rw [(decV_yes h).1, (decV_yes h).2, ← e]
        unfold decAgg
        rw [show rdL 6 = [(7, 5)] from rfl, show rs1L 6 = [] from rfl, show rs2L 6 = [] from rfl, g1, gn]
      exact dec_J w (chR w).1 (numV w 6) hw.1 hop ho (by rw [hl, ← e]; rfl) rfl _ hV W
    · have hV : Value.tuple #[.agg #[.int .i64 (chR w).1, .int .i64 0, .int .i64 0, .int .i64 0, .int .u32 (numV w 7)], .int .i64 0] = .tuple #[decV w, .int .i64 (decE w)] := by
        rw [(decV_yes h).1, (decV_yes h).2, ← e]
        unfold decAgg
        rw [show rdL 7 = [] from rfl, show rs1L 7 = [] from rfl, show rs2L 7 = [] from rfl, gn]
      exact dec_W w (chR w).1 (numV w 7) hw.1 hop ho (by rw [hl, ← e]; rfl) rfl _ hV W

end Go.Proofs.YtaokhegbfaokdaaDoor
