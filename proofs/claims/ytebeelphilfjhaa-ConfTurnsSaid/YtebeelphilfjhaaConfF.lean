/- few of auspexlaw08. -/
import Derived.Test.YtebeelphilfjhaaConfM
import Derived.BigRegion
namespace Go.Proofs.Ytebeelphilfjhaa
open Go.ChangeShapes Go.WideShapes Go.ChangeAt Go.RowKit
set_option linter.unusedVariables false
set_option linter.unusedSimpArgs false

def cfFew (c : Cf) : Cf := { c with ln := min c.ln 100, tn := min c.tn 100 }
theorem CfAt.few {w : World} {c : Cf} {lat tape : List Int} (h : CfAt w c lat tape) : CfAt w (cfFew c) (lat.take (min c.ln 100)) (tape.take (min c.tn 100)) :=
  ⟨h.1.take (Nat.min_le_left _ _), h.2.1.take (Nat.min_le_left _ _), by have := h.2.2.1; simp only [cfFew]; omega, h.2.2.2.1, by have := h.2.2.2.2.1; simp only [cfFew]; omega, h.2.2.2.2.2⟩
set_option maxHeartbeats 1000000
set_option maxRecDepth 100000
theorem Blk.drew {w : World} {b : Nat} {cs : List Value} (h : Blk w b cs) : Blk w.drew b cs := h
theorem below_drewC {B : Nat} {a w : World} (h : Below B a w) : Below B a w.drew := ⟨h.os, h.tape, h.output, h.size, h.block⟩
theorem few08_any (c : Cf) (lat tape : List Int) (w : World) (h : CfAt w c lat tape) :
    Calls Try.prog 20 #[cfV c] w fun e w' => e = .returned (cfV (cfFew c)) ∧ Below w.heap.size w w' := by
  obtain ⟨mode, width, rob, queue, stores, slots, sets, ways, la, ln, lc, tb, ta, tn, tc⟩ := c
  obtain ⟨-, -, q1, q2, q3, q4⟩ := h
  unfold maxLen at q2 q4
  simp only at q1 q2 q3 q4
  simp only [cfV]
  by_cases a1 : ln ≤ 100
  · have m1 : min ln 100 = ln := Nat.min_eq_left a1
    have a1' : (ln : Int) ≤ 100 := by omega
    have M1 := Lib.hid m1
    clear m1
    by_cases a2 : tn ≤ 100
    · have m2 : min tn 100 = tn := Nat.min_eq_left a2
      have a2' : (tn : Int) ≤ 100 := by omega
      have M2 := Lib.hid m2
      clear m2
      have hB := Blk.new w 25 (cfL ⟨mode, width, rob, queue, stores, slots, sets, ways, la, ln, lc, tb, ta, tn, tc⟩)
      have hR := Blk.new (w.alloc (.cells (cfL ⟨mode, width, rob, queue, stores, slots, sets, ways, la, ln, lc, tb, ta, tn, tc⟩).toArray 25)) 25 (cfL ⟨0, 0, 0, 0, 0, 0, 0, 0, none, 0, 0, false, none, 0, 0⟩)
      have hB2 := hB.below ((Below.refl _ _).alloc (Nat.le_refl _) (.cells (cfL ⟨0, 0, 0, 0, 0, 0, 0, 0, none, 0, 0, false, none, 0, 0⟩).toArray 25)) (by simp)
      have hb0 := (allocl_below w (.cells (cfL ⟨mode, width, rob, queue, stores, slots, sets, ways, la, ln, lc, tb, ta, tn, tc⟩).toArray 25))
      have hb := hb0.alloc hb0.size (.cells (cfL ⟨0, 0, 0, 0, 0, 0, 0, 0, none, 0, 0, false, none, 0, 0⟩).toArray 25)
      rw [show (w.alloc (.cells (cfL ⟨mode, width, rob, queue, stores, slots, sets, ways, la, ln, lc, tb, ta, tn, tc⟩).toArray 25)).heap.size = w.heap.size + 1 by simp] at hR
      simp only [cfL] at hB2 hR hb
      clear hB hb0
      go_enter Try.func20, Try.ntmps20
      go_wp2_with fail
      generalize (w.alloc (.cells #[.int .i64 mode, .int .i64 width, .int .i64 rob, .int .i64 queue, .int .i64 stores, .int .i64 slots, .int .i64 sets, .int .i64 ways, .slice la ln lc, .bool tb, .slice ta tn tc] 25)).alloc (.cells #[.int .i64 0, .int .i64 0, .int .i64 0, .int .i64 0, .int .i64 0, .int .i64 0, .int .i64 0, .int .i64 0, .slice none 0 0, .bool false, .slice none 0 0] 25) = w2 at *
      have c8 := hB2.2.1 8 _ rfl
      have c10 := hB2.2.1 10 _ rfl
      have f8 := hB2.2.2 8 (by simp)
      have f10 := hB2.2.2 10 (by simp)
      have hB3 := (hB2.set (i := 8) (v := .slice la ln lc) (by simp)).set (i := 10) (v := .slice ta tn tc) (by simp)
      have hR3 := (hR.other (p := ⟨w.heap.size, 8, none⟩) (v := .slice la ln lc) (fun e => absurd e (by simp))).other (p := ⟨w.heap.size, 10, none⟩) (v := .slice ta tn tc) (fun e => absurd e (by simp))
      have hb3 := (hb.setCell (p := ⟨w.heap.size, 8, none⟩) (Nat.le_refl _) (.slice la ln lc)).setCell (p := ⟨w.heap.size, 10, none⟩) (Nat.le_refl _) (.slice ta tn tc)
      simp only [List.set] at hB3
      have HB3 := Lib.hid hB3
      have HR3 := Lib.hid hR3
      have Hb3 := Lib.hid hb3
      clear hB2 hR hb hB3 hR3 hb3
      go_region
      have hB4 : Blk _ w.heap.size _ := Blk.drew HB3.out
      have hR4 : Blk _ (w.heap.size + 1) _ := Blk.drew HR3.out
      have hb4 : Below w.heap.size w _ := below_drewC Hb3.out
      clear c8 c10 f8 f10 HB3 HR3 Hb3
      generalize ((w2.setCell ⟨w.heap.size, 8, none⟩ (.slice la ln lc)).setCell ⟨w.heap.size, 10, none⟩ (.slice ta tn tc)).drew = w4 at *
      obtain ⟨⟨x0, x1, x2, x3, x4, x5, x6, x7, x8, x9, x10⟩, _⟩ := hB4.c11
      obtain ⟨⟨y0, y1, y2, y3, y4, y5, y6, y7, y8, y9, y10⟩, ⟨z0, z1, z2, z3, z4, z5, z6, z7, z8, z9, z10⟩⟩ := hR4.c11
      have hne : ¬ w.heap.size = w.heap.size + 1 := by omega
      go_wp2
      refine bodyPost_ret (v := .agg #[.int .i64 mode, .int .i64 width, .int .i64 rob, .int .i64 queue, .int .i64 stores, .int .i64 slots, .int .i64 sets, .int .i64 ways, .slice la ln lc, .bool tb, .slice ta tn tc]) ?_ rfl ⟨?_, ?_⟩
      · simp [results, Try.results20, go_sem, x0, x1, x2, x3, x4, x5, x6, x7, x8, x9, x10, y0, y1, y2, y3, y4, y5, y6, y7, y8, y9, y10]
      · simp only [cfFew, M1.out, M2.out]
      · exact below11 hb4 (by omega)
    · have m2 : min tn 100 = 100 := Nat.min_eq_right (by omega)
      have a2' : 100 < (tn : Int) := by omega
      have a2'' : 100 < tc := by omega
      have M2 := Lib.hid m2
      clear m2 a2
      have hB := Blk.new w 25 (cfL ⟨mode, width, rob, queue, stores, slots, sets, ways, la, ln, lc, tb, ta, tn, tc⟩)
      have hR := Blk.new (w.alloc (.cells (cfL ⟨mode, width, rob, queue, stores, slots, sets, ways, la, ln, lc, tb, ta, tn, tc⟩).toArray 25)) 25 (cfL ⟨0, 0, 0, 0, 0, 0, 0, 0, none, 0, 0, false, none, 0, 0⟩)
      have hB2 := hB.below ((Below.refl _ _).alloc (Nat.le_refl _) (.cells (cfL ⟨0, 0, 0, 0, 0, 0, 0, 0, none, 0, 0, false, none, 0, 0⟩).toArray 25)) (by simp)
      have hb0 := (allocl_below w (.cells (cfL ⟨mode, width, rob, queue, stores, slots, sets, ways, la, ln, lc, tb, ta, tn, tc⟩).toArray 25))
      have hb := hb0.alloc hb0.size (.cells (cfL ⟨0, 0, 0, 0, 0, 0, 0, 0, none, 0, 0, false, none, 0, 0⟩).toArray 25)
      rw [show (w.alloc (.cells (cfL ⟨mode, width, rob, queue, stores, slots, sets, ways, la, ln, lc, tb, ta, tn, tc⟩).toArray 25)).heap.size = w.heap.size + 1 by simp] at hR
      simp only [cfL] at hB2 hR hb
      clear hB hb0
      go_enter Try.func20, Try.ntmps20
      go_wp2_with fail
      generalize (w.alloc (.cells #[.int .i64 mode, .int .i64 width, .int .i64 rob, .int .i64 queue, .int .i64 stores, .int .i64 slots, .int .i64 sets, .int .i64 ways, .slice la ln lc, .bool tb, .slice ta tn tc] 25)).alloc (.cells #[.int .i64 0, .int .i64 0, .int .i64 0, .int .i64 0, .int .i64 0, .int .i64 0, .int .i64 0, .int .i64 0, .slice none 0 0, .bool false, .slice none 0 0] 25) = w2 at *
      have c8 := hB2.2.1 8 _ rfl
      have c10 := hB2.2.1 10 _ rfl
      have f8 := hB2.2.2 8 (by simp)
      have f10 := hB2.2.2 10 (by simp)
      have hB3 := (hB2.set (i := 8) (v := .slice la ln lc) (by simp)).set (i := 10) (v := .slice ta 100 tc) (by simp)
      have hR3 := (hR.other (p := ⟨w.heap.size, 8, none⟩) (v := .slice la ln lc) (fun e => absurd e (by simp))).other (p := ⟨w.heap.size, 10, none⟩) (v := .slice ta 100 tc) (fun e => absurd e (by simp))
      have hb3 := (hb.setCell (p := ⟨w.heap.size, 8, none⟩) (Nat.le_refl _) (.slice la ln lc)).setCell (p := ⟨w.heap.size, 10, none⟩) (Nat.le_refl _) (.slice ta 100 tc)
      simp only [List.set] at hB3
      have HB3 := Lib.hid hB3
      have HR3 := Lib.hid hR3
      have Hb3 := Lib.hid hb3
      clear hB2 hR hb hB3 hR3 hb3
      go_region
      have hB4 : Blk _ w.heap.size _ := Blk.drew HB3.out
      have hR4 : Blk _ (w.heap.size + 1) _ := Blk.drew HR3.out
      have hb4 : Below w.heap.size w _ := below_drewC Hb3.out
      clear c8 c10 f8 f10 HB3 HR3 Hb3
      generalize ((w2.setCell ⟨w.heap.size, 8, none⟩ (.slice la ln lc)).setCell ⟨w.heap.size, 10, none⟩ (.slice ta 100 tc)).drew = w4 at *
      obtain ⟨⟨x0, x1, x2, x3, x4, x5, x6, x7, x8, x9, x10⟩, _⟩ := hB4.c11
      obtain ⟨⟨y0, y1, y2, y3, y4, y5, y6, y7, y8, y9, y10⟩, ⟨z0, z1, z2, z3, z4, z5, z6, z7, z8, z9, z10⟩⟩ := hR4.c11
      have hne : ¬ w.heap.size = w.heap.size + 1 := by omega
      go_wp2
      refine bodyPost_ret (v := .agg #[.int .i64 mode, .int .i64 width, .int .i64 rob, .int .i64 queue, .int .i64 stores, .int .i64 slots, .int .i64 sets, .int .i64 ways, .slice la ln lc, .bool tb, .slice ta 100 tc]) ?_ rfl ⟨?_, ?_⟩
      · simp [results, Try.results20, go_sem, x0, x1, x2, x3, x4, x5, x6, x7, x8, x9, x10, y0, y1, y2, y3, y4, y5, y6, y7, y8, y9, y10]
      · simp only [cfFew, M1.out, M2.out]
      · exact below11 hb4 (by omega)
  · have m1 : min ln 100 = 100 := Nat.min_eq_right (by omega)
    have a1' : 100 < (ln : Int) := by omega
    have a1'' : 100 < lc := by omega
    have M1 := Lib.hid m1
    clear m1 a1
    by_cases a2 : tn ≤ 100
    · have m2 : min tn 100 = tn := Nat.min_eq_left a2
      have a2' : (tn : Int) ≤ 100 := by omega
      have M2 := Lib.hid m2
      clear m2
      have hB := Blk.new w 25 (cfL ⟨mode, width, rob, queue, stores, slots, sets, ways, la, ln, lc, tb, ta, tn, tc⟩)
      have hR := Blk.new (w.alloc (.cells (cfL ⟨mode, width, rob, queue, stores, slots, sets, ways, la, ln, lc, tb, ta, tn, tc⟩).toArray 25)) 25 (cfL ⟨0, 0, 0, 0, 0, 0, 0, 0, none, 0, 0, false, none, 0, 0⟩)
      have hB2 := hB.below ((Below.refl _ _).alloc (Nat.le_refl _) (.cells (cfL ⟨0, 0, 0, 0, 0, 0, 0, 0, none, 0, 0, false, none, 0, 0⟩).toArray 25)) (by simp)
      have hb0 := (allocl_below w (.cells (cfL ⟨mode, width, rob, queue, stores, slots, sets, ways, la, ln, lc, tb, ta, tn, tc⟩).toArray 25))
      have hb := hb0.alloc hb0.size (.cells (cfL ⟨0, 0, 0, 0, 0, 0, 0, 0, none, 0, 0, false, none, 0, 0⟩).toArray 25)
      rw [show (w.alloc (.cells (cfL ⟨mode, width, rob, queue, stores, slots, sets, ways, la, ln, lc, tb, ta, tn, tc⟩).toArray 25)).heap.size = w.heap.size + 1 by simp] at hR
      simp only [cfL] at hB2 hR hb
      clear hB hb0
      go_enter Try.func20, Try.ntmps20
      go_wp2_with fail
      generalize (w.alloc (.cells #[.int .i64 mode, .int .i64 width, .int .i64 rob, .int .i64 queue, .int .i64 stores, .int .i64 slots, .int .i64 sets, .int .i64 ways, .slice la ln lc, .bool tb, .slice ta tn tc] 25)).alloc (.cells #[.int .i64 0, .int .i64 0, .int .i64 0, .int .i64 0, .int .i64 0, .int .i64 0, .int .i64 0, .int .i64 0, .slice none 0 0, .bool false, .slice none 0 0] 25) = w2 at *
      have c8 := hB2.2.1 8 _ rfl
      have c10 := hB2.2.1 10 _ rfl
      have f8 := hB2.2.2 8 (by simp)
      have f10 := hB2.2.2 10 (by simp)
      have hB3 := (hB2.set (i := 8) (v := .slice la 100 lc) (by simp)).set (i := 10) (v := .slice ta tn tc) (by simp)
      have hR3 := (hR.other (p := ⟨w.heap.size, 8, none⟩) (v := .slice la 100 lc) (fun e => absurd e (by simp))).other (p := ⟨w.heap.size, 10, none⟩) (v := .slice ta tn tc) (fun e => absurd e (by simp))
      have hb3 := (hb.setCell (p := ⟨w.heap.size, 8, none⟩) (Nat.le_refl _) (.slice la 100 lc)).setCell (p := ⟨w.heap.size, 10, none⟩) (Nat.le_refl _) (.slice ta tn tc)
      simp only [List.set] at hB3
      have HB3 := Lib.hid hB3
      have HR3 := Lib.hid hR3
      have Hb3 := Lib.hid hb3
      clear hB2 hR hb hB3 hR3 hb3
      go_region
      have hB4 : Blk _ w.heap.size _ := Blk.drew HB3.out
      have hR4 : Blk _ (w.heap.size + 1) _ := Blk.drew HR3.out
      have hb4 : Below w.heap.size w _ := below_drewC Hb3.out
      clear c8 c10 f8 f10 HB3 HR3 Hb3
      generalize ((w2.setCell ⟨w.heap.size, 8, none⟩ (.slice la 100 lc)).setCell ⟨w.heap.size, 10, none⟩ (.slice ta tn tc)).drew = w4 at *
      obtain ⟨⟨x0, x1, x2, x3, x4, x5, x6, x7, x8, x9, x10⟩, _⟩ := hB4.c11
      obtain ⟨⟨y0, y1, y2, y3, y4, y5, y6, y7, y8, y9, y10⟩, ⟨z0, z1, z2, z3, z4, z5, z6, z7, z8, z9, z10⟩⟩ := hR4.c11
      have hne : ¬ w.heap.size = w.heap.size + 1 := by omega
      go_wp2
      refine bodyPost_ret (v := .agg #[.int .i64 mode, .int .i64 width, .int .i64 rob, .int .i64 queue, .int .i64 stores, .int .i64 slots, .int .i64 sets, .int .i64 ways, .slice la 100 lc, .bool tb, .slice ta tn tc]) ?_ rfl ⟨?_, ?_⟩
      · simp [results, Try.results20, go_sem, x0, x1, x2, x3, x4, x5, x6, x7, x8, x9, x10, y0, y1, y2, y3, y4, y5, y6, y7, y8, y9, y10]
      · simp only [cfFew, M1.out, M2.out]
      · exact below11 hb4 (by omega)
    · have m2 : min tn 100 = 100 := Nat.min_eq_right (by omega)
      have a2' : 100 < (tn : Int) := by omega
      have a2'' : 100 < tc := by omega
      have M2 := Lib.hid m2
      clear m2 a2
      have hB := Blk.new w 25 (cfL ⟨mode, width, rob, queue, stores, slots, sets, ways, la, ln, lc, tb, ta, tn, tc⟩)
      have hR := Blk.new (w.alloc (.cells (cfL ⟨mode, width, rob, queue, stores, slots, sets, ways, la, ln, lc, tb, ta, tn, tc⟩).toArray 25)) 25 (cfL ⟨0, 0, 0, 0, 0, 0, 0, 0, none, 0, 0, false, none, 0, 0⟩)
      have hB2 := hB.below ((Below.refl _ _).alloc (Nat.le_refl _) (.cells (cfL ⟨0, 0, 0, 0, 0, 0, 0, 0, none, 0, 0, false, none, 0, 0⟩).toArray 25)) (by simp)
      have hb0 := (allocl_below w (.cells (cfL ⟨mode, width, rob, queue, stores, slots, sets, ways, la, ln, lc, tb, ta, tn, tc⟩).toArray 25))
      have hb := hb0.alloc hb0.size (.cells (cfL ⟨0, 0, 0, 0, 0, 0, 0, 0, none, 0, 0, false, none, 0, 0⟩).toArray 25)
      rw [show (w.alloc (.cells (cfL ⟨mode, width, rob, queue, stores, slots, sets, ways, la, ln, lc, tb, ta, tn, tc⟩).toArray 25)).heap.size = w.heap.size + 1 by simp] at hR
      simp only [cfL] at hB2 hR hb
      clear hB hb0
      go_enter Try.func20, Try.ntmps20
      go_wp2_with fail
      generalize (w.alloc (.cells #[.int .i64 mode, .int .i64 width, .int .i64 rob, .int .i64 queue, .int .i64 stores, .int .i64 slots, .int .i64 sets, .int .i64 ways, .slice la ln lc, .bool tb, .slice ta tn tc] 25)).alloc (.cells #[.int .i64 0, .int .i64 0, .int .i64 0, .int .i64 0, .int .i64 0, .int .i64 0, .int .i64 0, .int .i64 0, .slice none 0 0, .bool false, .slice none 0 0] 25) = w2 at *
      have c8 := hB2.2.1 8 _ rfl
      have c10 := hB2.2.1 10 _ rfl
      have f8 := hB2.2.2 8 (by simp)
      have f10 := hB2.2.2 10 (by simp)
      have hB3 := (hB2.set (i := 8) (v := .slice la 100 lc) (by simp)).set (i := 10) (v := .slice ta 100 tc) (by simp)
      have hR3 := (hR.other (p := ⟨w.heap.size, 8, none⟩) (v := .slice la 100 lc) (fun e => absurd e (by simp))).other (p := ⟨w.heap.size, 10, none⟩) (v := .slice ta 100 tc) (fun e => absurd e (by simp))
      have hb3 := (hb.setCell (p := ⟨w.heap.size, 8, none⟩) (Nat.le_refl _) (.slice la 100 lc)).setCell (p := ⟨w.heap.size, 10, none⟩) (Nat.le_refl _) (.slice ta 100 tc)
      simp only [List.set] at hB3
      have HB3 := Lib.hid hB3
      have HR3 := Lib.hid hR3
      have Hb3 := Lib.hid hb3
      clear hB2 hR hb hB3 hR3 hb3
      go_region
      have hB4 : Blk _ w.heap.size _ := Blk.drew HB3.out
      have hR4 : Blk _ (w.heap.size + 1) _ := Blk.drew HR3.out
      have hb4 : Below w.heap.size w _ := below_drewC Hb3.out
      clear c8 c10 f8 f10 HB3 HR3 Hb3
      generalize ((w2.setCell ⟨w.heap.size, 8, none⟩ (.slice la 100 lc)).setCell ⟨w.heap.size, 10, none⟩ (.slice ta 100 tc)).drew = w4 at *
      obtain ⟨⟨x0, x1, x2, x3, x4, x5, x6, x7, x8, x9, x10⟩, _⟩ := hB4.c11
      obtain ⟨⟨y0, y1, y2, y3, y4, y5, y6, y7, y8, y9, y10⟩, ⟨z0, z1, z2, z3, z4, z5, z6, z7, z8, z9, z10⟩⟩ := hR4.c11
      have hne : ¬ w.heap.size = w.heap.size + 1 := by omega
      go_wp2
      refine bodyPost_ret (v := .agg #[.int .i64 mode, .int .i64 width, .int .i64 rob, .int .i64 queue, .int .i64 stores, .int .i64 slots, .int .i64 sets, .int .i64 ways, .slice la 100 lc, .bool tb, .slice ta 100 tc]) ?_ rfl ⟨?_, ?_⟩
      · simp [results, Try.results20, go_sem, x0, x1, x2, x3, x4, x5, x6, x7, x8, x9, x10, y0, y1, y2, y3, y4, y5, y6, y7, y8, y9, y10]
      · simp only [cfFew, M1.out, M2.out]
      · exact below11 hb4 (by omega)

end Go.Proofs.Ytebeelphilfjhaa
