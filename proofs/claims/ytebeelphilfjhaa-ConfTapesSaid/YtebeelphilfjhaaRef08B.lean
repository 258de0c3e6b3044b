/- THE CONTRACTS of Bound and Drain of auspexref08. -/
import Derived.Test.YtebeelphilfjhaaRef08L
namespace Go.Proofs.Ytebeelphilfjhaa
open Go.ChangeShapes Go.WideShapes Go.ChangeAt Go.RowKit
set_option linter.unusedVariables false
set_option linter.unusedSimpArgs false
set_option maxHeartbeats 1000000
set_option maxRecDepth 100000
theorem refBound_any (c : Cf) (lat tape : List Int) (hl : c.ln ≤ 200) (ht : c.tn ≤ 200) (w : World) (h : CfAt w c lat tape) :
    Calls Try.prog 33 #[cfV c] w fun e w' => e = .returned (.int .i64 (boundV c lat)) ∧ Below w.heap.size w w' := by
  obtain ⟨mode, width, rob, queue, stores, slots, sets, ways, la, ln, lc, tb, ta, tn, tc⟩ := c
  have hC := refClean_any ⟨mode, width, rob, queue, stores, slots, sets, ways, la, ln, lc, tb, ta, tn, tc⟩ lat tape hl ht (w.alloc (.cells (cfL ⟨mode, width, rob, queue, stores, slots, sets, ways, la, ln, lc, tb, ta, tn, tc⟩).toArray 25)) (h.below (allocl_below _ _))
  have hM := fun (w9 : World) (d : Nat) (os : Array Obj) (hb : Below w.heap.size w w9) => refMost_any ⟨mode, width, rob, queue, stores, slots, sets, ways, la, ln, lc, tb, ta, tn, tc⟩ lat tape hl ht _ ((h.below hb).below (below_regrown w9 d os))
  have hB := Blk.new w 25 (cfL ⟨mode, width, rob, queue, stores, slots, sets, ways, la, ln, lc, tb, ta, tn, tc⟩)
  simp only [cfV, cfL, cfClean] at hC hB hM ⊢
  have hw1 := hB.1
  have hmr := mostV_range lat
  have q3 := lim_range stores 1 4 (by omega)
  have q4 := lim_range slots 2 6 (by omega)
  have q5 := setsOf_range sets
  have q6 := lim_range ways 1 2 (by omega)
  have hsw : 1 ≤ setsOf sets * lim ways 1 2 ∧ setsOf sets * lim ways 1 2 ≤ 8 := by
    obtain e | e : lim ways 1 2 = 1 ∨ lim ways 1 2 = 2 := by omega
    · rw [e]; omega
    · rw [e]; omega
  have HV := Lib.hid (show boundV ⟨mode, width, rob, queue, stores, slots, sets, ways, la, ln, lc, tb, ta, tn, tc⟩ lat = 60 + (lim slots 2 6 + lim stores 1 4 + setsOf sets * lim ways 1 2 + 4) * (mostV lat + 1) * (lim stores 1 4 + 3) from rfl)
  obtain ⟨st, hst⟩ : ∃ st, lim stores 1 4 = st := ⟨_, rfl⟩
  obtain ⟨sl, hsl⟩ : ∃ sl, lim slots 2 6 = sl := ⟨_, rfl⟩
  obtain ⟨se, hse⟩ : ∃ se, setsOf sets = se := ⟨_, rfl⟩
  obtain ⟨wy, hwy⟩ : ∃ wy, lim ways 1 2 = wy := ⟨_, rfl⟩
  obtain ⟨mv, hmv⟩ : ∃ mv, mostV lat = mv := ⟨_, rfl⟩
  rw [hst, hsl, hse, hwy] at hC
  rw [hst, hsl, hse, hwy, hmv] at HV
  rw [hmv] at hmr hM
  rw [hst] at q3
  rw [hsl] at q4
  rw [hse, hwy] at hsw
  clear hst hsl hse hwy hmv q5 q6
  obtain ⟨sw, hsw'⟩ : ∃ sw, se * wy = sw := ⟨_, rfl⟩
  rw [hsw'] at hsw HV
  have h8 : 8 ≤ sl + st + sw + 4 ∧ sl + st + sw + 4 ≤ 22 := by omega
  have HC := Lib.hid hC
  have HM := Lib.hid hM
  obtain ⟨⟨x0, x1, x2, x3, x4, x5, x6, x7, x8, x9, x10⟩, _⟩ := hB.c11
  clear hC hM h
  go_enter Try.func33, Try.ntmps33
  go_wp2_with fail
  refine HC.out.mono ?_
  rintro e w2 ⟨la2, lc2, ta2, tc2, rfl, -, -, b⟩
  clear x0 x1 x2 x3 x4 x5 x6 x7 x8 x9 x10 HC
  have hb := allocl_then b
  have hX := Blk.new w2 25 [.int .i64 (lim mode 0 2), .int .i64 (lim width 1 2), .int .i64 (lim rob 2 8), .int .i64 (lim queue 1 4), .int .i64 st, .int .i64 sl, .int .i64 se, .int .i64 wy, .slice la2 (min ln 64) lc2, .bool tb, .slice ta2 (min tn 64) tc2]
  have hB2 := (hB.below b hw1).below (allocl_below w2 (.cells #[.int .i64 (lim mode 0 2), .int .i64 (lim width 1 2), .int .i64 (lim rob 2 8), .int .i64 (lim queue 1 4), .int .i64 st, .int .i64 sl, .int .i64 se, .int .i64 wy, .slice la2 (min ln 64) lc2, .bool tb, .slice ta2 (min tn 64) tc2] 25)) (Nat.lt_of_lt_of_le hw1 b.size)
  have hb5 := hb.trans ((allocl_below w2 (.cells #[.int .i64 (lim mode 0 2), .int .i64 (lim width 1 2), .int .i64 (lim rob 2 8), .int .i64 (lim queue 1 4), .int .i64 st, .int .i64 sl, .int .i64 se, .int .i64 wy, .slice la2 (min ln 64) lc2, .bool tb, .slice ta2 (min tn 64) tc2] 25)).mono hb.size)
  obtain ⟨⟨x0, x1, x2, x3, x4, x5, x6, x7, x8, x9, x10⟩, _⟩ := hX.c11
  obtain ⟨⟨y0, y1, y2, y3, y4, y5, y6, y7, y8, y9, y10⟩, _⟩ := hB2.c11
  clear hB b hX hB2 hb
  go_wp2_with fail
  generalize w2.alloc (.cells #[.int .i64 (lim mode 0 2), .int .i64 (lim width 1 2), .int .i64 (lim rob 2 8), .int .i64 (lim queue 1 4), .int .i64 st, .int .i64 sl, .int .i64 se, .int .i64 wy, .slice la2 (min ln 64) lc2, .bool tb, .slice ta2 (min tn 64) tc2] 25) = w5 at *
  generalize sl + st + sw + 4 = nn at *
  have hp1 : 16 ≤ nn * (mv + 1) ∧ nn * (mv + 1) ≤ 198 := by
    obtain rfl | rfl | rfl | rfl | rfl | rfl | rfl | rfl : mv = 1 ∨ mv = 2 ∨ mv = 3 ∨ mv = 4 ∨ mv = 5 ∨ mv = 6 ∨ mv = 7 ∨ mv = 8 := by omega
    all_goals omega
  have hp3 : 32 ≤ 2 * nn * (mv + 1) ∧ 2 * nn * (mv + 1) ≤ 396 := by rw [Int.mul_assoc]; omega
  have hp2 : 64 ≤ nn * (mv + 1) * (st + 3) ∧ nn * (mv + 1) * (st + 3) ≤ 1386 := by
    generalize nn * (mv + 1) = ld at *
    obtain rfl | rfl | rfl | rfl : st = 1 ∨ st = 2 ∨ st = 3 ∨ st = 4 := by omega
    all_goals omega
  have hp4 : 0 ≤ 2 * nn * (mv + 1) * (st + sw + 2) ∧ 2 * nn * (mv + 1) * (st + sw + 2) ≤ 5544 := by
    have : 4 ≤ st + sw + 2 ∧ st + sw + 2 ≤ 14 := by omega
    generalize st + sw + 2 = y at *
    generalize 2 * nn * (mv + 1) = ld at *
    obtain rfl | rfl | rfl | rfl | rfl | rfl | rfl | rfl | rfl | rfl | rfl : y = 4 ∨ y = 5 ∨ y = 6 ∨ y = 7 ∨ y = 8 ∨ y = 9 ∨ y = 10 ∨ y = 11 ∨ y = 12 ∨ y = 13 ∨ y = 14 := by omega
    all_goals omega
  have g4 := fun d os => cell_regrown x4 d os
  have g6 := fun d os => cell_regrown x6 d os
  have g7 := fun d os => cell_regrown x7 d os
  have k0 := fun d os => cell_regrown y0 d os
  have k1 := fun d os => cell_regrown y1 d os
  have k2 := fun d os => cell_regrown y2 d os
  have k3 := fun d os => cell_regrown y3 d os
  have k4 := fun d os => cell_regrown y4 d os
  have k5 := fun d os => cell_regrown y5 d os
  have k6 := fun d os => cell_regrown y6 d os
  have k7 := fun d os => cell_regrown y7 d os
  have k8 := fun d os => cell_regrown y8 d os
  have k9 := fun d os => cell_regrown y9 d os
  have k10 := fun d os => cell_regrown y10 d os
  have HM5 := Lib.hid (fun d os => HM.out w5 d os hb5)
  have H5 := Lib.hid hb5
  clear x0 x1 x2 x3 x4 x5 x6 x7 x8 x9 x10 y0 y1 y2 y3 y4 y5 y6 y7 y8 y9 y10 hb5 HM
  refine wp_region_quiet_below (by kernel_rfl) (by kernel_rfl) ?_
  repeat (go_big_quiet_step (first
    | (go_at_call 31; exact Calls.regrown_of (HM5.out _ _))))
  refine wpQuiet_nil ?_
  intro _ hw'
  obtain ⟨⟨nq, osq⟩, hw''⟩ := hw'
  subst hw''
  have hb9 := H5.out.trans ((below_regrown w5 nq osq).mono H5.out.size)
  clear g4 g6 g7 k0 k1 k2 k3 k4 k5 k6 k7 k8 k9 k10 HM5
  go_wp2
  go_ret
  exact ⟨retl_int (by rw [HV.out]), hb9⟩
theorem refDrain_any (c : Cf) (lat tape : List Int) (hl : c.ln ≤ 200) (ht : c.tn ≤ 200) (w : World) (h : CfAt w c lat tape) :
    Calls Try.prog 35 #[cfV c] w fun e w' => e = .returned (.int .i64 (drainV c lat)) ∧ Below w.heap.size w w' := by
  obtain ⟨mode, width, rob, queue, stores, slots, sets, ways, la, ln, lc, tb, ta, tn, tc⟩ := c
  have hC := refClean_any ⟨mode, width, rob, queue, stores, slots, sets, ways, la, ln, lc, tb, ta, tn, tc⟩ lat tape hl ht (w.alloc (.cells (cfL ⟨mode, width, rob, queue, stores, slots, sets, ways, la, ln, lc, tb, ta, tn, tc⟩).toArray 25)) (h.below (allocl_below _ _))
  have hM := fun (w9 : World) (d : Nat) (os : Array Obj) (hb : Below w.heap.size w w9) => refMost_any ⟨mode, width, rob, queue, stores, slots, sets, ways, la, ln, lc, tb, ta, tn, tc⟩ lat tape hl ht _ ((h.below hb).below (below_regrown w9 d os))
  have hB := Blk.new w 25 (cfL ⟨mode, width, rob, queue, stores, slots, sets, ways, la, ln, lc, tb, ta, tn, tc⟩)
  simp only [cfV, cfL, cfClean] at hC hB hM ⊢
  have hw1 := hB.1
  have hmr := mostV_range lat
  have q3 := lim_range stores 1 4 (by omega)
  have q4 := lim_range slots 2 6 (by omega)
  have q5 := setsOf_range sets
  have q6 := lim_range ways 1 2 (by omega)
  have hsw : 1 ≤ setsOf sets * lim ways 1 2 ∧ setsOf sets * lim ways 1 2 ≤ 8 := by
    obtain e | e : lim ways 1 2 = 1 ∨ lim ways 1 2 = 2 := by omega
    · rw [e]; omega
    · rw [e]; omega
  have HV := Lib.hid (show drainV ⟨mode, width, rob, queue, stores, slots, sets, ways, la, ln, lc, tb, ta, tn, tc⟩ lat = 60 + 2 * ((lim slots 2 6 + lim stores 1 4 + setsOf sets * lim ways 1 2 + 4) * (mostV lat + 1)) * (lim stores 1 4 + setsOf sets * lim ways 1 2 + 2) from rfl)
  obtain ⟨st, hst⟩ : ∃ st, lim stores 1 4 = st := ⟨_, rfl⟩
  obtain ⟨sl, hsl⟩ : ∃ sl, lim slots 2 6 = sl := ⟨_, rfl⟩
  obtain ⟨se, hse⟩ : ∃ se, setsOf sets = se := ⟨_, rfl⟩
  obtain ⟨wy, hwy⟩ : ∃ wy, lim ways 1 2 = wy := ⟨_, rfl⟩
  obtain ⟨mv, hmv⟩ : ∃ mv, mostV lat = mv := ⟨_, rfl⟩
  rw [hst, hsl, hse, hwy] at hC
  rw [hst, hsl, hse, hwy, hmv] at HV
  rw [hmv] at hmr hM
  rw [hst] at q3
  rw [hsl] at q4
  rw [hse, hwy] at hsw
  clear hst hsl hse hwy hmv q5 q6
  obtain ⟨sw, hsw'⟩ : ∃ sw, se * wy = sw := ⟨_, rfl⟩
  rw [hsw'] at hsw HV
  have h8 : 8 ≤ sl + st + sw + 4 ∧ sl + st + sw + 4 ≤ 22 := by omega
  have HC := Lib.hid hC
  have HM := Lib.hid hM
  obtain ⟨⟨x0, x1, x2, x3, x4, x5, x6, x7, x8, x9, x10⟩, _⟩ := hB.c11
  clear hC hM h
  go_enter Try.func35, Try.ntmps35
  go_wp2_with fail
  refine HC.out.mono ?_
  rintro e w2 ⟨la2, lc2, ta2, tc2, rfl, -, -, b⟩
  clear x0 x1 x2 x3 x4 x5 x6 x7 x8 x9 x10 HC
  have hb := allocl_then b
  have hX := Blk.new w2 25 [.int .i64 (lim mode 0 2), .int .i64 (lim width 1 2), .int .i64 (lim rob 2 8), .int .i64 (lim queue 1 4), .int .i64 st, .int .i64 sl, .int .i64 se, .int .i64 wy, .slice la2 (min ln 64) lc2, .bool tb, .slice ta2 (min tn 64) tc2]
  have hB2 := (hB.below b hw1).below (allocl_below w2 (.cells #[.int .i64 (lim mode 0 2), .int .i64 (lim width 1 2), .int .i64 (lim rob 2 8), .int .i64 (lim queue 1 4), .int .i64 st, .int .i64 sl, .int .i64 se, .int .i64 wy, .slice la2 (min ln 64) lc2, .bool tb, .slice ta2 (min tn 64) tc2] 25)) (Nat.lt_of_lt_of_le hw1 b.size)
  have hb5 := hb.trans ((allocl_below w2 (.cells #[.int .i64 (lim mode 0 2), .int .i64 (lim width 1 2), .int .i64 (lim rob 2 8), .int .i64 (lim queue 1 4), .int .i64 st, .int .i64 sl, .int .i64 se, .int .i64 wy, .slice la2 (min ln 64) lc2, .bool tb, .slice ta2 (min tn 64) tc2] 25)).mono hb.size)
  obtain ⟨⟨x0, x1, x2, x3, x4, x5, x6, x7, x8, x9, x10⟩, _⟩ := hX.c11
  obtain ⟨⟨y0, y1, y2, y3, y4, y5, y6, y7, y8, y9, y10⟩, _⟩ := hB2.c11
  clear hB b hX hB2 hb
  go_wp2_with fail
  generalize w2.alloc (.cells #[.int .i64 (lim mode 0 2), .int .i64 (lim width 1 2), .int .i64 (lim rob 2 8), .int .i64 (lim queue 1 4), .int .i64 st, .int .i64 sl, .int .i64 se, .int .i64 wy, .slice la2 (min ln 64) lc2, .bool tb, .slice ta2 (min tn 64) tc2] 25) = w5 at *
  generalize sl + st + sw + 4 = nn at *
  have hp1 : 16 ≤ nn * (mv + 1) ∧ nn * (mv + 1) ≤ 198 := by
    obtain rfl | rfl | rfl | rfl | rfl | rfl | rfl | rfl : mv = 1 ∨ mv = 2 ∨ mv = 3 ∨ mv = 4 ∨ mv = 5 ∨ mv = 6 ∨ mv = 7 ∨ mv = 8 := by omega
    all_goals omega
  have hp3 : 32 ≤ 2 * nn * (mv + 1) ∧ 2 * nn * (mv + 1) ≤ 396 := by rw [Int.mul_assoc]; omega
  have hp2 : 64 ≤ nn * (mv + 1) * (st + 3) ∧ nn * (mv + 1) * (st + 3) ≤ 1386 := by
    generalize nn * (mv + 1) = ld at *
    obtain rfl | rfl | rfl | rfl : st = 1 ∨ st = 2 ∨ st = 3 ∨ st = 4 := by omega
    all_goals omega
  have hp4 : 0 ≤ 2 * nn * (mv + 1) * (st + sw + 2) ∧ 2 * nn * (mv + 1) * (st + sw + 2) ≤ 5544 := by
    have : 4 ≤ st + sw + 2 ∧ st + sw + 2 ≤ 14 := by omega
    generalize st + sw + 2 = y at *
    generalize 2 * nn * (mv + 1) = ld at *
    obtain rfl | rfl | rfl | rfl | rfl | rfl | rfl | rfl | rfl | rfl | rfl : y = 4 ∨ y = 5 ∨ y = 6 ∨ y = 7 ∨ y = 8 ∨ y = 9 ∨ y = 10 ∨ y = 11 ∨ y = 12 ∨ y = 13 ∨ y = 14 := by omega
    all_goals omega
  have g4 := fun d os => cell_regrown x4 d os
  have g6 := fun d os => cell_regrown x6 d os
  have g7 := fun d os => cell_regrown x7 d os
  have k0 := fun d os => cell_regrown y0 d os
  have k1 := fun d os => cell_regrown y1 d os
  have k2 := fun d os => cell_regrown y2 d os
  have k3 := fun d os => cell_regrown y3 d os
  have k4 := fun d os => cell_regrown y4 d os
  have k5 := fun d os => cell_regrown y5 d os
  have k6 := fun d os => cell_regrown y6 d os
  have k7 := fun d os => cell_regrown y7 d os
  have k8 := fun d os => cell_regrown y8 d os
  have k9 := fun d os => cell_regrown y9 d os
  have k10 := fun d os => cell_regrown y10 d os
  have HM5 := Lib.hid (fun d os => HM.out w5 d os hb5)
  have H5 := Lib.hid hb5
  clear x0 x1 x2 x3 x4 x5 x6 x7 x8 x9 x10 y0 y1 y2 y3 y4 y5 y6 y7 y8 y9 y10 hb5 HM
  refine wp_region_quiet_below (by kernel_rfl) (by kernel_rfl) ?_
  repeat (go_big_quiet_step (first
    | (go_at_call 31; exact Calls.regrown_of (HM5.out _ _))))
  refine wpQuiet_nil ?_
  intro _ hw'
  obtain ⟨⟨nq, osq⟩, hw''⟩ := hw'
  subst hw''
  have hb9 := H5.out.trans ((below_regrown w5 nq osq).mono H5.out.size)
  clear g4 g6 g7 k0 k1 k2 k3 k4 k5 k6 k7 k8 k9 k10 HM5
  go_wp2
  go_ret
  exact ⟨retl_int (by rw [HV.out, ← Int.mul_assoc]), hb9⟩

end Go.Proofs.Ytebeelphilfjhaa
