/- THE CONTRACTS of place, Lat, Tape and Most of auspexref08. -/
import Derived.Test.YtebeelphilfjhaaRef08
import Derived.BigQuiet
namespace Go.Proofs.Ytebeelphilfjhaa
open Go.ChangeShapes Go.WideShapes Go.ChangeAt Go.RowKit
set_option linter.unusedVariables false
set_option linter.unusedSimpArgs false

def plc (k n : Int) : Int := if k < 0 then 0 else k % n
set_option maxHeartbeats 1000000
set_option maxRecDepth 100000
theorem place_any (k n q : Int) (k1 : k < 9223372036854775808) (n0 : 0 < n) (n1 : n ≤ 64) (hq : plc k n = q) (w : World) :
    Calls Try.prog 81 #[.int .i64 k, .int .i64 n] w fun e w' => e = .returned (.int .i64 q) ∧ w' = w := by
  subst hq
  by_cases hk : k < 0
  · have HV := Lib.hid (show plc k n = 0 by unfold plc; rw [if_pos hk])
    go_enter Try.func81, Try.ntmps81
    go_wp2
    go_ret
    exact ⟨retl_int HV.out.symm, rfl⟩
  · have HV := Lib.hid (show plc k n = k % n by unfold plc; rw [if_neg hk])
    have hk0 : 0 ≤ k := by omega
    have hn : n ≠ 0 := by omega
    have hn' : (n == 0) = false := by simp; omega
    clear hk
    go_enter Try.func81, Try.ntmps81
    go_wp2
    go_ret
    exact ⟨retl_int (by rw [HV.out]), rfl⟩
theorem refLat_any (c : Cf) (lat tape : List Int) (k : Int) (k0 : -9223372036854775808 ≤ k) (k1 : k < 9223372036854775808) (hl : c.ln ≤ 200) (ht : c.tn ≤ 200) (w : World) (h : CfAt w c lat tape) :
    Calls Try.prog 27 #[cfV c, .int .i64 k] w fun e w' => e = .returned (.int .i64 (latV lat k)) ∧ Below w.heap.size w w' := by
  obtain ⟨mode, width, rob, queue, stores, slots, sets, ways, la, ln, lc, tb, ta, tn, tc⟩ := c
  have hC := refClean_any ⟨mode, width, rob, queue, stores, slots, sets, ways, la, ln, lc, tb, ta, tn, tc⟩ lat tape hl ht (w.alloc (.cells (cfL ⟨mode, width, rob, queue, stores, slots, sets, ways, la, ln, lc, tb, ta, tn, tc⟩).toArray 25)) (h.below (allocl_below _ _))
  have hB := Blk.new w 25 (cfL ⟨mode, width, rob, queue, stores, slots, sets, ways, la, ln, lc, tb, ta, tn, tc⟩)
  simp only [cfV, cfL] at hC hB ⊢
  have HC := Lib.hid hC
  have hln := Lib.hid h.1.1
  have htn := Lib.hid h.2.1.1
  simp only at hln htn
  obtain ⟨⟨x0, x1, x2, x3, x4, x5, x6, x7, x8, x9, x10⟩, _⟩ := hB.c11
  clear hC
  go_enter Try.func27, Try.ntmps27
  go_wp2_with fail
  refine HC.out.mono ?_
  rintro e w2 ⟨la2, lc2, ta2, tc2, rfl, hat, hfr, b⟩
  clear x0 x1 x2 x3 x4 x5 x6 x7 x8 x9 x10
  have hb := allocl_then b
  simp only [cfClean]
  obtain ⟨n1, hn1⟩ : ∃ n1, min ln 64 = n1 := ⟨_, rfl⟩
  obtain ⟨n2, hn2⟩ : ∃ n2, min tn 64 = n2 := ⟨_, rfl⟩
  have hl1 := Lib.hid (show (latOf lat).length = n1 by rw [← hn1]; exact latOf_len hln.out)
  have hl2 := Lib.hid (show (tape.take 64).length = n2 by rw [← hn2]; exact tape_len htn.out)
  have m1 : n1 ≤ 64 := by omega
  have m2 : n2 ≤ 64 := by omega
  unfold CfAt at hat
  simp only [cfClean] at hat
  rw [hn1, hn2] at hat ⊢
  have hX := Blk.new w2 25 [.int .i64 (lim mode 0 2), .int .i64 (lim width 1 2), .int .i64 (lim rob 2 8), .int .i64 (lim queue 1 4), .int .i64 (lim stores 1 4), .int .i64 (lim slots 2 6), .int .i64 (setsOf sets), .int .i64 (lim ways 1 2), .slice la2 n1 lc2, .bool tb, .slice ta2 n2 tc2]
  have hb5 := hb.trans ((allocl_below w2 (.cells #[.int .i64 (lim mode 0 2), .int .i64 (lim width 1 2), .int .i64 (lim rob 2 8), .int .i64 (lim queue 1 4), .int .i64 (lim stores 1 4), .int .i64 (lim slots 2 6), .int .i64 (setsOf sets), .int .i64 (lim ways 1 2), .slice la2 n1 lc2, .bool tb, .slice ta2 n2 tc2] 25)).mono hb.size)
  have hi5 := hat.1.below (allocl_below w2 (.cells #[.int .i64 (lim mode 0 2), .int .i64 (lim width 1 2), .int .i64 (lim rob 2 8), .int .i64 (lim queue 1 4), .int .i64 (lim stores 1 4), .int .i64 (lim slots 2 6), .int .i64 (setsOf sets), .int .i64 (lim ways 1 2), .slice la2 n1 lc2, .bool tb, .slice ta2 n2 tc2] 25))
  have hj5 := hat.2.1.below (allocl_below w2 (.cells #[.int .i64 (lim mode 0 2), .int .i64 (lim width 1 2), .int .i64 (lim rob 2 8), .int .i64 (lim queue 1 4), .int .i64 (lim stores 1 4), .int .i64 (lim slots 2 6), .int .i64 (setsOf sets), .int .i64 (lim ways 1 2), .slice la2 n1 lc2, .bool tb, .slice ta2 n2 tc2] 25))
  clear hB b HC h hn1 hn2 hfr hat hb
  obtain ⟨⟨x0, x1, x2, x3, x4, x5, x6, x7, x8, x9, x10⟩, _⟩ := hX.c11
  clear x0 x1 x2 x3 x4 x5 x6 x7 x9
  by_cases hn0 : n1 = 0
  · subst hn0
    have HV := Lib.hid (show latV lat k = 1 by unfold latV; rw [if_pos hl1.out])
    have H5 := Lib.hid hb5
    clear hi5 hj5 hb5
    go_wp2
    go_ret
    exact ⟨retl_int HV.out.symm, H5.out⟩
  · have e0 : ((n1 : Int) == 0) = false := by simp; omega
    obtain ⟨q, hq⟩ : ∃ q : Nat, plc k n1 = q := ⟨(plc k n1).toNat, (Int.toNat_of_nonneg (by unfold plc; split; exact Int.le_refl _; exact Int.emod_nonneg _ (by omega))).symm⟩
    have hqn : q < n1 := by
      have : plc k n1 < n1 := by unfold plc; split; omega; exact Int.emod_lt_of_pos k (show (0 : Int) < n1 by omega)
      omega
    have HV := Lib.hid (show latV lat k = (latOf lat).getD q 0 by
      unfold latV
      rw [if_neg (by rw [hl1.out]; exact hn0), hl1.out]
      have : ((if k < 0 then 0 else k) % (n1 : Int)) = q := by
        rw [← hq]
        unfold plc
        split
        · exact Int.zero_emod _
        · rfl
      rw [this, Int.toNat_natCast])
    obtain ⟨ga, rfl, hc⟩ := hi5.at_ hqn
    obtain ⟨z, hz⟩ : ∃ z, (latOf lat).getD q 0 = z := ⟨_, rfl⟩
    rw [hz] at hc
    have HZ := Lib.hid hz
    have hP := Lib.hid (fun w => place_any k n1 q k1 (by omega) (by omega) hq w)
    have H5 := Lib.hid hb5
    clear hz hn0 hq hi5 hj5 hb5
    go_wp2_with fail
    go_quiet ((go_at_call 81; exact Calls.quiet_of_same (hP.out _)))
    go_wp2
    go_ret
    exact ⟨retl_int (HV.out.trans HZ.out).symm, belowl_drewN H5.out _⟩
theorem refTape_any (c : Cf) (lat tape : List Int) (k pc : Int) (p0 : 0 ≤ pc) (p1 : pc < 4294967296) (k0 : -9223372036854775808 ≤ k) (k1 : k < 9223372036854775808) (hl : c.ln ≤ 200) (ht : c.tn ≤ 200) (w : World) (h : CfAt w c lat tape) :
    Calls Try.prog 29 #[cfV c, .int .i64 k, .int .u32 pc] w fun e w' => e = .returned (.int .u32 (tapeV tape k pc)) ∧ Below w.heap.size w w' := by
  obtain ⟨mode, width, rob, queue, stores, slots, sets, ways, la, ln, lc, tb, ta, tn, tc⟩ := c
  have hC := refClean_any ⟨mode, width, rob, queue, stores, slots, sets, ways, la, ln, lc, tb, ta, tn, tc⟩ lat tape hl ht (w.alloc (.cells (cfL ⟨mode, width, rob, queue, stores, slots, sets, ways, la, ln, lc, tb, ta, tn, tc⟩).toArray 25)) (h.below (allocl_below _ _))
  have hB := Blk.new w 25 (cfL ⟨mode, width, rob, queue, stores, slots, sets, ways, la, ln, lc, tb, ta, tn, tc⟩)
  simp only [cfV, cfL] at hC hB ⊢
  have HC := Lib.hid hC
  have hln := Lib.hid h.1.1
  have htn := Lib.hid h.2.1.1
  simp only at hln htn
  obtain ⟨⟨x0, x1, x2, x3, x4, x5, x6, x7, x8, x9, x10⟩, _⟩ := hB.c11
  clear hC
  go_enter Try.func29, Try.ntmps29
  go_wp2_with fail
  refine HC.out.mono ?_
  rintro e w2 ⟨la2, lc2, ta2, tc2, rfl, hat, hfr, b⟩
  clear x0 x1 x2 x3 x4 x5 x6 x7 x8 x9 x10
  have hb := allocl_then b
  simp only [cfClean]
  obtain ⟨n1, hn1⟩ : ∃ n1, min ln 64 = n1 := ⟨_, rfl⟩
  obtain ⟨n2, hn2⟩ : ∃ n2, min tn 64 = n2 := ⟨_, rfl⟩
  have hl1 := Lib.hid (show (latOf lat).length = n1 by rw [← hn1]; exact latOf_len hln.out)
  have hl2 := Lib.hid (show (tape.take 64).length = n2 by rw [← hn2]; exact tape_len htn.out)
  have m1 : n1 ≤ 64 := by omega
  have m2 : n2 ≤ 64 := by omega
  unfold CfAt at hat
  simp only [cfClean] at hat
  rw [hn1, hn2] at hat ⊢
  have hX := Blk.new w2 25 [.int .i64 (lim mode 0 2), .int .i64 (lim width 1 2), .int .i64 (lim rob 2 8), .int .i64 (lim queue 1 4), .int .i64 (lim stores 1 4), .int .i64 (lim slots 2 6), .int .i64 (setsOf sets), .int .i64 (lim ways 1 2), .slice la2 n1 lc2, .bool tb, .slice ta2 n2 tc2]
  have hb5 := hb.trans ((allocl_below w2 (.cells #[.int .i64 (lim mode 0 2), .int .i64 (lim width 1 2), .int .i64 (lim rob 2 8), .int .i64 (lim queue 1 4), .int .i64 (lim stores 1 4), .int .i64 (lim slots 2 6), .int .i64 (setsOf sets), .int .i64 (lim ways 1 2), .slice la2 n1 lc2, .bool tb, .slice ta2 n2 tc2] 25)).mono hb.size)
  have hi5 := hat.1.below (allocl_below w2 (.cells #[.int .i64 (lim mode 0 2), .int .i64 (lim width 1 2), .int .i64 (lim rob 2 8), .int .i64 (lim queue 1 4), .int .i64 (lim stores 1 4), .int .i64 (lim slots 2 6), .int .i64 (setsOf sets), .int .i64 (lim ways 1 2), .slice la2 n1 lc2, .bool tb, .slice ta2 n2 tc2] 25))
  have hj5 := hat.2.1.below (allocl_below w2 (.cells #[.int .i64 (lim mode 0 2), .int .i64 (lim width 1 2), .int .i64 (lim rob 2 8), .int .i64 (lim queue 1 4), .int .i64 (lim stores 1 4), .int .i64 (lim slots 2 6), .int .i64 (setsOf sets), .int .i64 (lim ways 1 2), .slice la2 n1 lc2, .bool tb, .slice ta2 n2 tc2] 25))
  clear hB b HC h hn1 hn2 hfr hat hb
  obtain ⟨⟨x0, x1, x2, x3, x4, x5, x6, x7, x8, x9, x10⟩, _⟩ := hX.c11
  clear x0 x1 x2 x3 x4 x5 x6 x7 x9
  by_cases hn0 : n2 = 0
  · subst hn0
    have HV := Lib.hid (show tapeV tape k pc = (pc + 4) % 4294967296 by unfold tapeV; rw [if_pos hl2.out])
    have H5 := Lib.hid hb5
    clear hi5 hj5 hb5
    go_wp2
    go_ret
    exact ⟨retl_int HV.out.symm, H5.out⟩
  · have e0 : ((n2 : Int) == 0) = false := by simp; omega
    obtain ⟨q, hq⟩ : ∃ q : Nat, plc k n2 = q := ⟨(plc k n2).toNat, (Int.toNat_of_nonneg (by unfold plc; split; exact Int.le_refl _; exact Int.emod_nonneg _ (by omega))).symm⟩
    have hqn : q < n2 := by
      have : plc k n2 < n2 := by unfold plc; split; omega; exact Int.emod_lt_of_pos k (show (0 : Int) < n2 by omega)
      omega
    have HV := Lib.hid (show tapeV tape k pc = (tape.take 64).getD q 0 by
      unfold tapeV
      rw [if_neg (by rw [hl2.out]; exact hn0), hl2.out]
      have : ((if k < 0 then 0 else k) % (n2 : Int)) = q := by
        rw [← hq]
        unfold plc
        split
        · exact Int.zero_emod _
        · rfl
      rw [this, Int.toNat_natCast])
    obtain ⟨ga, rfl, hc⟩ := hj5.at_ hqn
    obtain ⟨z, hz⟩ : ∃ z, (tape.take 64).getD q 0 = z := ⟨_, rfl⟩
    rw [hz] at hc
    have HZ := Lib.hid hz
    have hP := Lib.hid (fun w => place_any k n2 q k1 (by omega) (by omega) hq w)
    have H5 := Lib.hid hb5
    clear hz hn0 hq hi5 hj5 hb5
    go_wp2_with fail
    go_quiet ((go_at_call 81; exact Calls.quiet_of_same (hP.out _)))
    go_wp2
    go_ret
    exact ⟨retl_int (HV.out.trans HZ.out).symm, belowl_drewN H5.out _⟩

theorem refMost_any (c : Cf) (lat tape : List Int) (hl : c.ln ≤ 200) (ht : c.tn ≤ 200) (w : World) (h : CfAt w c lat tape) :
    Calls Try.prog 31 #[cfV c] w fun e w' => e = .returned (.int .i64 (mostV lat)) ∧ Below w.heap.size w w' := by
  obtain ⟨mode, width, rob, queue, stores, slots, sets, ways, la, ln, lc, tb, ta, tn, tc⟩ := c
  have hC := refClean_any ⟨mode, width, rob, queue, stores, slots, sets, ways, la, ln, lc, tb, ta, tn, tc⟩ lat tape hl ht (w.alloc (.cells (cfL ⟨mode, width, rob, queue, stores, slots, sets, ways, la, ln, lc, tb, ta, tn, tc⟩).toArray 25)) (h.below (allocl_below _ _))
  have hB := Blk.new w 25 (cfL ⟨mode, width, rob, queue, stores, slots, sets, ways, la, ln, lc, tb, ta, tn, tc⟩)
  simp only [cfV, cfL] at hC hB ⊢
  have HC := Lib.hid hC
  have hln := Lib.hid h.1.1
  simp only at hln
  obtain ⟨⟨x0, x1, x2, x3, x4, x5, x6, x7, x8, x9, x10⟩, _⟩ := hB.c11
  clear hC hB h
  go_enter Try.func31, Try.ntmps31
  go_wp2_with fail
  refine HC.out.mono ?_
  rintro e w2 ⟨la2, lc2, ta2, tc2, rfl, hat, _, b⟩
  have hb := allocl_then b
  unfold CfAt at hat
  simp only [cfClean] at hat ⊢
  obtain ⟨n1, hn1⟩ : ∃ n1, min ln 64 = n1 := ⟨_, rfl⟩
  have hl1 := Lib.hid (show (latOf lat).length = n1 by rw [← hn1]; exact latOf_len hln.out)
  have hr := Lib.hid (latOf_range lat)
  have hn64 : n1 ≤ 64 := by omega
  rw [hn1] at hat ⊢
  obtain ⟨hI, -⟩ := hat
  have HV := Lib.hid (show mostV lat = mostL (latOf lat) from rfl)
  clear x0 x1 x2 x3 x4 x5 x6 x7 x8 x9 x10 b HC hn1
  generalize latOf lat = ls at *
  have hfd : ∀ wx : World, (Instr.field 25 (.agg #[.int .i64 (lim mode 0 2), .int .i64 (lim width 1 2), .int .i64 (lim rob 2 8), .int .i64 (lim queue 1 4), .int .i64 (lim stores 1 4), .int .i64 (lim slots 2 6), .int .i64 (setsOf sets), .int .i64 (lim ways 1 2), .slice la2 n1 lc2, .bool tb, .slice ta2 (min tn 64) tc2]) 8).run Try.prog wx = .ok (.slice la2 n1 lc2) wx := fun _ => by kernel_rfl
  go_wp2
  go_loopw [3, 10] (fun m i wr => ∃ (k : Nat) (q : Int), k ≤ n1 ∧ i = .int .i64 k ∧ m = .int .i64 q ∧ 1 ≤ q ∧ q ≤ 8 ∧ mostL (ls.take k) = q ∧ wr = w2) (fun _ i _ => n1 - (intOf i).toNat)
  case atStart => exact ⟨0, 1, Nat.zero_le _, rfl, rfl, by omega, by omega, rfl, rfl⟩
  case round =>
    obtain ⟨k, q, hk, rfl, rfl, q1, q2, hq, rfl⟩ := hrel
    have HQ := Lib.hid hq
    clear hq
    by_cases hkn : k < n1
    · obtain ⟨a, rfl, hc⟩ := hI.at_ (j := k) hkn
      have hkl : k < ls.length := by rw [hl1.out]; exact hkn
      have hg : ls.getD k 0 = ls[k] := by rw [List.getD_eq_getElem?_getD, List.getElem?_eq_getElem hkl]; rfl
      obtain ⟨z, hz⟩ : ∃ z, ls[k] = z := ⟨_, rfl⟩
      rw [hg, hz] at hc
      have hz8 : 1 ≤ z ∧ z ≤ 8 := by rw [← hz]; exact hr.out _ (List.getElem_mem _)
      have HS := Lib.hid (show mostL (ls.take (k + 1)) = mx q z by rw [List.take_succ_eq_append_getElem hkl, mostL_snoc, HQ.out, hz])
      clear hg hz hkl
      by_cases hlt : q < z
      · have HM := Lib.hid (show mx q z = z by unfold mx; rw [if_pos hlt])
        go_wp2
        go_roundw
        case rel => exact ⟨k + 1, z, by omega, by go_num, rfl, by omega, by omega, by rw [HS.out, HM.out], by trivial⟩
        case measure => simp [intOf]; omega
      · have HM := Lib.hid (show mx q z = q by unfold mx; rw [if_neg hlt])
        have hge : z ≤ q := by omega
        clear hlt
        go_wp2
        go_roundw
        case rel => exact ⟨k + 1, q, by omega, by go_num, rfl, by omega, by omega, by rw [HS.out, HM.out], by trivial⟩
        case measure => simp [intOf]; omega
    · obtain rfl : n1 = k := by omega
      have HF := Lib.hid (show mostV lat = q by rw [HV.out, ← HQ.out, List.take_of_length_le (Nat.le_of_eq hl1.out)])
      go_wp2
      go_ret
      exact ⟨retl_int HF.out.symm, hb⟩


end Go.Proofs.Ytebeelphilfjhaa
