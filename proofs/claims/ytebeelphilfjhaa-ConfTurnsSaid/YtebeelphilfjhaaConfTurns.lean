/- Proved: the statement of ConfTurns (auspexlaw08): latencies and guesses come again, in turn, as often as the tapes are gone through; for every input; no condition. -/
import Derived.Test.YtebeelphilfjhaaRows
import Derived.Test.YtebeelphilfjhaaConfF
import Derived.Test.YtebeelphilfjhaaConfV
import Derived.Test.YtebeelphilfjhaaConfA
import Derived.Test.YtebeelphilfjhaaRef08L
import Derived.Lib.QuietBelow
import Derived.Deep.Cut
import Derived.Deep.CutRange
import Derived.BigQuiet
import Derived.OpenShut
namespace Go.Proofs.Ytebeelphilfjhaa.confTurns
open Go.ChangeShapes Go.WideShapes Go.ChangeAt Go.RowKit
set_option linter.unusedVariables false
set_option linter.unusedSimpArgs false

set_option maxHeartbeats 4000000
set_option maxRecDepth 100000
theorem Blk.drwN {w : World} {b : Nat} {cs : List Value} (h : Blk w b cs) (n : Nat) : Blk (w.drewN n) b cs := h
theorem latV_again (lat : List Int) (k : Int) (n : Nat) (hk : 0 ≤ k) (hn : (latOf lat).length = n) : latV lat (k + n) = latV lat k := by
  unfold latV
  rw [hn]
  by_cases h : n = 0
  · rw [if_pos h, if_pos h]
  · rw [if_neg h, if_neg h, if_neg (by omega), if_neg (by omega), Int.add_emod_right]
theorem tapeV_again (tape : List Int) (k pc : Int) (n : Nat) (hk : 0 ≤ k) (hn : (tape.take 64).length = n) : tapeV tape (k + n) pc = tapeV tape k pc := by
  unfold tapeV
  rw [hn]
  by_cases h : n = 0
  · rw [if_pos h, if_pos h]
  · rw [if_neg h, if_neg h, if_neg (by omega), if_neg (by omega), Int.add_emod_right]
theorem latV_neg (lat : List Int) (k : Int) (hk : 0 ≤ k) : latV lat (-k) = latV lat 0 := by
  unfold latV
  by_cases h : k = 0
  · subst h; rfl
  · rw [if_pos (show -k < 0 by omega), if_neg (show ¬ (0 : Int) < 0 by omega)]
theorem walk (c0 : Cf) (k pc : Int) (lat0 tape0 : List Int) (hok : cfOK c0) (hlw : ∀ z ∈ lat0, (Lit.int .i64 z).wf = true) (htw : ∀ z ∈ tape0, (Lit.int .u32 z).wf = true) (wk : (Lit.int .i64 k).wf = true) (wpc : (Lit.int .u32 pc).wf = true) (w : World) (h0 : CfAt w c0 lat0 tape0) :
    Calls Try.prog 7 #[cfV c0, .int .i64 k, .int .u32 pc] w fun e W' => e = .returned (.bool true) ∧ Below w.heap.size w W' := by
  have hkr := bounds_i64 wk
  have hpr := bounds_u32 wpc
  clear wk wpc
  have hF := few08_any c0 lat0 tape0 (w.alloc (.cells (cfL c0).toArray 25)) (h0.below (allocl_below _ _))
  have hc := h0.few
  have hl100 : (cfFew c0).ln ≤ 200 := by simp only [cfFew]; omega
  have ht100 : (cfFew c0).tn ≤ 200 := by simp only [cfFew]; omega
  have hB := Blk.new w 25 (cfL c0)
  clear hok hlw htw h0
  generalize lat0.take (min c0.ln 100) = lat at *
  generalize tape0.take (min c0.tn 100) = tape at *
  generalize cfFew c0 = c at *
  obtain ⟨mode, width, rob, queue, stores, slots, sets, ways, la0, ln0, lc0, tb0, ta0, tn0, tc0⟩ := c0
  obtain ⟨m1, m2, m3, m4, st, sl, se, wy, la, ln, lc, tb, ta, tn, tc⟩ := c
  simp only [cfV, cfL] at hF hB ⊢
  simp only at hl100 ht100
  have HF := Lib.hid hF
  have hw1 : w.heap.size < (w.alloc (.cells [.int .i64 mode, .int .i64 width, .int .i64 rob, .int .i64 queue, .int .i64 stores, .int .i64 slots, .int .i64 sets, .int .i64 ways, .slice la0 ln0 lc0, .bool tb0, .slice ta0 tn0 tc0].toArray 25)).heap.size := hB.1
  obtain ⟨⟨x0, x1, x2, x3, x4, x5, x6, x7, x8, x9, x10⟩, _⟩ := hB.c11
  have Hc := Lib.hid hc
  clear hF hc
  go_enter Try.func7, Try.ntmps7
  go_wp2_with fail
  refine HF.out.mono ?_
  rintro e w2 ⟨rfl, b⟩
  have hB2 := hB.below b hw1
  have hb2 := allocl_then b
  have hb4 := below11 (r := w.heap.size) (v0 := .int .i64 m1) (v1 := .int .i64 m2) (v2 := .int .i64 m3) (v3 := .int .i64 m4) (v4 := .int .i64 st) (v5 := .int .i64 sl) (v6 := .int .i64 se) (v7 := .int .i64 wy) (v8 := .slice la ln lc) (v9 := .bool tb) (v10 := .slice ta tn tc) hb2 (Nat.le_refl _)
  have hB4 := hB2.put11 (v0 := .int .i64 m1) (v1 := .int .i64 m2) (v2 := .int .i64 m3) (v3 := .int .i64 m4) (v4 := .int .i64 st) (v5 := .int .i64 sl) (v6 := .int .i64 se) (v7 := .int .i64 wy) (v8 := .slice la ln lc) (v9 := .bool tb) (v10 := .slice ta tn tc)
  clear x0 x1 x2 x3 x4 x5 x6 x7 x8 x9 x10 HF hB b hw1 hb2
  obtain ⟨⟨x0, x1, x2, x3, x4, x5, x6, x7, x8, x9, x10⟩, ⟨z0, z1, z2, z3, z4, z5, z6, z7, z8, z9, z10⟩⟩ := hB2.c11
  have HB4 := Lib.hid hB4
  have Hb4 := Lib.hid hb4
  clear hB4 hb4 hB2
  go_upto_region 2 with fail
  go_cut [1] from 10 to 14 (fun v wx => (∃ kk : Int, v = .int .i64 kk ∧ 0 ≤ kk ∧ kk ≤ 1048576) ∧ Blk wx w.heap.size [.int .i64 m1, .int .i64 m2, .int .i64 m3, .int .i64 m4, .int .i64 st, .int .i64 sl, .int .i64 se, .int .i64 wy, .slice la ln lc, .bool tb, .slice ta tn tc] ∧ Below w.heap.size w wx)
  case first =>
    go_wp2
    all_goals (go_meet; exact ⟨⟨_, rfl, by omega, by omega⟩, HB4.out, Hb4.out⟩)
  case rest =>
    clear x0 x1 x2 x3 x4 x5 x6 x7 x8 x9 x10 z0 z1 z2 z3 z4 z5 z6 z7 z8 z9 z10 HB4 Hb4 hkr
    obtain ⟨⟨kk, rfl, kk0, kk1⟩, hB4, hb4⟩ := hcut
    generalize wc = w4 at *
    have hC := refClean_any ⟨m1, m2, m3, m4, st, sl, se, wy, la, ln, lc, tb, ta, tn, tc⟩ lat tape hl100 ht100 w4 (Hc.out.below hb4)
    simp only [cfV, cfClean] at hC
    have HC := Lib.hid hC
    have hln := Lib.hid Hc.out.1.1
    have htn := Lib.hid Hc.out.2.1.1
    simp only at hln htn
    obtain ⟨⟨x0, x1, x2, x3, x4, x5, x6, x7, x8, x9, x10⟩, _⟩ := hB4.c11
    clear hC
    go_wp2_with fail
    refine HC.out.mono ?_
    rintro e w5 ⟨la2, lc2, ta2, tc2, rfl, hat, -, b⟩
    clear x0 x1 x2 x3 x4 x5 x6 x7 x8 x9 x10 HC
    obtain ⟨n1, hn1⟩ : ∃ n1, min ln 64 = n1 := ⟨_, rfl⟩
    obtain ⟨n2, hn2⟩ : ∃ n2, min tn 64 = n2 := ⟨_, rfl⟩
    have hl1 := Lib.hid (show (latOf lat).length = n1 by rw [← hn1]; exact latOf_len hln.out)
    have hl2 := Lib.hid (show (tape.take 64).length = n2 by rw [← hn2]; exact tape_len htn.out)
    have m1' : n1 ≤ 64 := by omega
    have m2' : n2 ≤ 64 := by omega
    unfold CfAt at hat
    simp only [cfClean] at hat
    rw [hn1, hn2] at hat ⊢
    have hX := Blk.new w5 25 [.int .i64 (lim m1 0 2), .int .i64 (lim m2 1 2), .int .i64 (lim m3 2 8), .int .i64 (lim m4 1 4), .int .i64 (lim st 1 4), .int .i64 (lim sl 2 6), .int .i64 (setsOf se), .int .i64 (lim wy 1 2), .slice la2 n1 lc2, .bool tb, .slice ta2 n2 tc2]
    have hB6 := (hB4.below b hB4.1).below (allocl_below w5 (.cells #[.int .i64 (lim m1 0 2), .int .i64 (lim m2 1 2), .int .i64 (lim m3 2 8), .int .i64 (lim m4 1 4), .int .i64 (lim st 1 4), .int .i64 (lim sl 2 6), .int .i64 (setsOf se), .int .i64 (lim wy 1 2), .slice la2 n1 lc2, .bool tb, .slice ta2 n2 tc2] 25)) (Nat.lt_of_lt_of_le hB4.1 b.size)
    have hb5 := hb4.trans (b.mono hb4.size)
    have hb6 := hb5.trans ((allocl_below w5 (.cells #[.int .i64 (lim m1 0 2), .int .i64 (lim m2 1 2), .int .i64 (lim m3 2 8), .int .i64 (lim m4 1 4), .int .i64 (lim st 1 4), .int .i64 (lim sl 2 6), .int .i64 (setsOf se), .int .i64 (lim wy 1 2), .slice la2 n1 lc2, .bool tb, .slice ta2 n2 tc2] 25)).mono hb5.size)
    have hj6 := hat.2.1.below (allocl_below w5 (.cells #[.int .i64 (lim m1 0 2), .int .i64 (lim m2 1 2), .int .i64 (lim m3 2 8), .int .i64 (lim m4 1 4), .int .i64 (lim st 1 4), .int .i64 (lim sl 2 6), .int .i64 (setsOf se), .int .i64 (lim wy 1 2), .slice la2 n1 lc2, .bool tb, .slice ta2 n2 tc2] 25))
    have HX := Lib.hid hX
    have HB6 := Lib.hid hB6
    have Hb6 := Lib.hid hb6
    have HJ6 := Lib.hid hj6
    have d8 := hX.2.1 8 _ rfl
    have d10 := hX.2.1 10 _ rfl
    clear hB4 hb4 b hat hb5 hn1 hn2 hln htn hX hB6 hb6 hj6
    go_upto_region 4 with fail
    go_cut [8, 9] from 10 to 22 (fun a b wx => a = .int .i64 n1 ∧ b = .int .i64 n2 ∧ Blk wx w5.heap.size [.int .i64 (lim m1 0 2), .int .i64 (lim m2 1 2), .int .i64 (lim m3 2 8), .int .i64 (lim m4 1 4), .int .i64 (lim st 1 4), .int .i64 (lim sl 2 6), .int .i64 (setsOf se), .int .i64 (lim wy 1 2), .slice la2 n1 lc2, .bool tb, .slice ta2 n2 tc2] ∧ Blk wx w.heap.size [.int .i64 m1, .int .i64 m2, .int .i64 m3, .int .i64 m4, .int .i64 st, .int .i64 sl, .int .i64 se, .int .i64 wy, .slice la ln lc, .bool tb, .slice ta tn tc] ∧ Below w.heap.size w wx ∧ IntsAt wx ta2 n2 .u32 (tape.take 64))
    case first =>
      go_quiet (fail)
      go_wp2_with fail
      go_meet
      case rel => exact ⟨rfl, rfl, Blk.drwN HX.out _, Blk.drwN HB6.out _, belowl_drewN Hb6.out _, HJ6.out.below (belowl_drewN (Below.refl _ _) _)⟩
    case rest =>
      obtain ⟨rfl, rfl, hX, hB, hb, hj⟩ := hcut
      generalize wc = w6 at *
      clear HX HB6 Hb6 HJ6 d8 d10
      have HB := Lib.hid hB
      have HXX := Lib.hid hX
      have Hb := Lib.hid hb
      have HJ := Lib.hid hj
      obtain ⟨lv, hlv⟩ : ∃ v, latV lat kk = v := ⟨_, rfl⟩
      obtain ⟨l0, hl0⟩ : ∃ v, latV lat 0 = v := ⟨_, rfl⟩
      obtain ⟨tv, htv⟩ : ∃ v, tapeV tape kk pc = v := ⟨_, rfl⟩
      have hc9 : ∀ (d : Nat) (os : Array Obj), CfAt _ ⟨m1, m2, m3, m4, st, sl, se, wy, la, ln, lc, tb, ta, tn, tc⟩ lat tape := fun d os => (Hc.out.below hb).below (below_regrown w6 d os)
      have Q1 := fun (d : Nat) (os : Array Obj) => lat_conf ⟨m1, m2, m3, m4, st, sl, se, wy, la, ln, lc, tb, ta, tn, tc⟩ lat tape (kk + n1) (by omega) (by omega) (by exact hl100) (by exact ht100) _ (hc9 d os)
      rw [latV_again lat kk n1 kk0 hl1.out, hlv] at Q1
      have Q2 := fun (d : Nat) (os : Array Obj) => lat_conf ⟨m1, m2, m3, m4, st, sl, se, wy, la, ln, lc, tb, ta, tn, tc⟩ lat tape kk (by omega) (by omega) (by exact hl100) (by exact ht100) _ (hc9 d os)
      rw [hlv] at Q2
      have Q3 := fun (d : Nat) (os : Array Obj) => lat_conf ⟨m1, m2, m3, m4, st, sl, se, wy, la, ln, lc, tb, ta, tn, tc⟩ lat tape (-kk) (by omega) (by omega) (by exact hl100) (by exact ht100) _ (hc9 d os)
      rw [latV_neg lat kk kk0, hl0] at Q3
      have Q4 := fun (d : Nat) (os : Array Obj) => lat_conf ⟨m1, m2, m3, m4, st, sl, se, wy, la, ln, lc, tb, ta, tn, tc⟩ lat tape 0 (by omega) (by omega) (by exact hl100) (by exact ht100) _ (hc9 d os)
      rw [hl0] at Q4
      have P1 := fun (d : Nat) (os : Array Obj) => tape_conf ⟨m1, m2, m3, m4, st, sl, se, wy, la, ln, lc, tb, ta, tn, tc⟩ lat tape (kk + n2) pc hpr.1 (by omega) (by omega) (by omega) (by exact hl100) (by exact ht100) _ (hc9 d os)
      rw [tapeV_again tape kk pc n2 kk0 hl2.out, htv] at P1
      have P2 := fun (d : Nat) (os : Array Obj) => tape_conf ⟨m1, m2, m3, m4, st, sl, se, wy, la, ln, lc, tb, ta, tn, tc⟩ lat tape kk pc hpr.1 (by omega) (by omega) (by omega) (by exact hl100) (by exact ht100) _ (hc9 d os)
      rw [htv] at P2
      simp only [cfV] at Q1 Q2 Q3 Q4 P1 P2
      have HQ1 := Lib.hid Q1
      have HQ2 := Lib.hid Q2
      have HQ3 := Lib.hid Q3
      have HQ4 := Lib.hid Q4
      have HP1 := Lib.hid P1
      have HP2 := Lib.hid P2
      have HLV := Lib.hid hlv
      have HTV := Lib.hid htv
      clear Q1 Q2 Q3 Q4 P1 P2 hc9 hlv hl0 htv hX hB hb hj
      obtain ⟨⟨x0, x1, x2, x3, x4, x5, x6, x7, x8, x9, x10⟩, _⟩ := HB.out.c11
      have g0 := fun d os => cell_regrown x0 d os
      have g1 := fun d os => cell_regrown x1 d os
      have g2 := fun d os => cell_regrown x2 d os
      have g3 := fun d os => cell_regrown x3 d os
      have g4 := fun d os => cell_regrown x4 d os
      have g5 := fun d os => cell_regrown x5 d os
      have g6 := fun d os => cell_regrown x6 d os
      have g7 := fun d os => cell_regrown x7 d os
      have g8 := fun d os => cell_regrown x8 d os
      have g9 := fun d os => cell_regrown x9 d os
      have g10 := fun d os => cell_regrown x10 d os
      clear x0 x1 x2 x3 x4 x5 x6 x7 x8 x9 x10
      go_wp2_with fail
      go_upto_region 5 with fail
      go_cut [53] from 23 to 52 (fun v wx => v = .bool false ∧ Below w6.heap.size w6 wx)
      case first =>
        refine wp_region_quiet_below (by kernel_rfl) (by kernel_rfl) ?_
        repeat (go_big_quiet_step (first
          | (go_at_call 26; first | with_reducible exact Calls.regrown_of (HQ1.out _ _) | with_reducible exact Calls.regrown_of (HQ2.out _ _) | with_reducible exact Calls.regrown_of (HQ3.out _ _) | exact Calls.regrown_of (HQ4.out _ _))
          | (go_at_call 28; first | with_reducible exact Calls.regrown_of (HP1.out _ _) | exact Calls.regrown_of (HP2.out _ _))))
        refine wpQuiet_nil ?_
        intro _ hw'
        obtain ⟨⟨nq, osq⟩, hw''⟩ := hw'
        subst hw''
        have hb9 := Lib.hid (below_regrown w6 nq osq)
        clear g0 g1 g2 g3 g4 g5 g6 g7 g8 g9 g10
        go_wp2_with fail
        go_meet
        exact ⟨rfl, hb9.out⟩
      case rest =>
        obtain ⟨rfl, hbc⟩ := hcut
        generalize wc = w7 at *
        have HB7 := Lib.hid (HB.out.below hbc HB.out.1)
        have HX7 := Lib.hid (HXX.out.below hbc HXX.out.1)
        have hj7 := HJ.out.below hbc
        have hb7 := Hb.out.trans (hbc.mono Hb.out.size)
        have hc9 : ∀ (d : Nat) (os : Array Obj), CfAt _ ⟨m1, m2, m3, m4, st, sl, se, wy, la, ln, lc, tb, ta, tn, tc⟩ lat tape := fun d os => (Hc.out.below hb7).below (below_regrown w7 d os)
        have Q2 := fun (d : Nat) (os : Array Obj) => lat_conf ⟨m1, m2, m3, m4, st, sl, se, wy, la, ln, lc, tb, ta, tn, tc⟩ lat tape kk (by omega) (by omega) (by exact hl100) (by exact ht100) _ (hc9 d os)
        have P2 := fun (d : Nat) (os : Array Obj) => tape_conf ⟨m1, m2, m3, m4, st, sl, se, wy, la, ln, lc, tb, ta, tn, tc⟩ lat tape kk pc hpr.1 (by omega) (by omega) (by omega) (by exact hl100) (by exact ht100) _ (hc9 d os)
        rw [HLV.out] at Q2
        rw [HTV.out] at P2
        simp only [cfV] at Q2 P2
        have HQ := Lib.hid Q2
        have HP := Lib.hid P2
        have Hb7 := Lib.hid hb7
        clear Q2 P2 hc9 hb7 hbc HQ1 HQ2 HQ3 HQ4 HP1 HP2 HB HXX HJ Hb g0 g1 g2 g3 g4 g5 g6 g7 g8 g9 g10
        obtain ⟨⟨x0, x1, x2, x3, x4, x5, x6, x7, x8, x9, x10⟩, _⟩ := HB7.out.c11
        have g0 := fun d os => cell_regrown x0 d os
        have g1 := fun d os => cell_regrown x1 d os
        have g2 := fun d os => cell_regrown x2 d os
        have g3 := fun d os => cell_regrown x3 d os
        have g4 := fun d os => cell_regrown x4 d os
        have g5 := fun d os => cell_regrown x5 d os
        have g6 := fun d os => cell_regrown x6 d os
        have g7 := fun d os => cell_regrown x7 d os
        have g8 := fun d os => cell_regrown x8 d os
        have g9 := fun d os => cell_regrown x9 d os
        have g10 := fun d os => cell_regrown x10 d os
        clear x0 x1 x2 x3 x4 x5 x6 x7 x8 x9 x10
        have y10 := HX7.out.2.1 10 _ rfl
        have h10 := fun d os => cell_regrown y10 d os
        clear y10
        by_cases hn0 : n1 = 0
        · subst hn0
          have e1 : lv = 1 := by rw [← HLV.out]; unfold latV; rw [if_pos hl1.out]
          subst e1
          by_cases hm0 : n2 = 0
          · subst hm0
            have e2 : tv = (pc + 4) % 4294967296 := by rw [← HTV.out]; unfold tapeV; rw [if_pos hl2.out]
            subst e2
            clear hj7
            clear HLV HTV hl1 hl2 Hc
            go_wp2_with fail
            refine wp_region_quiet_below (by kernel_rfl) (by kernel_rfl) ?_
            repeat (go_big_quiet_step (first
              | (go_at_call 22; exact Calls.regrown_of (alive08_any _))
              | (go_at_call 26; exact Calls.regrown_of (HQ.out _ _))
              | (go_at_call 28; exact Calls.regrown_of (HP.out _ _))))
            refine wpQuiet_nil ?_
            intro _ hw'
            obtain ⟨⟨nq, osq⟩, hw''⟩ := hw'
            subst hw''
            have hb9 := Hb7.out.trans ((below_regrown w7 nq osq).mono Hb7.out.size)
            clear g0 g1 g2 g3 g4 g5 g6 g7 g8 g9 g10 h10
            go_wp2
            go_ret
            exact ⟨rfl, hb9⟩
          · have hq0 : 0 < n2 := by omega
            have hq0' : (0 : Int) < n2 := by omega
            have e0 : ((n2 : Int) == 0) = false := by simp; omega
            obtain ⟨q, hq⟩ : ∃ q : Nat, kk % n2 = q := ⟨(kk % n2).toNat, (Int.toNat_of_nonneg (Int.emod_nonneg _ (by omega))).symm⟩
            have hqn : q < n2 := by have := Int.emod_lt_of_pos kk hq0'; omega
            obtain ⟨ga, rfl, hc⟩ := hj7.at_ hqn
            have e2 : tv = (tape.take 64).getD q 0 := by
              rw [← HTV.out]
              unfold tapeV
              rw [if_neg (by rw [hl2.out]; exact hm0), if_neg (by omega), hl2.out, hq, Int.toNat_natCast]
            rw [← e2] at hc
            have hcr := fun d os => cell_regrown hc d os
            clear e2 hc hj7 hm0
            clear HLV HTV hl1 hl2 Hc
            go_wp2_with fail
            refine wp_region_quiet_below (by kernel_rfl) (by kernel_rfl) ?_
            repeat (go_big_quiet_step (first
              | (go_at_call 22; exact Calls.regrown_of (alive08_any _))
              | (go_at_call 26; exact Calls.regrown_of (HQ.out _ _))
              | (go_at_call 28; exact Calls.regrown_of (HP.out _ _))))
            refine wpQuiet_nil ?_
            intro _ hw'
            obtain ⟨⟨nq, osq⟩, hw''⟩ := hw'
            subst hw''
            have hb9 := Hb7.out.trans ((below_regrown w7 nq osq).mono Hb7.out.size)
            clear g0 g1 g2 g3 g4 g5 g6 g7 g8 g9 g10 h10
            go_wp2
            go_ret
            exact ⟨rfl, hb9⟩
        · have hp0 : 0 < n1 := by omega
          have hp0' : (0 : Int) < n1 := by omega
          by_cases hm0 : n2 = 0
          · subst hm0
            have e2 : tv = (pc + 4) % 4294967296 := by rw [← HTV.out]; unfold tapeV; rw [if_pos hl2.out]
            subst e2
            clear hj7
            clear HLV HTV hl1 hl2 Hc
            go_wp2_with fail
            refine wp_region_quiet_below (by kernel_rfl) (by kernel_rfl) ?_
            repeat (go_big_quiet_step (first
              | (go_at_call 22; exact Calls.regrown_of (alive08_any _))
              | (go_at_call 26; exact Calls.regrown_of (HQ.out _ _))
              | (go_at_call 28; exact Calls.regrown_of (HP.out _ _))))
            refine wpQuiet_nil ?_
            intro _ hw'
            obtain ⟨⟨nq, osq⟩, hw''⟩ := hw'
            subst hw''
            have hb9 := Hb7.out.trans ((below_regrown w7 nq osq).mono Hb7.out.size)
            clear g0 g1 g2 g3 g4 g5 g6 g7 g8 g9 g10 h10
            go_wp2
            go_ret
            exact ⟨rfl, hb9⟩
          · have hq0 : 0 < n2 := by omega
            have hq0' : (0 : Int) < n2 := by omega
            have e0 : ((n2 : Int) == 0) = false := by simp; omega
            obtain ⟨q, hq⟩ : ∃ q : Nat, kk % n2 = q := ⟨(kk % n2).toNat, (Int.toNat_of_nonneg (Int.emod_nonneg _ (by omega))).symm⟩
            have hqn : q < n2 := by have := Int.emod_lt_of_pos kk hq0'; omega
            obtain ⟨ga, rfl, hc⟩ := hj7.at_ hqn
            have e2 : tv = (tape.take 64).getD q 0 := by
              rw [← HTV.out]
              unfold tapeV
              rw [if_neg (by rw [hl2.out]; exact hm0), if_neg (by omega), hl2.out, hq, Int.toNat_natCast]
            rw [← e2] at hc
            have hcr := fun d os => cell_regrown hc d os
            clear e2 hc hj7 hm0
            clear HLV HTV hl1 hl2 Hc
            go_wp2_with fail
            refine wp_region_quiet_below (by kernel_rfl) (by kernel_rfl) ?_
            repeat (go_big_quiet_step (first
              | (go_at_call 22; exact Calls.regrown_of (alive08_any _))
              | (go_at_call 26; exact Calls.regrown_of (HQ.out _ _))
              | (go_at_call 28; exact Calls.regrown_of (HP.out _ _))))
            refine wpQuiet_nil ?_
            intro _ hw'
            obtain ⟨⟨nq, osq⟩, hw''⟩ := hw'
            subst hw''
            have hb9 := Hb7.out.trans ((below_regrown w7 nq osq).mono Hb7.out.size)
            clear g0 g1 g2 g3 g4 g5 g6 g7 g8 g9 g10 h10
            go_wp2
            go_ret
            exact ⟨rfl, hb9⟩

theorem own : ownKnob Try.prog.godebug = none := by kernel_rfl
theorem laidOut : laidOutB Try.prog = true := by kernel_rfl

set_option maxRecDepth 100000 in
theorem lifted (os : Os) (started : os.Started) (H : Type) (enc : TypeId × Value → H) :
    ReturnsInHanded {} Try.checked os 7 .any (Rows.confTurnsSpec.pre6 enc Try.prog Try.f7 Rows.confTurnsRow.domain false) (Rows.confTurnsSpec.post enc Try.prog Try.f7 false true false false) := by
  refine returnsInHanded_of_change (C := Try.checked) own started (by kernel_rfl) Try.func7
    (ChangeSpec.witness6 (enc := enc) (C := Try.checked) false ⟨#[], #[.agg #[.int .i64 0, .int .i64 0, .int .i64 0, .int .i64 0, .int .i64 0, .int .i64 0, .int .i64 0, .int .i64 0, .slice none 0 0, .bool false, .slice none 0 0], .int .i64 0, .int .u32 0], []⟩ 8 (by kernel_rfl) (by kernel_rfl) (by kernel_rfl) (by kernel_rfl)) ?_
  intro W base args ds gs before hval0 hW hcnd _
  have hval : ∀ (j : Nat) t v, Try.f7.params[j]? = some t → args[j]? = some v → Value.okWide Try.prog W .any base t v := hval0
  have hW' := hW
  obtain ⟨p, q, hA0, hV, rfl, hfz, hnd⟩ := hW
  have hA : DataW.TrodAll enc Try.prog W 0 (fun _ => true) true Try.f7.params.toList args.toList ds p := hA0
  rw [Try.params7] at hA hval
  obtain ⟨v0, vs0, d0, ds0, p0, q0, hargs, rfl, rfl, h0, r0⟩ := trodAll_cons hA
  obtain ⟨v1, vs1, d1, ds1, p1, q1, rfl, rfl, rfl, h1, r1⟩ := trodAll_cons r0
  obtain ⟨v2, vs2, d2, ds2, p2, q2, rfl, rfl, rfl, h2, r2⟩ := trodAll_cons r1
  obtain ⟨rfl, rfl, rfl⟩ := trodAll_nil r2
  obtain rfl : args = #[v0, v1, v2] := by cases args; simp_all
  obtain ⟨rfl, rfl⟩ := trodVars_none hV
  have hlt := hW'.lt
  have k0 := h0
  obtain ⟨c, c_lat, c_tape, rfl, w_c, w_c_ok, w_c_lat, w_c_tape⟩ := arg_conf (hval 0 25 v0 rfl rfl) h0
  have k1 := h1
  obtain ⟨k, rfl, -, -, w_k⟩ := open_int Try.underlying3 (hval 1 3 v1 rfl rfl) h1
  have k2 := h2
  obtain ⟨pc, rfl, -, -, w_pc⟩ := open_int Try.underlying30 (hval 2 30 v2 rfl rfl) h2
  clear hA0 hval0
  simp only [List.append_nil] at hW'
  refine (walk c k pc c_lat c_tape w_c_ok w_c_lat w_c_tape w_k w_pc W w_c).mono fun e W' ⟨he, bel⟩ => ?_
  subst he
  exact ⟨_, rfl, _, _, _, [], _, [], hW', trodAll_mk1 (shut_bool Try.underlying4 _), (trodAll_cons_mk (Below.trod laidOut (by kernel_rfl) (of_decide_eq_true (by kernel_rfl)) k0 bel (fun x hx => hlt x (by simp [hx]))) (trodAll_cons_mk (Below.trod laidOut (by kernel_rfl) (of_decide_eq_true (by kernel_rfl)) k1 bel (fun x hx => hlt x (by simp [hx]))) (trodAll_cons_mk (Below.trod laidOut (by kernel_rfl) (of_decide_eq_true (by kernel_rfl)) k2 bel (fun x hx => hlt x (by simp [hx]))) trodAll_mk0))), rfl, bel.frame _, fun h => by cases h⟩

/-- THE STATEMENT -/
theorem proved : Rows.ConfTurnsSaid :=
  OpenClaim.holds_of_wide 7 Try.f7 rfl rfl rfl rfl rfl rfl rfl ⟨rfl, rfl, rfl, rfl, rfl⟩ rfl rfl rfl rfl rfl (by kernel_rfl) Try.func7 (by kernel_rfl)
    (of_decide_eq_true (by kernel_rfl)) (by unfold Func.isWrapper; first | (rw [if_pos (by decide +kernel)]; kernel_rfl) | (rw [if_neg (by decide +kernel)]; exact ⟨rfl, rfl⟩))
    (fun os started H enc _ => lifted os started H enc)
#print axioms proved
end Go.Proofs.Ytebeelphilfjhaa.confTurns
