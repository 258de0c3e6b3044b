/- Proved: the statement of ConfTapes (auspexlaw08): how long any request takes, what any guess is and the bounds are as the document says; for every input; no condition. -/
import Derived.Test.YtebeelphilfjhaaRows
import Derived.Test.YtebeelphilfjhaaConfF
import Derived.Test.YtebeelphilfjhaaConfV
import Derived.Test.YtebeelphilfjhaaConfA
import Derived.Test.YtebeelphilfjhaaRef08B
import Derived.Lib.QuietBelow
import Derived.OpenShut
namespace Go.Proofs.Ytebeelphilfjhaa.confTapes
open Go.ChangeShapes Go.WideShapes Go.ChangeAt Go.RowKit
set_option linter.unusedVariables false
set_option linter.unusedSimpArgs false

set_option maxHeartbeats 4000000
set_option maxRecDepth 100000
theorem walk (c0 : Cf) (k pc : Int) (lat0 tape0 : List Int) (hok : cfOK c0) (hlw : ∀ z ∈ lat0, (Lit.int .i64 z).wf = true) (htw : ∀ z ∈ tape0, (Lit.int .u32 z).wf = true) (wk : (Lit.int .i64 k).wf = true) (wpc : (Lit.int .u32 pc).wf = true) (w : World) (h0 : CfAt w c0 lat0 tape0) :
    Calls Try.prog 4 #[cfV c0, .int .i64 k, .int .u32 pc] w fun e W' => e = .returned (.bool true) ∧ Below w.heap.size w W' := by
  have hkr := bounds_i64 wk
  have hpr := bounds_u32 wpc
  clear wk wpc
  have hF := few08_any c0 lat0 tape0 (w.alloc (.cells (cfL c0).toArray 25)) (h0.below (allocl_below _ _))
  have hc := h0.few
  have hl100 : (cfFew c0).ln ≤ 200 := by simp only [cfFew]; omega
  have ht100 : (cfFew c0).tn ≤ 200 := by simp only [cfFew]; omega
  have hB := Blk.new w 25 (cfL c0)
  clear hok hlw htw h0
  generalize lat0.take (min c0.ln 100) = lat at *
  generalize tape0.take (min c0.tn 100) = tape at *
  generalize cfFew c0 = c at *
  obtain ⟨mode, width, rob, queue, stores, slots, sets, ways, la0, ln0, lc0, tb0, ta0, tn0, tc0⟩ := c0
  obtain ⟨m1, m2, m3, m4, st, sl, se, wy, la, ln, lc, tb, ta, tn, tc⟩ := c
  simp only [cfV, cfL] at hF hB ⊢
  simp only at hl100 ht100
  have HF := Lib.hid hF
  have hw1 : w.heap.size < (w.alloc (.cells [.int .i64 mode, .int .i64 width, .int .i64 rob, .int .i64 queue, .int .i64 stores, .int .i64 slots, .int .i64 sets, .int .i64 ways, .slice la0 ln0 lc0, .bool tb0, .slice ta0 tn0 tc0].toArray 25)).heap.size := hB.1
  obtain ⟨⟨x0, x1, x2, x3, x4, x5, x6, x7, x8, x9, x10⟩, _⟩ := hB.c11
  have Hc := Lib.hid hc
  clear hF hc
  go_enter Try.func4, Try.ntmps4
  go_wp2_with fail
  refine HF.out.mono ?_
  rintro e w2 ⟨rfl, b⟩
  have hB2 := hB.below b hw1
  have hb2 := allocl_then b
  have hb4 := below11 (r := w.heap.size) (v0 := .int .i64 m1) (v1 := .int .i64 m2) (v2 := .int .i64 m3) (v3 := .int .i64 m4) (v4 := .int .i64 st) (v5 := .int .i64 sl) (v6 := .int .i64 se) (v7 := .int .i64 wy) (v8 := .slice la ln lc) (v9 := .bool tb) (v10 := .slice ta tn tc) hb2 (Nat.le_refl _)
  have hB4 := hB2.put11 (v0 := .int .i64 m1) (v1 := .int .i64 m2) (v2 := .int .i64 m3) (v3 := .int .i64 m4) (v4 := .int .i64 st) (v5 := .int .i64 sl) (v6 := .int .i64 se) (v7 := .int .i64 wy) (v8 := .slice la ln lc) (v9 := .bool tb) (v10 := .slice ta tn tc)
  clear x0 x1 x2 x3 x4 x5 x6 x7 x8 x9 x10 HF hB b hw1 hb2
  obtain ⟨⟨x0, x1, x2, x3, x4, x5, x6, x7, x8, x9, x10⟩, ⟨z0, z1, z2, z3, z4, z5, z6, z7, z8, z9, z10⟩⟩ := hB2.c11
  have HB4 := Lib.hid hB4
  have Hb4 := Lib.hid hb4
  clear hB4 hb4 hB2
  go_wp2_with fail
  clear x0 x1 x2 x3 x4 x5 x6 x7 x8 x9 x10 z0 z1 z2 z3 z4 z5 z6 z7 z8 z9 z10
  generalize ((((((((((w2.setCell ⟨w.heap.size, 0, none⟩ (.int .i64 m1)).setCell ⟨w.heap.size, 1, none⟩ (.int .i64 m2)).setCell ⟨w.heap.size, 2, none⟩ (.int .i64 m3)).setCell ⟨w.heap.size, 3, none⟩ (.int .i64 m4)).setCell ⟨w.heap.size, 4, none⟩ (.int .i64 st)).setCell ⟨w.heap.size, 5, none⟩ (.int .i64 sl)).setCell ⟨w.heap.size, 6, none⟩ (.int .i64 se)).setCell ⟨w.heap.size, 7, none⟩ (.int .i64 wy)).setCell ⟨w.heap.size, 8, none⟩ (.slice la ln lc)).setCell ⟨w.heap.size, 9, none⟩ (.bool tb)).setCell ⟨w.heap.size, 10, none⟩ (.slice ta tn tc) = w4 at *
  obtain ⟨⟨x0, x1, x2, x3, x4, x5, x6, x7, x8, x9, x10⟩, _⟩ := HB4.out.c11
  have g0 := fun d os => cell_regrown x0 d os
  have g1 := fun d os => cell_regrown x1 d os
  have g2 := fun d os => cell_regrown x2 d os
  have g3 := fun d os => cell_regrown x3 d os
  have g4 := fun d os => cell_regrown x4 d os
  have g5 := fun d os => cell_regrown x5 d os
  have g6 := fun d os => cell_regrown x6 d os
  have g7 := fun d os => cell_regrown x7 d os
  have g8 := fun d os => cell_regrown x8 d os
  have g9 := fun d os => cell_regrown x9 d os
  have g10 := fun d os => cell_regrown x10 d os
  clear x0 x1 x2 x3 x4 x5 x6 x7 x8 x9 x10
  obtain ⟨lv, hlv⟩ : ∃ v, latV lat k = v := ⟨_, rfl⟩
  obtain ⟨tv, htv⟩ : ∃ v, tapeV tape k pc = v := ⟨_, rfl⟩
  obtain ⟨mv, hmv⟩ : ∃ v, mostV lat = v := ⟨_, rfl⟩
  obtain ⟨bv, hbv⟩ : ∃ v, boundV ⟨m1, m2, m3, m4, st, sl, se, wy, la, ln, lc, tb, ta, tn, tc⟩ lat = v := ⟨_, rfl⟩
  obtain ⟨dv, hdv⟩ : ∃ v, drainV ⟨m1, m2, m3, m4, st, sl, se, wy, la, ln, lc, tb, ta, tn, tc⟩ lat = v := ⟨_, rfl⟩
  have hc9 : ∀ (d : Nat) (os : Array Obj), CfAt _ ⟨m1, m2, m3, m4, st, sl, se, wy, la, ln, lc, tb, ta, tn, tc⟩ lat tape := fun d os => (Hc.out.below Hb4.out).below (below_regrown w4 d os)
  have QL := fun (d : Nat) (os : Array Obj) => lat_conf ⟨m1, m2, m3, m4, st, sl, se, wy, la, ln, lc, tb, ta, tn, tc⟩ lat tape k hkr.1 (by omega) (by exact hl100) (by exact ht100) _ (hc9 d os)
  rw [hlv] at QL
  simp only [cfV] at QL
  have HL := Lib.hid QL
  have QRL := fun (d : Nat) (os : Array Obj) => refLat_any ⟨m1, m2, m3, m4, st, sl, se, wy, la, ln, lc, tb, ta, tn, tc⟩ lat tape k hkr.1 (by omega) (by exact hl100) (by exact ht100) _ (hc9 d os)
  rw [hlv] at QRL
  simp only [cfV] at QRL
  have HRL := Lib.hid QRL
  have QT := fun (d : Nat) (os : Array Obj) => tape_conf ⟨m1, m2, m3, m4, st, sl, se, wy, la, ln, lc, tb, ta, tn, tc⟩ lat tape k pc hpr.1 (by omega) hkr.1 (by omega) (by exact hl100) (by exact ht100) _ (hc9 d os)
  rw [htv] at QT
  simp only [cfV] at QT
  have HT := Lib.hid QT
  have QRT := fun (d : Nat) (os : Array Obj) => refTape_any ⟨m1, m2, m3, m4, st, sl, se, wy, la, ln, lc, tb, ta, tn, tc⟩ lat tape k pc hpr.1 (by omega) hkr.1 (by omega) (by exact hl100) (by exact ht100) _ (hc9 d os)
  rw [htv] at QRT
  simp only [cfV] at QRT
  have HRT := Lib.hid QRT
  have QM := fun (d : Nat) (os : Array Obj) => most_conf ⟨m1, m2, m3, m4, st, sl, se, wy, la, ln, lc, tb, ta, tn, tc⟩ lat tape (by exact hl100) (by exact ht100) _ (hc9 d os)
  rw [hmv] at QM
  simp only [cfV] at QM
  have HM := Lib.hid QM
  have QRM := fun (d : Nat) (os : Array Obj) => refMost_any ⟨m1, m2, m3, m4, st, sl, se, wy, la, ln, lc, tb, ta, tn, tc⟩ lat tape (by exact hl100) (by exact ht100) _ (hc9 d os)
  rw [hmv] at QRM
  simp only [cfV] at QRM
  have HRM := Lib.hid QRM
  have QB := fun (d : Nat) (os : Array Obj) => bound_conf ⟨m1, m2, m3, m4, st, sl, se, wy, la, ln, lc, tb, ta, tn, tc⟩ lat tape (by exact hl100) (by exact ht100) _ (hc9 d os)
  rw [hbv] at QB
  simp only [cfV] at QB
  have HB := Lib.hid QB
  have QRB := fun (d : Nat) (os : Array Obj) => refBound_any ⟨m1, m2, m3, m4, st, sl, se, wy, la, ln, lc, tb, ta, tn, tc⟩ lat tape (by exact hl100) (by exact ht100) _ (hc9 d os)
  rw [hbv] at QRB
  simp only [cfV] at QRB
  have HRB := Lib.hid QRB
  have QD := fun (d : Nat) (os : Array Obj) => drain_conf ⟨m1, m2, m3, m4, st, sl, se, wy, la, ln, lc, tb, ta, tn, tc⟩ lat tape (by exact hl100) (by exact ht100) _ (hc9 d os)
  rw [hdv] at QD
  simp only [cfV] at QD
  have HD := Lib.hid QD
  have QRD := fun (d : Nat) (os : Array Obj) => refDrain_any ⟨m1, m2, m3, m4, st, sl, se, wy, la, ln, lc, tb, ta, tn, tc⟩ lat tape (by exact hl100) (by exact ht100) _ (hc9 d os)
  rw [hdv] at QRD
  simp only [cfV] at QRD
  have HRD := Lib.hid QRD
  clear QL QRL QT QRT QM QRM QB QRB QD QRD hc9 hlv htv hmv hbv hdv hkr hpr hl100 ht100
  refine wp_region_quiet_below (by kernel_rfl) (by kernel_rfl) ?_
  repeat (go_big_quiet_step (first
    | (go_at_call 22; exact Calls.regrown_of (alive08_any _))
    | (go_at_call 26; exact Calls.regrown_of (HL.out _ _))
    | (go_at_call 27; exact Calls.regrown_of (HRL.out _ _))
    | (go_at_call 28; exact Calls.regrown_of (HT.out _ _))
    | (go_at_call 29; exact Calls.regrown_of (HRT.out _ _))
    | (go_at_call 30; exact Calls.regrown_of (HM.out _ _))
    | (go_at_call 31; exact Calls.regrown_of (HRM.out _ _))
    | (go_at_call 32; exact Calls.regrown_of (HB.out _ _))
    | (go_at_call 33; exact Calls.regrown_of (HRB.out _ _))
    | (go_at_call 34; exact Calls.regrown_of (HD.out _ _))
    | (go_at_call 35; exact Calls.regrown_of (HRD.out _ _))))
  refine wpQuiet_nil ?_
  intro _ hw'
  obtain ⟨⟨nq, osq⟩, hw''⟩ := hw'
  subst hw''
  have hb9 := Hb4.out.trans ((below_regrown w4 nq osq).mono Hb4.out.size)
  clear g0 g1 g2 g3 g4 g5 g6 g7 g8 g9 g10
  go_wp2
  go_ret
  exact ⟨rfl, hb9⟩

theorem own : ownKnob Try.prog.godebug = none := by kernel_rfl
theorem laidOut : laidOutB Try.prog = true := by kernel_rfl

set_option maxRecDepth 100000 in
theorem lifted (os : Os) (started : os.Started) (H : Type) (enc : TypeId × Value → H) :
    ReturnsInHanded {} Try.checked os 4 .any (Rows.confTapesSpec.pre6 enc Try.prog Try.f4 Rows.confTapesRow.domain false) (Rows.confTapesSpec.post enc Try.prog Try.f4 false true false false) := by
  refine returnsInHanded_of_change (C := Try.checked) own started (by kernel_rfl) Try.func4
    (ChangeSpec.witness6 (enc := enc) (C := Try.checked) false ⟨#[], #[.agg #[.int .i64 0, .int .i64 0, .int .i64 0, .int .i64 0, .int .i64 0, .int .i64 0, .int .i64 0, .int .i64 0, .slice none 0 0, .bool false, .slice none 0 0], .int .i64 0, .int .u32 0], []⟩ 8 (by kernel_rfl) (by kernel_rfl) (by kernel_rfl) (by kernel_rfl)) ?_
  intro W base args ds gs before hval0 hW hcnd _
  have hval : ∀ (j : Nat) t v, Try.f4.params[j]? = some t → args[j]? = some v → Value.okWide Try.prog W .any base t v := hval0
  have hW' := hW
  obtain ⟨p, q, hA0, hV, rfl, hfz, hnd⟩ := hW
  have hA : DataW.TrodAll enc Try.prog W 0 (fun _ => true) true Try.f4.params.toList args.toList ds p := hA0
  rw [Try.params4] at hA hval
  obtain ⟨v0, vs0, d0, ds0, p0, q0, hargs, rfl, rfl, h0, r0⟩ := trodAll_cons hA
  obtain ⟨v1, vs1, d1, ds1, p1, q1, rfl, rfl, rfl, h1, r1⟩ := trodAll_cons r0
  obtain ⟨v2, vs2, d2, ds2, p2, q2, rfl, rfl, rfl, h2, r2⟩ := trodAll_cons r1
  obtain ⟨rfl, rfl, rfl⟩ := trodAll_nil r2
  obtain rfl : args = #[v0, v1, v2] := by cases args; simp_all
  obtain ⟨rfl, rfl⟩ := trodVars_none hV
  have hlt := hW'.lt
  have k0 := h0
  obtain ⟨c, c_lat, c_tape, rfl, w_c, w_c_ok, w_c_lat, w_c_tape⟩ := arg_conf (hval 0 25 v0 rfl rfl) h0
  have k1 := h1
  obtain ⟨k, rfl, -, -, w_k⟩ := open_int Try.underlying3 (hval 1 3 v1 rfl rfl) h1
  have k2 := h2
  obtain ⟨pc, rfl, -, -, w_pc⟩ := open_int Try.underlying30 (hval 2 30 v2 rfl rfl) h2
  clear hA0 hval0
  simp only [List.append_nil] at hW'
  refine (walk c k pc c_lat c_tape w_c_ok w_c_lat w_c_tape w_k w_pc W w_c).mono fun e W' ⟨he, bel⟩ => ?_
  subst he
  exact ⟨_, rfl, _, _, _, [], _, [], hW', trodAll_mk1 (shut_bool Try.underlying4 _), (trodAll_cons_mk (Below.trod laidOut (by kernel_rfl) (of_decide_eq_true (by kernel_rfl)) k0 bel (fun x hx => hlt x (by simp [hx]))) (trodAll_cons_mk (Below.trod laidOut (by kernel_rfl) (of_decide_eq_true (by kernel_rfl)) k1 bel (fun x hx => hlt x (by simp [hx]))) (trodAll_cons_mk (Below.trod laidOut (by kernel_rfl) (of_decide_eq_true (by kernel_rfl)) k2 bel (fun x hx => hlt x (by simp [hx]))) trodAll_mk0))), rfl, bel.frame _, fun h => by cases h⟩

/-- THE STATEMENT -/
theorem proved : Rows.ConfTapesSaid :=
  OpenClaim.holds_of_wide 4 Try.f4 rfl rfl rfl rfl rfl rfl rfl ⟨rfl, rfl, rfl, rfl, rfl⟩ rfl rfl rfl rfl rfl (by kernel_rfl) Try.func4 (by kernel_rfl)
    (of_decide_eq_true (by kernel_rfl)) (by unfold Func.isWrapper; first | (rw [if_pos (by decide +kernel)]; kernel_rfl) | (rw [if_neg (by decide +kernel)]; exact ⟨rfl, rfl⟩))
    (fun os started H enc _ => lifted os started H enc)
#print axioms proved
end Go.Proofs.Ytebeelphilfjhaa.confTapes
