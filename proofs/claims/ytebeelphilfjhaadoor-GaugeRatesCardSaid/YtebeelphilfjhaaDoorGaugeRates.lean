/- Proved: the card of GaugeRates (auspexlaw24): the rate of any two numbers, how any two rates stand, and the text of any one, is as the reference says; for every input; on the world that holds the powers of ten. -/
import Derived.Test.YtebeelphilfjhaaDoorCards
import Derived.Test.YtebeelphilfjhaaDoorTie
import Derived.Test.YtebeelphilfjhaaDoorGaugeM
import Derived.WalkKit
import Derived.ProofKit
import Derived.OpenShut
import Derived.Deep.DeepHandedRow
import Derived.Lib.LaidTab
namespace Go.Proofs.YtebeelphilfjhaaDoor.gaugeRates
open Go.ChangeShapes Go.WideShapes Go.ChangeAt Go.RowKit
set_option linter.unusedVariables false

theorem textP_nan {a : Nat} (h : fNan a = true) : textP a = [110, 111, 110, 101] := by unfold textP; rw [h]; rfl
theorem textP_sim {a b : Nat} (h : Sim a b) : textP a = textP b := by
  rcases h with rfl | ⟨h, g⟩
  · rfl
  · rw [textP_nan h, textP_nan g]

set_option maxHeartbeats 4000000 in
theorem walk (n d : Int) (a b : Nat) (hn : (Lit.int .i64 n).wf = true) (hd : (Lit.int .i64 d).wf = true) (ha : a < 18446744073709551616) (hb : b < 18446744073709551616) (w : World) (ht : Tab w) :
    Calls Tryd.prog 3 #[.int .i64 n, .int .i64 d, .float .f64 a, .float .f64 b] w fun e w' => e = .returned (.bool true) ∧ Below w.heap.size w w' := by
  have T := Lib.hid ht
  clear ht hn hd
  go_enter Tryd.func3, Tryd.ntmps3
  go_wp2_with fail
  go_at_call 10
  refine (alive24_any _ T.out).mono ?_
  rintro e w1 ⟨rfl, b1⟩
  have T1 := Lib.hid (T.out.below b1)
  have B1 := Lib.hid b1
  clear b1
  go_wp2_with fail
  go_at_call 12
  refine (rate_any n d _).mono ?_
  rintro e w2 ⟨r1, q1, rfl, h1, rfl⟩
  have H1 := Lib.hid h1
  have L1 := h1.1
  clear h1
  go_wp2_with fail
  go_at_call 13
  refine (refRate_any n d _).mono ?_
  rintro e w3 ⟨r2, q2, rfl, h2, rfl⟩
  have HS := Lib.hid (show sameB r1 r2 = true from decide_eq_true (H1.out.sim h2).key)
  have L2 := h2.1
  clear h2
  go_wp2_with fail
  go_at_call 11
  refine (same_any r1 r2 L1 L2 _).mono ?_
  rintro e w4 ⟨rfl, rfl⟩
  rw [HS.out]
  go_wp2_with fail
  go_at_call 14
  refine (order_any a b ha hb _).mono ?_
  rintro e w4 ⟨rfl, rfl⟩
  go_wp2_with fail
  go_at_call 15
  refine (refOrder_any a b ha hb _).mono ?_
  rintro e w4 ⟨rfl, rfl⟩
  have T2 := Lib.hid (T1.out.below (below_dr _ w1 (q1 + q2)))
  go_wp2_with fail
  go_at_call 16
  refine (text_any a ha _ T2.out).mono ?_
  rintro e w5 ⟨rfl, b5⟩
  have T5 := Lib.hid (T2.out.below b5)
  have B5 := Lib.hid (B1.out.trans ((below_dr _ w1 (q1 + q2)).trans (b5.mono B1.out.size)))
  clear b5
  go_wp2_with fail
  go_at_call 17
  refine (refText_any a ha _ T5.out).mono ?_
  rintro e w6 ⟨rfl, b6⟩
  have T6 := Lib.hid (T5.out.below b6)
  have B6 := Lib.hid (B5.out.trans (b6.mono B5.out.size))
  clear b6
  go_wp2_with fail
  go_at_call 12
  refine (rate_any n d _).mono ?_
  rintro e w7 ⟨r3, q3, rfl, h3, rfl⟩
  have H3 := Lib.hid h3
  have L3 := h3.1
  have T7 := Lib.hid (T6.out.below (below_dr _ _ q3))
  clear h3
  go_wp2_with fail
  go_at_call 16
  refine (text_any r3 L3 _ T7.out).mono ?_
  rintro e w8 ⟨rfl, b8⟩
  have T8 := Lib.hid (T7.out.below b8)
  have B8 := Lib.hid (B6.out.trans ((below_dr _ _ q3).trans (b8.mono B6.out.size)))
  clear b8
  go_wp2_with fail
  go_at_call 13
  refine (refRate_any n d _).mono ?_
  rintro e w9 ⟨r4, q4, rfl, h4, rfl⟩
  have HS4 := Lib.hid (textP_sim (h4.sim H3.out))
  have L4 := h4.1
  have T9 := Lib.hid (T8.out.below (below_dr _ _ q4))
  clear h4
  go_wp2_with fail
  go_at_call 17
  refine (refText_any r4 L4 _ T9.out).mono ?_
  rintro e w10 ⟨rfl, b10⟩
  rw [HS4.out]
  have B10 := Lib.hid (B8.out.trans ((below_dr _ _ q4).trans (b10.mono B8.out.size)))
  clear b10
  go_wp2
  go_ret
  exact ⟨rfl, B10.out⟩

theorem own : ownKnob Tryd.prog.godebug = none := by kernel_rfl
theorem laidOut : laidOutB Tryd.prog = true := by kernel_rfl
set_option maxRecDepth 100000 in
theorem contract (H : Type) (enc : TypeId × Value → H) (W : World) (base : Nat) (args : Array Value) (ds gs : List (DataW H)) (before : List MemPlace)
    (hval : ∀ (j : Nat) t v, Tryd.f3.params[j]? = some t → args[j]? = some v → Value.okWide Tryd.prog W .any base t v)
    (hW : DataW.Whole enc Tryd.prog Tryd.f3.params.toList Rows.gaugeRatesSpec.vars false W args.toList ds gs before) (hL : laidMetH Tryd.prog Rows.gaugeRatesRow.laid W) :
    Calls Tryd.prog 3 args W fun e W' => ∃ v, e = .returned v ∧ Rows.gaugeRatesSpec.post enc Tryd.prog Tryd.f3 false true false false W args v W' := by
  have hW' := hW
  obtain ⟨p, q, hA0, hV, rfl, hfz, hnd⟩ := hW
  have hA : DataW.TrodAll enc Tryd.prog W 0 (fun _ => true) true Tryd.f3.params.toList args.toList ds p := hA0
  rw [Tryd.params3] at hA hval
  obtain ⟨v0, vs0, d0, ds0, p0, q0, hargs, rfl, rfl, h0, r0⟩ := trodAll_cons hA
  obtain ⟨v1, vs1, d1, ds1, p1, q1, rfl, rfl, rfl, h1, r1⟩ := trodAll_cons r0
  obtain ⟨v2, vs2, d2, ds2, p2, q2, rfl, rfl, rfl, h2, r2⟩ := trodAll_cons r1
  obtain ⟨v3, vs3, d3, ds3, p3, q3, rfl, rfl, rfl, h3, r3⟩ := trodAll_cons r2
  obtain ⟨rfl, rfl, rfl⟩ := trodAll_nil r3
  obtain rfl : args = #[v0, v1, v2, v3] := by cases args; simp_all
  obtain ⟨rfl, rfl⟩ := trodVars_none hV
  have hlt := hW'.lt
  have k0 := h0
  obtain ⟨n, rfl, -, -, w_n⟩ := open_int Tryd.underlying3 (hval 0 3 v0 rfl rfl) h0
  have k1 := h1
  obtain ⟨d, rfl, -, -, w_d⟩ := open_int Tryd.underlying3 (hval 1 3 v1 rfl rfl) h1
  have k2 := h2
  obtain ⟨a, rfl, -, -, w_a⟩ := open_float Tryd.underlying22 (hval 2 22 v2 rfl rfl) h2
  have k3 := h3
  obtain ⟨b, rfl, -, -, w_b⟩ := open_float Tryd.underlying22 (hval 3 22 v3 rfl rfl) h3
  clear hA0
  simp only [List.append_nil] at hW'
  refine (walk n d a b w_n w_d (by simpa [Lit.wf] using w_a) (by simpa [Lit.wf] using w_b) W  (table hL)).mono fun e W' ⟨he, bel⟩ => ?_
  subst he
  exact ⟨_, rfl, _, _, _, [], _, [], hW', trodAll_mk1 (shut_bool Tryd.underlying4 _), (trodAll_cons_mk (Below.trod laidOut (by kernel_rfl) (of_decide_eq_true (by kernel_rfl)) k0 bel (fun x hx => hlt x (by simp [hx]))) (trodAll_cons_mk (Below.trod laidOut (by kernel_rfl) (of_decide_eq_true (by kernel_rfl)) k1 bel (fun x hx => hlt x (by simp [hx]))) (trodAll_cons_mk (Below.trod laidOut (by kernel_rfl) (of_decide_eq_true (by kernel_rfl)) k2 bel (fun x hx => hlt x (by simp [hx]))) (trodAll_cons_mk (Below.trod laidOut (by kernel_rfl) (of_decide_eq_true (by kernel_rfl)) k3 bel (fun x hx => hlt x (by simp [hx]))) trodAll_mk0)))), rfl, bel.frame _, fun h => by cases h⟩

theorem laid_met (os : Os) : laidMet Tryd.prog Rows.gaugeRatesRow.laid ((laidWorld os).forCall (fun _ _ => 0) ⟨#[], #[Value.int .i64 0, Value.int .i64 0, Value.float .f64 0, Value.float .f64 0], []⟩).memory :=
  laidMet_of_run' 8 (by kernel_rfl) (by kernel_rfl)
theorem reads (os : Os) {H : Type} (enc : TypeId × Value → H) : ∃ places, DataW.whole enc Tryd.prog ((laidWorld os).forCall (fun _ _ => 0) ⟨#[], #[Value.int .i64 0, Value.int .i64 0, Value.float .f64 0, Value.float .f64 0], []⟩).memory Tryd.f3.params.toList Rows.gaugeRatesSpec.vars false #[Value.int .i64 0, Value.int .i64 0, Value.float .f64 0, Value.float .f64 0].toList 8 = some ([.lit (.int .i64 0), .lit (.int .i64 0), .lit (.float .f64 0), .lit (.float .f64 0)], [], places) :=
  ⟨[], by kernel_rfl⟩

set_option maxRecDepth 100000 in
theorem lifted (os : Os) (started : os.Started) (H : Type) (enc : TypeId × Value → H) (F : Stop.Interp) :
    ReturnsInHanded {} Tryd.checked os 3 .any ((OpenSpec.ofChange Rows.gaugeRatesSpec).preRow enc Tryd.prog Tryd.f3 Rows.gaugeRatesRow.domain false Rows.gaugeRatesRow.laid) (((OpenSpec.ofChange Rows.gaugeRatesSpec).at F).post enc Tryd.prog Tryd.f3 false true false false) := by
  obtain ⟨places, hx⟩ := reads os enc
  refine returnsInHanded_of_row (C := Tryd.checked) (s := OpenSpec.ofChange Rows.gaugeRatesSpec) own started (by kernel_rfl) Tryd.func3
    (witness_row_at (enc := enc) (C := Tryd.checked) false (laidWorld os) #[Value.int .i64 0, Value.int .i64 0, Value.float .f64 0, Value.float .f64 0] rfl (by kernel_rfl) (by kernel_rfl) (by kernel_rfl)
      (OpenSpec.preRow_of_cond 8 hx (by kernel_rfl) (fun k hk => by cases hk) (by kernel_rfl) (laid_met os))) ?_
  intro W base args ds gs before hval hW _ _ _ hL _ _
  exact contract H enc W base args ds gs before hval hW hL

theorem said : Rows.GaugeRatesSaid :=
  OpenClaim.holds_of_cond 3 Tryd.f3 rfl rfl rfl rfl rfl rfl rfl ⟨rfl, rfl, rfl, rfl, rfl⟩ rfl rfl rfl rfl rfl (by kernel_rfl) Tryd.func3 (by kernel_rfl)
    (of_decide_eq_true (by kernel_rfl)) (by unfold Func.isWrapper; first | (rw [if_pos (by decide +kernel)]; kernel_rfl) | (rw [if_neg (by decide +kernel)]; exact ⟨rfl, rfl⟩))
    (fun os started H enc _ F => by rw [OpenClaim.pre_eq_preRow]; exact lifted os started H enc F)

theorem plain (f : FuncId) (fn : Func) (hf : Tryd.pinned.checked.prog.funcNamed "auspex/auspexlaw24.GaugeRates" = some f) (hfn : Tryd.pinned.checked.prog.funcs[f]? = some fn) :
    false = Tryd.pinned.checked.prog.looks [] ∧ ∀ (j : Nat) t, fn.params[j]? = some t → Tryd.pinned.checked.prog.wantsStandIn t = false := by
  obtain rfl : f = 3 := Option.some.inj ((show Tryd.prog.funcNamed "auspex/auspexlaw24.GaugeRates" = some 3 by kernel_rfl).symm.trans hf) |>.symm
  obtain rfl : fn = Tryd.f3 := (Option.some.inj (Tryd.func3.symm.trans hfn)).symm
  refine ⟨by kernel_rfl, fun j t ht => ?_⟩
  rw [Tryd.params3] at ht
  have hm := Array.mem_of_getElem? ht
  simp only [List.mem_toArray, List.mem_cons, List.not_mem_nil, or_false] at hm
  rcases hm with rfl | rfl | rfl | rfl
  · exact (show Tryd.prog.wantsStandIn 3 = false by kernel_rfl)
  · exact (show Tryd.prog.wantsStandIn 3 = false by kernel_rfl)
  · exact (show Tryd.prog.wantsStandIn 22 = false by kernel_rfl)
  · exact (show Tryd.prog.wantsStandIn 22 = false by kernel_rfl)

/-- THE CARD -/
theorem proved : Rows.GaugeRatesCardSaid :=
  Claim7.holds_tied_plain_at .later [] _ _ _ _ said (fun _ h => by cases h) (by kernel_rfl) (fun _ h => by cases h) gaugeRates_row_tie rfl ⟨rfl, rfl⟩ (by kernel_rfl) rfl plain (by kernel_rfl)
#print axioms proved
end Go.Proofs.YtebeelphilfjhaaDoor.gaugeRates
