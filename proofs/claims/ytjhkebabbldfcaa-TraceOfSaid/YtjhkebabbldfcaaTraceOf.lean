/- Proved: the statement of TraceOf (auspexlaw07): what either contract tells of any steps, and how many events any two rows have in common, is as the reference says; for every input; no condition. -/
import Derived.Test.YtjhkebabbldfcaaRows
import Derived.Test.YtjhkebabbldfcaaTrace
import Derived.OpenShut
import Derived.Deep.QuietTactic
import Derived.BigQuiet
namespace Go.Proofs.Ytjhkebabbldfcaa.traceOf
open Go.ChangeShapes Go.WideShapes Go.ChangeAt Go.RowKit
set_option linter.unusedVariables false
set_option maxHeartbeats 2000000
set_option maxRecDepth 100000

theorem walk (A : Option Addr) (n c : Nat) (ss : List St) (B : Option Addr) (m d : Nat) (ts : List St) (b : Bool) (hn : n ≤ c) (hc : c ≤ maxLen) (hz : A = none → c = 0) (wf : ∀ s ∈ ss, stOK s) (hm : m ≤ d) (hd : d ≤ maxLen) (hz2 : B = none → d = 0) (wf2 : ∀ s ∈ ts, stOK s) (w : World) (hs : StepsAt w A n ss) (ht : StepsAt w B m ts) :
    Calls Try.prog 3 #[.slice A n c, .slice B m d, .bool b] w fun e w' => e = .returned (.bool true) ∧ Below w.heap.size w w' := by
  unfold maxLen at hc hd
  have hs' := hs.take (Nat.min_le_left n 100)
  have ht' := ht.take (Nat.min_le_left m 100)
  obtain ⟨n', hn'⟩ : ∃ k, min n 100 = k := ⟨_, rfl⟩
  obtain ⟨m', hm'⟩ : ∃ k, min m 100 = k := ⟨_, rfl⟩
  rw [hn'] at hs'
  rw [hm'] at ht'
  have e1 : (if (100 : Int) < (n : Int) then (100 : Int) else (n : Int)) = (n' : Int) := by split <;> omega
  have e2 : (if (100 : Int) < (m : Int) then (100 : Int) else (m : Int)) = (m' : Int) := by split <;> omega
  have k1 : n' ≤ 100 := by omega
  have k2 : m' ≤ 100 := by omega
  have k3 : n' ≤ n := by omega
  have k4 : m' ≤ m := by omega
  have k5 : (n' : Int) ≤ c := by omega
  have k6 : (m' : Int) ≤ d := by omega
  have HS := Lib.hid hs'
  have HT := Lib.hid ht'
  clear hs ht hs' ht' hz hz2 wf wf2 hn' hm'
  generalize ss.take n' = ss at *
  generalize ts.take m' = ts at *
  go_enter Try.func3, Try.ntmps3
  go_wp2
  go_quiet (fail)
  have b0 := below_dr w.heap.size w nq
  have HS0 := Lib.hid (HS.out.below b0)
  have HT0 := Lib.hid (HT.out.below b0)
  have B0 := Lib.hid b0
  clear b0
  generalize w.drewN nq = w0 at *
  go_wp2_with fail
  go_at_call 8
  refine (of_any _ _ _ _ b (by omega) _ HS0.out).mono ?_
  rintro e w1 ⟨X, cx, rfl, -, -, h1, b1⟩
  have HS1 := Lib.hid (HS0.out.below b1)
  have HT1 := Lib.hid (HT0.out.below b1)
  have HX1 := Lib.hid h1
  have B1 := Lib.hid (B0.out.trans (b1.mono B0.out.size))
  clear h1 b1
  go_wp2_with fail
  go_at_call 8
  refine (of_any _ _ _ _ b (by omega) _ HT1.out).mono ?_
  rintro e w2 ⟨Y, cy, rfl, -, -, h2, b2⟩
  have HS2 := Lib.hid (HS1.out.below b2)
  have HT2 := Lib.hid (HT1.out.below b2)
  have HX2 := Lib.hid (HX1.out.below b2)
  have HY2 := Lib.hid h2
  have B2 := Lib.hid (B1.out.trans (b2.mono B1.out.size))
  clear h2 b2
  go_wp2_with fail
  go_at_call 9
  refine (alive07_any _).mono ?_
  rintro e w3 ⟨rfl, b3⟩
  have HS3 := Lib.hid (HS2.out.below b3)
  have HT3 := Lib.hid (HT2.out.below b3)
  have HX3 := Lib.hid (HX2.out.below b3)
  have HY3 := Lib.hid (HY2.out.below b3)
  have B3 := Lib.hid (B2.out.trans (b3.mono B2.out.size))
  clear b3
  go_wp2_with fail
  go_at_call 11
  refine (refOf_any _ _ _ _ b (by omega) _ HS3.out).mono ?_
  rintro e w4 ⟨U, cu, rfl, -, -, h4, b4⟩
  have HT4 := Lib.hid (HT3.out.below b4)
  have HX4 := Lib.hid (HX3.out.below b4)
  have HY4 := Lib.hid (HY3.out.below b4)
  have HU4 := Lib.hid h4
  have B4 := Lib.hid (B3.out.trans (b4.mono B3.out.size))
  clear b4 h4
  go_wp2_with fail
  go_at_call 10
  refine (like_any _ _ _ _ _ _ _ _ (by omega) (by omega) _ HX4.out HU4.out).mono ?_
  rintro e w5 ⟨q5, rfl, rfl⟩
  rw [decide_eq_true rfl]
  have b5 := below_dr w4.heap.size w4 q5
  have HT5 := Lib.hid (HT4.out.below b5)
  have HX5 := Lib.hid (HX4.out.below b5)
  have HY5 := Lib.hid (HY4.out.below b5)
  have B5 := Lib.hid (B4.out.trans (b5.mono B4.out.size))
  clear b5
  generalize w4.drewN q5 = w5 at *
  go_wp2_with fail
  go_at_call 11
  refine (refOf_any _ _ _ _ b (by omega) _ HT5.out).mono ?_
  rintro e w6 ⟨V, cv, rfl, -, -, h6, b6⟩
  have HX6 := Lib.hid (HX5.out.below b6)
  have HY6 := Lib.hid (HY5.out.below b6)
  have HV6 := Lib.hid h6
  have B6 := Lib.hid (B5.out.trans (b6.mono B5.out.size))
  clear b6 h6
  go_wp2_with fail
  go_at_call 10
  refine (like_any _ _ _ _ _ _ _ _ (by omega) (by omega) _ HY6.out HV6.out).mono ?_
  rintro e w7 ⟨q7, rfl, rfl⟩
  rw [decide_eq_true rfl]
  have b7 := below_dr w6.heap.size w6 q7
  have HX7 := Lib.hid (HX6.out.below b7)
  have HY7 := Lib.hid (HY6.out.below b7)
  have B7 := Lib.hid (B6.out.trans (b7.mono B6.out.size))
  clear b7
  generalize w6.drewN q7 = w7 at *
  go_wp2_with fail
  go_at_call 12
  refine (same_any _ _ _ _ _ _ _ _ (by omega) (by omega) _ HX7.out HY7.out).mono ?_
  rintro e w8 ⟨q8, rfl, rfl⟩
  have b8 := below_dr w7.heap.size w7 q8
  have HX8 := Lib.hid (HX7.out.below b8)
  have HY8 := Lib.hid (HY7.out.below b8)
  have B8 := Lib.hid (B7.out.trans (b8.mono B7.out.size))
  clear b8
  generalize w7.drewN q8 = w8 at *
  go_wp2_with fail
  go_at_call 13
  refine (refSame_any _ _ _ _ _ _ _ _ (by omega) (by omega) _ HX8.out HY8.out).mono ?_
  rintro e w9 ⟨q9, rfl, rfl⟩
  have B9 := Lib.hid (B8.out.trans (below_dr _ w8 q9))
  go_wp2
  go_ret
  exact ⟨rfl, B9.out⟩

theorem own : ownKnob Try.prog.godebug = none := by kernel_rfl
theorem laidOut : laidOutB Try.prog = true := by kernel_rfl

set_option maxRecDepth 100000 in
theorem lifted (os : Os) (started : os.Started) (H : Type) (enc : TypeId × Value → H) :
    ReturnsInHanded {} Try.checked os 3 .any (Rows.traceOfSpec.pre6 enc Try.prog Try.f3 Rows.traceOfRow.domain false) (Rows.traceOfSpec.post enc Try.prog Try.f3 false true false false) := by
  refine returnsInHanded_of_change (C := Try.checked) own started (by kernel_rfl) Try.func3
    (ChangeSpec.witness6 (enc := enc) (C := Try.checked) false ⟨#[], #[Value.slice none 0 0, Value.slice none 0 0, Value.bool false], []⟩ 8 (by kernel_rfl) (by kernel_rfl) (by kernel_rfl) (by kernel_rfl)) ?_
  intro W base args ds gs before hval0 hW hcnd _
  have hval : ∀ (j : Nat) t v, Try.f3.params[j]? = some t → args[j]? = some v → Value.okWide Try.prog W .any base t v := hval0
  have hW' := hW
  obtain ⟨p, q, hA0, hV, rfl, hfz, hnd⟩ := hW
  have hA : DataW.TrodAll enc Try.prog W 0 (fun _ => true) true Try.f3.params.toList args.toList ds p := hA0
  rw [Try.params3] at hA hval
  obtain ⟨v0, vs0, d0, ds0, p0, q0, hargs, rfl, rfl, h0, r0⟩ := trodAll_cons hA
  obtain ⟨v1, vs1, d1, ds1, p1, q1, rfl, rfl, rfl, h1, r1⟩ := trodAll_cons r0
  obtain ⟨v2, vs2, d2, ds2, p2, q2, rfl, rfl, rfl, h2, r2⟩ := trodAll_cons r1
  obtain ⟨rfl, rfl, rfl⟩ := trodAll_nil r2
  obtain rfl : args = #[v0, v1, v2] := by cases args; simp_all
  obtain ⟨rfl, rfl⟩ := trodVars_none hV
  have hlt := hW'.lt
  have k0 := h0
  obtain ⟨a_a, a_n, a_c, a, rfl, w_a_n, w_a_c, w_a_z, w_a, w_a_wf⟩ := arg_steps (hval 0 22 v0 rfl rfl) h0
  have k1 := h1
  obtain ⟨b_a, b_n, b_c, b, rfl, w_b_n, w_b_c, w_b_z, w_b, w_b_wf⟩ := arg_steps (hval 1 22 v1 rfl rfl) h1
  have k2 := h2
  obtain ⟨loaded, rfl, -, -⟩ := open_bool Try.underlying4 (hval 2 4 v2 rfl rfl) h2
  clear hA0 hval0
  simp only [List.append_nil] at hW'
  refine (walk a_a a_n a_c a b_a b_n b_c b loaded w_a_n w_a_c w_a_z w_a_wf w_b_n w_b_c w_b_z w_b_wf W w_a w_b).mono fun e W' ⟨he, bel⟩ => ?_
  subst he
  exact ⟨_, rfl, _, _, _, [], _, [], hW', trodAll_mk1 (shut_bool Try.underlying4 _), (trodAll_cons_mk (Below.trod laidOut (by kernel_rfl) (of_decide_eq_true (by kernel_rfl)) k0 bel (fun x hx => hlt x (by simp [hx]))) (trodAll_cons_mk (Below.trod laidOut (by kernel_rfl) (of_decide_eq_true (by kernel_rfl)) k1 bel (fun x hx => hlt x (by simp [hx]))) (trodAll_cons_mk (Below.trod laidOut (by kernel_rfl) (of_decide_eq_true (by kernel_rfl)) k2 bel (fun x hx => hlt x (by simp [hx]))) trodAll_mk0))), rfl, bel.frame _, fun h => by cases h⟩

/-- THE STATEMENT -/
theorem proved : Rows.TraceOfSaid :=
  OpenClaim.holds_of_wide 3 Try.f3 rfl rfl rfl rfl rfl rfl rfl ⟨rfl, rfl, rfl, rfl, rfl⟩ rfl rfl rfl rfl rfl (by kernel_rfl) Try.func3 (by kernel_rfl)
    (of_decide_eq_true (by kernel_rfl)) (by unfold Func.isWrapper; first | (rw [if_pos (by decide +kernel)]; kernel_rfl) | (rw [if_neg (by decide +kernel)]; exact ⟨rfl, rfl⟩))
    (fun os started H enc _ => lifted os started H enc)
#print axioms proved
end Go.Proofs.Ytjhkebabbldfcaa.traceOf
