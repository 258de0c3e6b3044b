/- Proved: the card of GaugeSigns (auspexlaw24): a rate with its sign turned is written with its sign turned, and stands the other way round, if it is one; for every input; on the world that holds the powers of ten. -/
import Derived.Test.YtebeelphilfjhaaDoorCards
import Derived.Test.YtebeelphilfjhaaDoorTie
import Derived.Test.YtebeelphilfjhaaDoorGaugeM
import Derived.WalkKit
import Derived.ProofKit
import Derived.OpenShut
import Derived.Deep.DeepHandedRow
import Derived.Lib.LaidTab
namespace Go.Proofs.YtebeelphilfjhaaDoor.gaugeSigns
open Go.ChangeShapes Go.WideShapes Go.ChangeAt Go.RowKit
set_option linter.unusedVariables false

theorem negF_facts {b : Nat} (hb : b < 18446744073709551616) : negF b < 18446744073709551616 ∧ negF b % 9223372036854775808 = b % 9223372036854775808 ∧ fSgn (negF b) = !fSgn b := by
  unfold negF
  cases hs : fSgn b
  · have h := of_decide_eq_false hs
    simp only [Bool.false_eq_true, if_false]
    refine ⟨by omega, by omega, decide_eq_true (by omega)⟩
  · have h := of_decide_eq_true hs
    simp only [if_true]
    refine ⟨by omega, by omega, decide_eq_false (by omega)⟩
theorem negF_nan {b : Nat} (hb : b < 18446744073709551616) : fNan (negF b) = fNan b := by
  rw [← fNan_abs (negF b), (negF_facts hb).2.1, fNan_abs]
theorem signed_not (s : Bool) (m k : Nat) : Ieee.signed (!s) m k = -Ieee.signed s m k := by
  unfold Ieee.signed
  cases s <;> simp
theorem negF_V {b : Nat} (hb : b < 18446744073709551616) (hn : fNan b = false) : fV (negF b) = -fV b := by
  obtain ⟨h1, h2, h3⟩ := negF_facts hb
  unfold fNan at hn
  unfold fV
  rw [read_double] at hn ⊢
  rw [read_double b] 
  rw [h2, sgn_read h1, h3, sgn_read hb] at *
  split
  · simp only [valD]; exact signed_not _ _ _
  · split
    · simp only [valD]; exact signed_not _ _ _
    · split
      · simp only [valD]; cases fSgn b <;> simp
      · rename_i h4 h5 h6
        rw [if_neg h4, if_neg h5, if_neg h6] at hn
        cases hn
theorem negF_K {b : Nat} (hb : b < 18446744073709551616) (hn : fNan b = false) : fK (negF b) = 1 - fK b := by
  rw [fK_num (by rw [negF_nan hb]; exact hn), fK_num hn, negF_V hb hn, (negF_facts hb).2.2]
  cases fSgn b <;> simp <;> omega
theorem neg_order {a b : Nat} (ha : a < 18446744073709551616) (hb : b < 18446744073709551616) (na : fNan a = false) (nb : fNan b = false) : cmpK (negF b) (negF a) = cmpK a b := by
  unfold cmpK
  rw [negF_K ha na, negF_K hb nb]
  repeat' split
  all_goals omega
theorem neg_text {a : Nat} (ha : a < 18446744073709551616) (na : fNan a = false) : (fSgn a = false → [45] ++ textP a = textP (negF a)) ∧ (fSgn a = true → [45] ++ textP (negF a) = textP a) := by
  obtain ⟨h1, h2, h3⟩ := negF_facts ha
  unfold textP
  rw [negF_nan ha, na, h2, h3]
  refine ⟨fun h => ?_, fun h => ?_⟩ <;> rw [h] <;> rfl
theorem bodyP_len (z : Nat) (h : thouP z < 1000) (h2 : wholeP z < 1000000000000) : (bodyP z).length ≤ 40 := by
  unfold bodyP
  have h3 := Lib.itoa_length_le (wholeP z : Int) (by omega) (by omega)
  have h4 := pad3_size _ h
  split
  · simp
  · simp; omega
theorem textP_len {a : Nat} (ha : a < 18446744073709551616) : (textP a).length ≤ 60 := by
  unfold textP
  split
  · simp
  · rename_i hn
    have hz : a % 9223372036854775808 < 9223372036854775808 := Nat.mod_lt _ (by omega)
    have : (bodyP (a % 9223372036854775808)).length ≤ 40 := by
      by_cases hb : ((1000000000000 * U1 : Nat) : Int) ≤ fV (a % 9223372036854775808)
      · unfold bodyP; rw [if_pos hb]; simp
      · obtain ⟨u, d, r, F⟩ := text_facts hz (by rw [fNan_abs]; simpa using hn) hb
        exact bodyP_len _ F.thou (by rw [F.wholeE]; exact F.small)
    rw [List.length_append]
    split <;> simp <;> omega
theorem textP_nan {a : Nat} (h : fNan a = true) : textP a = [110, 111, 110, 101] := by unfold textP; rw [h]; rfl

set_option maxHeartbeats 4000000 in
theorem walk_nan (a b : Nat) (ha : a < 18446744073709551616) (hb : b < 18446744073709551616) (hn : fNan a = true ∨ fNan b = true) (w : World) (ht : Tab w) :
    Calls Tryd.prog 8 #[.float .f64 a, .float .f64 b] w fun e w' => e = .returned (.bool true) ∧ Below w.heap.size w w' := by
  have T := Lib.hid ht
  have TA := Lib.hid (textP_nan (a := a))
  have TB := Lib.hid (textP_nan (a := b))
  clear ht
  cases na : fNan a <;> cases nb : fNan b
  · rw [na, nb] at hn; simp at hn
  all_goals
    have NA := Lib.hid na
    have NB := Lib.hid nb
    clear hn na nb
    go_enter Tryd.func8, Tryd.ntmps8
  · go_wp2_with (first
      | (go_at_call 22; refine (none_any _ (by assumption) _).mono ?_; rintro e w' ⟨rfl, rfl⟩; first | rw [NA.out] | rw [NB.out])
      | (go_at_call 10; refine (alive24_any _ T.out).mono ?_; rintro e w1 ⟨rfl, b1⟩; have T1 := Lib.hid (T.out.below b1); have B1 := Lib.hid b1; clear b1)
      | (go_at_call 16; refine (text_any b hb _ T1.out).mono ?_; rintro e w2 ⟨rfl, b2⟩; rw [TB.out NB.out]; have B2 := Lib.hid (B1.out.trans (b2.mono B1.out.size)); clear b2))
    go_ret
    exact ⟨rfl, B2.out⟩
  · go_wp2_with (first
      | (go_at_call 22; refine (none_any _ (by assumption) _).mono ?_; rintro e w' ⟨rfl, rfl⟩; first | rw [NA.out] | rw [NB.out])
      | (go_at_call 10; refine (alive24_any _ T.out).mono ?_; rintro e w1 ⟨rfl, b1⟩; have T1 := Lib.hid (T.out.below b1); have B1 := Lib.hid b1; clear b1)
      | (go_at_call 16; refine (text_any a ha _ T1.out).mono ?_; rintro e w2 ⟨rfl, b2⟩; rw [TA.out NA.out]; have B2 := Lib.hid (B1.out.trans (b2.mono B1.out.size)); clear b2))
    go_ret
    exact ⟨rfl, B2.out⟩
  · go_wp2_with fail
    go_at_call 22
    refine (none_any a ha _).mono ?_; rintro e w' ⟨rfl, rfl⟩; rw [NA.out]
    go_wp2_with (first
      | (go_at_call 22; refine (none_any _ (by assumption) _).mono ?_; rintro e w' ⟨rfl, rfl⟩; first | rw [NA.out] | rw [NB.out])
      | (go_at_call 10; refine (alive24_any _ T.out).mono ?_; rintro e w1 ⟨rfl, b1⟩; have T1 := Lib.hid (T.out.below b1); have B1 := Lib.hid b1; clear b1)
      | fail)
    go_at_call 16
    refine (text_any a ha _ T1.out).mono ?_; rintro e w2 ⟨rfl, b2⟩; rw [TA.out NA.out]
    have T2 := Lib.hid (T1.out.below b2); have B2 := Lib.hid (B1.out.trans (b2.mono B1.out.size)); clear b2
    go_wp2_with (first
      | (go_at_call 22; refine (none_any _ (by assumption) _).mono ?_; rintro e w' ⟨rfl, rfl⟩; rw [NB.out])
      | fail)
    go_at_call 16
    refine (text_any b hb _ T2.out).mono ?_; rintro e w3 ⟨rfl, b3⟩; rw [TB.out NB.out]
    have B3 := Lib.hid (B2.out.trans (b3.mono B2.out.size)); clear b3
    go_wp2
    go_ret
    exact ⟨rfl, B3.out⟩

set_option maxHeartbeats 4000000 in
theorem walk (a b : Nat) (ha : a < 18446744073709551616) (hb : b < 18446744073709551616) (w : World) (ht : Tab w) :
    Calls Tryd.prog 8 #[.float .f64 a, .float .f64 b] w fun e w' => e = .returned (.bool true) ∧ Below w.heap.size w w' := by
  by_cases hn : fNan a = true ∨ fNan b = true
  · exact walk_nan a b ha hb hn w ht
  have na : fNan a = false := by cases h : fNan a <;> simp_all
  have nb : fNan b = false := by cases h : fNan b <;> simp_all
  have la := (negF_facts ha).1
  have lb := (negF_facts hb).1
  have hra : ∀ w, (Op.unary .neg (.float .f64 a)).run Tryd.prog w = .ok (.float .f64 (negF a)) w := fun w => by rw [← negFloat_eq a ha]; rfl
  have hrb : ∀ w, (Op.unary .neg (.float .f64 b)).run Tryd.prog w = .ok (.float .f64 (negF b)) w := fun w => by rw [← negFloat_eq b hb]; rfl
  have HO := Lib.hid (neg_order ha hb na nb)
  have ht2 := neg_text ha na
  have l1 := textP_len ha
  have l2 := textP_len la
  have T := Lib.hid ht
  have NA := Lib.hid na
  have NB := Lib.hid nb
  obtain ⟨A1, hA1⟩ : ∃ A1, A1 = textP a := ⟨_, rfl⟩
  obtain ⟨A2, hA2⟩ : ∃ A2, A2 = textP (negF a) := ⟨_, rfl⟩
  rw [← hA1, ← hA2] at ht2
  rw [← hA1] at l1
  rw [← hA2] at l2
  have HA1 := Lib.hid hA1
  have HA2 := Lib.hid hA2
  have j1 := fun w => run_join ⟨#[45]⟩ ⟨A1.toArray⟩ [45] A1 rfl rfl (by simp) (by omega) w
  have j2 := fun w => run_join ⟨#[45]⟩ ⟨A2.toArray⟩ [45] A2 rfl rfl (by simp) (by omega) w
  obtain ⟨J1, hJ1⟩ : ∃ J, [45] ++ A1 = J := ⟨_, rfl⟩
  obtain ⟨J2, hJ2⟩ : ∃ J, [45] ++ A2 = J := ⟨_, rfl⟩
  rw [hJ1] at j1 ht2
  rw [hJ2] at j2 ht2
  clear hA1 hA2 na nb hn ht l1 l2 hJ1 hJ2
  generalize negF a = x at *
  generalize negF b = y at *
  cases hs : fSgn a
  · have e1 := ht2.1 hs
    obtain rfl := e1
    clear ht2 hs
    go_enter Tryd.func8, Tryd.ntmps8
    go_wp2_with (first
      | (go_at_call 22; refine (none_any _ (by assumption) _).mono ?_; rintro e w' ⟨rfl, rfl⟩; first | rw [NA.out] | rw [NB.out])
      | fail)
    go_at_call 16
    refine (text_any a ha _ T.out).mono ?_; rintro e w1 ⟨rfl, b1⟩; rw [← HA1.out]
    have T1 := Lib.hid (T.out.below b1); have B1 := Lib.hid b1; clear b1
    go_wp2_with fail
    go_at_call 16
    refine (text_any x la _ T1.out).mono ?_; rintro e w2 ⟨rfl, b2⟩; rw [← HA2.out]
    have T2 := Lib.hid (T1.out.below b2); have B2 := Lib.hid (B1.out.trans (b2.mono B1.out.size)); clear b2
    go_wp2_with (first
      | (go_at_call 10; refine (alive24_any _ T2.out).mono ?_; rintro e w3 ⟨rfl, b3⟩; have B3 := Lib.hid (B2.out.trans (b3.mono B2.out.size)); clear b3)
      | (go_at_call 14; first | ((with_reducible refine (order_any y x lb la _).mono ?_); rintro e w' ⟨rfl, rfl⟩; rw [HO.out]) | ((with_reducible refine (order_any a b ha hb _).mono ?_); rintro e w' ⟨rfl, rfl⟩)))
    all_goals go_ret
    all_goals exact ⟨rfl, B3.out⟩
  · have e1 := ht2.2 hs
    obtain rfl := e1
    clear ht2 hs
    go_enter Tryd.func8, Tryd.ntmps8
    go_wp2_with (first
      | (go_at_call 22; refine (none_any _ (by assumption) _).mono ?_; rintro e w' ⟨rfl, rfl⟩; first | rw [NA.out] | rw [NB.out])
      | fail)
    go_at_call 16
    refine (text_any a ha _ T.out).mono ?_; rintro e w1 ⟨rfl, b1⟩; rw [← HA1.out]
    have T1 := Lib.hid (T.out.below b1); have B1 := Lib.hid b1; clear b1
    go_wp2_with fail
    go_at_call 16
    refine (text_any x la _ T1.out).mono ?_; rintro e w2 ⟨rfl, b2⟩; rw [← HA2.out]
    have T2 := Lib.hid (T1.out.below b2); have B2 := Lib.hid (B1.out.trans (b2.mono B1.out.size)); clear b2
    go_wp2_with (first
      | (go_at_call 10; refine (alive24_any _ T2.out).mono ?_; rintro e w3 ⟨rfl, b3⟩; have B3 := Lib.hid (B2.out.trans (b3.mono B2.out.size)); clear b3)
      | (go_at_call 14; first | ((with_reducible refine (order_any y x lb la _).mono ?_); rintro e w' ⟨rfl, rfl⟩; rw [HO.out]) | ((with_reducible refine (order_any a b ha hb _).mono ?_); rintro e w' ⟨rfl, rfl⟩)))
    all_goals go_ret
    all_goals exact ⟨rfl, B3.out⟩

theorem own : ownKnob Tryd.prog.godebug = none := by kernel_rfl
theorem laidOut : laidOutB Tryd.prog = true := by kernel_rfl
set_option maxRecDepth 100000 in
theorem contract (H : Type) (enc : TypeId × Value → H) (W : World) (base : Nat) (args : Array Value) (ds gs : List (DataW H)) (before : List MemPlace)
    (hval : ∀ (j : Nat) t v, Tryd.f8.params[j]? = some t → args[j]? = some v → Value.okWide Tryd.prog W .any base t v)
    (hW : DataW.Whole enc Tryd.prog Tryd.f8.params.toList Rows.gaugeSignsSpec.vars false W args.toList ds gs before) (hL : laidMetH Tryd.prog Rows.gaugeSignsRow.laid W) :
    Calls Tryd.prog 8 args W fun e W' => ∃ v, e = .returned v ∧ Rows.gaugeSignsSpec.post enc Tryd.prog Tryd.f8 false true false false W args v W' := by
  have hW' := hW
  obtain ⟨p, q, hA0, hV, rfl, hfz, hnd⟩ := hW
  have hA : DataW.TrodAll enc Tryd.prog W 0 (fun _ => true) true Tryd.f8.params.toList args.toList ds p := hA0
  rw [Tryd.params8] at hA hval
  obtain ⟨v0, vs0, d0, ds0, p0, q0, hargs, rfl, rfl, h0, r0⟩ := trodAll_cons hA
  obtain ⟨v1, vs1, d1, ds1, p1, q1, rfl, rfl, rfl, h1, r1⟩ := trodAll_cons r0
  obtain ⟨rfl, rfl, rfl⟩ := trodAll_nil r1
  obtain rfl : args = #[v0, v1] := by cases args; simp_all
  obtain ⟨rfl, rfl⟩ := trodVars_none hV
  have hlt := hW'.lt
  have k0 := h0
  obtain ⟨a, rfl, -, -, w_a⟩ := open_float Tryd.underlying22 (hval 0 22 v0 rfl rfl) h0
  have k1 := h1
  obtain ⟨b, rfl, -, -, w_b⟩ := open_float Tryd.underlying22 (hval 1 22 v1 rfl rfl) h1
  clear hA0
  simp only [List.append_nil] at hW'
  refine (walk a b (by simpa [Lit.wf] using w_a) (by simpa [Lit.wf] using w_b) W  (table hL)).mono fun e W' ⟨he, bel⟩ => ?_
  subst he
  exact ⟨_, rfl, _, _, _, [], _, [], hW', trodAll_mk1 (shut_bool Tryd.underlying4 _), (trodAll_cons_mk (Below.trod laidOut (by kernel_rfl) (of_decide_eq_true (by kernel_rfl)) k0 bel (fun x hx => hlt x (by simp [hx]))) (trodAll_cons_mk (Below.trod laidOut (by kernel_rfl) (of_decide_eq_true (by kernel_rfl)) k1 bel (fun x hx => hlt x (by simp [hx]))) trodAll_mk0)), rfl, bel.frame _, fun h => by cases h⟩

theorem laid_met (os : Os) : laidMet Tryd.prog Rows.gaugeSignsRow.laid ((laidWorld os).forCall (fun _ _ => 0) ⟨#[], #[Value.float .f64 0, Value.float .f64 0], []⟩).memory :=
  laidMet_of_run' 8 (by kernel_rfl) (by kernel_rfl)
theorem reads (os : Os) {H : Type} (enc : TypeId × Value → H) : ∃ places, DataW.whole enc Tryd.prog ((laidWorld os).forCall (fun _ _ => 0) ⟨#[], #[Value.float .f64 0, Value.float .f64 0], []⟩).memory Tryd.f8.params.toList Rows.gaugeSignsSpec.vars false #[Value.float .f64 0, Value.float .f64 0].toList 8 = some ([.lit (.float .f64 0), .lit (.float .f64 0)], [], places) :=
  ⟨[], by kernel_rfl⟩

set_option maxRecDepth 100000 in
theorem lifted (os : Os) (started : os.Started) (H : Type) (enc : TypeId × Value → H) (F : Stop.Interp) :
    ReturnsInHanded {} Tryd.checked os 8 .any ((OpenSpec.ofChange Rows.gaugeSignsSpec).preRow enc Tryd.prog Tryd.f8 Rows.gaugeSignsRow.domain false Rows.gaugeSignsRow.laid) (((OpenSpec.ofChange Rows.gaugeSignsSpec).at F).post enc Tryd.prog Tryd.f8 false true false false) := by
  obtain ⟨places, hx⟩ := reads os enc
  refine returnsInHanded_of_row (C := Tryd.checked) (s := OpenSpec.ofChange Rows.gaugeSignsSpec) own started (by kernel_rfl) Tryd.func8
    (witness_row_at (enc := enc) (C := Tryd.checked) false (laidWorld os) #[Value.float .f64 0, Value.float .f64 0] rfl (by kernel_rfl) (by kernel_rfl) (by kernel_rfl)
      (OpenSpec.preRow_of_cond 8 hx (by kernel_rfl) (fun k hk => by cases hk) (by kernel_rfl) (laid_met os))) ?_
  intro W base args ds gs before hval hW _ _ _ hL _ _
  exact contract H enc W base args ds gs before hval hW hL

theorem said : Rows.GaugeSignsSaid :=
  OpenClaim.holds_of_cond 8 Tryd.f8 rfl rfl rfl rfl rfl rfl rfl ⟨rfl, rfl, rfl, rfl, rfl⟩ rfl rfl rfl rfl rfl (by kernel_rfl) Tryd.func8 (by kernel_rfl)
    (of_decide_eq_true (by kernel_rfl)) (by unfold Func.isWrapper; first | (rw [if_pos (by decide +kernel)]; kernel_rfl) | (rw [if_neg (by decide +kernel)]; exact ⟨rfl, rfl⟩))
    (fun os started H enc _ F => by rw [OpenClaim.pre_eq_preRow]; exact lifted os started H enc F)

theorem plain (f : FuncId) (fn : Func) (hf : Tryd.pinned.checked.prog.funcNamed "auspex/auspexlaw24.GaugeSigns" = some f) (hfn : Tryd.pinned.checked.prog.funcs[f]? = some fn) :
    false = Tryd.pinned.checked.prog.looks [] ∧ ∀ (j : Nat) t, fn.params[j]? = some t → Tryd.pinned.checked.prog.wantsStandIn t = false := by
  obtain rfl : f = 8 := Option.some.inj ((show Tryd.prog.funcNamed "auspex/auspexlaw24.GaugeSigns" = some 8 by kernel_rfl).symm.trans hf) |>.symm
  obtain rfl : fn = Tryd.f8 := (Option.some.inj (Tryd.func8.symm.trans hfn)).symm
  refine ⟨by kernel_rfl, fun j t ht => ?_⟩
  rw [Tryd.params8] at ht
  have hm := Array.mem_of_getElem? ht
  simp only [List.mem_toArray, List.mem_cons, List.not_mem_nil, or_false] at hm
  rcases hm with rfl | rfl
  · exact (show Tryd.prog.wantsStandIn 22 = false by kernel_rfl)
  · exact (show Tryd.prog.wantsStandIn 22 = false by kernel_rfl)

/-- THE CARD -/
theorem proved : Rows.GaugeSignsCardSaid :=
  Claim7.holds_tied_plain_at .later [] _ _ _ _ said (fun _ h => by cases h) (by kernel_rfl) (fun _ h => by cases h) gaugeSigns_row_tie rfl ⟨rfl, rfl⟩ (by kernel_rfl) rfl plain (by kernel_rfl)
#print axioms proved
end Go.Proofs.YtebeelphilfjhaaDoor.gaugeSigns
