/- Proved: the card of GaugeOrder (auspexlaw24): the order of two rates, turned, is turned; it goes on; it is alike of a rate and itself; for every input; on the world that holds the powers of ten. -/
import Derived.Test.YtebeelphilfjhaaDoorCards
import Derived.Test.YtebeelphilfjhaaDoorTie
import Derived.Test.YtebeelphilfjhaaDoorGaugeLaid
import Derived.WalkKit
import Derived.ProofKit
import Derived.OpenShut
import Derived.Deep.DeepHandedRow
import Derived.Lib.LaidTab
namespace Go.Proofs.YtebeelphilfjhaaDoor.gaugeOrder
open Go.ChangeShapes Go.WideShapes Go.ChangeAt Go.RowKit

theorem walk (a b c : Nat) (ha : a < 18446744073709551616) (hb : b < 18446744073709551616) (hc : c < 18446744073709551616) (w : World) (ht : Tab w) :
    Calls Tryd.prog 5 #[.float .f64 a, .float .f64 b, .float .f64 c] w fun e w' => e = .returned (.bool true) ∧ Below w.heap.size w w' := by
  have r1 := cmpK_range a b
  have r2 := cmpK_range b c
  have r3 := cmpK_range a c
  have t1 := cmpK_turn a b
  have s1 := cmpK_self a
  have l1 := cmpK_le a b
  have l2 := cmpK_le b c
  have l3 := cmpK_le a c
  have q1 := cmpK_eq a b
  have q2 := cmpK_eq b c
  have q3 := cmpK_eq a c
  have hall : cmpK a b ≤ 0 → cmpK b c ≤ 0 → cmpK a c ≤ 0 ∧ ((cmpK a c == 0) = ((cmpK a b == 0) && (cmpK b c == 0))) := fun g1 g2 => by
    refine ⟨by omega, ?_⟩
    rw [Bool.eq_iff_iff]
    simp
    omega
  obtain ⟨x, hx⟩ : ∃ x, cmpK a b = x := ⟨_, rfl⟩
  obtain ⟨y, hy⟩ : ∃ x, cmpK b c = x := ⟨_, rfl⟩
  obtain ⟨z, hz⟩ : ∃ x, cmpK a c = x := ⟨_, rfl⟩
  rw [hx] at r1 t1 hall
  rw [hy] at r2 hall
  rw [hz] at r3 hall
  have HX := Lib.hid (And.intro hx (And.intro hy (And.intro hz (And.intro t1 s1))))
  have T := Lib.hid ht
  clear l1 l2 l3 q1 q2 q3 hx hy hz t1 s1 ht
  have hx3 : x = -1 ∨ x = 0 ∨ x = 1 := by omega
  have hy3 : y = -1 ∨ y = 0 ∨ y = 1 := by omega
  have hz3 : z = -1 ∨ z = 0 ∨ z = 1 := by omega
  clear r1 r2 r3
  rcases hx3 with rfl | rfl | rfl <;> rcases hy3 with rfl | rfl | rfl <;> rcases hz3 with rfl | rfl | rfl
  all_goals (try (exact absurd (hall (by omega) (by omega)) (by decide)))
  all_goals
    clear hall
    go_enter Tryd.func5, Tryd.ntmps5
    go_wp2_with (first
      | (go_at_call 14; refine (order_any _ _ (by assumption) (by assumption) _).mono ?_; rintro e w' ⟨rfl, rfl⟩; first | rw [HX.out.1] | rw [HX.out.2.1] | rw [HX.out.2.2.1] | rw [HX.out.2.2.2.1] | rw [HX.out.2.2.2.2])
      | (go_at_call 10; refine (alive24_any _ T.out).mono ?_; rintro e w' ⟨rfl, hbel⟩))
    go_ret
    exact ⟨rfl, hbel⟩

theorem own : ownKnob Tryd.prog.godebug = none := by kernel_rfl
theorem laidOut : laidOutB Tryd.prog = true := by kernel_rfl
set_option maxRecDepth 100000 in
theorem contract (H : Type) (enc : TypeId × Value → H) (W : World) (base : Nat) (args : Array Value) (ds gs : List (DataW H)) (before : List MemPlace)
    (hval : ∀ (j : Nat) t v, Tryd.f5.params[j]? = some t → args[j]? = some v → Value.okWide Tryd.prog W .any base t v)
    (hW : DataW.Whole enc Tryd.prog Tryd.f5.params.toList Rows.gaugeOrderSpec.vars false W args.toList ds gs before) (hL : laidMetH Tryd.prog Rows.gaugeOrderRow.laid W) :
    Calls Tryd.prog 5 args W fun e W' => ∃ v, e = .returned v ∧ Rows.gaugeOrderSpec.post enc Tryd.prog Tryd.f5 false true false false W args v W' := by
  have hW' := hW
  obtain ⟨p, q, hA0, hV, rfl, hfz, hnd⟩ := hW
  have hA : DataW.TrodAll enc Tryd.prog W 0 (fun _ => true) true Tryd.f5.params.toList args.toList ds p := hA0
  rw [Tryd.params5] at hA hval
  obtain ⟨v0, vs0, d0, ds0, p0, q0, hargs, rfl, rfl, h0, r0⟩ := trodAll_cons hA
  obtain ⟨v1, vs1, d1, ds1, p1, q1, rfl, rfl, rfl, h1, r1⟩ := trodAll_cons r0
  obtain ⟨v2, vs2, d2, ds2, p2, q2, rfl, rfl, rfl, h2, r2⟩ := trodAll_cons r1
  obtain ⟨rfl, rfl, rfl⟩ := trodAll_nil r2
  obtain rfl : args = #[v0, v1, v2] := by cases args; simp_all
  obtain ⟨rfl, rfl⟩ := trodVars_none hV
  have hlt := hW'.lt
  have k0 := h0
  obtain ⟨a, rfl, -, -, w_a⟩ := open_float Tryd.underlying22 (hval 0 22 v0 rfl rfl) h0
  have k1 := h1
  obtain ⟨b, rfl, -, -, w_b⟩ := open_float Tryd.underlying22 (hval 1 22 v1 rfl rfl) h1
  have k2 := h2
  obtain ⟨c, rfl, -, -, w_c⟩ := open_float Tryd.underlying22 (hval 2 22 v2 rfl rfl) h2
  clear hA0
  simp only [List.append_nil] at hW'
  refine (walk a b c (by simpa [Lit.wf] using w_a) (by simpa [Lit.wf] using w_b) (by simpa [Lit.wf] using w_c) W  (table hL)).mono fun e W' ⟨he, bel⟩ => ?_
  subst he
  exact ⟨_, rfl, _, _, _, [], _, [], hW', trodAll_mk1 (shut_bool Tryd.underlying4 _), (trodAll_cons_mk (Below.trod laidOut (by kernel_rfl) (of_decide_eq_true (by kernel_rfl)) k0 bel (fun x hx => hlt x (by simp [hx]))) (trodAll_cons_mk (Below.trod laidOut (by kernel_rfl) (of_decide_eq_true (by kernel_rfl)) k1 bel (fun x hx => hlt x (by simp [hx]))) (trodAll_cons_mk (Below.trod laidOut (by kernel_rfl) (of_decide_eq_true (by kernel_rfl)) k2 bel (fun x hx => hlt x (by simp [hx]))) trodAll_mk0))), rfl, bel.frame _, fun h => by cases h⟩

theorem laid_met (os : Os) : laidMet Tryd.prog Rows.gaugeOrderRow.laid ((laidWorld os).forCall (fun _ _ => 0) ⟨#[], #[Value.float .f64 0, Value.float .f64 0, Value.float .f64 0], []⟩).memory :=
  laidMet_of_run' 8 (by kernel_rfl) (by kernel_rfl)
theorem reads (os : Os) {H : Type} (enc : TypeId × Value → H) : ∃ places, DataW.whole enc Tryd.prog ((laidWorld os).forCall (fun _ _ => 0) ⟨#[], #[Value.float .f64 0, Value.float .f64 0, Value.float .f64 0], []⟩).memory Tryd.f5.params.toList Rows.gaugeOrderSpec.vars false #[Value.float .f64 0, Value.float .f64 0, Value.float .f64 0].toList 8 = some ([.lit (.float .f64 0), .lit (.float .f64 0), .lit (.float .f64 0)], [], places) :=
  ⟨[], by kernel_rfl⟩

set_option maxRecDepth 100000 in
theorem lifted (os : Os) (started : os.Started) (H : Type) (enc : TypeId × Value → H) (F : Stop.Interp) :
    ReturnsInHanded {} Tryd.checked os 5 .any ((OpenSpec.ofChange Rows.gaugeOrderSpec).preRow enc Tryd.prog Tryd.f5 Rows.gaugeOrderRow.domain false Rows.gaugeOrderRow.laid) (((OpenSpec.ofChange Rows.gaugeOrderSpec).at F).post enc Tryd.prog Tryd.f5 false true false false) := by
  obtain ⟨places, hx⟩ := reads os enc
  refine returnsInHanded_of_row (C := Tryd.checked) (s := OpenSpec.ofChange Rows.gaugeOrderSpec) own started (by kernel_rfl) Tryd.func5
    (witness_row_at (enc := enc) (C := Tryd.checked) false (laidWorld os) #[Value.float .f64 0, Value.float .f64 0, Value.float .f64 0] rfl (by kernel_rfl) (by kernel_rfl) (by kernel_rfl)
      (OpenSpec.preRow_of_cond 8 hx (by kernel_rfl) (fun k hk => by cases hk) (by kernel_rfl) (laid_met os))) ?_
  intro W base args ds gs before hval hW _ _ _ hL _ _
  exact contract H enc W base args ds gs before hval hW hL

theorem said : Rows.GaugeOrderSaid :=
  OpenClaim.holds_of_cond 5 Tryd.f5 rfl rfl rfl rfl rfl rfl rfl ⟨rfl, rfl, rfl, rfl, rfl⟩ rfl rfl rfl rfl rfl (by kernel_rfl) Tryd.func5 (by kernel_rfl)
    (of_decide_eq_true (by kernel_rfl)) (by unfold Func.isWrapper; first | (rw [if_pos (by decide +kernel)]; kernel_rfl) | (rw [if_neg (by decide +kernel)]; exact ⟨rfl, rfl⟩))
    (fun os started H enc _ F => by rw [OpenClaim.pre_eq_preRow]; exact lifted os started H enc F)

theorem plain (f : FuncId) (fn : Func) (hf : Tryd.pinned.checked.prog.funcNamed "auspex/auspexlaw24.GaugeOrder" = some f) (hfn : Tryd.pinned.checked.prog.funcs[f]? = some fn) :
    false = Tryd.pinned.checked.prog.looks [] ∧ ∀ (j : Nat) t, fn.params[j]? = some t → Tryd.pinned.checked.prog.wantsStandIn t = false := by
  obtain rfl : f = 5 := Option.some.inj ((show Tryd.prog.funcNamed "auspex/auspexlaw24.GaugeOrder" = some 5 by kernel_rfl).symm.trans hf) |>.symm
  obtain rfl : fn = Tryd.f5 := (Option.some.inj (Tryd.func5.symm.trans hfn)).symm
  refine ⟨by kernel_rfl, fun j t ht => ?_⟩
  rw [Tryd.params5] at ht
  have hm := Array.mem_of_getElem? ht
  simp only [List.mem_toArray, List.mem_cons, List.not_mem_nil, or_false] at hm
  rcases hm with rfl | rfl | rfl
  · exact (show Tryd.prog.wantsStandIn 22 = false by kernel_rfl)
  · exact (show Tryd.prog.wantsStandIn 22 = false by kernel_rfl)
  · exact (show Tryd.prog.wantsStandIn 22 = false by kernel_rfl)

/-- THE CARD -/
theorem proved : Rows.GaugeOrderCardSaid :=
  Claim7.holds_tied_plain_at .later [] _ _ _ _ said (fun _ h => by cases h) (by kernel_rfl) (fun _ h => by cases h) gaugeOrder_row_tie rfl ⟨rfl, rfl⟩ (by kernel_rfl) rfl plain (by kernel_rfl)
#print axioms proved
end Go.Proofs.YtebeelphilfjhaaDoor.gaugeOrder
