/- Proved: the card of GaugeMeans (auspexlaw24): the mean and the most of any rates are as the reference says; for every input; on the world that holds the powers of ten. -/
import Derived.Test.YtebeelphilfjhaaDoorCards
import Derived.Test.YtebeelphilfjhaaDoorTie
import Derived.Test.YtebeelphilfjhaaDoorGaugeM
import Derived.WalkKit
import Derived.ProofKit
import Derived.OpenShut
import Derived.Deep.DeepHandedRow
import Derived.Lib.LaidTab
namespace Go.Proofs.YtebeelphilfjhaaDoor.gaugeMeans
open Go.ChangeShapes Go.WideShapes Go.ChangeAt Go.RowKit
set_option linter.unusedVariables false

set_option maxHeartbeats 4000000 in
theorem walk (A : Option Addr) (n c : Nat) (l : List Nat) (hn : n ≤ c) (hc : c ≤ maxLen) (w : World) (hl : FltsAt w A n l) (ht : Tab w) :
    Calls Tryd.prog 4 #[.slice A n c] w fun e w' => e = .returned (.bool true) ∧ Below w.heap.size w w' := by
  unfold maxLen at hc
  have hl' := hl.take (Nat.min_le_left n 50)
  have hm : min n 50 ≤ 50 := Nat.min_le_right _ _
  obtain ⟨m, hmE⟩ : ∃ m, min n 50 = m := ⟨_, rfl⟩
  have hmin : min (n : Int) 50 = (m : Int) := by omega
  have hmn : m ≤ n := by omega
  rw [hmE] at hl' hm
  have T := Lib.hid ht
  have HL := Lib.hid hl'
  clear hl hl' hmE ht
  generalize l.take m = l at *
  go_enter Tryd.func4, Tryd.ntmps4
  go_wp2_with fail
  go_at_call 10
  refine (alive24_any _ T.out).mono ?_
  rintro e w1 ⟨rfl, b1⟩
  have HL1 := Lib.hid (HL.out.below b1)
  have B1 := Lib.hid b1
  clear b1
  go_wp2_with fail
  go_at_call 18
  refine (mean_any _ _ _ _ (by omega) _ HL1.out).mono ?_
  rintro e w2 ⟨r1, q1, rfl, h1, rfl⟩
  have HL2 := Lib.hid (HL1.out.below (below_dr _ w1 q1))
  go_wp2_with fail
  go_at_call 19
  refine (refMean_any _ _ _ _ (by omega) _ HL2.out).mono ?_
  rintro e w3 ⟨r2, q2, rfl, h2, rfl⟩
  have HS := Lib.hid (show sameB r1 r2 = true from decide_eq_true (h1.sim h2).key)
  have L1 := h1.lt
  have L2 := h2.lt
  have HL3 := Lib.hid (HL1.out.below (below_dr _ w1 (q1 + q2)))
  clear h1 h2
  go_wp2_with fail
  go_at_call 11
  refine (same_any r1 r2 L1 L2 _).mono ?_
  rintro e w4 ⟨rfl, rfl⟩
  rw [HS.out]
  go_wp2_with fail
  go_at_call 20
  refine (most_any _ _ _ _ (by omega) _ HL3.out).mono ?_
  rintro e w5 ⟨r3, rfl, L3, k3, b5⟩
  have HL4 := Lib.hid (HL3.out.below b5)
  have K3 := Lib.hid k3
  have B5 := Lib.hid b5
  clear b5 k3
  go_wp2_with fail
  go_at_call 21
  refine (refMost_any _ _ _ _ (by omega) _ HL4.out).mono ?_
  rintro e w6 ⟨r4, q6, rfl, L4, k4, rfl⟩
  have HS2 := Lib.hid (show sameB r3 r4 = true from decide_eq_true (K3.out.trans k4.symm))
  clear k4
  go_wp2_with fail
  go_at_call 11
  refine (same_any r3 r4 L3 L4 _).mono ?_
  rintro e w7 ⟨rfl, rfl⟩
  rw [HS2.out]
  go_wp2
  go_ret
  exact ⟨rfl, B1.out.trans (((below_dr _ _ _).trans (B5.out.mono B1.out.size)).trans (below_dr _ _ _))⟩

theorem own : ownKnob Tryd.prog.godebug = none := by kernel_rfl
theorem laidOut : laidOutB Tryd.prog = true := by kernel_rfl
set_option maxRecDepth 100000 in
theorem contract (H : Type) (enc : TypeId × Value → H) (W : World) (base : Nat) (args : Array Value) (ds gs : List (DataW H)) (before : List MemPlace)
    (hval : ∀ (j : Nat) t v, Tryd.f4.params[j]? = some t → args[j]? = some v → Value.okWide Tryd.prog W .any base t v)
    (hW : DataW.Whole enc Tryd.prog Tryd.f4.params.toList Rows.gaugeMeansSpec.vars false W args.toList ds gs before) (hL : laidMetH Tryd.prog Rows.gaugeMeansRow.laid W) :
    Calls Tryd.prog 4 args W fun e W' => ∃ v, e = .returned v ∧ Rows.gaugeMeansSpec.post enc Tryd.prog Tryd.f4 false true false false W args v W' := by
  have hW' := hW
  obtain ⟨p, q, hA0, hV, rfl, hfz, hnd⟩ := hW
  have hA : DataW.TrodAll enc Tryd.prog W 0 (fun _ => true) true Tryd.f4.params.toList args.toList ds p := hA0
  rw [Tryd.params4] at hA hval
  obtain ⟨v0, vs0, d0, ds0, p0, q0, hargs, rfl, rfl, h0, r0⟩ := trodAll_cons hA
  obtain ⟨rfl, rfl, rfl⟩ := trodAll_nil r0
  obtain rfl : args = #[v0] := by cases args; simp_all
  obtain ⟨rfl, rfl⟩ := trodVars_none hV
  have hlt := hW'.lt
  have k0 := h0
  obtain ⟨l_a, l_n, l_c, l, rfl, w_l_n, w_l_c, w_l⟩ := arg_floats Tryd.underlying29 Tryd.underlying22 (by kernel_rfl) (hval 0 29 v0 rfl rfl) h0
  clear hA0
  simp only [List.append_nil] at hW'
  refine (walk l_a l_n l_c l w_l_n w_l_c W w_l (table hL)).mono fun e W' ⟨he, bel⟩ => ?_
  subst he
  exact ⟨_, rfl, _, _, _, [], _, [], hW', trodAll_mk1 (shut_bool Tryd.underlying4 _), (trodAll_cons_mk (Below.trod laidOut (by kernel_rfl) (of_decide_eq_true (by kernel_rfl)) k0 bel (fun x hx => hlt x (by simp [hx]))) trodAll_mk0), rfl, bel.frame _, fun h => by cases h⟩

theorem laid_met (os : Os) : laidMet Tryd.prog Rows.gaugeMeansRow.laid ((laidWorld os).forCall (fun _ _ => 0) ⟨#[], #[Value.slice none 0 0], []⟩).memory :=
  laidMet_of_run' 8 (by kernel_rfl) (by kernel_rfl)
theorem reads (os : Os) {H : Type} (enc : TypeId × Value → H) : ∃ places, DataW.whole enc Tryd.prog ((laidWorld os).forCall (fun _ _ => 0) ⟨#[], #[Value.slice none 0 0], []⟩).memory Tryd.f4.params.toList Rows.gaugeMeansSpec.vars false #[Value.slice none 0 0].toList 8 = some ([.nil], [], places) :=
  ⟨[], by kernel_rfl⟩

set_option maxRecDepth 100000 in
theorem lifted (os : Os) (started : os.Started) (H : Type) (enc : TypeId × Value → H) (F : Stop.Interp) :
    ReturnsInHanded {} Tryd.checked os 4 .any ((OpenSpec.ofChange Rows.gaugeMeansSpec).preRow enc Tryd.prog Tryd.f4 Rows.gaugeMeansRow.domain false Rows.gaugeMeansRow.laid) (((OpenSpec.ofChange Rows.gaugeMeansSpec).at F).post enc Tryd.prog Tryd.f4 false true false false) := by
  obtain ⟨places, hx⟩ := reads os enc
  refine returnsInHanded_of_row (C := Tryd.checked) (s := OpenSpec.ofChange Rows.gaugeMeansSpec) own started (by kernel_rfl) Tryd.func4
    (witness_row_at (enc := enc) (C := Tryd.checked) false (laidWorld os) #[Value.slice none 0 0] rfl (by kernel_rfl) (by kernel_rfl) (by kernel_rfl)
      (OpenSpec.preRow_of_cond 8 hx (by kernel_rfl) (fun k hk => by cases hk) (by kernel_rfl) (laid_met os))) ?_
  intro W base args ds gs before hval hW _ _ _ hL _ _
  exact contract H enc W base args ds gs before hval hW hL

theorem said : Rows.GaugeMeansSaid :=
  OpenClaim.holds_of_cond 4 Tryd.f4 rfl rfl rfl rfl rfl rfl rfl ⟨rfl, rfl, rfl, rfl, rfl⟩ rfl rfl rfl rfl rfl (by kernel_rfl) Tryd.func4 (by kernel_rfl)
    (of_decide_eq_true (by kernel_rfl)) (by unfold Func.isWrapper; first | (rw [if_pos (by decide +kernel)]; kernel_rfl) | (rw [if_neg (by decide +kernel)]; exact ⟨rfl, rfl⟩))
    (fun os started H enc _ F => by rw [OpenClaim.pre_eq_preRow]; exact lifted os started H enc F)

theorem plain (f : FuncId) (fn : Func) (hf : Tryd.pinned.checked.prog.funcNamed "auspex/auspexlaw24.GaugeMeans" = some f) (hfn : Tryd.pinned.checked.prog.funcs[f]? = some fn) :
    false = Tryd.pinned.checked.prog.looks [] ∧ ∀ (j : Nat) t, fn.params[j]? = some t → Tryd.pinned.checked.prog.wantsStandIn t = false := by
  obtain rfl : f = 4 := Option.some.inj ((show Tryd.prog.funcNamed "auspex/auspexlaw24.GaugeMeans" = some 4 by kernel_rfl).symm.trans hf) |>.symm
  obtain rfl : fn = Tryd.f4 := (Option.some.inj (Tryd.func4.symm.trans hfn)).symm
  refine ⟨by kernel_rfl, fun j t ht => ?_⟩
  rw [Tryd.params4] at ht
  have hm := Array.mem_of_getElem? ht
  simp only [List.mem_toArray, List.mem_cons, List.not_mem_nil, or_false] at hm
  obtain rfl := hm
  exact (show Tryd.prog.wantsStandIn 29 = false by kernel_rfl)

/-- THE CARD -/
theorem proved : Rows.GaugeMeansCardSaid :=
  Claim7.holds_tied_plain_at .later [] _ _ _ _ said (fun _ h => by cases h) (by kernel_rfl) (fun _ h => by cases h) gaugeMeans_row_tie rfl ⟨rfl, rfl⟩ (by kernel_rfl) rfl plain (by kernel_rfl)
#print axioms proved
end Go.Proofs.YtebeelphilfjhaaDoor.gaugeMeans
