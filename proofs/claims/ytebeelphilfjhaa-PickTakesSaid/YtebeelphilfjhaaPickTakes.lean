/- Proved: the statement of PickTakes (auspexlaw17): who starts, of any that can, is as the reference says; for every input; no condition. -/
import Derived.Test.YtebeelphilfjhaaRows
import Derived.Test.YtebeelphilfjhaaPickE
import Derived.OpenShut
namespace Go.Proofs.Ytebeelphilfjhaa.pickTakes
open Go.ChangeShapes Go.WideShapes Go.ChangeAt Go.RowKit Go.Maps
set_option linter.unusedVariables false

set_option maxHeartbeats 2000000
theorem walk (width : Int) (busy : Bool) (A B : Option Addr) (nk ck n cc : Nat) (ks : List Int) (cs : List Bool) (h1 : nk ≤ ck) (h2 : ck ≤ maxLen) (h3 : n ≤ cc) (h4 : cc ≤ maxLen) (W : World) (hk0 : IntsAt W A nk .i64 ks) (hc0 : BoolsAt W B n cs) :
    Calls Try.prog 17 #[.int .i64 width, .bool busy, .slice A nk ck, .slice B n cc] W fun e w' => e = .returned (.bool true) ∧ Below W.heap.size W w' := by
  have HF := Lib.hid (few_any A B nk ck n cc h1 h2 h3 h4)
  have hk := hk0.take (Nat.min_le_left nk 40)
  have hc := hc0.take (Nat.min_le_left n 40)
  have m1 : min nk 40 ≤ 40 := Nat.min_le_right _ _
  have m2 : min n 40 ≤ 40 := Nat.min_le_right _ _
  clear h1 h2 h3 h4 hk0 hc0
  generalize ks.take (min nk 40) = ks' at *
  generalize cs.take (min n 40) = cs' at *
  generalize min nk 40 = nk' at *
  generalize min n 40 = n' at *
  go_enter Try.func17, Try.ntmps17
  go_wp2_with fail
  go_at_call 68
  refine (HF.out _).mono ?_
  rintro e w0 ⟨rfl, q, rfl⟩
  have hb : Below W.heap.size W (W.drewN q) := Go.Joins.below_draws _ _ _
  replace hk := hk.below hb
  replace hc := hc.below hb
  generalize W.drewN q = w0 at *
  go_wp2_with fail
  go_at_call 69
  refine (alive17_any _).mono ?_
  rintro e w1 ⟨rfl, b⟩
  replace hk := hk.below b
  replace hc := hc.below b
  replace hb := hb.trans (b.mono hb.size)
  clear b
  go_wp2_with fail
  go_at_call 71
  refine (pick_ints width busy A B nk' ck n' cc ks' cs' m1 m2 _ hk hc).mono ?_
  rintro e w2 ⟨Av, cv, rfl, hx, b⟩
  replace hk := hk.below b
  replace hc := hc.below b
  replace hb := hb.trans (b.mono hb.size)
  clear b
  go_wp2_with fail
  go_at_call 72
  refine (refPick_ints width busy A B nk' ck n' cc ks' cs' m1 m2 _ hk hc).mono ?_
  rintro e w3 ⟨Aw, cw, rfl, hy, b⟩
  replace hx := hx.below b
  replace hb := hb.trans (b.mono hb.size)
  clear b hk hc
  have hlen := outP_len (width := width) (busy := busy) (ks := ks') (cs := cs') n'
  generalize outP width busy ks' cs' n' = out at *
  go_wp2_with fail
  go_at_call 70
  refine (same_any hx hy (by omega)).mono ?_
  rintro e w4 ⟨rfl, q', rfl⟩
  have HB := Lib.hid (hb.trans (Go.Joins.below_draws W.heap.size w3 q'))
  clear hb hx hy
  go_wp2
  go_ret
  exact ⟨rfl, HB.out⟩

theorem own : ownKnob Try.prog.godebug = none := by kernel_rfl
theorem laidOut : laidOutB Try.prog = true := by kernel_rfl

set_option maxRecDepth 100000 in
theorem lifted (os : Os) (started : os.Started) (H : Type) (enc : TypeId × Value → H) :
    ReturnsInHanded {} Try.checked os 17 .any (Rows.pickTakesSpec.pre6 enc Try.prog Try.f17 Rows.pickTakesRow.domain false) (Rows.pickTakesSpec.post enc Try.prog Try.f17 false true false false) := by
  refine returnsInHanded_of_change (C := Try.checked) own started (by kernel_rfl) Try.func17
    (ChangeSpec.witness6 (enc := enc) (C := Try.checked) false ⟨#[], #[.int .i64 0, .bool false, .slice none 0 0, .slice none 0 0], []⟩ 8 (by kernel_rfl) (by kernel_rfl) (by kernel_rfl) (by kernel_rfl)) ?_
  intro W base args ds gs before hval0 hW hcnd _
  have hval : ∀ (j : Nat) t v, Try.f17.params[j]? = some t → args[j]? = some v → Value.okWide Try.prog W .any base t v := hval0
  have hW' := hW
  obtain ⟨p, q, hA0, hV, rfl, hfz, hnd⟩ := hW
  have hA : DataW.TrodAll enc Try.prog W 0 (fun _ => true) true Try.f17.params.toList args.toList ds p := hA0
  rw [Try.params17] at hA hval
  obtain ⟨v0, vs0, d0, ds0, p0, q0, hargs, rfl, rfl, h0, r0⟩ := trodAll_cons hA
  obtain ⟨v1, vs1, d1, ds1, p1, q1, rfl, rfl, rfl, h1, r1⟩ := trodAll_cons r0
  obtain ⟨v2, vs2, d2, ds2, p2, q2, rfl, rfl, rfl, h2, r2⟩ := trodAll_cons r1
  obtain ⟨v3, vs3, d3, ds3, p3, q3, rfl, rfl, rfl, h3, r3⟩ := trodAll_cons r2
  obtain ⟨rfl, rfl, rfl⟩ := trodAll_nil r3
  obtain rfl : args = #[v0, v1, v2, v3] := by cases args; simp_all
  obtain ⟨rfl, rfl⟩ := trodVars_none hV
  have hlt := hW'.lt
  have k0 := h0
  obtain ⟨width, rfl, -, -, w_width⟩ := open_int Try.underlying3 (hval 0 3 v0 rfl rfl) h0
  have k1 := h1
  obtain ⟨busy, rfl, -, -⟩ := open_bool Try.underlying4 (hval 1 4 v1 rfl rfl) h1
  have k2 := h2
  obtain ⟨kinds_a, kinds_n, kinds_c, kinds, rfl, w_kinds_n, w_kinds_c, w_kinds, w_kinds_wf⟩ := arg_ints (k := .i64) Try.underlying22 Try.underlying3 (by kernel_rfl) (hval 2 22 v2 rfl rfl) h2
  have k3 := h3
  obtain ⟨can_a, can_n, can_c, can, rfl, w_can_n, w_can_c, w_can⟩ := arg_bools Try.underlying80 Try.underlying4 (by kernel_rfl) (hval 3 80 v3 rfl rfl) h3
  clear hA0 hval0
  simp only [List.append_nil] at hW'
  refine (walk width busy kinds_a can_a kinds_n kinds_c can_n can_c kinds can w_kinds_n w_kinds_c w_can_n w_can_c W w_kinds w_can).mono fun e W' ⟨he, bel⟩ => ?_
  subst he
  exact ⟨_, rfl, _, _, _, [], _, [], hW', trodAll_mk1 (shut_bool Try.underlying4 _), (trodAll_cons_mk (Below.trod laidOut (by kernel_rfl) (of_decide_eq_true (by kernel_rfl)) k0 bel (fun x hx => hlt x (by simp [hx]))) (trodAll_cons_mk (Below.trod laidOut (by kernel_rfl) (of_decide_eq_true (by kernel_rfl)) k1 bel (fun x hx => hlt x (by simp [hx]))) (trodAll_cons_mk (Below.trod laidOut (by kernel_rfl) (of_decide_eq_true (by kernel_rfl)) k2 bel (fun x hx => hlt x (by simp [hx]))) (trodAll_cons_mk (Below.trod laidOut (by kernel_rfl) (of_decide_eq_true (by kernel_rfl)) k3 bel (fun x hx => hlt x (by simp [hx]))) trodAll_mk0)))), rfl, bel.frame _, fun h => by cases h⟩

/-- THE STATEMENT -/
theorem proved : Rows.PickTakesSaid :=
  OpenClaim.holds_of_wide 17 Try.f17 rfl rfl rfl rfl rfl rfl rfl ⟨rfl, rfl, rfl, rfl, rfl⟩ rfl rfl rfl rfl rfl (by kernel_rfl) Try.func17 (by kernel_rfl)
    (of_decide_eq_true (by kernel_rfl)) (by unfold Func.isWrapper; first | (rw [if_pos (by decide +kernel)]; kernel_rfl) | (rw [if_neg (by decide +kernel)]; exact ⟨rfl, rfl⟩))
    (fun os started H enc _ => lifted os started H enc)
#print axioms proved
end Go.Proofs.Ytebeelphilfjhaa.pickTakes
