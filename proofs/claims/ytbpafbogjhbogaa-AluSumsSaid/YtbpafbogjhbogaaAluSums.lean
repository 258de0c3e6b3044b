/- Proved: the statement of AluSums (auspexlaw03): sums go in any order and grouping; taking off is adding what all bits turned, and one, make; for every input; no condition. -/
import Derived.Test.YtbpafbogjhbogaaRows
import Derived.Test.YtbpafbogjhbogaaAluLaw
import Derived.OpenShut
namespace Go.Proofs.Ytbpafbogjhbogaa.aluSums
open Go.ChangeShapes Go.WideShapes Go.ChangeAt Go.RowKit
set_option linter.unusedVariables false

set_option maxRecDepth 100000 in
set_option maxHeartbeats 4000000 in
theorem walk (a b c : Int) (wa : (Lit.int .u32 a).wf = true) (wb : (Lit.int .u32 b).wf = true) (wc : (Lit.int .u32 c).wf = true) (w : World) :
    Calls Try.prog 15 #[.int .u32 a, .int .u32 b, .int .u32 c] w fun e w' => e = .returned (.bool true) ∧ Below w.heap.size w w' := by
  obtain ⟨ha, ha'⟩ := bounds_u32 wa
  obtain ⟨hb, hb'⟩ := bounds_u32 wb
  obtain ⟨hc, hc'⟩ := bounds_u32 wc
  obtain ⟨r1, r2⟩ := aluDo_range 28 hb (by omega) hc (by omega)
  obtain ⟨r3, r4⟩ := aluDo_range 36 ha (by omega) hb (by omega)
  obtain ⟨r5, r6⟩ := aluDo_range 37 ha (by omega) hb (by omega)
  have e1 : aluDo 28 a (aluDo 28 b c) = aluDo 28 (aluDo 28 a b) c := by simp only [aluDo_add]; omega
  have e2 : aluDo 28 (aluDo 28 a (aluDo 33 b 4294967295)) 1 = aluDo 29 a b := by rw [turned b hb (by omega)]; simp only [aluDo_add, aluDo_sub]; omega
  obtain ⟨e3, e4⟩ := and_or a b ha (by omega) hb (by omega)
  have r7 : 0 ≤ aluDo 33 b 4294967295 := by rw [turned b hb (by omega)]; omega
  have r8 : aluDo 33 b 4294967295 < 4294967296 := by rw [turned b hb (by omega)]; omega
  generalize h3 : aluDo 28 b c = x3 at *
  generalize h1 : aluDo 28 a b = x1 at *
  generalize h2 : aluDo 28 x1 c = x2 at *
  generalize h4 : aluDo 33 b 4294967295 = x4 at *
  generalize h5 : aluDo 28 a x4 = x5 at *
  generalize h6 : aluDo 29 a b = x6 at *
  generalize h7 : aluDo 36 a b = x7 at *
  generalize h8 : aluDo 37 a b = x8 at *
  have G := Lib.hid (And.intro e1 (And.intro e2 (And.intro e3 e4)))
  have K := Lib.hid (And.intro h1 (And.intro h2 (And.intro h3 (And.intro h4 (And.intro h5 (And.intro h6 (And.intro h7 h8)))))))
  clear e1 e2 e3 e4 h1 h2 h3 h4 h5 h6 h7 h8
  go_enter Try.func15, Try.ntmps15
  go_wp2_with (first
    | (go_at_call 38; refine (alive03_any _).mono ?_; rintro e w1 ⟨rfl, rfl⟩)
    | (go_at_call 36; refine (aluDo_any _ _ _ (by omega) (by omega) _).mono ?_; rintro e w1 ⟨rfl, rfl⟩; first | rw [G.out.1] | rw [G.out.2.1] | rw [G.out.2.2.1] | rw [G.out.2.2.2] | rw [K.out.1] | rw [K.out.2.1] | rw [K.out.2.2.1] | rw [K.out.2.2.2.1] | rw [K.out.2.2.2.2.1] | rw [K.out.2.2.2.2.2.1] | rw [K.out.2.2.2.2.2.2.1] | rw [K.out.2.2.2.2.2.2.2]))
  go_ret
  exact ⟨rfl, Below.refl _ _⟩

theorem own : ownKnob Try.prog.godebug = none := by kernel_rfl

set_option maxRecDepth 100000 in
theorem lifted (os : Os) (started : os.Started) (H : Type) (enc : TypeId × Value → H) :
    ReturnsInHanded {} Try.checked os 15 .any (Rows.aluSumsSpec.pre6 enc Try.prog Try.f15 Rows.aluSumsRow.domain false) (Rows.aluSumsSpec.post enc Try.prog Try.f15 false true false false) := by
  refine returnsInHanded_of_change (C := Try.checked) own started (by kernel_rfl) Try.func15
    (ChangeSpec.witness6 (enc := enc) (C := Try.checked) false ⟨#[], #[.int .u32 0, .int .u32 0, .int .u32 0], []⟩ 8 (by kernel_rfl) (by kernel_rfl) (by kernel_rfl) (by kernel_rfl)) ?_
  intro W base args ds gs before hval0 hW hcnd _
  have hval : ∀ (j : Nat) t v, Try.f15.params[j]? = some t → args[j]? = some v → Value.okWide Try.prog W .any base t v := hval0
  have hW' := hW
  obtain ⟨p, q, hA0, hV, rfl, hfz, hnd⟩ := hW
  have hA : DataW.TrodAll enc Try.prog W 0 (fun _ => true) true Try.f15.params.toList args.toList ds p := hA0
  rw [Try.params15] at hA hval
  obtain ⟨v0, vs0, d0, ds0, p0, q0, hargs, rfl, rfl, h0, r0⟩ := trodAll_cons hA
  obtain ⟨v1, vs1, d1, ds1, p1, q1, rfl, rfl, rfl, h1, r1⟩ := trodAll_cons r0
  obtain ⟨v2, vs2, d2, ds2, p2, q2, rfl, rfl, rfl, h2, r2⟩ := trodAll_cons r1
  obtain ⟨rfl, rfl, rfl⟩ := trodAll_nil r2
  obtain rfl : args = #[v0, v1, v2] := by cases args; simp_all
  obtain ⟨rfl, rfl⟩ := trodVars_none hV
  obtain ⟨a, rfl, rfl, rfl, w_a⟩ := open_int Try.underlying22 (hval 0 22 v0 rfl rfl) h0
  obtain ⟨b, rfl, rfl, rfl, w_b⟩ := open_int Try.underlying22 (hval 1 22 v1 rfl rfl) h1
  obtain ⟨c, rfl, rfl, rfl, w_c⟩ := open_int Try.underlying22 (hval 2 22 v2 rfl rfl) h2
  clear hA0 hval0
  simp only [List.append_nil] at hW'
  refine (walk a b c w_a w_b w_c W).mono fun e W' ⟨he, bel⟩ => ?_
  subst he
  exact ⟨_, rfl, _, _, _, [], _, [], hW', trodAll_mk1 (shut_bool Try.underlying4 _), (trodAll_cons_mk (shut_int Try.underlying22 w_a) (trodAll_cons_mk (shut_int Try.underlying22 w_b) (trodAll_cons_mk (shut_int Try.underlying22 w_c) trodAll_mk0))), rfl, bel.frame _, fun h => by cases h⟩

/-- THE STATEMENT -/
theorem proved : Rows.AluSumsSaid :=
  OpenClaim.holds_of_wide 15 Try.f15 rfl rfl rfl rfl rfl rfl rfl ⟨rfl, rfl, rfl, rfl, rfl⟩ rfl rfl rfl rfl rfl (by kernel_rfl) Try.func15 (by kernel_rfl)
    (of_decide_eq_true (by kernel_rfl)) (by unfold Func.isWrapper; first | (rw [if_pos (by decide +kernel)]; kernel_rfl) | (rw [if_neg (by decide +kernel)]; exact ⟨rfl, rfl⟩))
    (fun os started H enc _ => lifted os started H enc)
#print axioms proved
end Go.Proofs.Ytbpafbogjhbogaa.aluSums
