/- Proved: the statement of DivideDoes (auspexlaw04): what any division makes of any two numbers, how long it takes, and how many bits a number has, is as the reference says; for every input; no condition. -/
import Derived.Test.YtbpafbogjhbogaaRows
import Derived.Test.YtbpafbogjhbogaaDivideRef
import Derived.Test.YtbpafbogjhbogaaWordLaw
import Derived.OpenShut
namespace Go.Proofs.Ytbpafbogjhbogaa.divideDoes
open Go.ChangeShapes Go.WideShapes Go.ChangeAt Go.RowKit
set_option linter.unusedVariables false

set_option maxHeartbeats 1000000 in
theorem walk (op a b : Int) (wo : (Lit.int .i64 op).wf = true) (wa : (Lit.int .u32 a).wf = true) (wb : (Lit.int .u32 b).wf = true) (w : World) :
    Calls Try.prog 18 #[.int .i64 op, .int .u32 a, .int .u32 b] w fun e w' => e = .returned (.bool true) ∧ Below w.heap.size w w' := by
  obtain ⟨ha, ha'⟩ := bounds_u32 wa
  obtain ⟨hb, hb'⟩ := bounds_u32 wb
  go_enter Try.func18, Try.ntmps18
  go_wp2
  go_loopw [7] (fun i wr => ∃ o : Nat, 42 ≤ o ∧ o ≤ 46 ∧ i = .int .i64 o ∧ Below w.heap.size w wr) (fun i _ => 49 - (intOf i).toNat)
  case atStart => exact ⟨42, by omega, by omega, rfl, Below.refl _ _⟩
  case round =>
    obtain ⟨o, h1, h2, rfl, hbel⟩ := hrel
    by_cases h3 : o ≤ 45
    · go_wp2_with (first
                    | (go_at_call 50; refine (alive04_any _).mono ?_; rintro e w1 ⟨rfl, hb1⟩)
                    | (go_at_call 46; refine (divDo_any _ _ _ ha (by omega) hb (by omega) _).mono ?_; rintro e w2 ⟨rfl, hb2⟩)
                    | (go_at_call 47; refine (refDiv_any _ _ _ ha (by omega) hb (by omega) _).mono ?_; rintro e w3 ⟨rfl, rfl⟩)
                    | (go_at_call 48; refine (divTook_any _ _ _ ha (by omega) hb (by omega) _).mono ?_; rintro e w4 ⟨rfl, rfl⟩)
                    | (go_at_call 49; refine (refTook_any _ _ _ ha (by omega) hb (by omega) _).mono ?_; rintro e w5 ⟨rfl, rfl⟩)
                    | (go_at_call 51; refine (bits_any _ ha (by omega) _).mono ?_; rintro e w6 ⟨rfl, rfl⟩)
                    | (go_at_call 52; refine (refBits_any _ ha (by omega) _).mono ?_; rintro e w7 ⟨rfl, rfl⟩))
      go_roundw
      case rel => exact ⟨o + 1, by omega, by omega, by go_num, hbel.trans (hb2.mono hbel.size)⟩
      case measure => simp [intOf]; omega
    · go_wp2_with (first
                    | (go_at_call 50; refine (alive04_any _).mono ?_; rintro e w1 ⟨rfl, hb1⟩)
                    | (go_at_call 46; refine (divDo_any _ _ _ ha (by omega) hb (by omega) _).mono ?_; rintro e w2 ⟨rfl, hb2⟩)
                    | (go_at_call 47; refine (refDiv_any _ _ _ ha (by omega) hb (by omega) _).mono ?_; rintro e w3 ⟨rfl, rfl⟩)
                    | (go_at_call 48; refine (divTook_any _ _ _ ha (by omega) hb (by omega) _).mono ?_; rintro e w4 ⟨rfl, rfl⟩)
                    | (go_at_call 49; refine (refTook_any _ _ _ ha (by omega) hb (by omega) _).mono ?_; rintro e w5 ⟨rfl, rfl⟩)
                    | (go_at_call 51; refine (bits_any _ ha (by omega) _).mono ?_; rintro e w6 ⟨rfl, rfl⟩)
                    | (go_at_call 52; refine (refBits_any _ ha (by omega) _).mono ?_; rintro e w7 ⟨rfl, rfl⟩))
      go_ret
      exact ⟨rfl, (hbel.trans (hb1.mono hbel.size)).trans (hb2.mono (Nat.le_trans hbel.size hb1.size))⟩

theorem own : ownKnob Try.prog.godebug = none := by kernel_rfl

set_option maxRecDepth 100000 in
theorem lifted (os : Os) (started : os.Started) (H : Type) (enc : TypeId × Value → H) :
    ReturnsInHanded {} Try.checked os 18 .any (Rows.divideDoesSpec.pre6 enc Try.prog Try.f18 Rows.divideDoesRow.domain false) (Rows.divideDoesSpec.post enc Try.prog Try.f18 false true false false) := by
  refine returnsInHanded_of_change (C := Try.checked) own started (by kernel_rfl) Try.func18
    (ChangeSpec.witness6 (enc := enc) (C := Try.checked) false ⟨#[], #[.int .i64 0, .int .u32 0, .int .u32 0], []⟩ 8 (by kernel_rfl) (by kernel_rfl) (by kernel_rfl) (by kernel_rfl)) ?_
  intro W base args ds gs before hval0 hW hcnd _
  have hval : ∀ (j : Nat) t v, Try.f18.params[j]? = some t → args[j]? = some v → Value.okWide Try.prog W .any base t v := hval0
  have hW' := hW
  obtain ⟨p, q, hA0, hV, rfl, hfz, hnd⟩ := hW
  have hA : DataW.TrodAll enc Try.prog W 0 (fun _ => true) true Try.f18.params.toList args.toList ds p := hA0
  rw [Try.params18] at hA hval
  obtain ⟨v0, vs0, d0, ds0, p0, q0, hargs, rfl, rfl, h0, r0⟩ := trodAll_cons hA
  obtain ⟨v1, vs1, d1, ds1, p1, q1, rfl, rfl, rfl, h1, r1⟩ := trodAll_cons r0
  obtain ⟨v2, vs2, d2, ds2, p2, q2, rfl, rfl, rfl, h2, r2⟩ := trodAll_cons r1
  obtain ⟨rfl, rfl, rfl⟩ := trodAll_nil r2
  obtain rfl : args = #[v0, v1, v2] := by cases args; simp_all
  obtain ⟨rfl, rfl⟩ := trodVars_none hV
  obtain ⟨op, rfl, rfl, rfl, w_op⟩ := open_int Try.underlying3 (hval 0 3 v0 rfl rfl) h0
  obtain ⟨a, rfl, rfl, rfl, w_a⟩ := open_int Try.underlying22 (hval 1 22 v1 rfl rfl) h1
  obtain ⟨b, rfl, rfl, rfl, w_b⟩ := open_int Try.underlying22 (hval 2 22 v2 rfl rfl) h2
  clear hA0 hval0
  simp only [List.append_nil] at hW'
  refine (walk op a b w_op w_a w_b W).mono fun e W' ⟨he, bel⟩ => ?_
  subst he
  exact ⟨_, rfl, _, _, _, [], _, [], hW', trodAll_mk1 (shut_bool Try.underlying4 _), (trodAll_cons_mk (shut_int Try.underlying3 w_op) (trodAll_cons_mk (shut_int Try.underlying22 w_a) (trodAll_cons_mk (shut_int Try.underlying22 w_b) trodAll_mk0))), rfl, bel.frame _, fun h => by cases h⟩

/-- THE STATEMENT -/
theorem proved : Rows.DivideDoesSaid :=
  OpenClaim.holds_of_wide 18 Try.f18 rfl rfl rfl rfl rfl rfl rfl ⟨rfl, rfl, rfl, rfl, rfl⟩ rfl rfl rfl rfl rfl (by kernel_rfl) Try.func18 (by kernel_rfl)
    (of_decide_eq_true (by kernel_rfl)) (by unfold Func.isWrapper; first | (rw [if_pos (by decide +kernel)]; kernel_rfl) | (rw [if_neg (by decide +kernel)]; exact ⟨rfl, rfl⟩))
    (fun os started H enc _ => lifted os started H enc)
#print axioms proved
end Go.Proofs.Ytbpafbogjhbogaa.divideDoes
