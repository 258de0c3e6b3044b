/- Proved: the statement of DivideSigns (auspexlaw04): of two numbers with their signs turned the rest has its turned and the quotient stays, but for the least number; for every input; no condition. -/
import Derived.Test.YtbpafbogjhbogaaRows
import Derived.Test.YtbpafbogjhbogaaDivideRef
import Derived.Test.YtbpafbogjhbogaaWordLaw
import Derived.OpenShut
namespace Go.Proofs.Ytbpafbogjhbogaa.divideSigns
open Go.ChangeShapes Go.WideShapes Go.ChangeAt Go.RowKit
set_option linter.unusedVariables false

theorem wneg (a : Int) (ha : 0 ≤ a) (ha' : a < 4294967296) : (a ≠ 2147483648 ∧ wrap32 (-a % 4294967296) = -wrap32 a) ∨ (a = 2147483648 ∧ wrap32 (-a % 4294967296) = -2147483648 ∧ wrap32 a = -2147483648) := by
  unfold wrap32; omega

theorem facts (a b : Int) (ha : 0 ≤ a) (ha' : a < 4294967296) (hb : 0 ≤ b) (hb' : b < 4294967296) (h0 : b ≠ 0) :
    divW 44 a (-b % 4294967296) = divW 44 a b ∧ (a ≠ 2147483648 → divW 42 (-a % 4294967296) (-b % 4294967296) = divW 42 a b ∧ divW 44 (-a % 4294967296) (-b % 4294967296) = -divW 44 a b % 4294967296) := by
  have h0' : ¬ -b % 4294967296 = 0 := by omega
  have e42 : ∀ x y, y ≠ 0 → divW 42 x y = (wrap32 x).tdiv (wrap32 y) % 4294967296 := fun x y h => by simp [divW, h]
  have e44 : ∀ x y, y ≠ 0 → divW 44 x y = (wrap32 x).tmod (wrap32 y) % 4294967296 := fun x y h => by simp [divW, h]
  rw [e44 _ _ h0, e44 _ _ h0', e42 _ _ h0, e42 _ _ h0', e44 _ _ h0']
  have hwa := wrap32_in a
  rcases wneg b hb hb' with ⟨c, d⟩ | ⟨c, d, d'⟩
  · rw [d, Int.tmod_neg]
    refine ⟨rfl, fun hn => ?_⟩
    rcases wneg a ha ha' with ⟨_, d2⟩ | ⟨c2, _, _⟩
    · rw [d2, Int.neg_tdiv, Int.tdiv_neg, Int.neg_neg, Int.neg_tmod, Int.tmod_neg]
      refine ⟨rfl, ?_⟩
      generalize (wrap32 a).tmod (wrap32 b) = Y
      omega
    · exact absurd c2 hn
  · rw [d, d']
    refine ⟨rfl, fun hn => ?_⟩
    rcases wneg a ha ha' with ⟨_, d2⟩ | ⟨c2, _, _⟩
    · rw [d2, Int.neg_tdiv, Int.neg_tmod]
      have hq : ((wrap32 a).tdiv (-2147483648)).natAbs = 0 := by
        rw [Int.natAbs_tdiv]
        refine Nat.div_eq_of_lt ?_
        have : wrap32 a ≠ -2147483648 := by unfold wrap32; omega
        show (wrap32 a).natAbs < 2147483648
        omega
      refine ⟨by omega, ?_⟩
      generalize (wrap32 a).tmod (-2147483648) = Y
      omega
    · exact absurd c2 hn

set_option maxHeartbeats 1000000 in
theorem walk (a b : Int) (wa : (Lit.int .u32 a).wf = true) (wb : (Lit.int .u32 b).wf = true) (w : World) :
    Calls Try.prog 21 #[.int .u32 a, .int .u32 b] w fun e w' => e = .returned (.bool true) ∧ Below w.heap.size w w' := by
  obtain ⟨ha, ha'⟩ := bounds_u32 wa
  obtain ⟨hb, hb'⟩ := bounds_u32 wb
  by_cases h0 : b = 0
  · subst h0
    have E1 := Lib.hid (show divW 42 a 0 = 4294967295 by simp [divW])
    have E2 := E1
    have E3 := E1
    go_enter Try.func21, Try.ntmps21
    go_wp2_with (first
      | (go_at_call 50; refine (alive04_any _).mono ?_; rintro e w1 ⟨rfl, hb1⟩)
      | (go_at_call 46; refine (divDo_any _ _ _ (by omega) (by omega) (by omega) (by omega) _).mono ?_; rintro e w2 ⟨rfl, hb2⟩; (try rw [E1.out]); (try rw [E2.out]); (try rw [E3.out])))
    go_ret
    exact ⟨rfl, by repeat (first | exact Below.refl _ _ | refine bthen ?_ (by assumption))⟩
  · have b0 : (b == 0) = false := by simpa using h0
    obtain ⟨f1, f2⟩ := facts a b ha (by omega) hb (by omega) h0
    have E1 := Lib.hid f1
    by_cases h1 : a = 2147483648
    · have a0 : (a == 2147483648) = true := by simpa using h1
      have E2 := E1
      have E3 := E1
      clear f1 f2 h1
      go_enter Try.func21, Try.ntmps21
      go_wp2_with (first
        | (go_at_call 50; refine (alive04_any _).mono ?_; rintro e w1 ⟨rfl, hb1⟩)
        | (go_at_call 46; refine (divDo_any _ _ _ (by omega) (by omega) (by omega) (by omega) _).mono ?_; rintro e w2 ⟨rfl, hb2⟩; (try rw [E1.out]); (try rw [E2.out]); (try rw [E3.out])))
      go_ret
      exact ⟨rfl, by repeat (first | exact Below.refl _ _ | refine bthen ?_ (by assumption))⟩
    · have a0 : (a == 2147483648) = false := by simpa using h1
      obtain ⟨f2, f3⟩ := f2 h1
      have E2 := Lib.hid f2
      have E3 := Lib.hid f3
      clear f1 f2 f3 h1
      go_enter Try.func21, Try.ntmps21
      go_wp2_with (first
        | (go_at_call 50; refine (alive04_any _).mono ?_; rintro e w1 ⟨rfl, hb1⟩)
        | (go_at_call 46; refine (divDo_any _ _ _ (by omega) (by omega) (by omega) (by omega) _).mono ?_; rintro e w2 ⟨rfl, hb2⟩; (try rw [E1.out]); (try rw [E2.out]); (try rw [E3.out])))
      go_ret
      exact ⟨rfl, by repeat (first | exact Below.refl _ _ | refine bthen ?_ (by assumption))⟩

theorem own : ownKnob Try.prog.godebug = none := by kernel_rfl

set_option maxRecDepth 100000 in
theorem lifted (os : Os) (started : os.Started) (H : Type) (enc : TypeId × Value → H) :
    ReturnsInHanded {} Try.checked os 21 .any (Rows.divideSignsSpec.pre6 enc Try.prog Try.f21 Rows.divideSignsRow.domain false) (Rows.divideSignsSpec.post enc Try.prog Try.f21 false true false false) := by
  refine returnsInHanded_of_change (C := Try.checked) own started (by kernel_rfl) Try.func21
    (ChangeSpec.witness6 (enc := enc) (C := Try.checked) false ⟨#[], #[.int .u32 0, .int .u32 0], []⟩ 8 (by kernel_rfl) (by kernel_rfl) (by kernel_rfl) (by kernel_rfl)) ?_
  intro W base args ds gs before hval0 hW hcnd _
  have hval : ∀ (j : Nat) t v, Try.f21.params[j]? = some t → args[j]? = some v → Value.okWide Try.prog W .any base t v := hval0
  have hW' := hW
  obtain ⟨p, q, hA0, hV, rfl, hfz, hnd⟩ := hW
  have hA : DataW.TrodAll enc Try.prog W 0 (fun _ => true) true Try.f21.params.toList args.toList ds p := hA0
  rw [Try.params21] at hA hval
  obtain ⟨v0, vs0, d0, ds0, p0, q0, hargs, rfl, rfl, h0, r0⟩ := trodAll_cons hA
  obtain ⟨v1, vs1, d1, ds1, p1, q1, rfl, rfl, rfl, h1, r1⟩ := trodAll_cons r0
  obtain ⟨rfl, rfl, rfl⟩ := trodAll_nil r1
  obtain rfl : args = #[v0, v1] := by cases args; simp_all
  obtain ⟨rfl, rfl⟩ := trodVars_none hV
  obtain ⟨a, rfl, rfl, rfl, w_a⟩ := open_int Try.underlying22 (hval 0 22 v0 rfl rfl) h0
  obtain ⟨b, rfl, rfl, rfl, w_b⟩ := open_int Try.underlying22 (hval 1 22 v1 rfl rfl) h1
  clear hA0 hval0
  simp only [List.append_nil] at hW'
  refine (walk a b w_a w_b W).mono fun e W' ⟨he, bel⟩ => ?_
  subst he
  exact ⟨_, rfl, _, _, _, [], _, [], hW', trodAll_mk1 (shut_bool Try.underlying4 _), (trodAll_cons_mk (shut_int Try.underlying22 w_a) (trodAll_cons_mk (shut_int Try.underlying22 w_b) trodAll_mk0)), rfl, bel.frame _, fun h => by cases h⟩

/-- THE STATEMENT -/
theorem proved : Rows.DivideSignsSaid :=
  OpenClaim.holds_of_wide 21 Try.f21 rfl rfl rfl rfl rfl rfl rfl ⟨rfl, rfl, rfl, rfl, rfl⟩ rfl rfl rfl rfl rfl (by kernel_rfl) Try.func21 (by kernel_rfl)
    (of_decide_eq_true (by kernel_rfl)) (by unfold Func.isWrapper; first | (rw [if_pos (by decide +kernel)]; kernel_rfl) | (rw [if_neg (by decide +kernel)]; exact ⟨rfl, rfl⟩))
    (fun os started H enc _ => lifted os started H enc)
#print axioms proved
end Go.Proofs.Ytbpafbogjhbogaa.divideSigns
