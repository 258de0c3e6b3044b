/- Proved: the statement of DivideBack (auspexlaw04): the quotient times the divisor, and what is left, is the number; what is left is below the divisor, as sizes go; for every input; no condition. -/
import Derived.Test.YtbpafbogjhbogaaRows
import Derived.Test.YtbpafbogjhbogaaDivideRef
import Derived.Test.YtbpafbogjhbogaaWordLaw
import Derived.OpenShut
namespace Go.Proofs.Ytbpafbogjhbogaa.divideBack
open Go.ChangeShapes Go.WideShapes Go.ChangeAt Go.RowKit
set_option linter.unusedVariables false

theorem facts (a b : Int) (ha : 0 ≤ a) (ha' : a < 4294967296) (hb : 0 ≤ b) (hb' : b < 4294967296) (h0 : b ≠ 0) :
    (divW 43 a b * b + divW 45 a b) % 4294967296 = a ∧ divW 45 a b < b ∧ (divW 42 a b * b + divW 44 a b) % 4294967296 = a ∧ sz 44 (divW 44 a b) < sz 44 b ∧
    (divW 44 a b = 0 ∨ (wrap32 (divW 44 a b) < 0 ∧ wrap32 a < 0) ∨ (0 ≤ wrap32 (divW 44 a b) ∧ 0 ≤ wrap32 a)) := by
  have e43 : divW 43 a b = a / b := by simp [divW, h0]
  have e45 : divW 45 a b = a % b := by simp [divW, h0]
  have e42 : divW 42 a b = (wrap32 a).tdiv (wrap32 b) % 4294967296 := by simp [divW, h0]
  have e44 : divW 44 a b = (wrap32 a).tmod (wrap32 b) % 4294967296 := by simp [divW, h0]
  have hwb : wrap32 b ≠ 0 := by unfold wrap32; omega
  have hwa := wrap32_in a
  have hwb2 := wrap32_in b
  have hYn : ((wrap32 a).tmod (wrap32 b)).natAbs < (wrap32 b).natAbs := by
    rw [Int.natAbs_tmod]; exact Nat.mod_lt _ (by omega)
  have hYs : (0 ≤ wrap32 a → 0 ≤ (wrap32 a).tmod (wrap32 b)) ∧ (wrap32 a < 0 → (wrap32 a).tmod (wrap32 b) ≤ 0) := by
    refine ⟨fun h => Int.tmod_nonneg _ h, fun h => ?_⟩
    have : 0 ≤ (-(wrap32 a)).tmod (wrap32 b) := Int.tmod_nonneg _ (by omega)
    rw [Int.neg_tmod] at this
    omega
  have hXY := Int.mul_tdiv_add_tmod (wrap32 a) (wrap32 b)
  refine ⟨?_, ?_, ?_, ?_, ?_⟩
  · rw [e43, e45, Int.mul_comm, Int.mul_ediv_add_emod]
    omega
  · rw [e45]; exact Int.emod_lt_of_pos a (by omega)
  · rw [e42, e44]
    generalize (wrap32 a).tdiv (wrap32 b) = X at *
    generalize (wrap32 a).tmod (wrap32 b) = Y at *
    obtain ⟨i, hi⟩ : ∃ i, X % 4294967296 = X - 4294967296 * i := ⟨X / 4294967296, by omega⟩
    obtain ⟨j, hj⟩ : ∃ j, Y % 4294967296 = Y - 4294967296 * j := ⟨Y / 4294967296, by omega⟩
    obtain ⟨k, hk⟩ : ∃ k, b = wrap32 b + 4294967296 * k := ⟨(b - wrap32 b) / 4294967296, by unfold wrap32; omega⟩
    obtain ⟨l, hl⟩ : ∃ l, a = wrap32 a + 4294967296 * l := ⟨(a - wrap32 a) / 4294967296, by unfold wrap32; omega⟩
    have : (X % 4294967296) * b + Y % 4294967296 = a + 4294967296 * (X * k - i * b - j - l) := by
      rw [hi, hj]
      generalize wrap32 a = u at *
      generalize wrap32 b = v at *
      subst hk hl
      grind
    rw [this]
    omega
  · rw [e44]
    generalize (wrap32 a).tmod (wrap32 b) = Y at *
    have e1 : sz 44 b = if 2147483648 ≤ b then 4294967296 - b else b := by simp [sz]
    have e2 : sz 44 (Y % 4294967296) = if 2147483648 ≤ Y % 4294967296 then 4294967296 - Y % 4294967296 else Y % 4294967296 := by simp [sz]
    rw [e1, e2]
    rcases wrap32_cases b hb hb' with ⟨c, d⟩ | ⟨c, d⟩ <;> (repeat' split) <;> omega
  · rw [e44]
    generalize (wrap32 a).tmod (wrap32 b) = Y at *
    have e : wrap32 (Y % 4294967296) = Y := by unfold wrap32; omega
    rw [e]
    omega

set_option maxHeartbeats 1000000 in
theorem walk (a b : Int) (wa : (Lit.int .u32 a).wf = true) (wb : (Lit.int .u32 b).wf = true) (w : World) :
    Calls Try.prog 19 #[.int .u32 a, .int .u32 b] w fun e w' => e = .returned (.bool true) ∧ Below w.heap.size w w' := by
  obtain ⟨ha, ha'⟩ := bounds_u32 wa
  obtain ⟨hb, hb'⟩ := bounds_u32 wb
  by_cases h0 : b = 0
  · subst h0
    have Q := Lib.hid (show divW 43 a 0 = 4294967295 by simp [divW])
    have R := Lib.hid (show divW 45 a 0 = a by simp [divW])
    have S := Lib.hid (show divW 42 a 0 = 4294967295 by simp [divW])
    have T := Lib.hid (show divW 44 a 0 = a by simp [divW])
    go_enter Try.func19, Try.ntmps19
    go_wp2_with (first
                  | (go_at_call 50; refine (alive04_any _).mono ?_; rintro e w1 ⟨rfl, hb1⟩)
                  | (go_at_call 46; refine (divDo_any _ _ _ ha (by omega) hb (by omega) _).mono ?_; rintro e w2 ⟨rfl, hb2⟩; first | rw [Q.out] | rw [R.out] | rw [S.out] | rw [T.out])
                  | (go_at_call 53; refine (refSize_any _ _ (by omega) (by omega) _).mono ?_; rintro e w3 ⟨rfl, rfl⟩))
    go_ret
    exact ⟨rfl, by repeat (first | exact Below.refl _ _ | refine bthen ?_ (by assumption))⟩
  · have b0 : (b == 0) = false := by simpa using h0
    obtain ⟨f1, f2, f3, f4, f5⟩ := facts a b ha (by omega) hb (by omega) h0
    have g1 : ((divW 43 a b * b + divW 45 a b) % 4294967296 != a) = false := by rw [f1]; simp
    have g3 : ((divW 42 a b * b + divW 44 a b) % 4294967296 != a) = false := by rw [f3]; simp
    obtain ⟨q1, q2⟩ := divW_range 43 a b ha (by omega) hb (by omega)
    obtain ⟨r1, r2⟩ := divW_range 45 a b ha (by omega) hb (by omega)
    obtain ⟨s1, s2⟩ := divW_range 42 a b ha (by omega) hb (by omega)
    obtain ⟨t1, t2⟩ := divW_range 44 a b ha (by omega) hb (by omega)
    clear f1 f3
    generalize hq : divW 43 a b = q at *
    generalize hr : divW 45 a b = r at *
    generalize hs : divW 42 a b = s at *
    generalize ht : divW 44 a b = t at *
    have Q := Lib.hid hq
    have R := Lib.hid hr
    have S := Lib.hid hs
    have T := Lib.hid ht
    have d1 : decide (b ≤ r) = false := decide_eq_false (by omega)
    have d2 : decide (sz 44 b ≤ sz 44 t) = false := decide_eq_false (by omega)
    clear hq hr hs ht
    rcases f5 with e | ⟨e, e'⟩ | ⟨e, e'⟩
    · have t0 : (t == 0) = true := by simpa using e
      clear e
      go_enter Try.func19, Try.ntmps19
      go_wp2_with (first
                    | (go_at_call 50; refine (alive04_any _).mono ?_; rintro e w1 ⟨rfl, hb1⟩)
                    | (go_at_call 46; refine (divDo_any _ _ _ ha (by omega) hb (by omega) _).mono ?_; rintro e w2 ⟨rfl, hb2⟩; first | rw [Q.out] | rw [R.out] | rw [S.out] | rw [T.out])
                    | (go_at_call 53; refine (refSize_any _ _ (by omega) (by omega) _).mono ?_; rintro e w3 ⟨rfl, rfl⟩))
      go_ret
      exact ⟨rfl, by repeat (first | exact Below.refl _ _ | refine bthen ?_ (by assumption))⟩
    · by_cases e0 : t = 0
      · have t0 : (t == 0) = true := by simpa using e0
        clear e0
        go_enter Try.func19, Try.ntmps19
        go_wp2_with (first
                      | (go_at_call 50; refine (alive04_any _).mono ?_; rintro e w1 ⟨rfl, hb1⟩)
                      | (go_at_call 46; refine (divDo_any _ _ _ ha (by omega) hb (by omega) _).mono ?_; rintro e w2 ⟨rfl, hb2⟩; first | rw [Q.out] | rw [R.out] | rw [S.out] | rw [T.out])
                      | (go_at_call 53; refine (refSize_any _ _ (by omega) (by omega) _).mono ?_; rintro e w3 ⟨rfl, rfl⟩))
        go_ret
        exact ⟨rfl, by repeat (first | exact Below.refl _ _ | refine bthen ?_ (by assumption))⟩
      · have t0 : (t == 0) = false := by simpa using e0
        have d3 : decide (wrap32 t < 0) = true := decide_eq_true e
        have d4 : decide (wrap32 a < 0) = true := decide_eq_true e'
        clear e0
        go_enter Try.func19, Try.ntmps19
        go_wp2_with (first
                      | (go_at_call 50; refine (alive04_any _).mono ?_; rintro e w1 ⟨rfl, hb1⟩)
                      | (go_at_call 46; refine (divDo_any _ _ _ ha (by omega) hb (by omega) _).mono ?_; rintro e w2 ⟨rfl, hb2⟩; first | rw [Q.out] | rw [R.out] | rw [S.out] | rw [T.out])
                      | (go_at_call 53; refine (refSize_any _ _ (by omega) (by omega) _).mono ?_; rintro e w3 ⟨rfl, rfl⟩))
        go_ret
        exact ⟨rfl, by repeat (first | exact Below.refl _ _ | refine bthen ?_ (by assumption))⟩
    · by_cases e0 : t = 0
      · have t0 : (t == 0) = true := by simpa using e0
        clear e0
        go_enter Try.func19, Try.ntmps19
        go_wp2_with (first
                      | (go_at_call 50; refine (alive04_any _).mono ?_; rintro e w1 ⟨rfl, hb1⟩)
                      | (go_at_call 46; refine (divDo_any _ _ _ ha (by omega) hb (by omega) _).mono ?_; rintro e w2 ⟨rfl, hb2⟩; first | rw [Q.out] | rw [R.out] | rw [S.out] | rw [T.out])
                      | (go_at_call 53; refine (refSize_any _ _ (by omega) (by omega) _).mono ?_; rintro e w3 ⟨rfl, rfl⟩))
        go_ret
        exact ⟨rfl, by repeat (first | exact Below.refl _ _ | refine bthen ?_ (by assumption))⟩
      · have t0 : (t == 0) = false := by simpa using e0
        have d3 : decide (wrap32 t < 0) = false := decide_eq_false (by omega)
        have d4 : decide (wrap32 a < 0) = false := decide_eq_false (by omega)
        clear e0
        go_enter Try.func19, Try.ntmps19
        go_wp2_with (first
                      | (go_at_call 50; refine (alive04_any _).mono ?_; rintro e w1 ⟨rfl, hb1⟩)
                      | (go_at_call 46; refine (divDo_any _ _ _ ha (by omega) hb (by omega) _).mono ?_; rintro e w2 ⟨rfl, hb2⟩; first | rw [Q.out] | rw [R.out] | rw [S.out] | rw [T.out])
                      | (go_at_call 53; refine (refSize_any _ _ (by omega) (by omega) _).mono ?_; rintro e w3 ⟨rfl, rfl⟩))
        go_ret
        exact ⟨rfl, by repeat (first | exact Below.refl _ _ | refine bthen ?_ (by assumption))⟩

theorem own : ownKnob Try.prog.godebug = none := by kernel_rfl

set_option maxRecDepth 100000 in
theorem lifted (os : Os) (started : os.Started) (H : Type) (enc : TypeId × Value → H) :
    ReturnsInHanded {} Try.checked os 19 .any (Rows.divideBackSpec.pre6 enc Try.prog Try.f19 Rows.divideBackRow.domain false) (Rows.divideBackSpec.post enc Try.prog Try.f19 false true false false) := by
  refine returnsInHanded_of_change (C := Try.checked) own started (by kernel_rfl) Try.func19
    (ChangeSpec.witness6 (enc := enc) (C := Try.checked) false ⟨#[], #[.int .u32 0, .int .u32 0], []⟩ 8 (by kernel_rfl) (by kernel_rfl) (by kernel_rfl) (by kernel_rfl)) ?_
  intro W base args ds gs before hval0 hW hcnd _
  have hval : ∀ (j : Nat) t v, Try.f19.params[j]? = some t → args[j]? = some v → Value.okWide Try.prog W .any base t v := hval0
  have hW' := hW
  obtain ⟨p, q, hA0, hV, rfl, hfz, hnd⟩ := hW
  have hA : DataW.TrodAll enc Try.prog W 0 (fun _ => true) true Try.f19.params.toList args.toList ds p := hA0
  rw [Try.params19] at hA hval
  obtain ⟨v0, vs0, d0, ds0, p0, q0, hargs, rfl, rfl, h0, r0⟩ := trodAll_cons hA
  obtain ⟨v1, vs1, d1, ds1, p1, q1, rfl, rfl, rfl, h1, r1⟩ := trodAll_cons r0
  obtain ⟨rfl, rfl, rfl⟩ := trodAll_nil r1
  obtain rfl : args = #[v0, v1] := by cases args; simp_all
  obtain ⟨rfl, rfl⟩ := trodVars_none hV
  obtain ⟨a, rfl, rfl, rfl, w_a⟩ := open_int Try.underlying22 (hval 0 22 v0 rfl rfl) h0
  obtain ⟨b, rfl, rfl, rfl, w_b⟩ := open_int Try.underlying22 (hval 1 22 v1 rfl rfl) h1
  clear hA0 hval0
  simp only [List.append_nil] at hW'
  refine (walk a b w_a w_b W).mono fun e W' ⟨he, bel⟩ => ?_
  subst he
  exact ⟨_, rfl, _, _, _, [], _, [], hW', trodAll_mk1 (shut_bool Try.underlying4 _), (trodAll_cons_mk (shut_int Try.underlying22 w_a) (trodAll_cons_mk (shut_int Try.underlying22 w_b) trodAll_mk0)), rfl, bel.frame _, fun h => by cases h⟩

/-- THE STATEMENT -/
theorem proved : Rows.DivideBackSaid :=
  OpenClaim.holds_of_wide 19 Try.f19 rfl rfl rfl rfl rfl rfl rfl ⟨rfl, rfl, rfl, rfl, rfl⟩ rfl rfl rfl rfl rfl (by kernel_rfl) Try.func19 (by kernel_rfl)
    (of_decide_eq_true (by kernel_rfl)) (by unfold Func.isWrapper; first | (rw [if_pos (by decide +kernel)]; kernel_rfl) | (rw [if_neg (by decide +kernel)]; exact ⟨rfl, rfl⟩))
    (fun os started H enc _ => lifted os started H enc)
#print axioms proved
end Go.Proofs.Ytbpafbogjhbogaa.divideBack
