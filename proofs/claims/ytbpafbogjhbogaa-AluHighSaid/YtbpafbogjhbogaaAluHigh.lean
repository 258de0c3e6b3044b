/- Proved: the statement of AluHigh (auspexlaw03): the high halves of products as signed numbers are those of numbers, less the other number where one is below 0; for every input; no condition. -/
import Derived.Test.YtbpafbogjhbogaaRows
import Derived.Test.YtbpafbogjhbogaaAluLaw
import Derived.OpenShut
namespace Go.Proofs.Ytbpafbogjhbogaa.aluHigh
open Go.ChangeShapes Go.WideShapes Go.ChangeAt Go.RowKit
set_option linter.unusedVariables false

theorem walk (a b : Int) (wa : (Lit.int .u32 a).wf = true) (wb : (Lit.int .u32 b).wf = true) (w : World) :
    Calls Try.prog 17 #[.int .u32 a, .int .u32 b] w fun e w' => e = .returned (.bool true) ∧ Below w.heap.size w w' := by
  obtain ⟨ha, ha'⟩ := bounds_u32 wa
  obtain ⟨hb, hb'⟩ := bounds_u32 wb
  have HC := mul39 b a hb (by omega) ha (by omega)
  have H39 := mul39 a b ha (by omega) hb (by omega)
  have H40 := mul40 a b ha (by omega)
  have HM := Int.mul_comm a b
  have e41 : mulW 41 a b = a * b / 4294967296 % 4294967296 := rfl
  have e40 : mulW 40 a b = wrap32 a * b / 4294967296 % 4294967296 := rfl
  have e39 : mulW 39 a b = wrap32 a * wrap32 b / 4294967296 % 4294967296 := rfl
  have e39' : mulW 39 b a = wrap32 b * wrap32 a / 4294967296 % 4294967296 := rfl
  rw [← HM] at HC
  clear HM
  rcases wrap32_cases a ha (by omega) with ⟨c1, d1⟩ | ⟨c1, d1⟩ <;> rcases wrap32_cases b hb (by omega) with ⟨c2, d2⟩ | ⟨c2, d2⟩
  · have s1 : wrap32 a < 0 := by omega
    have s2 : wrap32 b < 0 := by omega
    rw [if_pos c1] at H39 H40 HC
    rw [if_pos c2] at H39 HC
    have t1 : (mulW 40 a b == (mulW 41 a b - b) % 4294967296) = true := by rw [beq_iff_eq]; omega
    have t2 : (mulW 39 a b == (mulW 41 a b - b - a) % 4294967296) = true := by rw [beq_iff_eq]; omega
    have t3 : (mulW 39 a b == mulW 39 b a) = true := by rw [beq_iff_eq]; omega
    clear H39 H40 HC e41 e40 e39 e39' d1 d2
    generalize hm1 : mulW 41 a b = m1 at *
    generalize hm2 : mulW 40 a b = m2 at *
    generalize hm3 : mulW 39 a b = m3 at *
    generalize hm4 : mulW 39 b a = m4 at *
    have G1 := Lib.hid hm1
    have G2 := Lib.hid hm2
    have G3 := Lib.hid hm3
    have G4 := Lib.hid hm4
    clear hm1 hm2 hm3 hm4
    go_enter Try.func17, Try.ntmps17
    go_wp2_with (first
      | (go_at_call 38; refine (alive03_any _).mono ?_; rintro e w1 ⟨rfl, rfl⟩)
      | (go_at_call 39; refine (mul_any _ _ _ (by omega) (by omega) (by omega) (by omega) _).mono ?_; rintro e w1 ⟨rfl, rfl⟩; (try rw [G1.out]); (try rw [G2.out]); (try rw [G3.out]); (try rw [G4.out])))
    go_ret
    exact ⟨rfl, Below.refl _ _⟩
  · have s1 : wrap32 a < 0 := by omega
    have s2 : 0 ≤ wrap32 b := by omega
    have c2' : ¬ 2147483648 ≤ b := by omega
    rw [if_pos c1] at H39 H40 HC
    rw [if_neg c2'] at H39 HC
    have t1 : (mulW 40 a b == (mulW 41 a b - b) % 4294967296) = true := by rw [beq_iff_eq]; omega
    have t2 : (mulW 39 a b == (mulW 41 a b - b) % 4294967296) = true := by rw [beq_iff_eq]; omega
    have t3 : (mulW 39 a b == mulW 39 b a) = true := by rw [beq_iff_eq]; omega
    clear H39 H40 HC e41 e40 e39 e39' d1 d2
    generalize hm1 : mulW 41 a b = m1 at *
    generalize hm2 : mulW 40 a b = m2 at *
    generalize hm3 : mulW 39 a b = m3 at *
    generalize hm4 : mulW 39 b a = m4 at *
    have G1 := Lib.hid hm1
    have G2 := Lib.hid hm2
    have G3 := Lib.hid hm3
    have G4 := Lib.hid hm4
    clear hm1 hm2 hm3 hm4
    go_enter Try.func17, Try.ntmps17
    go_wp2_with (first
      | (go_at_call 38; refine (alive03_any _).mono ?_; rintro e w1 ⟨rfl, rfl⟩)
      | (go_at_call 39; refine (mul_any _ _ _ (by omega) (by omega) (by omega) (by omega) _).mono ?_; rintro e w1 ⟨rfl, rfl⟩; (try rw [G1.out]); (try rw [G2.out]); (try rw [G3.out]); (try rw [G4.out])))
    go_ret
    exact ⟨rfl, Below.refl _ _⟩
  · have s1 : 0 ≤ wrap32 a := by omega
    have s2 : wrap32 b < 0 := by omega
    have c1' : ¬ 2147483648 ≤ a := by omega
    rw [if_neg c1'] at H39 H40 HC
    rw [if_pos c2] at H39 HC
    have t1 : (mulW 40 a b == mulW 41 a b) = true := by rw [beq_iff_eq]; omega
    have t2 : (mulW 39 a b == (mulW 41 a b - a) % 4294967296) = true := by rw [beq_iff_eq]; omega
    have t3 : (mulW 39 a b == mulW 39 b a) = true := by rw [beq_iff_eq]; omega
    clear H39 H40 HC e41 e40 e39 e39' d1 d2
    generalize hm1 : mulW 41 a b = m1 at *
    generalize hm2 : mulW 40 a b = m2 at *
    generalize hm3 : mulW 39 a b = m3 at *
    generalize hm4 : mulW 39 b a = m4 at *
    have G1 := Lib.hid hm1
    have G2 := Lib.hid hm2
    have G3 := Lib.hid hm3
    have G4 := Lib.hid hm4
    clear hm1 hm2 hm3 hm4
    go_enter Try.func17, Try.ntmps17
    go_wp2_with (first
      | (go_at_call 38; refine (alive03_any _).mono ?_; rintro e w1 ⟨rfl, rfl⟩)
      | (go_at_call 39; refine (mul_any _ _ _ (by omega) (by omega) (by omega) (by omega) _).mono ?_; rintro e w1 ⟨rfl, rfl⟩; (try rw [G1.out]); (try rw [G2.out]); (try rw [G3.out]); (try rw [G4.out])))
    go_ret
    exact ⟨rfl, Below.refl _ _⟩
  · have s1 : 0 ≤ wrap32 a := by omega
    have s2 : 0 ≤ wrap32 b := by omega
    have c1' : ¬ 2147483648 ≤ a := by omega
    have c2' : ¬ 2147483648 ≤ b := by omega
    rw [if_neg c1'] at H39 H40 HC
    rw [if_neg c2'] at H39 HC
    have t1 : (mulW 40 a b == mulW 41 a b) = true := by rw [beq_iff_eq]; omega
    have t2 : (mulW 39 a b == mulW 41 a b) = true := by rw [beq_iff_eq]; omega
    have t3 : (mulW 39 a b == mulW 39 b a) = true := by rw [beq_iff_eq]; omega
    clear H39 H40 HC e41 e40 e39 e39' d1 d2
    generalize hm1 : mulW 41 a b = m1 at *
    generalize hm2 : mulW 40 a b = m2 at *
    generalize hm3 : mulW 39 a b = m3 at *
    generalize hm4 : mulW 39 b a = m4 at *
    have G1 := Lib.hid hm1
    have G2 := Lib.hid hm2
    have G3 := Lib.hid hm3
    have G4 := Lib.hid hm4
    clear hm1 hm2 hm3 hm4
    go_enter Try.func17, Try.ntmps17
    go_wp2_with (first
      | (go_at_call 38; refine (alive03_any _).mono ?_; rintro e w1 ⟨rfl, rfl⟩)
      | (go_at_call 39; refine (mul_any _ _ _ (by omega) (by omega) (by omega) (by omega) _).mono ?_; rintro e w1 ⟨rfl, rfl⟩; (try rw [G1.out]); (try rw [G2.out]); (try rw [G3.out]); (try rw [G4.out])))
    go_ret
    exact ⟨rfl, Below.refl _ _⟩

theorem own : ownKnob Try.prog.godebug = none := by kernel_rfl

set_option maxRecDepth 100000 in
theorem lifted (os : Os) (started : os.Started) (H : Type) (enc : TypeId × Value → H) :
    ReturnsInHanded {} Try.checked os 17 .any (Rows.aluHighSpec.pre6 enc Try.prog Try.f17 Rows.aluHighRow.domain false) (Rows.aluHighSpec.post enc Try.prog Try.f17 false true false false) := by
  refine returnsInHanded_of_change (C := Try.checked) own started (by kernel_rfl) Try.func17
    (ChangeSpec.witness6 (enc := enc) (C := Try.checked) false ⟨#[], #[.int .u32 0, .int .u32 0], []⟩ 8 (by kernel_rfl) (by kernel_rfl) (by kernel_rfl) (by kernel_rfl)) ?_
  intro W base args ds gs before hval0 hW hcnd _
  have hval : ∀ (j : Nat) t v, Try.f17.params[j]? = some t → args[j]? = some v → Value.okWide Try.prog W .any base t v := hval0
  have hW' := hW
  obtain ⟨p, q, hA0, hV, rfl, hfz, hnd⟩ := hW
  have hA : DataW.TrodAll enc Try.prog W 0 (fun _ => true) true Try.f17.params.toList args.toList ds p := hA0
  rw [Try.params17] at hA hval
  obtain ⟨v0, vs0, d0, ds0, p0, q0, hargs, rfl, rfl, h0, r0⟩ := trodAll_cons hA
  obtain ⟨v1, vs1, d1, ds1, p1, q1, rfl, rfl, rfl, h1, r1⟩ := trodAll_cons r0
  obtain ⟨rfl, rfl, rfl⟩ := trodAll_nil r1
  obtain rfl : args = #[v0, v1] := by cases args; simp_all
  obtain ⟨rfl, rfl⟩ := trodVars_none hV
  obtain ⟨a, rfl, rfl, rfl, w_a⟩ := open_int Try.underlying22 (hval 0 22 v0 rfl rfl) h0
  obtain ⟨b, rfl, rfl, rfl, w_b⟩ := open_int Try.underlying22 (hval 1 22 v1 rfl rfl) h1
  clear hA0 hval0
  simp only [List.append_nil] at hW'
  refine (walk a b w_a w_b W).mono fun e W' ⟨he, bel⟩ => ?_
  subst he
  exact ⟨_, rfl, _, _, _, [], _, [], hW', trodAll_mk1 (shut_bool Try.underlying4 _), (trodAll_cons_mk (shut_int Try.underlying22 w_a) (trodAll_cons_mk (shut_int Try.underlying22 w_b) trodAll_mk0)), rfl, bel.frame _, fun h => by cases h⟩

/-- THE STATEMENT -/
theorem proved : Rows.AluHighSaid :=
  OpenClaim.holds_of_wide 17 Try.f17 rfl rfl rfl rfl rfl rfl rfl ⟨rfl, rfl, rfl, rfl, rfl⟩ rfl rfl rfl rfl rfl (by kernel_rfl) Try.func17 (by kernel_rfl)
    (of_decide_eq_true (by kernel_rfl)) (by unfold Func.isWrapper; first | (rw [if_pos (by decide +kernel)]; kernel_rfl) | (rw [if_neg (by decide +kernel)]; exact ⟨rfl, rfl⟩))
    (fun os started H enc _ => lifted os started H enc)
#print axioms proved
end Go.Proofs.Ytbpafbogjhbogaa.aluHigh
