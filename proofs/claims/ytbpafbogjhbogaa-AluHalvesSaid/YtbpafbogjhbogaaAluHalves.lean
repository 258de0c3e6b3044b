/- Proved: the statement of AluHalves (auspexlaw03): the high and the low half of a product are the product; with a 1 the product is the number; for every input; no condition. -/
import Derived.Test.YtbpafbogjhbogaaRows
import Derived.Test.YtbpafbogjhbogaaAluLaw
import Derived.OpenShut
namespace Go.Proofs.Ytbpafbogjhbogaa.aluHalves
open Go.ChangeShapes Go.WideShapes Go.ChangeAt Go.RowKit
set_option linter.unusedVariables false

theorem walk (a b : Int) (wa : (Lit.int .u32 a).wf = true) (wb : (Lit.int .u32 b).wf = true) (w : World) :
    Calls Try.prog 13 #[.int .u32 a, .int .u32 b] w fun e w' => e = .returned (.bool true) ∧ Below w.heap.size w w' := by
  obtain ⟨ha, ha'⟩ := bounds_u32 wa
  obtain ⟨hb, hb'⟩ := bounds_u32 wb
  have e41 : mulW 41 a b = a * b / 4294967296 % 4294967296 := rfl
  have e39 : mulW 39 a b = wrap32 a * wrap32 b / 4294967296 % 4294967296 := rfl
  have e38 : mulW 38 a b = a * b % 4294967296 := rfl
  have f38 : mulW 38 a 1 = a := by show a * 1 % 4294967296 = a; omega
  have f41 : mulW 41 a 1 = 0 := by show a * 1 / 4294967296 % 4294967296 = 0; omega
  have l1 : 0 ≤ mulW 41 a b := by omega
  have l2 : mulW 41 a b < 4294967296 := by omega
  have l3 : 0 ≤ mulW 39 a b := by omega
  have l4 : mulW 39 a b < 4294967296 := by omega
  have l5 : 0 ≤ mulW 38 a b := by omega
  have l6 : mulW 38 a b < 4294967296 := by omega
  have p1 := prod_lt a b ha (by omega) hb (by omega)
  have l7 := Int.mul_nonneg ha hb
  have w1 := wrap32_in a
  have w2 := wrap32_in b
  have k1 : 0 ≤ mulW 39 a b * 4294967296 := by omega
  have x38 : mulW 38 a b = wrap32 a * wrap32 b % 4294967296 := by
    rw [e38]; exact low_same a b ha (by omega) hb (by omega)
  have bp := signed_prod a b
  have u1 : (bits .or .u64 (mulW 41 a b * 4294967296) (mulW 38 a b) == IntKind.u64.wrap (a * b)) = true := by
    rw [beq_iff_eq, or64 _ _ l1 l2 l5 l6, u64_wrap]
    omega
  have u2 : (wrap64 (bits .or .u64 (mulW 39 a b * 4294967296) (mulW 38 a b)) == wrap64 (wrap64 (wrap32 a) * wrap64 (wrap32 b))) = true := by
    rw [beq_iff_eq, or64 _ _ l3 l4 l5 l6, wrap64_32, wrap64_32, x38, e39]
    generalize wrap32 a * wrap32 b = p at *
    unfold wrap64
    omega
  have F1 := Lib.hid f38
  have F2 := Lib.hid f41
  clear e41 e39 e38 f38 f41 p1 l7 w1 w2 k1 x38 bp
  generalize hm1 : mulW 41 a b = m1 at *
  generalize hm2 : mulW 39 a b = m2 at *
  generalize hm3 : mulW 38 a b = m3 at *
  have G1 := Lib.hid hm1
  have G2 := Lib.hid hm2
  have G3 := Lib.hid hm3
  clear hm1 hm2 hm3
  go_enter Try.func13, Try.ntmps13
  go_wp2_with (first
    | (go_at_call 38; refine (alive03_any _).mono ?_; rintro e w1 ⟨rfl, rfl⟩)
    | (go_at_call 39; refine (mul_any _ _ _ (by omega) (by omega) (by omega) (by omega) _).mono ?_; rintro e w1 ⟨rfl, rfl⟩; (try rw [G1.out]); (try rw [G2.out]); (try rw [G3.out]); (try rw [F1.out]); (try rw [F2.out])))
  go_ret
  exact ⟨rfl, Below.refl _ _⟩

theorem own : ownKnob Try.prog.godebug = none := by kernel_rfl

set_option maxRecDepth 100000 in
theorem lifted (os : Os) (started : os.Started) (H : Type) (enc : TypeId × Value → H) :
    ReturnsInHanded {} Try.checked os 13 .any (Rows.aluHalvesSpec.pre6 enc Try.prog Try.f13 Rows.aluHalvesRow.domain false) (Rows.aluHalvesSpec.post enc Try.prog Try.f13 false true false false) := by
  refine returnsInHanded_of_change (C := Try.checked) own started (by kernel_rfl) Try.func13
    (ChangeSpec.witness6 (enc := enc) (C := Try.checked) false ⟨#[], #[.int .u32 0, .int .u32 0], []⟩ 8 (by kernel_rfl) (by kernel_rfl) (by kernel_rfl) (by kernel_rfl)) ?_
  intro W base args ds gs before hval0 hW hcnd _
  have hval : ∀ (j : Nat) t v, Try.f13.params[j]? = some t → args[j]? = some v → Value.okWide Try.prog W .any base t v := hval0
  have hW' := hW
  obtain ⟨p, q, hA0, hV, rfl, hfz, hnd⟩ := hW
  have hA : DataW.TrodAll enc Try.prog W 0 (fun _ => true) true Try.f13.params.toList args.toList ds p := hA0
  rw [Try.params13] at hA hval
  obtain ⟨v0, vs0, d0, ds0, p0, q0, hargs, rfl, rfl, h0, r0⟩ := trodAll_cons hA
  obtain ⟨v1, vs1, d1, ds1, p1, q1, rfl, rfl, rfl, h1, r1⟩ := trodAll_cons r0
  obtain ⟨rfl, rfl, rfl⟩ := trodAll_nil r1
  obtain rfl : args = #[v0, v1] := by cases args; simp_all
  obtain ⟨rfl, rfl⟩ := trodVars_none hV
  obtain ⟨a, rfl, rfl, rfl, w_a⟩ := open_int Try.underlying22 (hval 0 22 v0 rfl rfl) h0
  obtain ⟨b, rfl, rfl, rfl, w_b⟩ := open_int Try.underlying22 (hval 1 22 v1 rfl rfl) h1
  clear hA0 hval0
  simp only [List.append_nil] at hW'
  refine (walk a b w_a w_b W).mono fun e W' ⟨he, bel⟩ => ?_
  subst he
  exact ⟨_, rfl, _, _, _, [], _, [], hW', trodAll_mk1 (shut_bool Try.underlying4 _), (trodAll_cons_mk (shut_int Try.underlying22 w_a) (trodAll_cons_mk (shut_int Try.underlying22 w_b) trodAll_mk0)), rfl, bel.frame _, fun h => by cases h⟩

/-- THE STATEMENT -/
theorem proved : Rows.AluHalvesSaid :=
  OpenClaim.holds_of_wide 13 Try.f13 rfl rfl rfl rfl rfl rfl rfl ⟨rfl, rfl, rfl, rfl, rfl⟩ rfl rfl rfl rfl rfl (by kernel_rfl) Try.func13 (by kernel_rfl)
    (of_decide_eq_true (by kernel_rfl)) (by unfold Func.isWrapper; first | (rw [if_pos (by decide +kernel)]; kernel_rfl) | (rw [if_neg (by decide +kernel)]; exact ⟨rfl, rfl⟩))
    (fun os started H enc _ => lifted os started H enc)
#print axioms proved
end Go.Proofs.Ytbpafbogjhbogaa.aluHalves
