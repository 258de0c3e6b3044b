/- Proved: the statement of DivideSmall (auspexlaw04): a number that is below the divisor is left whole; a multiple and a number below the divisor are told apart again; for every input; no condition. -/
import Derived.Test.YtbpafbogjhbogaaRows
import Derived.Test.YtbpafbogjhbogaaDivideRef
import Derived.Test.YtbpafbogjhbogaaWordLaw
import Derived.OpenShut
namespace Go.Proofs.Ytbpafbogjhbogaa.divideSmall
open Go.ChangeShapes Go.WideShapes Go.ChangeAt Go.RowKit
set_option linter.unusedVariables false

set_option maxHeartbeats 1000000 in
theorem walk (q b r : Int) (wq : (Lit.int .u32 q).wf = true) (wb : (Lit.int .u32 b).wf = true) (wr : (Lit.int .u32 r).wf = true) (w : World) :
    Calls Try.prog 22 #[.int .u32 q, .int .u32 b, .int .u32 r] w fun e w' => e = .returned (.bool true) ∧ Below w.heap.size w w' := by
  obtain ⟨hq, hq'⟩ := bounds_u32 wq
  obtain ⟨hb, hb'⟩ := bounds_u32 wb
  obtain ⟨hr, hr'⟩ := bounds_u32 wr
  obtain ⟨q', eq, q0, q1⟩ : ∃ q', bits .and .u32 q 65535 = q' ∧ 0 ≤ q' ∧ q' ≤ 65535 := ⟨_, rfl, by rw [and16 q hq (by omega)]; omega, by rw [and16 q hq (by omega)]; omega⟩
  obtain ⟨b', eb, b0, b1⟩ : ∃ b', bits .and .u32 b 65535 = b' ∧ 0 ≤ b' ∧ b' ≤ 65535 := ⟨_, rfl, by rw [and16 b hb (by omega)]; omega, by rw [and16 b hb (by omega)]; omega⟩
  by_cases h0 : b' = 0
  · have z : (b' == 0) = true := by simpa using h0
    have E := Lib.hid (show divW 45 r b' = r by simp [divW, h0])
    clear h0
    go_enter Try.func22, Try.ntmps22
    go_wp2_with (first
      | (go_at_call 50; refine (alive04_any _).mono ?_; rintro e w1 ⟨rfl, hb1⟩)
      | (go_at_call 46; refine (divDo_any _ _ _ (by omega) (by omega) (by omega) (by omega) _).mono ?_; rintro e w2 ⟨rfl, hb2⟩; rw [E.out]))
    go_ret
    exact ⟨rfl, bthen hb1 hb2⟩
  · have z : (b' == 0) = false := by simpa using h0
    have z2 : 1 ≤ b' := by omega
    have m1 := Int.emod_nonneg r h0
    have m2 := Int.emod_lt_of_pos r (show 0 < b' by omega)
    obtain ⟨p1, p2⟩ := prod_bound q0 q1 b0 b1
    have e1 : divW 43 (q' * b' + r % b') b' = q' := by
      simp [divW, h0]
      rw [Int.add_ediv_of_dvd_left (Int.dvd_mul_left _ _), Int.mul_ediv_cancel _ h0, Int.ediv_eq_zero_of_lt m1 m2]; omega
    have e2 : divW 45 (q' * b' + r % b') b' = r % b' := by
      simp [divW, h0]
    have e3 : divW 43 (r % b') b' = 0 := by
      simp [divW, h0]
      exact Int.ediv_eq_zero_of_lt m1 m2
    have e4 : tookW 43 (r % b') b' = 2 := by
      rw [took_form 43 _ _ (by omega), if_pos]
      right
      simp [sz]
      exact m2
    generalize hm : r % b' = r' at *
    generalize hp : q' * b' = p at *
    have E1 := Lib.hid e1
    have E2 := Lib.hid e2
    have E3 := Lib.hid e3
    have E4 := Lib.hid e4
    clear e1 e2 e3 e4
    go_enter Try.func22, Try.ntmps22
    go_wp2_with (first
      | (go_at_call 50; refine (alive04_any _).mono ?_; rintro e w1 ⟨rfl, hb1⟩)
      | (go_at_call 48; refine (divTook_any _ _ _ (by omega) (by omega) (by omega) (by omega) _).mono ?_; rintro e w4 ⟨rfl, rfl⟩; rw [E4.out])
      | (go_at_call 46; refine (divDo_any _ _ _ (by omega) (by omega) (by omega) (by omega) _).mono ?_; rintro e w2 ⟨rfl, hb2⟩; first | rw [E1.out] | rw [E2.out] | rw [E3.out]))
    go_ret
    exact ⟨rfl, by repeat (first | exact Below.refl _ _ | refine bthen ?_ (by assumption))⟩

theorem own : ownKnob Try.prog.godebug = none := by kernel_rfl

set_option maxRecDepth 100000 in
theorem lifted (os : Os) (started : os.Started) (H : Type) (enc : TypeId × Value → H) :
    ReturnsInHanded {} Try.checked os 22 .any (Rows.divideSmallSpec.pre6 enc Try.prog Try.f22 Rows.divideSmallRow.domain false) (Rows.divideSmallSpec.post enc Try.prog Try.f22 false true false false) := by
  refine returnsInHanded_of_change (C := Try.checked) own started (by kernel_rfl) Try.func22
    (ChangeSpec.witness6 (enc := enc) (C := Try.checked) false ⟨#[], #[.int .u32 0, .int .u32 0, .int .u32 0], []⟩ 8 (by kernel_rfl) (by kernel_rfl) (by kernel_rfl) (by kernel_rfl)) ?_
  intro W base args ds gs before hval0 hW hcnd _
  have hval : ∀ (j : Nat) t v, Try.f22.params[j]? = some t → args[j]? = some v → Value.okWide Try.prog W .any base t v := hval0
  have hW' := hW
  obtain ⟨p, q, hA0, hV, rfl, hfz, hnd⟩ := hW
  have hA : DataW.TrodAll enc Try.prog W 0 (fun _ => true) true Try.f22.params.toList args.toList ds p := hA0
  rw [Try.params22] at hA hval
  obtain ⟨v0, vs0, d0, ds0, p0, q0, hargs, rfl, rfl, h0, r0⟩ := trodAll_cons hA
  obtain ⟨v1, vs1, d1, ds1, p1, q1, rfl, rfl, rfl, h1, r1⟩ := trodAll_cons r0
  obtain ⟨v2, vs2, d2, ds2, p2, q2, rfl, rfl, rfl, h2, r2⟩ := trodAll_cons r1
  obtain ⟨rfl, rfl, rfl⟩ := trodAll_nil r2
  obtain rfl : args = #[v0, v1, v2] := by cases args; simp_all
  obtain ⟨rfl, rfl⟩ := trodVars_none hV
  obtain ⟨q, rfl, rfl, rfl, w_q⟩ := open_int Try.underlying22 (hval 0 22 v0 rfl rfl) h0
  obtain ⟨b, rfl, rfl, rfl, w_b⟩ := open_int Try.underlying22 (hval 1 22 v1 rfl rfl) h1
  obtain ⟨r, rfl, rfl, rfl, w_r⟩ := open_int Try.underlying22 (hval 2 22 v2 rfl rfl) h2
  clear hA0 hval0
  simp only [List.append_nil] at hW'
  refine (walk q b r w_q w_b w_r W).mono fun e W' ⟨he, bel⟩ => ?_
  subst he
  exact ⟨_, rfl, _, _, _, [], _, [], hW', trodAll_mk1 (shut_bool Try.underlying4 _), (trodAll_cons_mk (shut_int Try.underlying22 w_q) (trodAll_cons_mk (shut_int Try.underlying22 w_b) (trodAll_cons_mk (shut_int Try.underlying22 w_r) trodAll_mk0))), rfl, bel.frame _, fun h => by cases h⟩

/-- THE STATEMENT -/
theorem proved : Rows.DivideSmallSaid :=
  OpenClaim.holds_of_wide 22 Try.f22 rfl rfl rfl rfl rfl rfl rfl ⟨rfl, rfl, rfl, rfl, rfl⟩ rfl rfl rfl rfl rfl (by kernel_rfl) Try.func22 (by kernel_rfl)
    (of_decide_eq_true (by kernel_rfl)) (by unfold Func.isWrapper; first | (rw [if_pos (by decide +kernel)]; kernel_rfl) | (rw [if_neg (by decide +kernel)]; exact ⟨rfl, rfl⟩))
    (fun os started H enc _ => lifted os started H enc)
#print axioms proved
end Go.Proofs.Ytbpafbogjhbogaa.divideSmall
