/- Proved: the statement of DivideTook (auspexlaw04): a division takes 2 to 34 cycles; by one it takes as many as the number has bits, and two; the quotient and what is left take as long; for every input; no condition. -/
import Derived.Test.YtbpafbogjhbogaaRows
import Derived.Test.YtbpafbogjhbogaaDivideRef
import Derived.Test.YtbpafbogjhbogaaWordLaw
import Derived.OpenShut
namespace Go.Proofs.Ytbpafbogjhbogaa.divideTook
open Go.ChangeShapes Go.WideShapes Go.ChangeAt Go.RowKit
set_option linter.unusedVariables false

theorem took_range (o a b : Int) (ha : 0 ≤ a) (ha' : a < 4294967296) (hb : 0 ≤ b) (hb' : b < 4294967296) (ho : 42 ≤ o ∧ o ≤ 45) : 2 ≤ tookW o a b ∧ tookW o a b ≤ 34 := by
  rw [took_form o a b ho]
  have hx := sz_range (op := o) ha ha'
  have hy := sz_range (op := o) hb hb'
  have hz := sz_zero (op := o) hb hb'
  have n1 := nb_le32 (n := (sz o a).toNat) (by omega)
  split
  · omega
  · have n2 : 1 ≤ nb (sz o b).toNat := by rw [nb_pos (by omega)]; omega
    have n3 := nb_mono (m := (sz o b).toNat) (n := (sz o a).toNat) (by omega)
    omega

theorem took_one (a : Int) (ha : 0 ≤ a) : tookW 43 a 1 = if a = 0 then 2 else (nb a.toNat : Int) + 2 := by
  rw [took_form 43 a 1 (by omega)]
  have e1 : sz 43 a = a := by simp [sz]
  have e2 : sz 43 1 = 1 := by simp [sz]
  have e3 : nb (1 : Int).toNat = 1 := by show nb 1 = 1; rw [nb_pos (by omega)]; rw [show 1 / 2 = 0 from rfl, nb_zero]
  rw [e1, e2, e3]
  by_cases h : a = 0
  · rw [if_pos (by omega), if_pos h]
  · rw [if_neg (by omega), if_neg h]; omega

theorem took_same (a b : Int) : tookW 42 a b = tookW 44 a b ∧ tookW 43 a b = tookW 45 a b := by
  refine ⟨?_, ?_⟩ <;> simp [tookW, sz]

set_option maxHeartbeats 1000000 in
theorem walk (a b : Int) (wa : (Lit.int .u32 a).wf = true) (wb : (Lit.int .u32 b).wf = true) (w : World) :
    Calls Try.prog 20 #[.int .u32 a, .int .u32 b] w fun e w' => e = .returned (.bool true) ∧ Below w.heap.size w w' := by
  obtain ⟨ha, ha'⟩ := bounds_u32 wa
  obtain ⟨hb, hb'⟩ := bounds_u32 wb
  have T1 := Lib.hid (took_same a b).1
  have T2 := Lib.hid (took_same a b).2
  have T3 := Lib.hid (took_one a ha)
  have T4 := Lib.hid (show tookW 28 a b = 0 from by simp [tookW])
  go_enter Try.func20, Try.ntmps20
  go_wp2
  go_loop [5] (fun i => ∃ o : Nat, 42 ≤ o ∧ o ≤ 46 ∧ i = .int .i64 o) (fun i => 49 - (intOf i).toNat)
  case atStart => exact ⟨42, by omega, by omega, rfl⟩
  case round =>
    obtain ⟨o, h1, h2, rfl⟩ := hrel
    by_cases h3 : o ≤ 45
    · obtain ⟨l1, l2⟩ := took_range o a b ha (by omega) hb (by omega) (by omega)
      have d1 : decide (tookW o a b < 2) = false := decide_eq_false (by omega)
      have d2 : decide (34 < tookW o a b) = false := decide_eq_false (by omega)
      go_wp2_with (first
        | (go_at_call 48; refine (divTook_any _ _ _ ha (by omega) (by omega) (by omega) _).mono ?_; rintro e w4 ⟨rfl, rfl⟩))
      go_round
      case rel => exact ⟨o + 1, by omega, by omega, by go_num⟩
      case measure => simp [intOf]; omega
    · by_cases h0 : a = 0
      · have a0 : (a == 0) = true := by simpa using h0
        have a1 : decide (0 < a) = false := decide_eq_false (by omega)
        have T3 := Lib.hid (show tookW 43 a 1 = 2 by rw [took_one a ha, if_pos h0])
        clear h0
        go_wp2_with (first
                      | (go_at_call 50; refine (alive04_any _).mono ?_; rintro e w1 ⟨rfl, hb1⟩)
                      | (go_at_call 48; refine (divTook_any _ _ _ ha (by omega) (by omega) (by omega) _).mono ?_; rintro e w4 ⟨rfl, rfl⟩; (try rw [T1.out]); (try rw [T2.out]); (try rw [T3.out]); (try rw [T4.out]))
                      | (go_at_call 51; refine (bits_any _ ha (by omega) _).mono ?_; rintro e w6 ⟨rfl, rfl⟩))
        go_ret
        exact ⟨rfl, hb1⟩
      · have a0 : (a == 0) = false := by simpa using h0
        have a1 : decide (0 < a) = true := decide_eq_true (by omega)
        have T3 := Lib.hid (show tookW 43 a 1 = (nb a.toNat : Int) + 2 by rw [took_one a ha, if_neg h0])
        have hn := nb_le32 (n := a.toNat) (by omega)
        clear h0
        go_wp2_with (first
                      | (go_at_call 50; refine (alive04_any _).mono ?_; rintro e w1 ⟨rfl, hb1⟩)
                      | (go_at_call 48; refine (divTook_any _ _ _ ha (by omega) (by omega) (by omega) _).mono ?_; rintro e w4 ⟨rfl, rfl⟩; (try rw [T1.out]); (try rw [T2.out]); (try rw [T3.out]); (try rw [T4.out]))
                      | (go_at_call 51; refine (bits_any _ ha (by omega) _).mono ?_; rintro e w6 ⟨rfl, rfl⟩))
        go_ret
        exact ⟨rfl, hb1⟩

theorem own : ownKnob Try.prog.godebug = none := by kernel_rfl

set_option maxRecDepth 100000 in
theorem lifted (os : Os) (started : os.Started) (H : Type) (enc : TypeId × Value → H) :
    ReturnsInHanded {} Try.checked os 20 .any (Rows.divideTookSpec.pre6 enc Try.prog Try.f20 Rows.divideTookRow.domain false) (Rows.divideTookSpec.post enc Try.prog Try.f20 false true false false) := by
  refine returnsInHanded_of_change (C := Try.checked) own started (by kernel_rfl) Try.func20
    (ChangeSpec.witness6 (enc := enc) (C := Try.checked) false ⟨#[], #[.int .u32 0, .int .u32 0], []⟩ 8 (by kernel_rfl) (by kernel_rfl) (by kernel_rfl) (by kernel_rfl)) ?_
  intro W base args ds gs before hval0 hW hcnd _
  have hval : ∀ (j : Nat) t v, Try.f20.params[j]? = some t → args[j]? = some v → Value.okWide Try.prog W .any base t v := hval0
  have hW' := hW
  obtain ⟨p, q, hA0, hV, rfl, hfz, hnd⟩ := hW
  have hA : DataW.TrodAll enc Try.prog W 0 (fun _ => true) true Try.f20.params.toList args.toList ds p := hA0
  rw [Try.params20] at hA hval
  obtain ⟨v0, vs0, d0, ds0, p0, q0, hargs, rfl, rfl, h0, r0⟩ := trodAll_cons hA
  obtain ⟨v1, vs1, d1, ds1, p1, q1, rfl, rfl, rfl, h1, r1⟩ := trodAll_cons r0
  obtain ⟨rfl, rfl, rfl⟩ := trodAll_nil r1
  obtain rfl : args = #[v0, v1] := by cases args; simp_all
  obtain ⟨rfl, rfl⟩ := trodVars_none hV
  obtain ⟨a, rfl, rfl, rfl, w_a⟩ := open_int Try.underlying22 (hval 0 22 v0 rfl rfl) h0
  obtain ⟨b, rfl, rfl, rfl, w_b⟩ := open_int Try.underlying22 (hval 1 22 v1 rfl rfl) h1
  clear hA0 hval0
  simp only [List.append_nil] at hW'
  refine (walk a b w_a w_b W).mono fun e W' ⟨he, bel⟩ => ?_
  subst he
  exact ⟨_, rfl, _, _, _, [], _, [], hW', trodAll_mk1 (shut_bool Try.underlying4 _), (trodAll_cons_mk (shut_int Try.underlying22 w_a) (trodAll_cons_mk (shut_int Try.underlying22 w_b) trodAll_mk0)), rfl, bel.frame _, fun h => by cases h⟩

/-- THE STATEMENT -/
theorem proved : Rows.DivideTookSaid :=
  OpenClaim.holds_of_wide 20 Try.f20 rfl rfl rfl rfl rfl rfl rfl ⟨rfl, rfl, rfl, rfl, rfl⟩ rfl rfl rfl rfl rfl (by kernel_rfl) Try.func20 (by kernel_rfl)
    (of_decide_eq_true (by kernel_rfl)) (by unfold Func.isWrapper; first | (rw [if_pos (by decide +kernel)]; kernel_rfl) | (rw [if_neg (by decide +kernel)]; exact ⟨rfl, rfl⟩))
    (fun os started H enc _ => lifted os started H enc)
#print axioms proved
end Go.Proofs.Ytbpafbogjhbogaa.divideTook
