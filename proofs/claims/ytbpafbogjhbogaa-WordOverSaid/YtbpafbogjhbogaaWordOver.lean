/- Proved: the statement of WordOver (auspexlaw01): a word is its two halves; a field of a field is a field of the word; for every input; no condition. -/
import Derived.Test.YtbpafbogjhbogaaRows
import Derived.Test.YtbpafbogjhbogaaWordLaw
import Derived.Test.YtbpafbogjhbogaaMathW
import Derived.OpenShut
namespace Go.Proofs.Ytbpafbogjhbogaa.wordOver
open Go.ChangeShapes Go.WideShapes Go.ChangeAt Go.RowKit
set_option linter.unusedVariables false

set_option maxHeartbeats 2000000 in
theorem walk (a i n j m : Int) (wa : (Lit.int .u32 a).wf = true) (wi : (Lit.int .i64 i).wf = true) (wn : (Lit.int .i64 n).wf = true) (wj : (Lit.int .i64 j).wf = true) (wm : (Lit.int .i64 m).wf = true) (w : World) :
    Calls Try.prog 7 #[.int .u32 a, .int .i64 i, .int .i64 n, .int .i64 j, .int .i64 m] w fun e w' => e = .returned (.bool true) ∧ Below w.heap.size w w' := by
  obtain ⟨ha, ha'⟩ := bounds_u32 wa
  obtain ⟨jl, jh⟩ := bounds_i64 wj
  obtain ⟨ml, mh⟩ := bounds_i64 wm
  have E1 := Lib.hid (halves a (by omega))
  have E2 := Lib.hid (Int.toNat_of_nonneg ha)
  have l1 := fld_lt a 0 16
  have l2 := fld_lt a 16 16
  have l3 := fld_lt a i n
  cases hf : fitsB i n
  · go_enter Try.func7, Try.ntmps7
    go_wp2_with (first
      | (go_at_call 27; refine (set_any _ _ _ _ (by omega) (by omega) (by omega) (by omega) _).mono ?_; rintro e w4 ⟨rfl, m4, rfl⟩; rw [E1.out, E2.out])
      | (go_at_call 35; refine (fits_any _ _ _).mono ?_; rintro e w' ⟨rfl, rfl⟩)
      | (go_at_call 24; refine (alive01_any _).mono ?_; rintro e w1 ⟨rfl, hb1⟩)
      | (go_at_call 25; refine (field_any _ _ _ (by omega) (by omega) _).mono ?_; rintro e w4 ⟨rfl, m4, rfl⟩))
    go_ret
    exact ⟨rfl, by repeat (first | exact Below.refl _ _ | refine bdrewN ?_ _ | refine bthenN ?_ (by assumption) | refine bthen ?_ (by assumption))⟩
  · have h := fitsB_iff.1 hf
    obtain ⟨h0, h1, h2, h3⟩ := h
    by_cases c1 : j < 0
    · have d1 : decide (j < 0) = true := decide_eq_true c1
      go_enter Try.func7, Try.ntmps7
      go_wp2_with (first
        | (go_at_call 27; refine (set_any _ _ _ _ (by omega) (by omega) (by omega) (by omega) _).mono ?_; rintro e w4 ⟨rfl, m4, rfl⟩; rw [E1.out, E2.out])
        | (go_at_call 35; refine (fits_any _ _ _).mono ?_; rintro e w' ⟨rfl, rfl⟩)
        | (go_at_call 24; refine (alive01_any _).mono ?_; rintro e w1 ⟨rfl, hb1⟩)
        | (go_at_call 25; refine (field_any _ _ _ (by omega) (by omega) _).mono ?_; rintro e w4 ⟨rfl, m4, rfl⟩))
      go_ret
      exact ⟨rfl, by repeat (first | exact Below.refl _ _ | refine bdrewN ?_ _ | refine bthenN ?_ (by assumption) | refine bthen ?_ (by assumption))⟩
    · have d1 : decide (j < 0) = false := decide_eq_false c1
      have e1 : 0 ≤ j := by omega
      clear c1
      by_cases c2 : m < 1
      · have d2 : decide (m < 1) = true := decide_eq_true c2
        go_enter Try.func7, Try.ntmps7
        go_wp2_with (first
          | (go_at_call 27; refine (set_any _ _ _ _ (by omega) (by omega) (by omega) (by omega) _).mono ?_; rintro e w4 ⟨rfl, m4, rfl⟩; rw [E1.out, E2.out])
          | (go_at_call 35; refine (fits_any _ _ _).mono ?_; rintro e w' ⟨rfl, rfl⟩)
          | (go_at_call 24; refine (alive01_any _).mono ?_; rintro e w1 ⟨rfl, hb1⟩)
          | (go_at_call 25; refine (field_any _ _ _ (by omega) (by omega) _).mono ?_; rintro e w4 ⟨rfl, m4, rfl⟩))
        go_ret
        exact ⟨rfl, by repeat (first | exact Below.refl _ _ | refine bdrewN ?_ _ | refine bthenN ?_ (by assumption) | refine bthen ?_ (by assumption))⟩
      · have d2 : decide (m < 1) = false := decide_eq_false c2
        have e2 : 1 ≤ m := by omega
        clear c2
        by_cases c3 : j + m ≤ n
        · have E3 := Lib.hid (fld_fld a i n j m hf (by omega) (by omega) c3)
          have d3 : decide (n < j + m) = false := decide_eq_false (by omega)
          clear jl jh ml mh
          go_enter Try.func7, Try.ntmps7
          go_wp2_with (first
            | (go_at_call 27; refine (set_any _ _ _ _ (by omega) (by omega) (by omega) (by omega) _).mono ?_; rintro e w4 ⟨rfl, m4, rfl⟩; rw [E1.out, E2.out])
            | (go_at_call 35; refine (fits_any _ _ _).mono ?_; rintro e w' ⟨rfl, rfl⟩)
            | (go_at_call 24; refine (alive01_any _).mono ?_; rintro e w1 ⟨rfl, hb1⟩)
            | (go_at_call 25; refine (field_any _ _ _ (by omega) (by omega) _).mono ?_; rintro e w4 ⟨rfl, m4, rfl⟩; (try rw [E3.out])))
          go_ret
          exact ⟨rfl, by repeat (first | exact Below.refl _ _ | refine bdrewN ?_ _ | refine bthenN ?_ (by assumption) | refine bthen ?_ (by assumption))⟩
        · by_cases c4 : j + m ≤ 9223372036854775807
          · have d3 : decide (n < j + m) = true := decide_eq_true (by omega)
            go_enter Try.func7, Try.ntmps7
            go_wp2_with (first
              | (go_at_call 27; refine (set_any _ _ _ _ (by omega) (by omega) (by omega) (by omega) _).mono ?_; rintro e w4 ⟨rfl, m4, rfl⟩; rw [E1.out, E2.out])
              | (go_at_call 35; refine (fits_any _ _ _).mono ?_; rintro e w' ⟨rfl, rfl⟩)
              | (go_at_call 24; refine (alive01_any _).mono ?_; rintro e w1 ⟨rfl, hb1⟩)
              | (go_at_call 25; refine (field_any _ _ _ (by omega) (by omega) _).mono ?_; rintro e w4 ⟨rfl, m4, rfl⟩))
            go_ret
            exact ⟨rfl, by repeat (first | exact Below.refl _ _ | refine bdrewN ?_ _ | refine bthenN ?_ (by assumption) | refine bthen ?_ (by assumption))⟩
          · have hw : wrap64 (j + m) < 0 := by unfold wrap64; omega
            have d3 : decide (n < wrap64 (j + m)) = false := decide_eq_false (by omega)
            have f1 : fitsB j m = false := fitsB_no.2 (by omega)
            have f2 : fitsB (wrap64 (i + j)) m = false := fitsB_no.2 (by unfold wrap64; omega)
            have f3 : fitsB (i + j) m = false := fitsB_no.2 (by omega)
            have E3 := Lib.hid (fld_none (fld a i n) j m f1)
            have E4 := Lib.hid (fld_none a (wrap64 (i + j)) m f2)
            have E5 := Lib.hid (fld_none a (i + j) m f3)
            clear f1 f2 f3
            go_enter Try.func7, Try.ntmps7
            go_wp2_with (first
              | (go_at_call 27; refine (set_any _ _ _ _ (by omega) (by omega) (by omega) (by omega) _).mono ?_; rintro e w4 ⟨rfl, m4, rfl⟩; rw [E1.out, E2.out])
              | (go_at_call 35; refine (fits_any _ _ _).mono ?_; rintro e w' ⟨rfl, rfl⟩)
              | (go_at_call 24; refine (alive01_any _).mono ?_; rintro e w1 ⟨rfl, hb1⟩)
              | (go_at_call 25; refine (field_any _ _ _ (by omega) (by omega) _).mono ?_; rintro e w4 ⟨rfl, m4, rfl⟩; (try rw [E3.out]); (try rw [E4.out]); (try rw [E5.out])))
            go_ret
            exact ⟨rfl, by repeat (first | exact Below.refl _ _ | refine bdrewN ?_ _ | refine bthenN ?_ (by assumption) | refine bthen ?_ (by assumption))⟩

theorem own : ownKnob Try.prog.godebug = none := by kernel_rfl

set_option maxRecDepth 100000 in
theorem lifted (os : Os) (started : os.Started) (H : Type) (enc : TypeId × Value → H) :
    ReturnsInHanded {} Try.checked os 7 .any (Rows.wordOverSpec.pre6 enc Try.prog Try.f7 Rows.wordOverRow.domain false) (Rows.wordOverSpec.post enc Try.prog Try.f7 false true false false) := by
  refine returnsInHanded_of_change (C := Try.checked) own started (by kernel_rfl) Try.func7
    (ChangeSpec.witness6 (enc := enc) (C := Try.checked) false ⟨#[], #[.int .u32 0, .int .i64 0, .int .i64 0, .int .i64 0, .int .i64 0], []⟩ 8 (by kernel_rfl) (by kernel_rfl) (by kernel_rfl) (by kernel_rfl)) ?_
  intro W base args ds gs before hval0 hW hcnd _
  have hval : ∀ (j : Nat) t v, Try.f7.params[j]? = some t → args[j]? = some v → Value.okWide Try.prog W .any base t v := hval0
  have hW' := hW
  obtain ⟨p, q, hA0, hV, rfl, hfz, hnd⟩ := hW
  have hA : DataW.TrodAll enc Try.prog W 0 (fun _ => true) true Try.f7.params.toList args.toList ds p := hA0
  rw [Try.params7] at hA hval
  obtain ⟨v0, vs0, d0, ds0, p0, q0, hargs, rfl, rfl, h0, r0⟩ := trodAll_cons hA
  obtain ⟨v1, vs1, d1, ds1, p1, q1, rfl, rfl, rfl, h1, r1⟩ := trodAll_cons r0
  obtain ⟨v2, vs2, d2, ds2, p2, q2, rfl, rfl, rfl, h2, r2⟩ := trodAll_cons r1
  obtain ⟨v3, vs3, d3, ds3, p3, q3, rfl, rfl, rfl, h3, r3⟩ := trodAll_cons r2
  obtain ⟨v4, vs4, d4, ds4, p4, q4, rfl, rfl, rfl, h4, r4⟩ := trodAll_cons r3
  obtain ⟨rfl, rfl, rfl⟩ := trodAll_nil r4
  obtain rfl : args = #[v0, v1, v2, v3, v4] := by cases args; simp_all
  obtain ⟨rfl, rfl⟩ := trodVars_none hV
  obtain ⟨a, rfl, rfl, rfl, w_a⟩ := open_int Try.underlying22 (hval 0 22 v0 rfl rfl) h0
  obtain ⟨i, rfl, rfl, rfl, w_i⟩ := open_int Try.underlying3 (hval 1 3 v1 rfl rfl) h1
  obtain ⟨n, rfl, rfl, rfl, w_n⟩ := open_int Try.underlying3 (hval 2 3 v2 rfl rfl) h2
  obtain ⟨j, rfl, rfl, rfl, w_j⟩ := open_int Try.underlying3 (hval 3 3 v3 rfl rfl) h3
  obtain ⟨m, rfl, rfl, rfl, w_m⟩ := open_int Try.underlying3 (hval 4 3 v4 rfl rfl) h4
  clear hA0 hval0
  simp only [List.append_nil] at hW'
  refine (walk a i n j m w_a w_i w_n w_j w_m W).mono fun e W' ⟨he, bel⟩ => ?_
  subst he
  exact ⟨_, rfl, _, _, _, [], _, [], hW', trodAll_mk1 (shut_bool Try.underlying4 _), (trodAll_cons_mk (shut_int Try.underlying22 w_a) (trodAll_cons_mk (shut_int Try.underlying3 w_i) (trodAll_cons_mk (shut_int Try.underlying3 w_n) (trodAll_cons_mk (shut_int Try.underlying3 w_j) (trodAll_cons_mk (shut_int Try.underlying3 w_m) trodAll_mk0))))), rfl, bel.frame _, fun h => by cases h⟩

/-- THE STATEMENT -/
theorem proved : Rows.WordOverSaid :=
  OpenClaim.holds_of_wide 7 Try.f7 rfl rfl rfl rfl rfl rfl rfl ⟨rfl, rfl, rfl, rfl, rfl⟩ rfl rfl rfl rfl rfl (by kernel_rfl) Try.func7 (by kernel_rfl)
    (of_decide_eq_true (by kernel_rfl)) (by unfold Func.isWrapper; first | (rw [if_pos (by decide +kernel)]; kernel_rfl) | (rw [if_neg (by decide +kernel)]; exact ⟨rfl, rfl⟩))
    (fun os started H enc _ => lifted os started H enc)
#print axioms proved
end Go.Proofs.Ytbpafbogjhbogaa.wordOver
