/- Proved: the statement of WordSets (auspexlaw01): what is set is the field, a field that lies beside it stays, the old field put back is the word; for every input; no condition. -/
import Derived.Test.YtbpafbogjhbogaaRows
import Derived.Test.YtbpafbogjhbogaaWordLaw
import Derived.Test.YtbpafbogjhbogaaMathW
import Derived.OpenShut
namespace Go.Proofs.Ytbpafbogjhbogaa.wordSets
open Go.ChangeShapes Go.WideShapes Go.ChangeAt Go.RowKit
set_option linter.unusedVariables false

theorem walk (a i n v j m : Int) (wa : (Lit.int .u32 a).wf = true) (wi : (Lit.int .i64 i).wf = true) (wn : (Lit.int .i64 n).wf = true) (wv : (Lit.int .u32 v).wf = true) (wj : (Lit.int .i64 j).wf = true) (wm : (Lit.int .i64 m).wf = true) (w : World) :
    Calls Try.prog 5 #[.int .u32 a, .int .i64 i, .int .i64 n, .int .u32 v, .int .i64 j, .int .i64 m] w fun e w' => e = .returned (.bool true) ∧ Below w.heap.size w w' := by
  obtain ⟨ha, ha'⟩ := bounds_u32 wa
  obtain ⟨hv, hv'⟩ := bounds_u32 wv
  have hs := stw_lt a i n v (by omega)
  cases hf : fitsB i n
  · have H := Lib.hid (stw_no a i n v hf)
    have H2 := Lib.hid (Int.toNat_of_nonneg ha)
    go_enter Try.func5, Try.ntmps5
    go_wp2_with (first
      | (go_at_call 27; refine (set_any _ _ _ _ ha (by omega) hv (by omega) _).mono ?_; rintro e w4 ⟨rfl, m4, rfl⟩; rw [H.out, H2.out])
      | (go_at_call 35; refine (fits_any _ _ _).mono ?_; rintro e w' ⟨rfl, rfl⟩)
      | (go_at_call 24; refine (alive01_any _).mono ?_; rintro e w1 ⟨rfl, hb1⟩))
    go_ret
    exact ⟨rfl, bthenN (Below.refl _ _) hb1⟩
  · have h := fitsB_iff.1 hf
    obtain ⟨h0, h1, h2, h3⟩ := h
    have E1 := Lib.hid (fld_stw a i n v hf)
    have E2 := Lib.hid (stw_back a i n v ha (by omega) hf)
    have E3 := Lib.hid (Int.toNat_of_nonneg ha)
    have hl := fld_lt a i n
    cases hg : fitsB j m
    · go_enter Try.func5, Try.ntmps5
      go_wp2_with (first
        | (go_at_call 27; refine (set_any _ _ _ _ (by omega) (by omega) (by omega) (by omega) _).mono ?_; rintro e w4 ⟨rfl, m4, rfl⟩; (try rw [E2.out, E3.out]))
        | (go_at_call 35; refine (fits_any _ _ _).mono ?_; rintro e w' ⟨rfl, rfl⟩)
        | (go_at_call 24; refine (alive01_any _).mono ?_; rintro e w1 ⟨rfl, hb1⟩)
        | (go_at_call 25; refine (field_any _ _ _ (by omega) (by omega) _).mono ?_; rintro e w4 ⟨rfl, m4, rfl⟩; (try rw [E1.out])))
      go_ret
      exact ⟨rfl, by repeat (first | exact Below.refl _ _ | refine bdrewN ?_ _ | refine bthenN ?_ (by assumption) | refine bthen ?_ (by assumption))⟩
    · have hq := fitsB_iff.1 hg
      obtain ⟨q0, q1, q2, q3⟩ := hq
      by_cases c1 : j + m ≤ i
      · have E4 := Lib.hid (fld_beside a i n v j m hf hg (.inl c1))
        go_enter Try.func5, Try.ntmps5
        go_wp2_with (first
          | (go_at_call 27; refine (set_any _ _ _ _ (by omega) (by omega) (by omega) (by omega) _).mono ?_; rintro e w4 ⟨rfl, m4, rfl⟩; (try rw [E2.out, E3.out]))
          | (go_at_call 35; refine (fits_any _ _ _).mono ?_; rintro e w' ⟨rfl, rfl⟩)
          | (go_at_call 24; refine (alive01_any _).mono ?_; rintro e w1 ⟨rfl, hb1⟩)
          | (go_at_call 25; refine (field_any _ _ _ (by omega) (by omega) _).mono ?_; rintro e w4 ⟨rfl, m4, rfl⟩; (try rw [E1.out]); (try rw [E4.out])))
        go_ret
        exact ⟨rfl, by repeat (first | exact Below.refl _ _ | refine bdrewN ?_ _ | refine bthenN ?_ (by assumption) | refine bthen ?_ (by assumption))⟩
      · by_cases c2 : i + n ≤ j
        · have E4 := Lib.hid (fld_beside a i n v j m hf hg (.inr c2))
          go_enter Try.func5, Try.ntmps5
          go_wp2_with (first
            | (go_at_call 27; refine (set_any _ _ _ _ (by omega) (by omega) (by omega) (by omega) _).mono ?_; rintro e w4 ⟨rfl, m4, rfl⟩; (try rw [E2.out, E3.out]))
            | (go_at_call 35; refine (fits_any _ _ _).mono ?_; rintro e w' ⟨rfl, rfl⟩)
            | (go_at_call 24; refine (alive01_any _).mono ?_; rintro e w1 ⟨rfl, hb1⟩)
            | (go_at_call 25; refine (field_any _ _ _ (by omega) (by omega) _).mono ?_; rintro e w4 ⟨rfl, m4, rfl⟩; (try rw [E1.out]); (try rw [E4.out])))
          go_ret
          exact ⟨rfl, by repeat (first | exact Below.refl _ _ | refine bdrewN ?_ _ | refine bthenN ?_ (by assumption) | refine bthen ?_ (by assumption))⟩
        · go_enter Try.func5, Try.ntmps5
          go_wp2_with (first
            | (go_at_call 27; refine (set_any _ _ _ _ (by omega) (by omega) (by omega) (by omega) _).mono ?_; rintro e w4 ⟨rfl, m4, rfl⟩; (try rw [E2.out, E3.out]))
            | (go_at_call 35; refine (fits_any _ _ _).mono ?_; rintro e w' ⟨rfl, rfl⟩)
            | (go_at_call 24; refine (alive01_any _).mono ?_; rintro e w1 ⟨rfl, hb1⟩)
            | (go_at_call 25; refine (field_any _ _ _ (by omega) (by omega) _).mono ?_; rintro e w4 ⟨rfl, m4, rfl⟩; (try rw [E1.out])))
          go_ret
          exact ⟨rfl, by repeat (first | exact Below.refl _ _ | refine bdrewN ?_ _ | refine bthenN ?_ (by assumption) | refine bthen ?_ (by assumption))⟩

theorem own : ownKnob Try.prog.godebug = none := by kernel_rfl

set_option maxRecDepth 100000 in
theorem lifted (os : Os) (started : os.Started) (H : Type) (enc : TypeId × Value → H) :
    ReturnsInHanded {} Try.checked os 5 .any (Rows.wordSetsSpec.pre6 enc Try.prog Try.f5 Rows.wordSetsRow.domain false) (Rows.wordSetsSpec.post enc Try.prog Try.f5 false true false false) := by
  refine returnsInHanded_of_change (C := Try.checked) own started (by kernel_rfl) Try.func5
    (ChangeSpec.witness6 (enc := enc) (C := Try.checked) false ⟨#[], #[.int .u32 0, .int .i64 0, .int .i64 0, .int .u32 0, .int .i64 0, .int .i64 0], []⟩ 8 (by kernel_rfl) (by kernel_rfl) (by kernel_rfl) (by kernel_rfl)) ?_
  intro W base args ds gs before hval0 hW hcnd _
  have hval : ∀ (j : Nat) t v, Try.f5.params[j]? = some t → args[j]? = some v → Value.okWide Try.prog W .any base t v := hval0
  have hW' := hW
  obtain ⟨p, q, hA0, hV, rfl, hfz, hnd⟩ := hW
  have hA : DataW.TrodAll enc Try.prog W 0 (fun _ => true) true Try.f5.params.toList args.toList ds p := hA0
  rw [Try.params5] at hA hval
  obtain ⟨v0, vs0, d0, ds0, p0, q0, hargs, rfl, rfl, h0, r0⟩ := trodAll_cons hA
  obtain ⟨v1, vs1, d1, ds1, p1, q1, rfl, rfl, rfl, h1, r1⟩ := trodAll_cons r0
  obtain ⟨v2, vs2, d2, ds2, p2, q2, rfl, rfl, rfl, h2, r2⟩ := trodAll_cons r1
  obtain ⟨v3, vs3, d3, ds3, p3, q3, rfl, rfl, rfl, h3, r3⟩ := trodAll_cons r2
  obtain ⟨v4, vs4, d4, ds4, p4, q4, rfl, rfl, rfl, h4, r4⟩ := trodAll_cons r3
  obtain ⟨v5, vs5, d5, ds5, p5, q5, rfl, rfl, rfl, h5, r5⟩ := trodAll_cons r4
  obtain ⟨rfl, rfl, rfl⟩ := trodAll_nil r5
  obtain rfl : args = #[v0, v1, v2, v3, v4, v5] := by cases args; simp_all
  obtain ⟨rfl, rfl⟩ := trodVars_none hV
  obtain ⟨a, rfl, rfl, rfl, w_a⟩ := open_int Try.underlying22 (hval 0 22 v0 rfl rfl) h0
  obtain ⟨i, rfl, rfl, rfl, w_i⟩ := open_int Try.underlying3 (hval 1 3 v1 rfl rfl) h1
  obtain ⟨n, rfl, rfl, rfl, w_n⟩ := open_int Try.underlying3 (hval 2 3 v2 rfl rfl) h2
  obtain ⟨v, rfl, rfl, rfl, w_v⟩ := open_int Try.underlying22 (hval 3 22 v3 rfl rfl) h3
  obtain ⟨j, rfl, rfl, rfl, w_j⟩ := open_int Try.underlying3 (hval 4 3 v4 rfl rfl) h4
  obtain ⟨m, rfl, rfl, rfl, w_m⟩ := open_int Try.underlying3 (hval 5 3 v5 rfl rfl) h5
  clear hA0 hval0
  simp only [List.append_nil] at hW'
  refine (walk a i n v j m w_a w_i w_n w_v w_j w_m W).mono fun e W' ⟨he, bel⟩ => ?_
  subst he
  exact ⟨_, rfl, _, _, _, [], _, [], hW', trodAll_mk1 (shut_bool Try.underlying4 _), (trodAll_cons_mk (shut_int Try.underlying22 w_a) (trodAll_cons_mk (shut_int Try.underlying3 w_i) (trodAll_cons_mk (shut_int Try.underlying3 w_n) (trodAll_cons_mk (shut_int Try.underlying22 w_v) (trodAll_cons_mk (shut_int Try.underlying3 w_j) (trodAll_cons_mk (shut_int Try.underlying3 w_m) trodAll_mk0)))))), rfl, bel.frame _, fun h => by cases h⟩

/-- THE STATEMENT -/
theorem proved : Rows.WordSetsSaid :=
  OpenClaim.holds_of_wide 5 Try.f5 rfl rfl rfl rfl rfl rfl rfl ⟨rfl, rfl, rfl, rfl, rfl⟩ rfl rfl rfl rfl rfl (by kernel_rfl) Try.func5 (by kernel_rfl)
    (of_decide_eq_true (by kernel_rfl)) (by unfold Func.isWrapper; first | (rw [if_pos (by decide +kernel)]; kernel_rfl) | (rw [if_neg (by decide +kernel)]; exact ⟨rfl, rfl⟩))
    (fun os started H enc _ => lifted os started H enc)
#print axioms proved
end Go.Proofs.Ytbpafbogjhbogaa.wordSets
