/- Proved: the statement of AluBranches (auspexlaw03): of each two branches just one goes; with both numbers changed for one another the other way round; for every input; no condition. -/
import Derived.Test.YtbpafbogjhbogaaRows
import Derived.Test.YtbpafbogjhbogaaAluLaw
import Derived.OpenShut
namespace Go.Proofs.Ytbpafbogjhbogaa.aluBranches
open Go.ChangeShapes Go.WideShapes Go.ChangeAt Go.RowKit
set_option linter.unusedVariables false

theorem less_any (op a b : Int) (w : World) :
    Calls Try.prog 45 #[.int .i64 op, .int .u32 a, .int .u32 b] w fun e w' => e = .returned (.bool (takenB op a b)) ∧ w = w' := by
  go_enter Try.func45, Try.ntmps45
  go_wp2_with (go_at_call 41; refine (taken_any _ _ _ _).mono ?_; rintro e w1 ⟨rfl, rfl⟩)
  go_ret
  exact ⟨rfl, rfl⟩

theorem pairs (a b : Int) : takenB 6 a b = !takenB 5 a b ∧ takenB 8 a b = !takenB 7 a b ∧ takenB 10 a b = !takenB 9 a b := by
  simp [takenB, ← nlt_dec]

theorem three7 (a b : Int) (ha : 0 ≤ a) (ha' : a < 4294967296) (hb : 0 ≤ b) (hb' : b < 4294967296) :
    (takenB 7 a b = true ∧ takenB 7 b a = false ∧ (a != b) = true) ∨ (takenB 7 a b = false ∧ takenB 7 b a = true ∧ (a != b) = true) ∨ (takenB 7 a b = false ∧ takenB 7 b a = false ∧ (a != b) = false) := by
  have e1 : takenB 7 a b = decide (wrap32 a < wrap32 b) := rfl
  have e2 : takenB 7 b a = decide (wrap32 b < wrap32 a) := rfl
  rw [e1, e2]
  rcases Int.lt_trichotomy (wrap32 a) (wrap32 b) with h | h | h
  · exact .inl ⟨decide_eq_true h, decide_eq_false (by omega), by rw [bne_iff_ne]; intro e; rw [e] at h; omega⟩
  · refine .inr (.inr ⟨decide_eq_false (by omega), decide_eq_false (by omega), ?_⟩)
    have : a = b := by unfold wrap32 at h; omega
    simp [this]
  · exact .inr (.inl ⟨decide_eq_false (by omega), decide_eq_true h, by rw [bne_iff_ne]; intro e; rw [e] at h; omega⟩)
theorem three9 (a b : Int) :
    (takenB 9 a b = true ∧ takenB 9 b a = false ∧ (a != b) = true) ∨ (takenB 9 a b = false ∧ takenB 9 b a = true ∧ (a != b) = true) ∨ (takenB 9 a b = false ∧ takenB 9 b a = false ∧ (a != b) = false) := by
  have e1 : takenB 9 a b = decide (a < b) := rfl
  have e2 : takenB 9 b a = decide (b < a) := rfl
  rw [e1, e2]
  rcases Int.lt_trichotomy a b with h | h | h
  · exact .inl ⟨decide_eq_true h, decide_eq_false (by omega), by rw [bne_iff_ne]; intro e; rw [e] at h; omega⟩
  · exact .inr (.inr ⟨decide_eq_false (by omega), decide_eq_false (by omega), by simp [h]⟩)
  · exact .inr (.inl ⟨decide_eq_false (by omega), decide_eq_true h, by rw [bne_iff_ne]; intro e; rw [e] at h; omega⟩)

set_option maxHeartbeats 2000000 in
theorem walk (a b : Int) (wa : (Lit.int .u32 a).wf = true) (wb : (Lit.int .u32 b).wf = true) (w : World) :
    Calls Try.prog 16 #[.int .u32 a, .int .u32 b] w fun e w' => e = .returned (.bool true) ∧ Below w.heap.size w w' := by
  obtain ⟨ha, ha'⟩ := bounds_u32 wa
  obtain ⟨hb, hb'⟩ := bounds_u32 wb
  have T7 := Lib.hid (three7 a b ha (by omega) hb (by omega))
  have T9 := Lib.hid (three9 a b)
  obtain ⟨p6, p8, p10⟩ := pairs a b
  have Q := Lib.hid (show takenB 5 a b = (a == b) by rw [beq_dec]; rfl)
  have P6 := Lib.hid p6
  have P8 := Lib.hid p8
  have P10 := Lib.hid p10
  clear p6 p8 p10
  go_enter Try.func16, Try.ntmps16
  go_wp2
  go_loop [5] (fun i => ∃ o : Int, (o = 5 ∨ o = 7 ∨ o = 9 ∨ o = 11) ∧ i = .int .i64 o) (fun i => (20 - intOf i).toNat)
  case atStart => exact ⟨5, by omega, rfl⟩
  case round =>
    obtain ⟨o, ho, rfl⟩ := hrel
    rcases ho with rfl | rfl | rfl | rfl
    · have P := P6
      cases ht : takenB 5 a b
      · have H := Lib.hid ht
        clear ht
        go_wp2_with (first | (go_at_call 41; refine (taken_any _ _ _ _).mono ?_; rintro e w1 ⟨rfl, rfl⟩; (first | rw [H.out] | rw [P.out, H.out])))
        go_round
        case rel => exact ⟨7, by omega, rfl⟩
        case measure => simp [intOf]
      · have H := Lib.hid ht
        clear ht
        go_wp2_with (first | (go_at_call 41; refine (taken_any _ _ _ _).mono ?_; rintro e w1 ⟨rfl, rfl⟩; (first | rw [H.out] | rw [P.out, H.out])))
        go_round
        case rel => exact ⟨7, by omega, rfl⟩
        case measure => simp [intOf]
    · have P := P8
      cases ht : takenB 7 a b
      · have H := Lib.hid ht
        clear ht
        go_wp2_with (first | (go_at_call 41; refine (taken_any _ _ _ _).mono ?_; rintro e w1 ⟨rfl, rfl⟩; (first | rw [H.out] | rw [P.out, H.out])))
        go_round
        case rel => exact ⟨9, by omega, rfl⟩
        case measure => simp [intOf]
      · have H := Lib.hid ht
        clear ht
        go_wp2_with (first | (go_at_call 41; refine (taken_any _ _ _ _).mono ?_; rintro e w1 ⟨rfl, rfl⟩; (first | rw [H.out] | rw [P.out, H.out])))
        go_round
        case rel => exact ⟨9, by omega, rfl⟩
        case measure => simp [intOf]
    · have P := P10
      cases ht : takenB 9 a b
      · have H := Lib.hid ht
        clear ht
        go_wp2_with (first | (go_at_call 41; refine (taken_any _ _ _ _).mono ?_; rintro e w1 ⟨rfl, rfl⟩; (first | rw [H.out] | rw [P.out, H.out])))
        go_round
        case rel => exact ⟨11, by omega, rfl⟩
        case measure => simp [intOf]
      · have H := Lib.hid ht
        clear ht
        go_wp2_with (first | (go_at_call 41; refine (taken_any _ _ _ _).mono ?_; rintro e w1 ⟨rfl, rfl⟩; (first | rw [H.out] | rw [P.out, H.out])))
        go_round
        case rel => exact ⟨11, by omega, rfl⟩
        case measure => simp [intOf]
    · go_wp2
      go_loop [25] (fun i => ∃ k : Nat, k ≤ 2 ∧ i = .int .i64 k) (fun i => (20 - intOf i).toNat)
      case atStart => exact ⟨0, by omega, rfl⟩
      case round =>
        obtain ⟨k, hk, rfl⟩ := hrel
        rcases (show k = 0 ∨ k = 1 ∨ k = 2 by omega) with rfl | rfl | rfl
        · rcases T7.out with ⟨x, y, z⟩ | ⟨x, y, z⟩ | ⟨x, y, z⟩
          · have X := Lib.hid x
            have Y := Lib.hid y
            clear x y
            go_wp2_with (first | (go_at_call 45; refine (less_any _ _ _ _).mono ?_; rintro e w1 ⟨rfl, rfl⟩; (first | rw [X.out] | rw [Y.out])))
            go_round
            case rel => exact ⟨1, by omega, by go_num⟩
            case measure => simp [intOf]
          · have X := Lib.hid x
            have Y := Lib.hid y
            clear x y
            go_wp2_with (first | (go_at_call 45; refine (less_any _ _ _ _).mono ?_; rintro e w1 ⟨rfl, rfl⟩; (first | rw [X.out] | rw [Y.out])))
            go_round
            case rel => exact ⟨1, by omega, by go_num⟩
            case measure => simp [intOf]
          · have X := Lib.hid x
            have Y := Lib.hid y
            clear x y
            go_wp2_with (first | (go_at_call 45; refine (less_any _ _ _ _).mono ?_; rintro e w1 ⟨rfl, rfl⟩; (first | rw [X.out] | rw [Y.out])))
            go_round
            case rel => exact ⟨1, by omega, by go_num⟩
            case measure => simp [intOf]
        · rcases T9.out with ⟨x, y, z⟩ | ⟨x, y, z⟩ | ⟨x, y, z⟩
          · have X := Lib.hid x
            have Y := Lib.hid y
            clear x y
            go_wp2_with (first | (go_at_call 45; refine (less_any _ _ _ _).mono ?_; rintro e w1 ⟨rfl, rfl⟩; (first | rw [X.out] | rw [Y.out])))
            go_round
            case rel => exact ⟨2, by omega, by go_num⟩
            case measure => simp [intOf]
          · have X := Lib.hid x
            have Y := Lib.hid y
            clear x y
            go_wp2_with (first | (go_at_call 45; refine (less_any _ _ _ _).mono ?_; rintro e w1 ⟨rfl, rfl⟩; (first | rw [X.out] | rw [Y.out])))
            go_round
            case rel => exact ⟨2, by omega, by go_num⟩
            case measure => simp [intOf]
          · have X := Lib.hid x
            have Y := Lib.hid y
            clear x y
            go_wp2_with (first | (go_at_call 45; refine (less_any _ _ _ _).mono ?_; rintro e w1 ⟨rfl, rfl⟩; (first | rw [X.out] | rw [Y.out])))
            go_round
            case rel => exact ⟨2, by omega, by go_num⟩
            case measure => simp [intOf]
        · go_wp2_with (first
            | (go_at_call 38; refine (alive03_any _).mono ?_; rintro e w1 ⟨rfl, rfl⟩)
            | (go_at_call 41; refine (taken_any _ _ _ _).mono ?_; rintro e w1 ⟨rfl, rfl⟩; rw [Q.out]))
          go_ret
          exact ⟨ret_bool (by simp), (Below.refl _ _).alloc (Nat.le_refl _) _⟩

theorem own : ownKnob Try.prog.godebug = none := by kernel_rfl

set_option maxRecDepth 100000 in
theorem lifted (os : Os) (started : os.Started) (H : Type) (enc : TypeId × Value → H) :
    ReturnsInHanded {} Try.checked os 16 .any (Rows.aluBranchesSpec.pre6 enc Try.prog Try.f16 Rows.aluBranchesRow.domain false) (Rows.aluBranchesSpec.post enc Try.prog Try.f16 false true false false) := by
  refine returnsInHanded_of_change (C := Try.checked) own started (by kernel_rfl) Try.func16
    (ChangeSpec.witness6 (enc := enc) (C := Try.checked) false ⟨#[], #[.int .u32 0, .int .u32 0], []⟩ 8 (by kernel_rfl) (by kernel_rfl) (by kernel_rfl) (by kernel_rfl)) ?_
  intro W base args ds gs before hval0 hW hcnd _
  have hval : ∀ (j : Nat) t v, Try.f16.params[j]? = some t → args[j]? = some v → Value.okWide Try.prog W .any base t v := hval0
  have hW' := hW
  obtain ⟨p, q, hA0, hV, rfl, hfz, hnd⟩ := hW
  have hA : DataW.TrodAll enc Try.prog W 0 (fun _ => true) true Try.f16.params.toList args.toList ds p := hA0
  rw [Try.params16] at hA hval
  obtain ⟨v0, vs0, d0, ds0, p0, q0, hargs, rfl, rfl, h0, r0⟩ := trodAll_cons hA
  obtain ⟨v1, vs1, d1, ds1, p1, q1, rfl, rfl, rfl, h1, r1⟩ := trodAll_cons r0
  obtain ⟨rfl, rfl, rfl⟩ := trodAll_nil r1
  obtain rfl : args = #[v0, v1] := by cases args; simp_all
  obtain ⟨rfl, rfl⟩ := trodVars_none hV
  obtain ⟨a, rfl, rfl, rfl, w_a⟩ := open_int Try.underlying22 (hval 0 22 v0 rfl rfl) h0
  obtain ⟨b, rfl, rfl, rfl, w_b⟩ := open_int Try.underlying22 (hval 1 22 v1 rfl rfl) h1
  clear hA0 hval0
  simp only [List.append_nil] at hW'
  refine (walk a b w_a w_b W).mono fun e W' ⟨he, bel⟩ => ?_
  subst he
  exact ⟨_, rfl, _, _, _, [], _, [], hW', trodAll_mk1 (shut_bool Try.underlying4 _), (trodAll_cons_mk (shut_int Try.underlying22 w_a) (trodAll_cons_mk (shut_int Try.underlying22 w_b) trodAll_mk0)), rfl, bel.frame _, fun h => by cases h⟩

/-- THE STATEMENT -/
theorem proved : Rows.AluBranchesSaid :=
  OpenClaim.holds_of_wide 16 Try.f16 rfl rfl rfl rfl rfl rfl rfl ⟨rfl, rfl, rfl, rfl, rfl⟩ rfl rfl rfl rfl rfl (by kernel_rfl) Try.func16 (by kernel_rfl)
    (of_decide_eq_true (by kernel_rfl)) (by unfold Func.isWrapper; first | (rw [if_pos (by decide +kernel)]; kernel_rfl) | (rw [if_neg (by decide +kernel)]; exact ⟨rfl, rfl⟩))
    (fun os started H enc _ => lifted os started H enc)
#print axioms proved
end Go.Proofs.Ytbpafbogjhbogaa.aluBranches
