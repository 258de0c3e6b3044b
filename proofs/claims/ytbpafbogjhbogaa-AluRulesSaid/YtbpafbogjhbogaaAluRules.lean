/- Proved: the statement of AluRules (auspexlaw03): additions, shifts and comparisons go by their rules; for every input; no condition. -/
import Derived.Test.YtbpafbogjhbogaaRows
import Derived.Test.YtbpafbogjhbogaaAluLaw
import Derived.OpenShut
namespace Go.Proofs.Ytbpafbogjhbogaa.aluRules
open Go.ChangeShapes Go.WideShapes Go.ChangeAt Go.RowKit
set_option linter.unusedVariables false

theorem undo (a b : Int) (ha : 0 ≤ a) (ha' : a < 4294967296) (hb : 0 ≤ b) (hb' : b < 4294967296) :
    aluDo 29 (aluDo 28 a b) b = a ∧ aluDo 28 b a = aluDo 28 a b ∧ aluDo 33 (aluDo 33 a b) b = a ∧ aluDo 28 (aluDo 37 a b) (aluDo 36 a b) = aluDo 28 a b := by
  refine ⟨by simp only [aluDo_add, aluDo_sub]; omega, by simp only [aluDo_add]; rw [Int.add_comm], ?_, ?_⟩
  · obtain ⟨A, rfl⟩ := Int.eq_ofNat_of_zero_le ha
    obtain ⟨B, rfl⟩ := Int.eq_ofNat_of_zero_le hb
    have l1 : A ^^^ B < 2 ^ 32 := Nat.xor_lt_two_pow (by omega) (by omega)
    rw [aluDo_xor, aluDo_xor, u32_xor_nat A B (by omega) (by omega), u32_xor_nat _ _ (by omega) (by omega)]
    refine Int.natCast_inj.2 (Nat.eq_of_testBit_eq fun k => ?_)
    rw [Nat.testBit_xor, Nat.testBit_xor]
    cases A.testBit k <;> cases B.testBit k <;> rfl
  · obtain ⟨A, rfl⟩ := Int.eq_ofNat_of_zero_le ha
    obtain ⟨B, rfl⟩ := Int.eq_ofNat_of_zero_le hb
    rw [aluDo_add, aluDo_add, aluDo_and, aluDo_or, u32_and_nat A B (by omega) (by omega), u32_or_nat A B (by omega) (by omega)]
    have := and_add_or A B
    omega

theorem by32 (o a b : Int) (ho : o = 30 ∨ o = 34 ∨ o = 35) (ha : 0 ≤ a) (ha' : a < 4294967296) (hb : 0 ≤ b) (hb' : b < 4294967296) : aluDo o a 0 = a ∧ aluDo o a (bits .and .u32 b 31) = aluDo o a b := by
  rw [and31 b hb hb']
  rcases ho with rfl | rfl | rfl
  · refine ⟨?_, ?_⟩
    · rw [aluDo_sll]; simp; omega
    · rw [aluDo_sll, aluDo_sll]; simp
  · refine ⟨?_, ?_⟩
    · rw [aluDo_srl]; simp
    · rw [aluDo_srl, aluDo_srl]; simp
  · refine ⟨?_, ?_⟩
    · rw [aluDo_sra]; simp; unfold wrap32; omega
    · rw [aluDo_sra, aluDo_sra]; simp

theorem cmp31 (a b : Int) (ha : 0 ≤ a) (ha' : a < 4294967296) (hb : 0 ≤ b) (hb' : b < 4294967296) :
    (aluDo 31 a b = 1 ∧ aluDo 31 b a = 0 ∧ (a != b) = true) ∨ (aluDo 31 a b = 0 ∧ aluDo 31 b a = 1 ∧ (a != b) = true) ∨ (aluDo 31 a b = 0 ∧ aluDo 31 b a = 0 ∧ (a != b) = false) := by
  rw [aluDo_slt, aluDo_slt]
  rcases Int.lt_trichotomy (wrap32 a) (wrap32 b) with h | h | h
  · refine .inl ⟨by rw [decide_eq_true h]; rfl, by rw [decide_eq_false (by omega)]; rfl, by rw [bne_iff_ne]; intro e; rw [e] at h; omega⟩
  · have : a = b := by unfold wrap32 at h; omega
    exact .inr (.inr ⟨by rw [decide_eq_false (by omega)]; rfl, by rw [decide_eq_false (by omega)]; rfl, by simp [this]⟩)
  · exact .inr (.inl ⟨by rw [decide_eq_false (by omega)]; rfl, by rw [decide_eq_true h]; rfl, by rw [bne_iff_ne]; intro e; rw [e] at h; omega⟩)
theorem cmp32 (a b : Int) :
    (aluDo 32 a b = 1 ∧ aluDo 32 b a = 0 ∧ (a != b) = true) ∨ (aluDo 32 a b = 0 ∧ aluDo 32 b a = 1 ∧ (a != b) = true) ∨ (aluDo 32 a b = 0 ∧ aluDo 32 b a = 0 ∧ (a != b) = false) := by
  rw [aluDo_sltu, aluDo_sltu]
  rcases Int.lt_trichotomy a b with h | h | h
  · refine .inl ⟨by rw [decide_eq_true h]; rfl, by rw [decide_eq_false (by omega)]; rfl, by rw [bne_iff_ne]; intro e; rw [e] at h; omega⟩
  · exact .inr (.inr ⟨by rw [decide_eq_false (by omega)]; rfl, by rw [decide_eq_false (by omega)]; rfl, by simp [h]⟩)
  · exact .inr (.inl ⟨by rw [decide_eq_false (by omega)]; rfl, by rw [decide_eq_true h]; rfl, by rw [bne_iff_ne]; intro e; rw [e] at h; omega⟩)
theorem self (a : Int) : aluDo 31 a a = 0 ∧ aluDo 32 a a = 0 := by
  rw [aluDo_slt, aluDo_sltu]; simp

theorem takes (a b : Int) (ha : 0 ≤ a) (ha' : a < 4294967296) (hb : 0 ≤ b) (hb' : b < 4294967296) :
    takenB 5 a b = (aluDo 29 a b == 0) ∧ takenB 9 a b = (aluDo 32 a b == 1) ∧ takenB 8 a b = (aluDo 31 a b == 0) := by
  refine ⟨?_, ?_, ?_⟩
  · rw [aluDo_sub, show takenB 5 a b = decide (a = b) from rfl, beq_dec, decide_eq_decide]; omega
  · rw [aluDo_sltu, show takenB 9 a b = decide (a < b) from rfl]; cases decide (a < b) <;> rfl
  · rw [aluDo_slt, show takenB 8 a b = decide (wrap32 b ≤ wrap32 a) from rfl, ← nlt_dec]; cases decide (wrap32 a < wrap32 b) <;> rfl

set_option maxHeartbeats 8000000 in
theorem walk (a b : Int) (wa : (Lit.int .u32 a).wf = true) (wb : (Lit.int .u32 b).wf = true) (w : World) :
    Calls Try.prog 12 #[.int .u32 a, .int .u32 b] w fun e w' => e = .returned (.bool true) ∧ Below w.heap.size w w' := by
  obtain ⟨ha, ha'⟩ := bounds_u32 wa
  obtain ⟨hb, hb'⟩ := bounds_u32 wb
  have C31 := Lib.hid (cmp31 a b ha (by omega) hb (by omega))
  have C32 := Lib.hid (cmp32 a b)
  have S31 := Lib.hid (self a).1
  have S32 := Lib.hid (self a).2
  obtain ⟨n1, n2⟩ : 0 ≤ bits .and .u32 b 31 ∧ bits .and .u32 b 31 < 4294967296 := by rw [and31 b hb (by omega)]; omega
  obtain ⟨t5, t9, t8⟩ := takes a b ha (by omega) hb (by omega)
  have T5 := Lib.hid t5
  have T9 := Lib.hid t9
  have T8 := Lib.hid t8
  clear t5 t9 t8
  obtain ⟨r3, r4⟩ := aluDo_range 36 ha (by omega) hb (by omega)
  obtain ⟨e1, e2, e3, e4⟩ := undo a b ha (by omega) hb (by omega)
  generalize h1 : aluDo 28 a b = x1 at *
  generalize h2 : aluDo 33 a b = x2 at *
  generalize h3 : aluDo 37 a b = x3 at *
  generalize h4 : aluDo 36 a b = x4 at *
  have G1 := Lib.hid e1
  have G2 := Lib.hid e2
  have G3 := Lib.hid e3
  have G4 := Lib.hid e4
  have K1 := Lib.hid h1
  have K2 := Lib.hid h2
  have K3 := Lib.hid h3
  have K4 := Lib.hid h4
  clear e1 e2 e3 e4 h1 h2 h3 h4
  go_enter Try.func12, Try.ntmps12
  go_wp2_with (first | (go_at_call 36; refine (aluDo_any _ _ _ (by omega) (by omega) _).mono ?_; rintro e w1 ⟨rfl, rfl⟩; (first | rw [G1.out] | rw [G2.out] | rw [G3.out] | rw [G4.out] | rw [K1.out] | rw [K2.out] | rw [K3.out] | rw [K4.out])))
  go_loop [60] (fun i => ∃ k : Nat, k ≤ 3 ∧ i = .int .i64 k) (fun i => (20 - intOf i).toNat)
  case atStart => exact ⟨0, by omega, rfl⟩
  case round =>
    obtain ⟨k, hk, rfl⟩ := hrel
    rcases (show k = 0 ∨ k = 1 ∨ k = 2 ∨ k = 3 by omega) with rfl | rfl | rfl | rfl
    · obtain ⟨y1, y2⟩ := by32 30 a b (by simp) ha (by omega) hb (by omega)
      generalize hy : aluDo 30 a b = y at *
      have Y1 := Lib.hid y1
      have Y2 := Lib.hid y2
      have Y3 := Lib.hid hy
      clear y1 y2 hy
      go_wp2_with (first | (go_at_call 36; refine (aluDo_any _ _ _ (by omega) (by omega) _).mono ?_; rintro e w1 ⟨rfl, rfl⟩; (first | rw [Y1.out] | rw [Y2.out] | rw [Y3.out])))
      go_round
      case rel => exact ⟨1, by omega, by go_num⟩
      case measure => simp [intOf]
    · obtain ⟨y1, y2⟩ := by32 34 a b (by simp) ha (by omega) hb (by omega)
      generalize hy : aluDo 34 a b = y at *
      have Y1 := Lib.hid y1
      have Y2 := Lib.hid y2
      have Y3 := Lib.hid hy
      clear y1 y2 hy
      go_wp2_with (first | (go_at_call 36; refine (aluDo_any _ _ _ (by omega) (by omega) _).mono ?_; rintro e w1 ⟨rfl, rfl⟩; (first | rw [Y1.out] | rw [Y2.out] | rw [Y3.out])))
      go_round
      case rel => exact ⟨2, by omega, by go_num⟩
      case measure => simp [intOf]
    · obtain ⟨y1, y2⟩ := by32 35 a b (by simp) ha (by omega) hb (by omega)
      generalize hy : aluDo 35 a b = y at *
      have Y1 := Lib.hid y1
      have Y2 := Lib.hid y2
      have Y3 := Lib.hid hy
      clear y1 y2 hy
      go_wp2_with (first | (go_at_call 36; refine (aluDo_any _ _ _ (by omega) (by omega) _).mono ?_; rintro e w1 ⟨rfl, rfl⟩; (first | rw [Y1.out] | rw [Y2.out] | rw [Y3.out])))
      go_round
      case rel => exact ⟨3, by omega, by go_num⟩
      case measure => simp [intOf]
    · go_wp2
      go_loop [87] (fun i => ∃ k : Nat, k ≤ 2 ∧ i = .int .i64 k) (fun i => (20 - intOf i).toNat)
      case atStart => exact ⟨0, by omega, rfl⟩
      case round =>
        obtain ⟨k, hk, rfl⟩ := hrel
        rcases (show k = 0 ∨ k = 1 ∨ k = 2 by omega) with rfl | rfl | rfl
        · have Z := S31
          rcases C31.out with ⟨x, y, z⟩ | ⟨x, y, z⟩ | ⟨x, y, z⟩
          · have X := Lib.hid x
            have Y := Lib.hid y
            clear x y
            go_wp2_with (first | (go_at_call 36; refine (aluDo_any _ _ _ (by omega) (by omega) _).mono ?_; rintro e w1 ⟨rfl, rfl⟩; (first | rw [X.out] | rw [Y.out] | rw [Z.out])))
            go_round
            case rel => exact ⟨1, by omega, by go_num⟩
            case measure => simp [intOf]
          · have X := Lib.hid x
            have Y := Lib.hid y
            clear x y
            go_wp2_with (first | (go_at_call 36; refine (aluDo_any _ _ _ (by omega) (by omega) _).mono ?_; rintro e w1 ⟨rfl, rfl⟩; (first | rw [X.out] | rw [Y.out] | rw [Z.out])))
            go_round
            case rel => exact ⟨1, by omega, by go_num⟩
            case measure => simp [intOf]
          · have X := Lib.hid x
            have Y := Lib.hid y
            clear x y
            go_wp2_with (first | (go_at_call 36; refine (aluDo_any _ _ _ (by omega) (by omega) _).mono ?_; rintro e w1 ⟨rfl, rfl⟩; (first | rw [X.out] | rw [Y.out] | rw [Z.out])))
            go_round
            case rel => exact ⟨1, by omega, by go_num⟩
            case measure => simp [intOf]
        · have Z := S32
          rcases C32.out with ⟨x, y, z⟩ | ⟨x, y, z⟩ | ⟨x, y, z⟩
          · have X := Lib.hid x
            have Y := Lib.hid y
            clear x y
            go_wp2_with (first | (go_at_call 36; refine (aluDo_any _ _ _ (by omega) (by omega) _).mono ?_; rintro e w1 ⟨rfl, rfl⟩; (first | rw [X.out] | rw [Y.out] | rw [Z.out])))
            go_round
            case rel => exact ⟨2, by omega, by go_num⟩
            case measure => simp [intOf]
          · have X := Lib.hid x
            have Y := Lib.hid y
            clear x y
            go_wp2_with (first | (go_at_call 36; refine (aluDo_any _ _ _ (by omega) (by omega) _).mono ?_; rintro e w1 ⟨rfl, rfl⟩; (first | rw [X.out] | rw [Y.out] | rw [Z.out])))
            go_round
            case rel => exact ⟨2, by omega, by go_num⟩
            case measure => simp [intOf]
          · have X := Lib.hid x
            have Y := Lib.hid y
            clear x y
            go_wp2_with (first | (go_at_call 36; refine (aluDo_any _ _ _ (by omega) (by omega) _).mono ?_; rintro e w1 ⟨rfl, rfl⟩; (first | rw [X.out] | rw [Y.out] | rw [Z.out])))
            go_round
            case rel => exact ⟨2, by omega, by go_num⟩
            case measure => simp [intOf]
        · go_wp2_with (first
            | (go_at_call 38; refine (alive03_any _).mono ?_; rintro e w1 ⟨rfl, rfl⟩)
            | (go_at_call 36; refine (aluDo_any _ _ _ (by omega) (by omega) _).mono ?_; rintro e w1 ⟨rfl, rfl⟩)
            | (go_at_call 41; refine (taken_any _ _ _ _).mono ?_; rintro e w1 ⟨rfl, rfl⟩; (first | rw [T5.out] | rw [T9.out] | rw [T8.out])))
          go_ret
          exact ⟨ret_bool (by simp), ((Below.refl _ _).alloc (Nat.le_refl _) _).alloc (by simp) _⟩

theorem own : ownKnob Try.prog.godebug = none := by kernel_rfl

set_option maxRecDepth 100000 in
theorem lifted (os : Os) (started : os.Started) (H : Type) (enc : TypeId × Value → H) :
    ReturnsInHanded {} Try.checked os 12 .any (Rows.aluRulesSpec.pre6 enc Try.prog Try.f12 Rows.aluRulesRow.domain false) (Rows.aluRulesSpec.post enc Try.prog Try.f12 false true false false) := by
  refine returnsInHanded_of_change (C := Try.checked) own started (by kernel_rfl) Try.func12
    (ChangeSpec.witness6 (enc := enc) (C := Try.checked) false ⟨#[], #[.int .u32 0, .int .u32 0], []⟩ 8 (by kernel_rfl) (by kernel_rfl) (by kernel_rfl) (by kernel_rfl)) ?_
  intro W base args ds gs before hval0 hW hcnd _
  have hval : ∀ (j : Nat) t v, Try.f12.params[j]? = some t → args[j]? = some v → Value.okWide Try.prog W .any base t v := hval0
  have hW' := hW
  obtain ⟨p, q, hA0, hV, rfl, hfz, hnd⟩ := hW
  have hA : DataW.TrodAll enc Try.prog W 0 (fun _ => true) true Try.f12.params.toList args.toList ds p := hA0
  rw [Try.params12] at hA hval
  obtain ⟨v0, vs0, d0, ds0, p0, q0, hargs, rfl, rfl, h0, r0⟩ := trodAll_cons hA
  obtain ⟨v1, vs1, d1, ds1, p1, q1, rfl, rfl, rfl, h1, r1⟩ := trodAll_cons r0
  obtain ⟨rfl, rfl, rfl⟩ := trodAll_nil r1
  obtain rfl : args = #[v0, v1] := by cases args; simp_all
  obtain ⟨rfl, rfl⟩ := trodVars_none hV
  obtain ⟨a, rfl, rfl, rfl, w_a⟩ := open_int Try.underlying22 (hval 0 22 v0 rfl rfl) h0
  obtain ⟨b, rfl, rfl, rfl, w_b⟩ := open_int Try.underlying22 (hval 1 22 v1 rfl rfl) h1
  clear hA0 hval0
  simp only [List.append_nil] at hW'
  refine (walk a b w_a w_b W).mono fun e W' ⟨he, bel⟩ => ?_
  subst he
  exact ⟨_, rfl, _, _, _, [], _, [], hW', trodAll_mk1 (shut_bool Try.underlying4 _), (trodAll_cons_mk (shut_int Try.underlying22 w_a) (trodAll_cons_mk (shut_int Try.underlying22 w_b) trodAll_mk0)), rfl, bel.frame _, fun h => by cases h⟩

/-- THE STATEMENT -/
theorem proved : Rows.AluRulesSaid :=
  OpenClaim.holds_of_wide 12 Try.f12 rfl rfl rfl rfl rfl rfl rfl ⟨rfl, rfl, rfl, rfl, rfl⟩ rfl rfl rfl rfl rfl (by kernel_rfl) Try.func12 (by kernel_rfl)
    (of_decide_eq_true (by kernel_rfl)) (by unfold Func.isWrapper; first | (rw [if_pos (by decide +kernel)]; kernel_rfl) | (rw [if_neg (by decide +kernel)]; exact ⟨rfl, rfl⟩))
    (fun os started H enc _ => lifted os started H enc)
#print axioms proved
end Go.Proofs.Ytbpafbogjhbogaa.aluRules
