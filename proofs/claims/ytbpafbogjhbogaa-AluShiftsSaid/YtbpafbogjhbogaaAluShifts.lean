/- Proved: the statement of AluShifts (auspexlaw03): what is shifted up and down again has its lowest bits, down and up its highest; shifted twice is shifted by both, if these are at most 31 together; for every input; no condition. -/
import Derived.Test.YtbpafbogjhbogaaRows
import Derived.Test.YtbpafbogjhbogaaAluLaw
import Derived.OpenShut
namespace Go.Proofs.Ytbpafbogjhbogaa.aluShifts
open Go.ChangeShapes Go.WideShapes Go.ChangeAt Go.RowKit
set_option linter.unusedVariables false

theorem mod32 {s : Int} (h0 : 0 ≤ s) (h1 : s ≤ 31) : (s % 32).toNat = s.toNat := by rw [Int.emod_eq_of_lt h0 (by omega)]

theorem upN (a s : Nat) (hs : s ≤ 31) (ha : a < 4294967296) : a * 2 ^ s % 4294967296 / 2 ^ s = a &&& (4294967295 / 2 ^ s) := by
  refine Nat.eq_of_testBit_eq fun k => ?_
  rw [Nat.testBit_div_two_pow, testBit_shl32, Nat.testBit_and, Nat.testBit_div_two_pow, show (4294967295 : Nat) = 2 ^ 32 - 1 from rfl, Nat.testBit_two_pow_sub_one, show k + s - s = k by omega]
  simp [Bool.and_comm]

theorem downN (a s : Nat) (hs : s ≤ 31) (ha : a < 4294967296) : a / 2 ^ s * 2 ^ s % 4294967296 = a &&& (4294967295 * 2 ^ s % 4294967296) := by
  refine Nat.eq_of_testBit_eq fun k => ?_
  rw [testBit_shl32, Nat.testBit_and, testBit_shl32, Nat.testBit_div_two_pow, show (4294967295 : Nat) = 2 ^ 32 - 1 from rfl, Nat.testBit_two_pow_sub_one]
  by_cases h1 : s ≤ k
  · rw [show k - s + s = k by omega]
    by_cases h2 : k < 32
    · simp [h1, h2, show k - s < 32 by omega]
    · simp [h2]
  · simp [h1]

theorem up (a s : Int) (ha : 0 ≤ a) (ha' : a < 4294967296) (h0 : 0 ≤ s) (h1 : s ≤ 31) : aluDo 34 (aluDo 30 a s) s = bits .and .u32 a (4294967295 / 2 ^ s.toNat) := by
  rw [aluDo_srl, aluDo_sll, mod32 h0 h1]
  obtain ⟨A, rfl⟩ := Int.eq_ofNat_of_zero_le ha
  obtain ⟨S, rfl⟩ := Int.eq_ofNat_of_zero_le h0
  simp only [Int.toNat_natCast]
  have e1 : (4294967295 : Int) / 2 ^ S = ((4294967295 / 2 ^ S : Nat) : Int) := by simp
  have e2 : (A : Int) * 2 ^ S % 4294967296 / 2 ^ S = ((A * 2 ^ S % 4294967296 / 2 ^ S : Nat) : Int) := by simp
  have hd := Nat.div_le_self 4294967295 (2 ^ S)
  rw [e1, e2, u32_and_nat A _ (by omega) (by omega), upN A S (by omega) (by omega)]

theorem down (a s : Int) (ha : 0 ≤ a) (ha' : a < 4294967296) (h0 : 0 ≤ s) (h1 : s ≤ 31) : aluDo 30 (aluDo 34 a s) s = bits .and .u32 a (4294967295 * 2 ^ s.toNat % 4294967296) := by
  rw [aluDo_srl, aluDo_sll, mod32 h0 h1]
  obtain ⟨A, rfl⟩ := Int.eq_ofNat_of_zero_le ha
  obtain ⟨S, rfl⟩ := Int.eq_ofNat_of_zero_le h0
  simp only [Int.toNat_natCast]
  have e1 : (4294967295 : Int) * 2 ^ S % 4294967296 = ((4294967295 * 2 ^ S % 4294967296 : Nat) : Int) := by simp
  have e2 : (A : Int) / 2 ^ S * 2 ^ S % 4294967296 = ((A / 2 ^ S * 2 ^ S % 4294967296 : Nat) : Int) := by simp
  rw [e1, e2, u32_and_nat A _ (by omega) (Nat.mod_lt _ (by omega)), downN A S (by omega) (by omega)]

theorem both (o a s t : Int) (ho : o = 30 ∨ o = 34 ∨ o = 35) (ha : 0 ≤ a) (ha' : a < 4294967296) (h0 : 0 ≤ s) (h1 : 0 ≤ t) (h2 : s + t ≤ 31) : aluDo o (aluDo o a s) t = aluDo o a (s + t) := by
  have ms := mod32 h0 (by omega)
  have mt := mod32 h1 (by omega)
  have mst := mod32 (s := s + t) (by omega) h2
  have et : (s + t).toNat = s.toNat + t.toNat := by omega
  rcases ho with rfl | rfl | rfl
  · rw [aluDo_sll, aluDo_sll, aluDo_sll, ms, mt, mst, et, Int.pow_add, ← Int.mul_assoc]
    generalize a * 2 ^ s.toNat = x
    generalize (2 : Int) ^ t.toNat = y
    rw [Int.mul_emod, Int.emod_emod, ← Int.mul_emod]
  · rw [aluDo_srl, aluDo_srl, aluDo_srl, ms, mt, mst, et, Int.pow_add]
    have hp : (0 : Int) < 2 ^ s.toNat := Int.pow_pos (by decide)
    rw [Int.ediv_ediv, if_neg (by omega), Int.sub_zero]
  · rw [aluDo_sra, aluDo_sra, aluDo_sra, ms, mt, mst, et, Int.pow_add]
    have hw := wrap32_in a
    have hp : (0 : Int) < 2 ^ s.toNat := Int.pow_pos (by decide)
    have q1 : wrap32 a / 2 ^ s.toNat ≤ 2147483647 := by
      rcases Int.lt_or_le (wrap32 a) 0 with h | h
      · have := Int.ediv_neg_of_neg_of_pos h hp; omega
      · have := Int.ediv_le_self (2 ^ s.toNat) h; omega
    have q2 : -2147483648 ≤ wrap32 a / 2 ^ s.toNat := by
      rw [Int.le_ediv_iff_mul_le hp]
      have : (-2147483648 : Int) * 2 ^ s.toNat ≤ -2147483648 * 1 := Int.mul_le_mul_of_nonpos_left (by omega) (by omega)
      omega
    have e : wrap32 (wrap32 a / 2 ^ s.toNat % 4294967296) = wrap32 a / 2 ^ s.toNat := by
      generalize wrap32 a / 2 ^ s.toNat = q at *
      unfold wrap32
      omega
    rw [e, Int.ediv_ediv, if_neg (by omega), Int.sub_zero]

set_option maxHeartbeats 8000000 in
theorem walk (a s t : Int) (wa : (Lit.int .u32 a).wf = true) (ws : (Lit.int .u32 s).wf = true) (wt : (Lit.int .u32 t).wf = true) (w : World) :
    Calls Try.prog 14 #[.int .u32 a, .int .u32 s, .int .u32 t] w fun e w' => e = .returned (.bool true) ∧ Below w.heap.size w w' := by
  obtain ⟨ha, ha'⟩ := bounds_u32 wa
  obtain ⟨hs, hs'⟩ := bounds_u32 ws
  obtain ⟨ht, ht'⟩ := bounds_u32 wt
  obtain ⟨s', es, s0, s1⟩ : ∃ s', bits .and .u32 s 31 = s' ∧ 0 ≤ s' ∧ s' ≤ 31 := ⟨_, rfl, by rw [and31 s hs (by omega)]; omega, by rw [and31 s hs (by omega)]; omega⟩
  obtain ⟨t', et, t0, t1⟩ : ∃ t', bits .and .u32 t 31 = t' ∧ 0 ≤ t' ∧ t' ≤ 31 := ⟨_, rfl, by rw [and31 t ht (by omega)]; omega, by rw [and31 t ht (by omega)]; omega⟩
  have U := Lib.hid (up a s' ha (by omega) s0 s1)
  have D := Lib.hid (down a s' ha (by omega) s0 s1)
  obtain ⟨p1, p2⟩ := aluDo_range 30 ha (by omega) s0 (by omega)
  obtain ⟨p3, p4⟩ := aluDo_range 34 ha (by omega) s0 (by omega)
  by_cases hst : s' + t' ≤ 31
  · go_enter Try.func14, Try.ntmps14
    go_wp2_with (first
      | (go_at_call 38; refine (alive03_any _).mono ?_; rintro e w1 ⟨rfl, rfl⟩)
      | (go_at_call 36; refine (aluDo_any _ _ _ (by omega) (by omega) _).mono ?_; rintro e w1 ⟨rfl, rfl⟩; (try rw [U.out]); (try rw [D.out])))
    go_loop [54] (fun i => ∃ k : Nat, k ≤ 3 ∧ i = .int .i64 k) (fun i => (20 - intOf i).toNat)
    case atStart => exact ⟨0, by omega, rfl⟩
    case round =>
      obtain ⟨k, hk, rfl⟩ := hrel
      rcases (show k = 0 ∨ k = 1 ∨ k = 2 ∨ k = 3 by omega) with rfl | rfl | rfl | rfl
      · obtain ⟨r1, r2⟩ := aluDo_range 30 ha (by omega) s0 (by omega)
        have B := Lib.hid (both 30 a s' t' (by simp) ha (by omega) s0 t0 hst)
        go_wp2_with (first | (go_at_call 36; refine (aluDo_any _ _ _ (by omega) (by omega) _).mono ?_; rintro e w1 ⟨rfl, rfl⟩; (try rw [B.out])))
        go_round
        case rel => exact ⟨1, by omega, by go_num⟩
        case measure => simp [intOf]
      · obtain ⟨r1, r2⟩ := aluDo_range 34 ha (by omega) s0 (by omega)
        have B := Lib.hid (both 34 a s' t' (by simp) ha (by omega) s0 t0 hst)
        go_wp2_with (first | (go_at_call 36; refine (aluDo_any _ _ _ (by omega) (by omega) _).mono ?_; rintro e w1 ⟨rfl, rfl⟩; (try rw [B.out])))
        go_round
        case rel => exact ⟨2, by omega, by go_num⟩
        case measure => simp [intOf]
      · obtain ⟨r1, r2⟩ := aluDo_range 35 ha (by omega) s0 (by omega)
        have B := Lib.hid (both 35 a s' t' (by simp) ha (by omega) s0 t0 hst)
        go_wp2_with (first | (go_at_call 36; refine (aluDo_any _ _ _ (by omega) (by omega) _).mono ?_; rintro e w1 ⟨rfl, rfl⟩; (try rw [B.out])))
        go_round
        case rel => exact ⟨3, by omega, by go_num⟩
        case measure => simp [intOf]
      · go_wp2
        go_ret
        exact ⟨rfl, (Below.refl _ _).alloc (Nat.le_refl _) _⟩
  · go_enter Try.func14, Try.ntmps14
    go_wp2_with (first
      | (go_at_call 38; refine (alive03_any _).mono ?_; rintro e w1 ⟨rfl, rfl⟩)
      | (go_at_call 36; refine (aluDo_any _ _ _ (by omega) (by omega) _).mono ?_; rintro e w1 ⟨rfl, rfl⟩; (try rw [U.out]); (try rw [D.out])))
    go_ret
    exact ⟨rfl, Below.refl _ _⟩

theorem own : ownKnob Try.prog.godebug = none := by kernel_rfl

set_option maxRecDepth 100000 in
theorem lifted (os : Os) (started : os.Started) (H : Type) (enc : TypeId × Value → H) :
    ReturnsInHanded {} Try.checked os 14 .any (Rows.aluShiftsSpec.pre6 enc Try.prog Try.f14 Rows.aluShiftsRow.domain false) (Rows.aluShiftsSpec.post enc Try.prog Try.f14 false true false false) := by
  refine returnsInHanded_of_change (C := Try.checked) own started (by kernel_rfl) Try.func14
    (ChangeSpec.witness6 (enc := enc) (C := Try.checked) false ⟨#[], #[.int .u32 0, .int .u32 0, .int .u32 0], []⟩ 8 (by kernel_rfl) (by kernel_rfl) (by kernel_rfl) (by kernel_rfl)) ?_
  intro W base args ds gs before hval0 hW hcnd _
  have hval : ∀ (j : Nat) t v, Try.f14.params[j]? = some t → args[j]? = some v → Value.okWide Try.prog W .any base t v := hval0
  have hW' := hW
  obtain ⟨p, q, hA0, hV, rfl, hfz, hnd⟩ := hW
  have hA : DataW.TrodAll enc Try.prog W 0 (fun _ => true) true Try.f14.params.toList args.toList ds p := hA0
  rw [Try.params14] at hA hval
  obtain ⟨v0, vs0, d0, ds0, p0, q0, hargs, rfl, rfl, h0, r0⟩ := trodAll_cons hA
  obtain ⟨v1, vs1, d1, ds1, p1, q1, rfl, rfl, rfl, h1, r1⟩ := trodAll_cons r0
  obtain ⟨v2, vs2, d2, ds2, p2, q2, rfl, rfl, rfl, h2, r2⟩ := trodAll_cons r1
  obtain ⟨rfl, rfl, rfl⟩ := trodAll_nil r2
  obtain rfl : args = #[v0, v1, v2] := by cases args; simp_all
  obtain ⟨rfl, rfl⟩ := trodVars_none hV
  obtain ⟨a, rfl, rfl, rfl, w_a⟩ := open_int Try.underlying22 (hval 0 22 v0 rfl rfl) h0
  obtain ⟨s, rfl, rfl, rfl, w_s⟩ := open_int Try.underlying22 (hval 1 22 v1 rfl rfl) h1
  obtain ⟨t, rfl, rfl, rfl, w_t⟩ := open_int Try.underlying22 (hval 2 22 v2 rfl rfl) h2
  clear hA0 hval0
  simp only [List.append_nil] at hW'
  refine (walk a s t w_a w_s w_t W).mono fun e W' ⟨he, bel⟩ => ?_
  subst he
  exact ⟨_, rfl, _, _, _, [], _, [], hW', trodAll_mk1 (shut_bool Try.underlying4 _), (trodAll_cons_mk (shut_int Try.underlying22 w_a) (trodAll_cons_mk (shut_int Try.underlying22 w_s) (trodAll_cons_mk (shut_int Try.underlying22 w_t) trodAll_mk0))), rfl, bel.frame _, fun h => by cases h⟩

/-- THE STATEMENT -/
theorem proved : Rows.AluShiftsSaid :=
  OpenClaim.holds_of_wide 14 Try.f14 rfl rfl rfl rfl rfl rfl rfl ⟨rfl, rfl, rfl, rfl, rfl⟩ rfl rfl rfl rfl rfl (by kernel_rfl) Try.func14 (by kernel_rfl)
    (of_decide_eq_true (by kernel_rfl)) (by unfold Func.isWrapper; first | (rw [if_pos (by decide +kernel)]; kernel_rfl) | (rw [if_neg (by decide +kernel)]; exact ⟨rfl, rfl⟩))
    (fun os started H enc _ => lifted os started H enc)
#print axioms proved
end Go.Proofs.Ytbpafbogjhbogaa.aluShifts
