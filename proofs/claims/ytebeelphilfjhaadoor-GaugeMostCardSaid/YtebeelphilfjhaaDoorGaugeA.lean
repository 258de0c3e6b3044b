/- THE CONTRACTS of package gauge (order, rate), of the parts of package math that it calls, and of auspexlaw24's own words. -/
import Derived.Test.YtebeelphilfjhaaDoorChecked
import Derived.Test.YtebeelphilfjhaaDoorMathK
import Derived.WalkKit
import Derived.ProofKit
import Derived.WalkLawsBesides
import Derived.Laws.Externs
import Derived.Laws.FloatArith
import Derived.Lib.Hide
namespace Go.Proofs.YtebeelphilfjhaaDoor
open Go.ChangeShapes Go.WideShapes Go.ChangeAt Go.RowKit

theorem ret_int {k : IntKind} {a b : Int} (h : a = b) : Ending.returned (.int k a) = .returned (.int k b) := by rw [h]
theorem ret_bool {a b : Bool} (h : a = b) : Ending.returned (.bool a) = .returned (.bool b) := by rw [h]
theorem ret_flt {a b : Nat} (h : a = b) : Ending.returned (.float .f64 a) = .returned (.float .f64 b) := by rw [h]

theorem run_bits (b : Nat) (w : World) : (callFunc 38 #[.float .f64 b]).run Tryd.prog w = .ok (.value (.int .u64 b)) w :=
  (run_callFunc_extern (e := Extern.MathFloatBits.float64bits) Tryd.func38 (by kernel_rfl) (by kernel_rfl) (by kernel_rfl) (by kernel_rfl) _ w).trans rfl
theorem run_frombits (n : Int) (w : World) : (callFunc 37 #[.int .u64 n]).run Tryd.prog w = .ok (.value (.float .f64 n.toNat)) w :=
  (run_callFunc_extern (e := Extern.MathFloatBits.float64frombits) Tryd.func37 (by kernel_rfl) (by kernel_rfl) (by kernel_rfl) (by kernel_rfl) _ w).trans rfl

/-- an operation on floats, whatever it gives -/
theorem run_float_any (op : BinOp) (hop : op = .add ∨ op = .quo ∨ op = .sub ∨ op = .mul) (t : TypeId) (x y : Nat) (w : World) :
    ∃ r q, (binOp op t (.float .f64 x) (.float .f64 y)).run Tryd.prog w = .ok (.float .f64 r) (w.drewN q) ∧ Got (floatBits op .f64 x y) r := by
  cases h : floatBits op .f64 x y with
  | some r =>
    refine ⟨r, 0, run_float_arith w op t .f64 x y r h, ?_, .inl rfl⟩
    have := floatBits_wf h
    simpa [Lit.wf] using this
  | none =>
    have c := nan_cut x y (w.tape w.drawn (.nanBits .f64 x y))
    refine ⟨_, 1, ?_, c.2, .inr ⟨rfl, c.1⟩⟩
    rcases hop with rfl | rfl | rfl | rfl
    all_goals
      simp only [floatBits] at h
      simp [binOp, Op.floatArith, h, Question.forced]
      rfl

theorem fNan_cases (b : Nat) (hb : b < 18446744073709551616) : (FloatKind.f64.format.order b b != some .eq) = fNan b := by
  show (Ieee.double.order b b != some .eq) = _
  rw [bne, eq_double hb hb]
  cases fNan b <;> simp

theorem isNaN_any (b : Nat) (hb : b < 18446744073709551616) (w : World) : Calls Tryd.prog 28 #[.float .f64 b] w fun e w' => e = .returned (.bool (fNan b)) ∧ w = w' := by
  have h := fNan_cases b hb
  go_enter Tryd.func28, Tryd.ntmps28
  go_wp2
  go_ret
  exact ⟨rfl, rfl⟩
theorem none_any (b : Nat) (hb : b < 18446744073709551616) (w : World) : Calls Tryd.prog 22 #[.float .f64 b] w fun e w' => e = .returned (.bool (fNan b)) ∧ w = w' := by
  have h := fNan_cases b hb
  go_enter Tryd.func22, Tryd.ntmps22
  go_wp2
  go_ret
  exact ⟨rfl, rfl⟩

theorem signbit_any (b : Nat) (hb : b < 18446744073709551616) (w : World) : Calls Tryd.prog 30 #[.float .f64 b] w fun e w' => e = .returned (.bool (fSgn b)) ∧ w = w' := by
  have h := run_bits b
  by_cases hs : 9223372036854775808 ≤ b
  · have e : fSgn b = true := decide_eq_true hs
    have E := Lib.hid e
    have hw : IntKind.i64.wrap (b : Int) = (b : Int) - 18446744073709551616 := by rw [IntKind.wrap_i64]; omega
    clear e
    go_enter Tryd.func30, Tryd.ntmps30
    go_wp2
    go_ret
    exact ⟨ret_bool (by rw [E.out]; simp; omega), rfl⟩
  · have e : fSgn b = false := decide_eq_false hs
    have E := Lib.hid e
    clear e
    go_enter Tryd.func30, Tryd.ntmps30
    go_wp2
    go_ret
    exact ⟨ret_bool (by rw [E.out]; simp), rfl⟩

theorem nan_any (w : World) : Calls Tryd.prog 34 #[] w fun e w' => e = .returned (.float .f64 9221120237041090561) ∧ w = w' := by
  have h := run_frombits 9221120237041090561
  go_enter Tryd.func34, Tryd.ntmps34
  go_wp2
  go_ret
  exact ⟨rfl, rfl⟩

theorem and_low63 (b : Nat) (hb : b < 18446744073709551616) : bits .andNot .u64 (b : Int) 9223372036854775808 = (b : Int) % 9223372036854775808 := by
  have := u64_andNot_nat b 9223372036854775808 hb (by omega)
  rw [show ((9223372036854775808 : Nat) : Int) = 9223372036854775808 from rfl] at this
  rw [this]
  have h := Nat.and_two_pow_sub_one_eq_mod b 63
  rw [show 18446744073709551615 - 9223372036854775808 = 2 ^ 63 - 1 by decide, h]
  rfl

theorem abs_any (b : Nat) (hb : b < 18446744073709551616) (w : World) : Calls Tryd.prog 29 #[.float .f64 b] w fun e w' => e = .returned (.float .f64 (b % 9223372036854775808)) ∧ w = w' := by
  have h := run_bits b
  have h1 := and_low63 b hb
  have h2 := run_frombits ((b : Int) % 9223372036854775808)
  rw [show ((b : Int) % 9223372036854775808).toNat = b % 9223372036854775808 by omega] at h2
  go_enter Tryd.func29, Tryd.ntmps29
  go_wp2
  go_ret
  exact ⟨rfl, rfl⟩

def aheadB (a b : Nat) : Bool := decide (fK a < fK b)
theorem ahead_any (a b : Nat) (ha : a < 18446744073709551616) (hb : b < 18446744073709551616) (w : World) : Calls Tryd.prog 26 #[.float .f64 a, .float .f64 b] w fun e w' => e = .returned (.bool (aheadB a b)) ∧ w = w' := by
  have key : aheadB a b = _ := ahead_key ha hb
  have hl : (FloatKind.f64.format.order a b == some .lt) = _ := lt_double ha hb
  have he : (FloatKind.f64.format.order a b == some .eq) = _ := eq_double ha hb
  have NA0 : fNan a = fNan a := rfl
  cases na : fNan a
  · cases nb : fNan b
    · rw [na, nb] at key hl he
      simp only [Bool.not_false, Bool.true_and, Bool.and_true, Bool.false_eq_true, or_self, if_false] at key hl he
      obtain ⟨x, hx⟩ : ∃ x, decide (fV a < fV b) = x := ⟨_, rfl⟩
      obtain ⟨y, hy⟩ : ∃ x, decide (fV a = fV b) = x := ⟨_, rfl⟩
      obtain ⟨z, hz⟩ : ∃ x, fSgn a = x := ⟨_, rfl⟩
      obtain ⟨u, hu⟩ : ∃ x, fSgn b = x := ⟨_, rfl⟩
      rw [hx, hy, hz, hu] at key
      rw [hx] at hl
      rw [hy] at he
      have NA := Lib.hid na
      have NB := Lib.hid nb
      have SA := Lib.hid hz
      have SB := Lib.hid hu
      clear na nb hz hu hx hy NA0
      cases x <;> cases y <;> cases z <;> cases u
      all_goals
        simp only [Bool.false_or, Bool.true_or, Bool.not_false, Bool.not_true, Bool.and_self, Bool.and_true, Bool.and_false] at key
        have KEY := Lib.hid key
        clear key
        go_enter Tryd.func26, Tryd.ntmps26
        go_wp2_with (first
          | (go_at_call 28; refine (isNaN_any _ (by assumption) _).mono ?_; rintro e w' ⟨rfl, rfl⟩; (try rw [NA.out]); (try rw [NB.out]))
          | (go_at_call 30; refine (signbit_any _ (by assumption) _).mono ?_; rintro e w' ⟨rfl, rfl⟩; (try rw [SA.out]); (try rw [SB.out])))
        go_ret
        exact ⟨ret_bool (by rw [KEY.out]), rfl⟩
    · rw [na, nb] at key
      simp only [Bool.not_true, Bool.false_eq_true, or_true, if_true] at key
      have NA := Lib.hid na
      have NB := Lib.hid nb
      have SA := NA
      have SB := NB
      have KEY := Lib.hid key
      clear na nb key hl he NA0
      go_enter Tryd.func26, Tryd.ntmps26
      go_wp2_with (first
        | (go_at_call 28; refine (isNaN_any _ (by assumption) _).mono ?_; rintro e w' ⟨rfl, rfl⟩; (try rw [NA.out]); (try rw [NB.out]))
        | (go_at_call 30; refine (signbit_any _ (by assumption) _).mono ?_; rintro e w' ⟨rfl, rfl⟩; (try rw [SA.out]); (try rw [SB.out])))
      go_ret
      exact ⟨ret_bool (by rw [KEY.out]), rfl⟩
  · obtain ⟨nbv, nb⟩ : ∃ x, fNan b = x := ⟨_, rfl⟩
    rw [na, nb] at key
    simp only [true_or, if_true] at key
    have NA := Lib.hid na
    have NB := Lib.hid nb
    have SA := NA
    have SB := NB
    have KEY := Lib.hid key
    clear na nb key hl he NA0
    go_enter Tryd.func26, Tryd.ntmps26
    go_wp2_with (first
      | (go_at_call 28; refine (isNaN_any _ (by assumption) _).mono ?_; rintro e w' ⟨rfl, rfl⟩; (try rw [NA.out]); (try rw [NB.out]))
      | (go_at_call 30; refine (signbit_any _ (by assumption) _).mono ?_; rintro e w' ⟨rfl, rfl⟩; (try rw [SA.out]); (try rw [SB.out])))
    go_ret
    exact ⟨ret_bool (by rw [KEY.out]), rfl⟩

theorem order_any (a b : Nat) (ha : a < 18446744073709551616) (hb : b < 18446744073709551616) (w : World) : Calls Tryd.prog 14 #[.float .f64 a, .float .f64 b] w fun e w' => e = .returned (.int .i64 (cmpK a b)) ∧ w = w' := by
  have key : cmpK a b = if aheadB a b then -1 else if aheadB b a then 1 else 0 := by simp [cmpK, aheadB]
  cases h1 : aheadB a b <;> cases h2 : aheadB b a
  all_goals
    rw [h1, h2] at key
    simp only [Bool.false_eq_true, if_false, if_true] at key
    have KEY := Lib.hid key
    have H1 := Lib.hid h1
    have H2 := Lib.hid h2
    clear key h1 h2
    go_enter Tryd.func14, Tryd.ntmps14
    go_wp2_with (first
      | (go_at_call 26; refine (ahead_any _ _ (by assumption) (by assumption) _).mono ?_; rintro e w' ⟨rfl, rfl⟩; first | rw [H1.out] | rw [H2.out]))
    go_ret
    exact ⟨ret_int KEY.out.symm, rfl⟩

def rateO (n d : Int) : Option Nat := floatBits .quo .f64 (floatOfInt .f64 n) (floatOfInt .f64 d)
theorem rate_any (n d : Int) (w : World) : Calls Tryd.prog 12 #[.int .i64 n, .int .i64 d] w fun e w' => ∃ r q, e = .returned (.float .f64 r) ∧ Got (rateO n d) r ∧ w' = w.drewN q := by
  obtain ⟨r, q, hrun, hg⟩ := run_float_any .quo (.inr (.inl rfl)) 22 (floatOfInt .f64 n) (floatOfInt .f64 d) w
  have G := Lib.hid hg
  clear hg
  go_enter Tryd.func12, Tryd.ntmps12
  go_wp2
  go_ret
  exact ⟨r, q, rfl, G.out, rfl⟩
theorem refRate_any (n d : Int) (w : World) : Calls Tryd.prog 13 #[.int .i64 n, .int .i64 d] w fun e w' => ∃ r q, e = .returned (.float .f64 r) ∧ Got (rateO n d) r ∧ w' = w.drewN q := by
  obtain ⟨r, q, hrun, hg⟩ := run_float_any .quo (.inr (.inl rfl)) 22 (floatOfInt .f64 n) (floatOfInt .f64 d) w
  have G := Lib.hid hg
  clear hg
  go_enter Tryd.func13, Tryd.ntmps13
  go_wp2
  go_ret
  exact ⟨r, q, rfl, G.out, rfl⟩

end Go.Proofs.YtebeelphilfjhaaDoor
