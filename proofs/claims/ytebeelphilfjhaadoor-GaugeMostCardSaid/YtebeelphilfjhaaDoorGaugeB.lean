/- THE CONTRACTS of auspexlaw24's words (minus, same, rank, order). -/
import Derived.Test.YtebeelphilfjhaaDoorGaugeA
namespace Go.Proofs.YtebeelphilfjhaaDoor
open Go.ChangeShapes Go.WideShapes Go.ChangeAt Go.RowKit
set_option linter.unusedSimpArgs false

def minusB (b : Nat) : Bool := !fNan b && fSgn b
theorem minus_any (b : Nat) (hb : b < 18446744073709551616) (w : World) : Calls Tryd.prog 25 #[.float .f64 b] w fun e w' => e = .returned (.bool (minusB b)) ∧ w = w' := by
  have hl : (FloatKind.f64.format.order b 0 == some .lt) = _ := lt_double hb (by omega)
  have he : (FloatKind.f64.format.order b 0 == some .eq) = _ := eq_double hb (by omega)
  rw [fNan_zero, fV_zero] at hl he
  simp only [Bool.not_false, Bool.and_true] at hl he
  have key : minusB b = (!fNan b && fSgn b) := rfl
  cases hn : fNan b
  · rw [hn] at hl he key
    simp only [Bool.not_false, Bool.true_and] at hl he key
    rcases Int.lt_trichotomy (fV b) 0 with hv | hv | hv
    · rw [decide_eq_true hv] at hl
      rw [sgn_neg hb hn hv] at key
      have KEY := Lib.hid key
      clear key he hv hn
      go_enter Tryd.func25, Tryd.ntmps25
      go_wp2
      go_ret
      exact ⟨ret_bool (by rw [KEY.out]), rfl⟩
    · rw [decide_eq_false (by omega)] at hl
      rw [decide_eq_true hv] at he
      have hd := fun w => run_float_arith (P := Tryd.prog) w .quo 22 .f64 4607182418800017408 b _ (div_one_zero hb hn hv)
      cases hs : fSgn b
      · rw [hs] at hd key
        simp only [Bool.false_eq_true, if_false] at hd
        have h3 : (FloatKind.f64.format.order 9218868437227405312 0 == some .lt) = false := by kernel_rfl
        have KEY := Lib.hid key
        clear key hv hn hs
        go_enter Tryd.func25, Tryd.ntmps25
        go_wp2
        go_ret
        exact ⟨ret_bool (by rw [KEY.out]), rfl⟩
      · rw [hs] at hd key
        simp only [if_true] at hd
        have h3 : (FloatKind.f64.format.order 18442240474082181120 0 == some .lt) = true := by kernel_rfl
        have KEY := Lib.hid key
        clear key hv hn hs
        go_enter Tryd.func25, Tryd.ntmps25
        go_wp2
        go_ret
        exact ⟨ret_bool (by rw [KEY.out]), rfl⟩
    · rw [decide_eq_false (by omega)] at hl he
      rw [sgn_pos hb hn hv] at key
      have KEY := Lib.hid key
      clear key hv hn
      go_enter Tryd.func25, Tryd.ntmps25
      go_wp2
      go_ret
      exact ⟨ret_bool (by rw [KEY.out]), rfl⟩
  · rw [hn] at hl he key
    simp only [Bool.not_true, Bool.false_and] at hl he key
    have KEY := Lib.hid key
    clear key hn
    go_enter Tryd.func25, Tryd.ntmps25
    go_wp2
    go_ret
    exact ⟨ret_bool (by rw [KEY.out]), rfl⟩

def sameB (a b : Nat) : Bool := decide (fK a = fK b)
theorem same_any (a b : Nat) (ha : a < 18446744073709551616) (hb : b < 18446744073709551616) (w : World) : Calls Tryd.prog 11 #[.float .f64 a, .float .f64 b] w fun e w' => e = .returned (.bool (sameB a b)) ∧ w = w' := by
  have key : sameB a b = _ := same_key ha hb
  have he : (FloatKind.f64.format.order a b == some .eq) = _ := eq_double ha hb
  have ma : minusB a = (!fNan a && fSgn a) := rfl
  have mb : minusB b = (!fNan b && fSgn b) := rfl
  cases na : fNan a <;> cases nb : fNan b
  · rw [na, nb] at key he
    rw [na] at ma
    rw [nb] at mb
    simp only [Bool.not_false, Bool.true_and, Bool.and_true, Bool.false_eq_true, or_self, if_false] at key he ma mb
    obtain ⟨x, hx⟩ : ∃ x, decide (fV a = fV b) = x := ⟨_, rfl⟩
    obtain ⟨z, hz⟩ : ∃ x, fSgn a = x := ⟨_, rfl⟩
    obtain ⟨u, hu⟩ : ∃ x, fSgn b = x := ⟨_, rfl⟩
    rw [hx] at key he
    rw [hz] at key ma
    rw [hu] at key mb
    have NA := Lib.hid na
    have NB := Lib.hid nb
    have MA := Lib.hid ma
    have MB := Lib.hid mb
    clear na nb hz hu hx ma mb
    cases x <;> cases z <;> cases u
    all_goals
      have KEY := Lib.hid key
      clear key
      go_enter Tryd.func11, Tryd.ntmps11
      go_wp2_with (first
        | (go_at_call 22; refine (none_any _ (by assumption) _).mono ?_; rintro e w' ⟨rfl, rfl⟩; first | rw [NA.out] | rw [NB.out])
        | (go_at_call 25; refine (minus_any _ (by assumption) _).mono ?_; rintro e w' ⟨rfl, rfl⟩; first | rw [MA.out] | rw [MB.out]))
      go_ret
      exact ⟨ret_bool (by rw [KEY.out] <;> rfl), rfl⟩
  all_goals
    rw [na, nb] at key
    simp only [Bool.false_eq_true, or_true, or_false, true_or, if_true, Bool.false_and, Bool.true_and, Bool.and_false] at key
    have NA := Lib.hid na
    have NB := Lib.hid nb
    have MA := NA
    have MB := NB
    have KEY := Lib.hid key
    clear na nb key he ma mb
    go_enter Tryd.func11, Tryd.ntmps11
    go_wp2_with (first
      | (go_at_call 22; refine (none_any _ (by assumption) _).mono ?_; rintro e w' ⟨rfl, rfl⟩; first | rw [NA.out] | rw [NB.out])
      | (go_at_call 25; refine (minus_any _ (by assumption) _).mono ?_; rintro e w' ⟨rfl, rfl⟩; first | rw [MA.out] | rw [MB.out]))
    go_ret
    exact ⟨ret_bool (by rw [KEY.out] <;> rfl), rfl⟩

theorem rank_any (b : Nat) (hb : b < 18446744073709551616) (w : World) : Calls Tryd.prog 27 #[.float .f64 b] w fun e w' => e = .returned (.int .i64 (rankP b)) ∧ w = w' := by
  have hl : (FloatKind.f64.format.order b 0 == some .lt) = _ := lt_double hb (by omega)
  have hg : (FloatKind.f64.format.order b 0 == some .gt) = _ := gt_double hb (by omega)
  rw [fNan_zero, fV_zero] at hl hg
  simp only [Bool.not_false, Bool.and_true] at hl hg
  have key : rankP b = if fNan b then 0 else if fV b < 0 then 1 else if 0 < fV b then 4 else if fSgn b then 2 else 3 := rfl
  have ma : minusB b = (!fNan b && fSgn b) := rfl
  cases hn : fNan b
  · rw [hn] at hl hg key ma
    simp only [Bool.not_false, Bool.true_and, Bool.false_eq_true, if_false] at hl hg key ma
    have NA := Lib.hid hn
    have MA := Lib.hid ma
    rcases Int.lt_trichotomy (fV b) 0 with hv | hv | hv
    · rw [decide_eq_true hv] at hl
      rw [if_pos hv] at key
      have KEY := Lib.hid key
      clear key hv hn ma hg
      go_enter Tryd.func27, Tryd.ntmps27
      go_wp2_with (first
        | (go_at_call 22; refine (none_any _ (by assumption) _).mono ?_; rintro e w' ⟨rfl, rfl⟩; rw [NA.out])
        | (go_at_call 25; refine (minus_any _ (by assumption) _).mono ?_; rintro e w' ⟨rfl, rfl⟩; rw [MA.out]))
      go_ret
      exact ⟨ret_int (by rw [KEY.out]), rfl⟩
    · rw [decide_eq_false (by omega)] at hl hg
      rw [if_neg (by omega), if_neg (by omega)] at key
      clear hv hn ma
      cases hs : fSgn b
      all_goals
        rw [hs] at key MA
        simp only [Bool.false_eq_true, if_false, if_true] at key
        have KEY := Lib.hid key
        clear key hs
        go_enter Tryd.func27, Tryd.ntmps27
        go_wp2_with (first
          | (go_at_call 22; refine (none_any _ (by assumption) _).mono ?_; rintro e w' ⟨rfl, rfl⟩; rw [NA.out])
          | (go_at_call 25; refine (minus_any _ (by assumption) _).mono ?_; rintro e w' ⟨rfl, rfl⟩; rw [MA.out]))
        go_ret
        exact ⟨ret_int (by rw [KEY.out]), rfl⟩
    · rw [decide_eq_false (by omega)] at hl
      rw [decide_eq_true hv] at hg
      rw [if_neg (by omega), if_pos hv] at key
      have KEY := Lib.hid key
      clear key hv hn ma
      go_enter Tryd.func27, Tryd.ntmps27
      go_wp2_with (first
        | (go_at_call 22; refine (none_any _ (by assumption) _).mono ?_; rintro e w' ⟨rfl, rfl⟩; rw [NA.out])
        | (go_at_call 25; refine (minus_any _ (by assumption) _).mono ?_; rintro e w' ⟨rfl, rfl⟩; rw [MA.out]))
      go_ret
      exact ⟨ret_int (by rw [KEY.out]), rfl⟩
  · rw [hn] at hl hg key
    simp only [if_true] at key
    have NA := Lib.hid hn
    have MA := NA
    have KEY := Lib.hid key
    clear key hn ma hl hg
    go_enter Tryd.func27, Tryd.ntmps27
    go_wp2_with (first
      | (go_at_call 22; refine (none_any _ (by assumption) _).mono ?_; rintro e w' ⟨rfl, rfl⟩; rw [NA.out])
      | (go_at_call 25; refine (minus_any _ (by assumption) _).mono ?_; rintro e w' ⟨rfl, rfl⟩; rw [MA.out]))
    go_ret
    exact ⟨ret_int (by rw [KEY.out]), rfl⟩

theorem refOrder_any (a b : Nat) (ha : a < 18446744073709551616) (hb : b < 18446744073709551616) (w : World) : Calls Tryd.prog 15 #[.float .f64 a, .float .f64 b] w fun e w' => e = .returned (.int .i64 (cmpK a b)) ∧ w = w' := by
  have key := refOrder_key ha hb
  have hl : (FloatKind.f64.format.order a b == some .lt) = _ := lt_double ha hb
  have hg : (FloatKind.f64.format.order a b == some .gt) = _ := gt_double ha hb
  obtain ⟨x, hx⟩ : ∃ x, rankP a = x := ⟨_, rfl⟩
  obtain ⟨y, hy⟩ : ∃ x, rankP b = x := ⟨_, rfl⟩
  have RA := Lib.hid hx
  have RB := Lib.hid hy
  rw [hx, hy] at key
  clear hx hy
  by_cases hr : x = y
  · rw [if_pos hr] at key
    have hr1 : (x == y) = true := by simpa using hr
    have hr2 : (x != y) = false := by simpa using hr
    by_cases c1 : fNan a = false ∧ fNan b = false ∧ fV a < fV b
    · rw [c1.1, c1.2.1, decide_eq_true c1.2.2] at hl
      simp only [Bool.not_false, Bool.true_and] at hl
      rw [if_pos c1] at key
      have KEY := Lib.hid key
      clear key c1 hr hr1 hg
      go_enter Tryd.func15, Tryd.ntmps15
      go_wp2_with (first
        | (go_at_call 27; refine (rank_any _ (by assumption) _).mono ?_; rintro e w' ⟨rfl, rfl⟩; first | rw [RA.out] | rw [RB.out]))
      go_ret
      exact ⟨ret_int (by rw [KEY.out]), rfl⟩
    · have hl2 : (FloatKind.f64.format.order a b == some .lt) = false := by
        rw [hl]; cases na : fNan a <;> cases nb : fNan b <;> simp; simp [na, nb] at c1; omega
      rw [if_neg c1] at key
      clear hl
      by_cases c2 : fNan a = false ∧ fNan b = false ∧ fV b < fV a
      · rw [c2.1, c2.2.1, decide_eq_true c2.2.2] at hg
        simp only [Bool.not_false, Bool.true_and] at hg
        rw [if_pos c2] at key
        have KEY := Lib.hid key
        clear key c1 c2 hr hr1
        go_enter Tryd.func15, Tryd.ntmps15
        go_wp2_with (first
          | (go_at_call 27; refine (rank_any _ (by assumption) _).mono ?_; rintro e w' ⟨rfl, rfl⟩; first | rw [RA.out] | rw [RB.out]))
        go_ret
        exact ⟨ret_int (by rw [KEY.out]), rfl⟩
      · have hg2 : (FloatKind.f64.format.order a b == some .gt) = false := by
          rw [hg]; cases na : fNan a <;> cases nb : fNan b <;> simp; simp [na, nb] at c2; omega
        rw [if_neg c2] at key
        have KEY := Lib.hid key
        clear hg key c1 c2 hr hr1
        go_enter Tryd.func15, Tryd.ntmps15
        go_wp2_with (first
          | (go_at_call 27; refine (rank_any _ (by assumption) _).mono ?_; rintro e w' ⟨rfl, rfl⟩; first | rw [RA.out] | rw [RB.out]))
        go_ret
        exact ⟨ret_int (by rw [KEY.out]), rfl⟩
  · rw [if_neg hr] at key
    have hr2 : (x != y) = true := by simpa using hr
    clear hl hg
    by_cases c : x < y
    · rw [if_pos c] at key
      have KEY := Lib.hid key
      clear key
      go_enter Tryd.func15, Tryd.ntmps15
      go_wp2_with (first
        | (go_at_call 27; refine (rank_any _ (by assumption) _).mono ?_; rintro e w' ⟨rfl, rfl⟩; first | rw [RA.out] | rw [RB.out]))
      go_ret
      exact ⟨ret_int (by rw [KEY.out]), rfl⟩
    · rw [if_neg c] at key
      have KEY := Lib.hid key
      clear key
      go_enter Tryd.func15, Tryd.ntmps15
      go_wp2_with (first
        | (go_at_call 27; refine (rank_any _ (by assumption) _).mono ?_; rintro e w' ⟨rfl, rfl⟩; first | rw [RA.out] | rw [RB.out]))
      go_ret
      exact ⟨ret_int (by rw [KEY.out]), rfl⟩

end Go.Proofs.YtebeelphilfjhaaDoor
