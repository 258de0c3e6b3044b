import Derived.Test.YtaokhegbfaokdaaDoorWordZ
import Derived.Test.YtaokhegbfaokdaaDoorMathB
import Derived.WalkLawsBesides
/- THE CONTRACTS of package alu and of auspexref03. -/
namespace Go.Proofs.YtaokhegbfaokdaaDoor
open Go.ChangeShapes Go.WideShapes Go.ChangeAt Go.RowKit
set_option maxRecDepth 100000

theorem truth_any (c : Bool) (w : World) :
    Calls Tryd.prog 82 #[.bool c] w fun e w' => e = .returned (.int .u32 (bif c then 1 else 0)) ∧ w = w' := by
  cases c
  all_goals
    go_enter Tryd.func82, Tryd.ntmps82
    go_wp2
    go_ret
    exact ⟨rfl, rfl⟩

theorem shift_any (op a s : Int) (hs : 0 ≤ s) (hs' : s ≤ 31) (w : World) :
    Calls Tryd.prog 83 #[.int .i64 op, .int .u32 a, .int .u32 s] w fun e w' => e = .returned (.int .u32 (aluSh op a s)) ∧ w = w' := by
  go_enter Tryd.func83, Tryd.ntmps83
  go_wp2
  all_goals go_ret
  all_goals refine ⟨ret_int ?_, rfl⟩
  all_goals simp_all [aluSh]

theorem aluDo_any (op a b : Int) (hb : 0 ≤ b) (hb' : b < 4294967296) (w : World) :
    Calls Tryd.prog 59 #[.int .i64 op, .int .u32 a, .int .u32 b] w fun e w' => e = .returned (.int .u32 (aluDo op a b)) ∧ w = w' := by
  have H31 := Lib.hid (and31 b hb hb')
  go_enter Tryd.func59, Tryd.ntmps59
  go_wp2_with (first
    | (go_at_call 82; refine (truth_any _ _).mono ?_; rintro e w' ⟨rfl, rfl⟩)
    | (go_at_call 83; rw [H31.out]; refine (shift_any _ _ _ (by omega) (by omega) _).mono ?_; rintro e w' ⟨rfl, rfl⟩))
  all_goals go_ret
  all_goals refine ⟨ret_int ?_, rfl⟩
  all_goals clear H31 hb hb'
  all_goals simp_all [aluDo]

theorem high_any (p : Int) (w : World) :
    Calls Tryd.prog 78 #[.int .u64 p] w fun e w' => e = .returned (.int .u32 (p / 4294967296 % 4294967296)) ∧ w = w' := by
  go_enter Tryd.func78, Tryd.ntmps78
  go_wp2
  go_ret
  exact ⟨rfl, rfl⟩

theorem mul_any (op a b : Int) (ha : 0 ≤ a) (ha' : a < 4294967296) (hb : 0 ≤ b) (hb' : b < 4294967296) (w : World) :
    Calls Tryd.prog 56 #[.int .i64 op, .int .u32 a, .int .u32 b] w fun e w' => e = .returned (.int .u32 (mulW op a b)) ∧ w = w' := by
  have H39 := hi_39 a b
  have H40 := hi_40 a b hb hb'
  have H41 := hi_41 a b ha ha' hb hb'
  clear ha ha' hb hb'
  have G39 := Lib.hid H39
  have G40 := Lib.hid H40
  have G41 := Lib.hid H41
  clear H39 H40 H41
  go_enter Tryd.func56, Tryd.ntmps56
  go_wp2_with (first
    | (go_at_call 78; refine (high_any _ _).mono ?_; rintro e w' ⟨rfl, rfl⟩))
  all_goals go_ret
  all_goals refine ⟨ret_int ?_, rfl⟩
  all_goals have H39 := G39.out
  all_goals have H40 := G40.out
  all_goals have H41 := G41.out
  all_goals clear G39 G40 G41
  all_goals (simp_all [mulW]; done)

theorem taken_any (op a b : Int) (w : World) :
    Calls Tryd.prog 84 #[.int .i64 op, .int .u32 a, .int .u32 b] w fun e w' => e = .returned (.bool (takenB op a b)) ∧ w = w' := by
  go_enter Tryd.func84, Tryd.ntmps84
  go_wp2
  all_goals go_ret
  all_goals refine ⟨ret_bool ?_, rfl⟩
  all_goals (simp_all [takenB, beq_dec, bne_dec]; done)

theorem next_any (op rd r1 r2 imm pc a b : Int) (w : World) :
    Calls Tryd.prog 63 #[.agg #[.int .i64 op, .int .i64 rd, .int .i64 r1, .int .i64 r2, .int .u32 imm], .int .u32 pc, .int .u32 a, .int .u32 b] w fun e w' => e = .returned (.int .u32 (nextW op imm pc a b)) ∧ Below w.heap.size w w' := by
  go_enter Tryd.func63, Tryd.ntmps63
  go_wp2_with (first
    | (go_at_call 84; refine (taken_any _ _ _ _).mono ?_; rintro e w' ⟨rfl, rfl⟩))
  all_goals go_ret
  all_goals refine ⟨ret_int ?_, (Below.refl _ _).alloc (Nat.le_refl _) _⟩
  all_goals (simp_all [nextW, taken4, andNot1]; done)

theorem one_any (c : Bool) (w : World) :
    Calls Tryd.prog 77 #[.bool c] w fun e w' => e = .returned (.int .u32 (bif c then 1 else 0)) ∧ w = w' := by
  cases c
  all_goals
    go_enter Tryd.func77, Tryd.ntmps77
    go_wp2
    go_ret
    exact ⟨rfl, rfl⟩

theorem signed_any (a : Int) (ha : 0 ≤ a) (ha' : a < 4294967296) (w : World) :
    Calls Tryd.prog 73 #[.int .u32 a] w fun e w' => e = .returned (.int .i64 (wrap32 a)) ∧ w = w' := by
  go_enter Tryd.func73, Tryd.ntmps73
  go_wp2
  all_goals go_ret
  all_goals exact ⟨ret_int (by unfold wrap32; omega), rfl⟩

theorem refTaken_any (op a b : Int) (ha : 0 ≤ a) (ha' : a < 4294967296) (hb : 0 ≤ b) (hb' : b < 4294967296) (w : World) :
    Calls Tryd.prog 53 #[.int .i64 op, .int .u32 a, .int .u32 b] w fun e w' => e = .returned (.bool (takenB op a b)) ∧ w = w' := by
  go_enter Tryd.func53, Tryd.ntmps53
  go_wp2_with (first
    | (go_at_call 73; refine (signed_any _ (by omega) (by omega) _).mono ?_; rintro e w' ⟨rfl, rfl⟩))
  all_goals go_ret
  all_goals refine ⟨ret_bool ?_, rfl⟩
  all_goals (clear ha ha' hb hb'; simp_all [takenB, beq_dec, nle_dec]; done)

theorem refNext_any (op rd r1 r2 imm pc a b : Int) (ha : 0 ≤ a) (ha' : a < 4294967296) (hb : 0 ≤ b) (hb' : b < 4294967296) (w : World) :
    Calls Tryd.prog 30 #[.agg #[.int .i64 op, .int .i64 rd, .int .i64 r1, .int .i64 r2, .int .u32 imm], .int .u32 pc, .int .u32 a, .int .u32 b] w fun e w' => e = .returned (.int .u32 (nextW op imm pc a b)) ∧ Below w.heap.size w w' := by
  go_enter Tryd.func30, Tryd.ntmps30
  go_wp2_with (first
    | (go_at_call 53; refine (refTaken_any _ _ _ ha ha' hb hb' _).mono ?_; rintro e w' ⟨rfl, rfl⟩))
  all_goals go_ret
  all_goals refine ⟨ret_int ?_, (Below.refl _ _).alloc (Nat.le_refl _) _⟩
  all_goals (simp_all [nextW, taken4]; done)

end Go.Proofs.YtaokhegbfaokdaaDoor

/- THE CONTRACTS of package divide. -/
namespace Go.Proofs.YtaokhegbfaokdaaDoor
open Go.ChangeShapes Go.WideShapes Go.ChangeAt Go.RowKit
set_option maxRecDepth 100000

def sgB (op : Int) : Bool := decide (op = 42 ∨ op = 44)
def knB (op : Int) : Bool := decide (42 ≤ op ∧ op ≤ 45)
def szB (s : Bool) (a : Int) : Int := bif s && decide (2147483648 ≤ a) then 4294967296 - a else a
def wsB (s c : Bool) (x : Int) : Int := bif s && c then (0 - x) % 4294967296 else x

theorem dsigned_any (op : Int) (w : World) :
    Calls Tryd.prog 60 #[.int .i64 op] w fun e w' => e = .returned (.tuple #[.bool (sgB op), .bool (knB op)]) ∧ w = w' := by
  go_enter Tryd.func60, Tryd.ntmps60
  go_wp2
  all_goals go_ret2
  all_goals refine ⟨?_, rfl⟩
  all_goals (simp_all [sgB, knB]; try omega)

theorem below_any (a : Int) (ha : 0 ≤ a) (ha' : a < 4294967296) (w : World) :
    Calls Tryd.prog 81 #[.int .u32 a] w fun e w' => e = .returned (.bool (decide (2147483648 ≤ a))) ∧ w' = w := by
  go_enter Tryd.func81, Tryd.ntmps81
  go_wp2
  go_ret
  exact ⟨ret_bool (by rw [beq_dec, decide_eq_decide]; omega), rfl⟩

theorem divSize_any (a : Int) (s : Bool) (ha : 0 ≤ a) (ha' : a < 4294967296) (w : World) :
    Calls Tryd.prog 61 #[.int .u32 a, .bool s] w fun e w' => e = .returned (.int .u32 (szB s a)) ∧ w' = w := by
  cases s
  · go_enter Tryd.func61, Tryd.ntmps61
    go_wp2_with (go_at_call 81; refine (below_any _ ha ha' _).mono ?_; rintro e w1 ⟨rfl, rfl⟩)
    go_ret
    exact ⟨rfl, rfl⟩
  · by_cases h : 2147483648 ≤ a
    · have d : decide (2147483648 ≤ a) = true := decide_eq_true h
      have D := Lib.hid d
      go_enter Tryd.func61, Tryd.ntmps61
      go_wp2_with (go_at_call 81; refine (below_any _ ha ha' _).mono ?_; rintro e w1 ⟨rfl, rfl⟩)
      go_ret
      exact ⟨ret_int (by unfold szB; rw [D.out]; simp; omega), rfl⟩
    · have d : decide (2147483648 ≤ a) = false := decide_eq_false h
      have D := Lib.hid d
      go_enter Tryd.func61, Tryd.ntmps61
      go_wp2_with (go_at_call 81; refine (below_any _ ha ha' _).mono ?_; rintro e w1 ⟨rfl, rfl⟩)
      go_ret
      exact ⟨ret_int (by unfold szB; rw [D.out]; simp), rfl⟩

theorem withSign_any (x : Int) (s c : Bool) (b : Nat) (w : World) (hc : w.cell? ⟨b, 0, none⟩ = some (.bool s)) :
    Calls Tryd.prog 80 #[.int .u32 x, .bool c, .pointer (some ⟨b, 0, none⟩)] w fun e w' => e = .returned (.int .u32 (wsB s c x)) ∧ w' = w := by
  cases s <;> cases c
  all_goals
    go_enter Tryd.func80, Tryd.ntmps80
    go_wp2
    go_ret
    exact ⟨ret_int (by simp [wsB]), rfl⟩

theorem byZero_any (op a : Int) (w : World) :
    Calls Tryd.prog 79 #[.int .i64 op, .int .u32 a] w fun e w' => e = .returned (.int .u32 (if op = 44 ∨ op = 45 then a else 4294967295)) ∧ w = w' := by
  go_enter Tryd.func79, Tryd.ntmps79
  go_wp2
  all_goals go_ret
  all_goals refine ⟨ret_int ?_, rfl⟩
  all_goals simp_all

theorem bits_any (a : Int) (ha : 0 ≤ a) (ha' : a < 4294967296) (w : World) :
    Calls Tryd.prog 62 #[.int .u32 a] w fun e w' => e = .returned (.int .i64 (nb a.toNat : Nat)) ∧ w = w' := by
  obtain ⟨A, rfl⟩ := Int.eq_ofNat_of_zero_le ha
  have hA : A < 4294967296 := by omega
  clear ha ha'
  obtain ⟨T, HT⟩ : ∃ T, Hid (T = nb A) := ⟨_, Lib.hid rfl⟩
  rw [Int.toNat_natCast, ← HT.out]
  have hT : T ≤ 32 := by rw [HT.out]; exact nb_le32 hA
  go_enter Tryd.func62, Tryd.ntmps62
  go_wp2
  go_loop [0, 3] (fun a n => ∃ x k : Nat, x < 4294967296 ∧ k ≤ T ∧ k + nb x = T ∧ a = .int .u32 x ∧ n = .int .i64 k) (fun a _ => (intOf a).toNat)
  case atStart => exact ⟨A, 0, hA, by omega, by rw [HT.out]; omega, rfl, rfl⟩
  case round =>
    obtain ⟨x, k, hx, hk, hs, rfl, rfl⟩ := hrel
    by_cases h0 : x = 0
    · subst h0
      have hkT : k = T := by rw [nb_zero] at hs; omega
      subst hkT
      clear hs
      go_wp2
      go_ret
      exact ⟨rfl, rfl⟩
    · have hn := nb_pos h0
      have HN := Lib.hid hn
      have HS := Lib.hid hs
      have hk2 : k < T := by omega
      have hx0 : 0 < x := by omega
      clear hn hs
      go_wp2
      go_round
      case rel => exact ⟨x / 2, k + 1, by omega, by omega, by have := HN.out; have := HS.out; omega, by go_num, by go_num⟩
      case measure => simp [intOf]; omega

end Go.Proofs.YtaokhegbfaokdaaDoor

/- THE CONTRACTS of package divide's Do and Took, and of auspexref04. -/
namespace Go.Proofs.YtaokhegbfaokdaaDoor
open Go.ChangeShapes Go.WideShapes Go.ChangeAt Go.RowKit
set_option maxRecDepth 100000

theorem szB_range (s : Bool) (a : Int) (ha : 0 ≤ a) (ha' : a < 4294967296) : 0 ≤ szB s a ∧ szB s a < 4294967296 := by
  unfold szB
  cases s
  · simp; omega
  · by_cases h : 2147483648 ≤ a
    · rw [decide_eq_true h]; simp; omega
    · rw [decide_eq_false h]; simp; omega
theorem szB_zero (s : Bool) (a : Int) (ha : 0 ≤ a) (ha' : a < 4294967296) : szB s a = 0 ↔ a = 0 := by
  unfold szB
  cases s
  · simp
  · by_cases h : 2147483648 ≤ a
    · rw [decide_eq_true h]; simp; omega
    · rw [decide_eq_false h]; simp
theorem szB_sz (op a : Int) : szB (sgB op) a = sz op a := by
  unfold szB sgB sz
  by_cases h1 : op = 42 ∨ op = 44 <;> by_cases h2 : 2147483648 ≤ a <;> simp [h1, h2]

theorem div_quo (s : Bool) (a b : Int) (ha : 0 ≤ a) (ha' : a < 4294967296) (hb : 0 ≤ b) (hb' : b < 4294967296) (h0 : b ≠ 0) :
    wsB s (decide (2147483648 ≤ a) != decide (2147483648 ≤ b)) (szB s a / szB s b) = bif s then (wrap32 a).tdiv (wrap32 b) % 4294967296 else a / b := by
  cases s
  · rfl
  · rw [cond_true, quo_form a b ha ha' hb hb' h0]
    have e1 : szB true a = sz 42 a := szB_sz 42 a
    have e2 : szB true b = sz 42 b := szB_sz 42 b
    rw [e1, e2]
    unfold wsB
    by_cases c1 : 2147483648 ≤ a <;> by_cases c2 : 2147483648 ≤ b <;> simp [c1, c2]
theorem div_rem (s : Bool) (a b : Int) (ha : 0 ≤ a) (ha' : a < 4294967296) (hb : 0 ≤ b) (hb' : b < 4294967296) (h0 : b ≠ 0) :
    wsB s (decide (2147483648 ≤ a)) (szB s a % szB s b) = bif s then (wrap32 a).tmod (wrap32 b) % 4294967296 else a % b := by
  cases s
  · rfl
  · rw [cond_true, rem_form a b ha ha' hb hb' h0]
    have e1 : szB true a = sz 44 a := szB_sz 44 a
    have e2 : szB true b = sz 44 b := szB_sz 44 b
    rw [e1, e2]
    unfold wsB
    by_cases c1 : 2147483648 ≤ a <;> simp [c1]

theorem wrap_quo {x y : Int} (hx : 0 ≤ x) (hx' : x < 4294967296) (hy : 0 ≤ y) (_h0 : y ≠ 0) : IntKind.u32.wrap (x.tdiv y) = x / y := by
  have h1 := Int.ediv_nonneg hx hy
  have h2 := Int.ediv_le_self y hx
  rw [IntKind.wrap_u32', Int.tdiv_eq_ediv_of_nonneg hx]
  omega
/-- a call that leaves the world alone, met behind draws that were joined -/
theorem joined_same {P : Program} {f : FuncId} {args : Array Value} {w : World} {k n : Nat} {v : Value} (h : Calls P f args (w.drewN (k + n)) fun e w' => e = .returned v ∧ w' = w.drewN (k + n)) :
    Calls P f args (w.drewN (k + n)) fun e w' => e = .returned v ∧ ∃ m, w' = w.drewN (k + m) := by
  refine h.mono ?_
  rintro e w' ⟨he, hw⟩
  exact ⟨he, n, hw⟩
theorem bdrewN' {B : Nat} {a w : World} (h : Below B a w) (n : Nat) : Below B a (w.drewN n) := ⟨h.os, h.tape, h.output, h.size, h.block⟩

set_option maxHeartbeats 2000000 in
theorem divDo_any (op a b : Int) (ha : 0 ≤ a) (ha' : a < 4294967296) (hb : 0 ≤ b) (hb' : b < 4294967296) (w : World) :
    Calls Tryd.prog 57 #[.int .i64 op, .int .u32 a, .int .u32 b] w fun e w' => e = .returned (.int .u32 (divW op a b)) ∧ Below w.heap.size w w' := by
  by_cases hk : 42 ≤ op ∧ op ≤ 45
  · by_cases h0 : b = 0
    · subst h0
      rcases (show op = 42 ∨ op = 43 ∨ op = 44 ∨ op = 45 by omega) with rfl | rfl | rfl | rfl
      · have K := Lib.hid (show knB 42 = true from rfl)
        go_enter Tryd.func57, Tryd.ntmps57
        go_wp2_with (first
          | (go_at_call 60; refine (dsigned_any _ _).mono ?_; rintro e w1 ⟨rfl, rfl⟩; rw [K.out])
          | (go_at_call 79; refine (byZero_any _ _ _).mono ?_; rintro e w1 ⟨rfl, rfl⟩))
        go_ret
        exact ⟨rfl, (Below.refl _ _).alloc (Nat.le_refl _) _⟩
      · have K := Lib.hid (show knB 43 = true from rfl)
        go_enter Tryd.func57, Tryd.ntmps57
        go_wp2_with (first
          | (go_at_call 60; refine (dsigned_any _ _).mono ?_; rintro e w1 ⟨rfl, rfl⟩; rw [K.out])
          | (go_at_call 79; refine (byZero_any _ _ _).mono ?_; rintro e w1 ⟨rfl, rfl⟩))
        go_ret
        exact ⟨rfl, (Below.refl _ _).alloc (Nat.le_refl _) _⟩
      · have K := Lib.hid (show knB 44 = true from rfl)
        go_enter Tryd.func57, Tryd.ntmps57
        go_wp2_with (first
          | (go_at_call 60; refine (dsigned_any _ _).mono ?_; rintro e w1 ⟨rfl, rfl⟩; rw [K.out])
          | (go_at_call 79; refine (byZero_any _ _ _).mono ?_; rintro e w1 ⟨rfl, rfl⟩))
        go_ret
        exact ⟨rfl, (Below.refl _ _).alloc (Nat.le_refl _) _⟩
      · have K := Lib.hid (show knB 45 = true from rfl)
        go_enter Tryd.func57, Tryd.ntmps57
        go_wp2_with (first
          | (go_at_call 60; refine (dsigned_any _ _).mono ?_; rintro e w1 ⟨rfl, rfl⟩; rw [K.out])
          | (go_at_call 79; refine (byZero_any _ _ _).mono ?_; rintro e w1 ⟨rfl, rfl⟩))
        go_ret
        exact ⟨rfl, (Below.refl _ _).alloc (Nat.le_refl _) _⟩
    · have b0 : (b == 0) = false := by simpa using h0
      rcases (show op = 42 ∨ op = 43 ∨ op = 44 ∨ op = 45 by omega) with rfl | rfl | rfl | rfl
      · have hd : divW 42 a b = (wrap32 a).tdiv (wrap32 b) % 4294967296 := by simp [divW, h0]
        rw [hd]
        clear hd hk
        have K := Lib.hid (show knB 42 = true from rfl)
        have S := Lib.hid (show sgB 42 = true from rfl)
        have z : (szB true b == 0) = false := by simpa [szB_zero true b hb hb'] using h0
        have z2 : szB true b ≠ 0 := by simpa using z
        have E := Lib.hid (div_quo true a b ha ha' hb hb' h0)
        obtain ⟨l1, l2⟩ := szB_range true a ha ha'
        obtain ⟨l3, l4⟩ := szB_range true b hb hb'
        have l5 : 1 ≤ szB true b := by omega
        have Z2 := Lib.hid z
        clear z
        go_enter Tryd.func57, Tryd.ntmps57
        go_wp2_with (go_at_call 60; refine (dsigned_any _ _).mono ?_; rintro e w1 ⟨rfl, rfl⟩; rw [S.out, K.out])
        go_quiet ((go_at_call 61; exact Calls.quiet_of_same (divSize_any _ _ (by omega) (by omega) _)))
        go_wp2
        go_quiet ((first | (go_at_call 81; exact joined_same (below_any _ (by omega) (by omega) _)) | (go_at_call 80; exact joined_same (withSign_any _ true _ _ _ (by go_simp)))))
        go_wp2
        go_ret
        exact ⟨ret_int (E.out), bdrewN' (bdrewN' ((Below.refl _ _).alloc (Nat.le_refl _) _) _) _⟩
      · have hd : divW 43 a b = a / b := by simp [divW, h0]
        rw [hd]
        clear hd hk
        have K := Lib.hid (show knB 43 = true from rfl)
        have S := Lib.hid (show sgB 43 = false from rfl)
        have z : (szB false b == 0) = false := by simpa [szB_zero false b hb hb'] using h0
        have z2 : szB false b ≠ 0 := by simpa using z
        have E := Lib.hid (div_quo false a b ha ha' hb hb' h0)
        obtain ⟨l1, l2⟩ := szB_range false a ha ha'
        obtain ⟨l3, l4⟩ := szB_range false b hb hb'
        have l5 : 1 ≤ szB false b := by omega
        have Z2 := Lib.hid z
        clear z
        go_enter Tryd.func57, Tryd.ntmps57
        go_wp2_with (go_at_call 60; refine (dsigned_any _ _).mono ?_; rintro e w1 ⟨rfl, rfl⟩; rw [S.out, K.out])
        go_quiet ((go_at_call 61; exact Calls.quiet_of_same (divSize_any _ _ (by omega) (by omega) _)))
        go_wp2
        go_quiet ((first | (go_at_call 81; exact joined_same (below_any _ (by omega) (by omega) _)) | (go_at_call 80; exact joined_same (withSign_any _ false _ _ _ (by go_simp)))))
        go_wp2
        go_ret
        exact ⟨ret_int (E.out), bdrewN' (bdrewN' ((Below.refl _ _).alloc (Nat.le_refl _) _) _) _⟩
      · have hd : divW 44 a b = (wrap32 a).tmod (wrap32 b) % 4294967296 := by simp [divW, h0]
        rw [hd]
        clear hd hk
        have K := Lib.hid (show knB 44 = true from rfl)
        have S := Lib.hid (show sgB 44 = true from rfl)
        have z : (szB true b == 0) = false := by simpa [szB_zero true b hb hb'] using h0
        have z2 : szB true b ≠ 0 := by simpa using z
        have E := Lib.hid (div_rem true a b ha ha' hb hb' h0)
        obtain ⟨l1, l2⟩ := szB_range true a ha ha'
        obtain ⟨l3, l4⟩ := szB_range true b hb hb'
        have l5 : 1 ≤ szB true b := by omega
        have Z2 := Lib.hid z
        clear z
        go_enter Tryd.func57, Tryd.ntmps57
        go_wp2_with (go_at_call 60; refine (dsigned_any _ _).mono ?_; rintro e w1 ⟨rfl, rfl⟩; rw [S.out, K.out])
        go_quiet ((go_at_call 61; exact Calls.quiet_of_same (divSize_any _ _ (by omega) (by omega) _)))
        go_wp2
        go_quiet ((first | (go_at_call 81; exact joined_same (below_any _ (by omega) (by omega) _)) | (go_at_call 80; exact joined_same (withSign_any _ true _ _ _ (by go_simp)))))
        go_wp2
        go_ret
        exact ⟨ret_int (E.out), bdrewN' (bdrewN' ((Below.refl _ _).alloc (Nat.le_refl _) _) _) _⟩
      · have hd : divW 45 a b = a % b := by simp [divW, h0]
        rw [hd]
        clear hd hk
        have K := Lib.hid (show knB 45 = true from rfl)
        have S := Lib.hid (show sgB 45 = false from rfl)
        have z : (szB false b == 0) = false := by simpa [szB_zero false b hb hb'] using h0
        have z2 : szB false b ≠ 0 := by simpa using z
        have E := Lib.hid (div_rem false a b ha ha' hb hb' h0)
        obtain ⟨l1, l2⟩ := szB_range false a ha ha'
        obtain ⟨l3, l4⟩ := szB_range false b hb hb'
        have l5 : 1 ≤ szB false b := by omega
        have Z2 := Lib.hid z
        clear z
        go_enter Tryd.func57, Tryd.ntmps57
        go_wp2_with (go_at_call 60; refine (dsigned_any _ _).mono ?_; rintro e w1 ⟨rfl, rfl⟩; rw [S.out, K.out])
        go_quiet ((go_at_call 61; exact Calls.quiet_of_same (divSize_any _ _ (by omega) (by omega) _)))
        go_wp2
        go_quiet ((first | (go_at_call 81; exact joined_same (below_any _ (by omega) (by omega) _)) | (go_at_call 80; exact joined_same (withSign_any _ false _ _ _ (by go_simp)))))
        go_wp2
        go_ret
        exact ⟨ret_int (E.out), bdrewN' (bdrewN' ((Below.refl _ _).alloc (Nat.le_refl _) _) _) _⟩
  · have K := Lib.hid (show knB op = false from decide_eq_false hk)
    have E : divW op a b = 0 := by
      unfold divW
      rw [if_neg (by omega), if_neg (by omega), if_neg (by omega), if_neg (by omega)]
    rw [E]
    clear E
    go_enter Tryd.func57, Tryd.ntmps57
    go_wp2_with (go_at_call 60; refine (dsigned_any _ _).mono ?_; rintro e w1 ⟨rfl, rfl⟩; rw [K.out])
    go_ret
    exact ⟨rfl, (Below.refl _ _).alloc (Nat.le_refl _) _⟩

theorem took_form (op a b : Int) (hk : 42 ≤ op ∧ op ≤ 45) :
    tookW op a b = if b = 0 ∨ sz op a < sz op b then 2 else 3 + (nb (sz op a).toNat : Int) - (nb (sz op b).toNat : Int) := by
  unfold tookW
  rw [if_pos hk]

set_option maxHeartbeats 1000000 in
theorem divTook_any (op a b : Int) (ha : 0 ≤ a) (ha' : a < 4294967296) (hb : 0 ≤ b) (hb' : b < 4294967296) (w : World) :
    Calls Tryd.prog 37 #[.int .i64 op, .int .u32 a, .int .u32 b] w fun e w' => e = .returned (.int .i64 (tookW op a b)) ∧ w = w' := by
  by_cases hk : 42 ≤ op ∧ op ≤ 45
  · have K := Lib.hid (show knB op = true from decide_eq_true hk)
    have Z := Lib.hid (szB_sz op)
    obtain ⟨l1, l2⟩ := sz_range (op := op) ha ha'
    obtain ⟨l3, l4⟩ := sz_range (op := op) hb hb'
    have n1 := nb_le32 (n := (sz op a).toNat) (by omega)
    have n2 := nb_le32 (n := (sz op b).toNat) (by omega)
    rw [took_form op a b hk]
    have hz := sz_zero (op := op) hb hb'
    by_cases h0 : b = 0
    · rw [if_pos (.inl h0)]
      have z : (sz op b == 0) = true := by simpa using hz.2 h0
      clear hz h0
      go_enter Tryd.func37, Tryd.ntmps37
      go_wp2_with (first
        | (go_at_call 60; refine (dsigned_any _ _).mono ?_; rintro e w1 ⟨rfl, rfl⟩; rw [K.out])
        | (go_at_call 61; refine (divSize_any _ _ (by omega) (by omega) _).mono ?_; rintro e w1 ⟨rfl, rfl⟩; rw [Z.out]))
      go_ret
      exact ⟨rfl, rfl⟩
    · have z : (sz op b == 0) = false := by rw [beq_eq_false_iff_ne]; exact fun e => h0 (hz.1 e)
      by_cases h1 : sz op a < sz op b
      · rw [if_pos (.inr h1)]
        have d1 : decide (sz op a < sz op b) = true := decide_eq_true h1
        clear hz h0
        go_enter Tryd.func37, Tryd.ntmps37
        go_wp2_with (first
          | (go_at_call 60; refine (dsigned_any _ _).mono ?_; rintro e w1 ⟨rfl, rfl⟩; rw [K.out])
          | (go_at_call 61; refine (divSize_any _ _ (by omega) (by omega) _).mono ?_; rintro e w1 ⟨rfl, rfl⟩; rw [Z.out]))
        go_ret
        exact ⟨rfl, rfl⟩
      · rw [if_neg (by omega)]
        have d1 : decide (sz op a < sz op b) = false := decide_eq_false h1
        clear hz h0
        go_enter Tryd.func37, Tryd.ntmps37
        go_wp2_with (first
          | (go_at_call 60; refine (dsigned_any _ _).mono ?_; rintro e w1 ⟨rfl, rfl⟩; rw [K.out])
          | (go_at_call 61; refine (divSize_any _ _ (by omega) (by omega) _).mono ?_; rintro e w1 ⟨rfl, rfl⟩; rw [Z.out])
          | (go_at_call 62; refine (bits_any _ (by omega) (by omega) _).mono ?_; rintro e w1 ⟨rfl, rfl⟩))
        go_ret
        exact ⟨ret_int (by omega), rfl⟩
  · have K := Lib.hid (show knB op = false from decide_eq_false hk)
    have E : tookW op a b = 0 := by unfold tookW; rw [if_neg hk]
    rw [E]
    clear E
    go_enter Tryd.func37, Tryd.ntmps37
    go_wp2_with (go_at_call 60; refine (dsigned_any _ _).mono ?_; rintro e w1 ⟨rfl, rfl⟩; rw [K.out])
    go_ret
    exact ⟨rfl, rfl⟩

end Go.Proofs.YtaokhegbfaokdaaDoor
