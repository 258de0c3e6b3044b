/- PLAIN MATHEMATICS of the operations of one cycle: no Go in sight. -/
import Derived.Test.YtkamljmopbocnaaDoorMath
namespace Go.Proofs.YtkamljmopbocnaaDoor
open Go Go.RowKit
set_option maxRecDepth 100000

/-- what a shift makes of a word -/
def aluSh (op a s : Int) : Int :=
  if op = 30 ∨ op = 25 then a * 2 ^ s.toNat % 4294967296
  else if op = 34 ∨ op = 26 then a / 2 ^ s.toNat
  else if op = 35 ∨ op = 27 then (wrap32 a / 2 ^ s.toNat) % 4294967296
  else 0

/-- what an operation makes of two words -/
def aluDo (op a b : Int) : Int :=
  if op = 28 ∨ op = 19 then (a + b) % 4294967296
  else if op = 29 then (a - b) % 4294967296
  else if op = 37 ∨ op = 24 then bits .and .u32 a b
  else if op = 36 ∨ op = 23 then bits .or .u32 a b
  else if op = 33 ∨ op = 22 then bits .xor .u32 a b
  else if op = 31 ∨ op = 20 then (bif decide (wrap32 a < wrap32 b) then 1 else 0)
  else if op = 32 ∨ op = 21 then (bif decide (a < b) then 1 else 0)
  else if op = 1 then b
  else aluSh op a (b % 32)

theorem and31 (b : Int) (hb : 0 ≤ b) (hb' : b < 4294967296) : bits .and .u32 b 31 = b % 32 := by
  obtain ⟨B, rfl⟩ := Int.eq_ofNat_of_zero_le hb
  rw [show (31 : Int) = ((31 : Nat) : Int) from rfl, u32_and_nat _ _ (by omega) (by omega)]
  rw [show (31 : Nat) = 2 ^ 5 - 1 from rfl, Nat.and_two_pow_sub_one_eq_mod]
  simp

theorem bits_nat {a b : Int} (ha : 0 ≤ a) (ha' : a < 4294967296) (hb : 0 ≤ b) (hb' : b < 4294967296) :
    bits .and .u32 a b = ((a.toNat &&& b.toNat : Nat) : Int) ∧ bits .or .u32 a b = ((a.toNat ||| b.toNat : Nat) : Int) ∧ bits .xor .u32 a b = ((a.toNat ^^^ b.toNat : Nat) : Int) :=
  ⟨u32_and a b ha ha' hb hb', u32_or a b ha ha' hb hb', u32_xor a b ha ha' hb hb'⟩

theorem bits_range {a b : Int} (ha : 0 ≤ a) (ha' : a < 4294967296) (hb : 0 ≤ b) (hb' : b < 4294967296) (op : BinOp) (h : op = .and ∨ op = .or ∨ op = .xor) :
    0 ≤ bits op .u32 a b ∧ bits op .u32 a b < 4294967296 := by
  have h1 : a.toNat &&& b.toNat < 2 ^ 32 := Nat.and_lt_two_pow _ (by omega)
  have h2 : a.toNat ||| b.toNat < 2 ^ 32 := Nat.or_lt_two_pow (by omega) (by omega)
  have h3 : a.toNat ^^^ b.toNat < 2 ^ 32 := Nat.xor_lt_two_pow (by omega) (by omega)
  rcases h with rfl | rfl | rfl
  · rw [u32_and a b ha ha' hb hb']; omega
  · rw [u32_or a b ha ha' hb hb']; omega
  · rw [u32_xor a b ha ha' hb hb']; omega

theorem bif01 (c : Bool) : (0 : Int) ≤ (bif c then 1 else 0) ∧ (bif c then 1 else 0 : Int) < 4294967296 := by cases c <;> simp

theorem shr_range {a : Int} (n : Nat) (ha : 0 ≤ a) (ha' : a < 4294967296) : 0 ≤ a / 2 ^ n ∧ a / 2 ^ n < 4294967296 := by
  have hp : (0 : Int) < 2 ^ n := Int.pow_pos (by decide)
  refine ⟨Int.ediv_nonneg ha (by omega), ?_⟩
  have := Int.ediv_le_self (2 ^ n) ha
  omega

theorem aluDo_range {a b : Int} (op : Int) (ha : 0 ≤ a) (ha' : a < 4294967296) (hb : 0 ≤ b) (hb' : b < 4294967296) : 0 ≤ aluDo op a b ∧ aluDo op a b < 4294967296 := by
  unfold aluDo aluSh
  repeat' (split)
  all_goals first | exact bits_range ha ha' hb hb' _ (by simp) | exact bif01 _ | exact shr_range _ ha ha' | omega

/-- what a product makes of two words -/
def mulW (op a b : Int) : Int :=
  if op = 38 then a * b % 4294967296
  else if op = 39 then wrap32 a * wrap32 b / 4294967296 % 4294967296
  else if op = 40 then wrap32 a * b / 4294967296 % 4294967296
  else if op = 41 then a * b / 4294967296 % 4294967296
  else 0

/-- whether a branch goes -/
def takenB (op a b : Int) : Bool :=
  if op = 5 then decide (a = b)
  else if op = 6 then !decide (a = b)
  else if op = 7 then decide (wrap32 a < wrap32 b)
  else if op = 8 then decide (wrap32 b ≤ wrap32 a)
  else if op = 9 then decide (a < b)
  else if op = 10 then decide (b ≤ a)
  else false

/-- what comes behind a jump -/
def nextW (op imm pc a b : Int) : Int :=
  if op = 3 ∨ takenB op a b = true then (pc + imm) % 4294967296
  else if op = 4 then (a + imm) % 4294967296 - (a + imm) % 4294967296 % 2
  else (pc + 4) % 4294967296

theorem beq_dec (a b : Int) : (a == b) = decide (a = b) := by by_cases h : a = b <;> simp [h]
theorem bne_dec (a b : Int) : (a != b) = !decide (a = b) := by by_cases h : a = b <;> simp [h]
theorem nle_dec (a b : Int) : (!decide (b ≤ a)) = decide (a < b) := by by_cases h : a < b <;> simp [h] <;> omega
theorem nlt_dec (a b : Int) : (!decide (a < b)) = decide (b ≤ a) := by by_cases h : a < b <;> simp [h] <;> omega

theorem wrap32_in (a : Int) : -2147483648 ≤ wrap32 a ∧ wrap32 a ≤ 2147483647 := by unfold wrap32; omega
theorem wrap64_small {a : Int} (h : -9223372036854775808 ≤ a) (h' : a ≤ 9223372036854775807) : wrap64 a = a := by unfold wrap64; omega
theorem wrap64_32 (a : Int) : wrap64 (wrap32 a) = wrap32 a := wrap64_small (by have := wrap32_in a; omega) (by have := wrap32_in a; omega)
theorem hi_of (p : Int) : IntKind.u64.wrap (wrap64 p) / 4294967296 % 4294967296 = p / 4294967296 % 4294967296 := by
  have e : IntKind.u64.wrap (wrap64 p) = wrap64 p % 18446744073709551616 := by simp [IntKind.wrap, IntKind.bits, IntKind.signed]
  rw [e]
  unfold wrap64
  omega
theorem u64_wrap (p : Int) : IntKind.u64.wrap p = p % 18446744073709551616 := by simp [IntKind.wrap, IntKind.bits, IntKind.signed]
theorem hi_39 (a b : Int) : IntKind.u64.wrap (wrap64 (wrap64 (wrap32 a) * wrap64 (wrap32 b))) / 4294967296 % 4294967296 = wrap32 a * wrap32 b / 4294967296 % 4294967296 := by
  rw [wrap64_32, wrap64_32, hi_of]
theorem hi_40 (a b : Int) (hb : 0 ≤ b) (hb' : b < 4294967296) : IntKind.u64.wrap (wrap64 (wrap64 (wrap32 a) * wrap64 b)) / 4294967296 % 4294967296 = wrap32 a * b / 4294967296 % 4294967296 := by
  rw [wrap64_32, wrap64_small (a := b) (by omega) (by omega), hi_of]
theorem hi_41 (a b : Int) (ha : 0 ≤ a) (ha' : a < 4294967296) (hb : 0 ≤ b) (hb' : b < 4294967296) :
    IntKind.u64.wrap (IntKind.u64.wrap a * IntKind.u64.wrap b) / 4294967296 % 4294967296 = a * b / 4294967296 % 4294967296 := by
  rw [u64_wrap a, u64_wrap b, Int.emod_eq_of_lt ha (by omega), Int.emod_eq_of_lt hb (by omega), u64_wrap]
  generalize a * b = p
  omega

theorem taken4 (a b : Int) : takenB 4 a b = false := by simp [takenB]
theorem andNot1 (c : Int) : bits .andNot .u32 (c % 4294967296) 1 = c % 4294967296 - c % 2 := by
  obtain ⟨x, hx⟩ := Int.eq_ofNat_of_zero_le (show 0 ≤ c % 4294967296 by omega)
  have h2 : c % 2 = (x : Int) % 2 := by omega
  rw [h2, hx, show (1 : Int) = ((1 : Nat) : Int) from rfl, u32_andNot_nat _ _ (by omega) (by omega)]
  have hx32 : x < 4294967296 := by omega
  have e : x &&& (4294967295 - 1) = x - x % 2 := by
    refine Nat.eq_of_testBit_eq fun k => ?_
    rw [Nat.testBit_and, testBit_not32 _ _ (by omega)]
    have e2 : x - x % 2 = 2 * (x / 2) := by omega
    rw [e2]
    cases k with
    | zero => simp [Nat.testBit_zero]
    | succ k =>
      rw [Nat.testBit_succ, Nat.testBit_succ, Nat.testBit_succ]
      rw [show 2 * (x / 2) / 2 = x / 2 by omega, show (1 : Nat) / 2 = 0 from rfl]
      by_cases hk : k + 1 < 32
      · simp [hk]
      · have : x.testBit (k + 1) = false := testBit_high hx32 (by omega)
        rw [Nat.testBit_succ] at this
        simp [this]
  rw [e]
  omega

/-- bits moved up by so many places (down, if below 0), others filled -/
def mvb (by_ : Int) (c : Bool) (a : Nat) (k : Nat) : Bool := bif decide ((k : Int) - by_ < 0) || decide (31 < (k : Int) - by_) then c else a.testBit ((k : Int) - by_).toNat

theorem mv_shl (a s : Nat) (_hs : s ≤ 31) : ((mk (mvb s false a) 32 : Nat) : Int) = (a : Int) * 2 ^ s % 4294967296 := by
  have e : (a : Int) * 2 ^ s % 4294967296 = ((a * 2 ^ s % 4294967296 : Nat) : Int) := by simp
  rw [e]
  refine Int.natCast_inj.2 (eq_mk fun k => ?_).symm
  rw [testBit_shl32]
  unfold mvb
  by_cases hk : k < 32
  · by_cases h1 : s ≤ k
    · have d1 : decide ((k : Int) - (s : Int) < 0) = false := decide_eq_false (by omega)
      have d2 : decide (31 < (k : Int) - (s : Int)) = false := decide_eq_false (by omega)
      rw [d1, d2, show ((k : Int) - (s : Int)).toNat = k - s by omega]
      simp [h1]
    · have d1 : decide ((k : Int) - (s : Int) < 0) = true := decide_eq_true (by omega)
      rw [d1]
      simp [h1]
  · simp [hk]

theorem mv_shr (a s : Nat) (ha : a < 4294967296) : ((mk (mvb (-(s : Int)) false a) 32 : Nat) : Int) = (a : Int) / 2 ^ s := by
  have e : (a : Int) / 2 ^ s = ((a / 2 ^ s : Nat) : Int) := by simp
  rw [e]
  refine Int.natCast_inj.2 (eq_mk fun k => ?_).symm
  rw [Nat.testBit_div_two_pow]
  unfold mvb
  have d1 : decide ((k : Int) - -(s : Int) < 0) = false := decide_eq_false (by omega)
  rw [d1, show ((k : Int) - -(s : Int)).toNat = k + s by omega]
  by_cases hk : k + s < 32
  · have d2 : decide (31 < (k : Int) - -(s : Int)) = false := decide_eq_false (by omega)
    rw [d2]
    simp [show k < 32 by omega]
  · have d2 : decide (31 < (k : Int) - -(s : Int)) = true := decide_eq_true (by omega)
    rw [d2, testBit_high ha (by omega)]
    simp

theorem mv_sra (a s : Nat) (hs : s ≤ 31) (ha : a < 4294967296) : ((mk (mvb (-(s : Int)) (a.testBit 31) a) 32 : Nat) : Int) = wrap32 (a : Int) / 2 ^ s % 4294967296 := by
  have hb : a.testBit 31 = decide (2147483648 ≤ a) := by
    by_cases hc : 2147483648 ≤ a
    · rw [decide_eq_true hc]
      exact Nat.testBit_of_two_pow_le_and_two_pow_add_one_gt hc ha
    · rw [decide_eq_false hc]
      exact Nat.testBit_lt_two_pow (by omega)
  have hp2 : ((2 : Int) ^ s) = ((2 ^ s : Nat) : Int) := by simp
  have hs0 : 0 < 2 ^ s := Nat.two_pow_pos s
  have hP : 2 ^ (32 - s) * 2 ^ s = 4294967296 := by rw [← Nat.pow_add, show 32 - s + s = 32 by omega]
  have hq : a / 2 ^ s < 2 ^ (32 - s) := by
    rw [Nat.div_lt_iff_lt_mul hs0, hP]
    exact ha
  by_cases hc : 2147483648 ≤ a
  · have hw : wrap32 (a : Int) = (a : Int) + (-((2 ^ (32 - s) : Nat) : Int)) * ((2 ^ s : Nat) : Int) := by
      rw [Int.neg_mul, ← Int.natCast_mul, hP]
      unfold wrap32
      omega
    have e : wrap32 (a : Int) / 2 ^ s % 4294967296 = ((2 ^ (32 - s) * (2 ^ s - 1) + a / 2 ^ s : Nat) : Int) := by
      rw [hp2, hw, Int.add_mul_ediv_right _ _ (by omega)]
      have e4 : 2 ^ (32 - s) * (2 ^ s - 1) = 4294967296 - 2 ^ (32 - s) := by rw [Nat.mul_sub, hP]; simp
      have hle : 2 ^ (32 - s) ≤ 4294967296 := Nat.pow_le_pow_right (n := 2) (by omega) (show 32 - s ≤ 32 by omega)
      have e5 : (a : Int) / ((2 ^ s : Nat) : Int) = ((a / 2 ^ s : Nat) : Int) := by simp
      rw [e5, e4]
      clear hw e5 e4 hP hp2 hs0
      generalize 2 ^ (32 - s) = M at *
      generalize a / 2 ^ s = D at *
      omega
    rw [e]
    refine Int.natCast_inj.2 (eq_mk fun k => ?_).symm
    rw [Nat.testBit_two_pow_mul_add _ hq, hb, decide_eq_true hc]
    unfold mvb
    have d1 : decide ((k : Int) - -(s : Int) < 0) = false := decide_eq_false (by omega)
    rw [d1, show ((k : Int) - -(s : Int)).toNat = k + s by omega]
    by_cases hk : k + s < 32
    · have d2 : decide (31 < (k : Int) - -(s : Int)) = false := decide_eq_false (by omega)
      rw [d2, if_pos (by omega), Nat.testBit_div_two_pow]
      simp [show k < 32 by omega]
    · have d2 : decide (31 < (k : Int) - -(s : Int)) = true := decide_eq_true (by omega)
      rw [d2, if_neg (by omega), Nat.testBit_two_pow_sub_one]
      simp only [Bool.false_or, cond_true, Bool.and_true]
      rw [decide_eq_decide]
      omega
  · have hw : wrap32 (a : Int) = (a : Int) := by unfold wrap32; omega
    rw [hb, decide_eq_false hc, hw, mv_shr a s ha]
    have e5 : (a : Int) / 2 ^ s = ((a / 2 ^ s : Nat) : Int) := by simp
    have hd := Nat.div_le_self a (2 ^ s)
    rw [e5]
    clear hw e5 hP hp2 hs0 hq
    generalize a / 2 ^ s = D at *
    omega

theorem bo_and (a b : Nat) (ha : a < 4294967296) (hb : b < 4294967296) : ((mk (fun k => a.testBit k && b.testBit k) 32 : Nat) : Int) = bits .and .u32 a b := by
  rw [u32_and_nat a b ha hb]
  refine Int.natCast_inj.2 (eq_mk fun k => ?_).symm
  rw [Nat.testBit_and]
  by_cases hk : k < 32
  · simp [hk]
  · simp [hk, testBit_high ha (show 32 ≤ k by omega)]
theorem bo_or (a b : Nat) (ha : a < 4294967296) (hb : b < 4294967296) : ((mk (fun k => a.testBit k || b.testBit k) 32 : Nat) : Int) = bits .or .u32 a b := by
  rw [u32_or_nat a b ha hb]
  refine Int.natCast_inj.2 (eq_mk fun k => ?_).symm
  rw [Nat.testBit_or]
  by_cases hk : k < 32
  · simp [hk]
  · simp [hk, testBit_high ha (show 32 ≤ k by omega), testBit_high hb (show 32 ≤ k by omega)]
theorem bo_xor (a b : Nat) (ha : a < 4294967296) (hb : b < 4294967296) : ((mk (fun k => a.testBit k ^^ b.testBit k) 32 : Nat) : Int) = bits .xor .u32 a b := by
  rw [u32_xor_nat a b ha hb]
  refine Int.natCast_inj.2 (eq_mk fun k => ?_).symm
  rw [Nat.testBit_xor]
  by_cases hk : k < 32
  · simp [hk]
  · simp [hk, testBit_high ha (show 32 ≤ k by omega), testBit_high hb (show 32 ≤ k by omega)]

theorem prod_bound {x y : Int} (hx : 0 ≤ x) (hx' : x ≤ 65535) (hy : 0 ≤ y) (hy' : y ≤ 65535) : 0 ≤ x * y ∧ x * y ≤ 4294836225 := by
  refine ⟨Int.mul_nonneg hx hy, ?_⟩
  have h1 : x * y ≤ 65535 * y := Int.mul_le_mul_of_nonneg_right hx' hy
  omega
theorem prod_bounds (a b : Int) (ha : 0 ≤ a) (ha' : a < 4294967296) (hb : 0 ≤ b) (hb' : b < 4294967296) :
    (0 ≤ a % 65536 * (b % 65536) ∧ a % 65536 * (b % 65536) ≤ 4294836225) ∧ (0 ≤ a % 65536 * (b / 65536) ∧ a % 65536 * (b / 65536) ≤ 4294836225) ∧
    (0 ≤ a / 65536 * (b % 65536) ∧ a / 65536 * (b % 65536) ≤ 4294836225) ∧ (0 ≤ a / 65536 * (b / 65536) ∧ a / 65536 * (b / 65536) ≤ 4294836225) :=
  ⟨prod_bound (by omega) (by omega) (by omega) (by omega), prod_bound (by omega) (by omega) (by omega) (by omega), prod_bound (by omega) (by omega) (by omega) (by omega), prod_bound (by omega) (by omega) (by omega) (by omega)⟩
theorem prod_halves (a b : Int) : a * b = (a / 65536 * (b / 65536)) * 4294967296 + (a % 65536 * (b / 65536) + a / 65536 * (b % 65536)) * 65536 + a % 65536 * (b % 65536) := by
  have h1 : a = a / 65536 * 65536 + a % 65536 := by omega
  have h2 : b = b / 65536 * 65536 + b % 65536 := by omega
  generalize a / 65536 = u at *
  generalize a % 65536 = v at *
  generalize b / 65536 = x at *
  generalize b % 65536 = y at *
  subst h1 h2
  simp only [Int.mul_add, Int.add_mul]
  rw [show u * 65536 * (x * 65536) = u * x * 4294967296 by rw [show (4294967296 : Int) = 65536 * 65536 from rfl]; simp only [Int.mul_assoc, Int.mul_left_comm, Int.mul_comm]]
  rw [show u * 65536 * y = u * y * 65536 by simp only [Int.mul_assoc, Int.mul_comm y]]
  rw [show v * (x * 65536) = v * x * 65536 by simp only [Int.mul_assoc]]
  omega
theorem high_form (a b : Int) (ha : 0 ≤ a) (ha' : a < 4294967296) (hb : 0 ≤ b) (hb' : b < 4294967296) :
    (a / 65536 * (b / 65536) + (a % 65536 * (b / 65536) + a % 65536 * (b % 65536) / 65536) / 65536 + (a / 65536 * (b % 65536) + (a % 65536 * (b / 65536) + a % 65536 * (b % 65536) / 65536) % 65536) / 65536) % 4294967296 = a * b / 4294967296 % 4294967296 := by
  have h := prod_bounds a b ha ha' hb hb'
  rw [prod_halves a b]
  generalize a / 65536 * (b / 65536) = s at *
  generalize a % 65536 * (b / 65536) = q at *
  generalize a / 65536 * (b % 65536) = r at *
  generalize a % 65536 * (b % 65536) = p at *
  omega
theorem prod_lt (a b : Int) (ha : 0 ≤ a) (ha' : a < 4294967296) (hb : 0 ≤ b) (hb' : b < 4294967296) : 0 ≤ a * b / 4294967296 ∧ a * b / 4294967296 < 4294967296 := by
  have h0 := Int.mul_nonneg ha hb
  have h1 : a * b ≤ 4294967295 * b := Int.mul_le_mul_of_nonneg_right (by omega) hb
  omega

theorem mv_shl' (a s : Int) (ha : 0 ≤ a) (h0 : 0 ≤ s) (h1 : s ≤ 31) : ((mk (mvb s false a.toNat) 32 : Nat) : Int) = a * 2 ^ s.toNat % 4294967296 := by
  obtain ⟨A, rfl⟩ := Int.eq_ofNat_of_zero_le ha
  obtain ⟨S, rfl⟩ := Int.eq_ofNat_of_zero_le h0
  exact mv_shl A S (by omega)
theorem mv_shr' (a s : Int) (ha : 0 ≤ a) (ha' : a < 4294967296) (h0 : 0 ≤ s) : ((mk (mvb (-s) false a.toNat) 32 : Nat) : Int) = a / 2 ^ s.toNat := by
  obtain ⟨A, rfl⟩ := Int.eq_ofNat_of_zero_le ha
  obtain ⟨S, rfl⟩ := Int.eq_ofNat_of_zero_le h0
  exact mv_shr A S (by omega)
theorem mv_sra' (a s : Int) (ha : 0 ≤ a) (ha' : a < 4294967296) (h0 : 0 ≤ s) (h1 : s ≤ 31) : ((mk (mvb (-s) (a.toNat.testBit 31) a.toNat) 32 : Nat) : Int) = wrap32 a / 2 ^ s.toNat % 4294967296 := by
  obtain ⟨A, rfl⟩ := Int.eq_ofNat_of_zero_le ha
  obtain ⟨S, rfl⟩ := Int.eq_ofNat_of_zero_le h0
  exact mv_sra A S (by omega) (by omega)
theorem bo_and' (a b : Int) (ha : 0 ≤ a) (ha' : a < 4294967296) (hb : 0 ≤ b) (hb' : b < 4294967296) : ((mk (fun k => a.toNat.testBit k && b.toNat.testBit k) 32 : Nat) : Int) = bits .and .u32 a b := by
  obtain ⟨A, rfl⟩ := Int.eq_ofNat_of_zero_le ha
  obtain ⟨B, rfl⟩ := Int.eq_ofNat_of_zero_le hb
  exact bo_and A B (by omega) (by omega)
theorem bo_or' (a b : Int) (ha : 0 ≤ a) (ha' : a < 4294967296) (hb : 0 ≤ b) (hb' : b < 4294967296) : ((mk (fun k => a.toNat.testBit k || b.toNat.testBit k) 32 : Nat) : Int) = bits .or .u32 a b := by
  obtain ⟨A, rfl⟩ := Int.eq_ofNat_of_zero_le ha
  obtain ⟨B, rfl⟩ := Int.eq_ofNat_of_zero_le hb
  exact bo_or A B (by omega) (by omega)
theorem bo_xor' (a b : Int) (ha : 0 ≤ a) (ha' : a < 4294967296) (hb : 0 ≤ b) (hb' : b < 4294967296) : ((mk (fun k => a.toNat.testBit k ^^ b.toNat.testBit k) 32 : Nat) : Int) = bits .xor .u32 a b := by
  obtain ⟨A, rfl⟩ := Int.eq_ofNat_of_zero_le ha
  obtain ⟨B, rfl⟩ := Int.eq_ofNat_of_zero_le hb
  exact bo_xor A B (by omega) (by omega)

theorem wrap32_cases (a : Int) (ha : 0 ≤ a) (ha' : a < 4294967296) : (2147483648 ≤ a ∧ wrap32 a = a - 4294967296) ∨ (a < 2147483648 ∧ wrap32 a = a) := by
  unfold wrap32; omega
theorem mul40 (a b : Int) (ha : 0 ≤ a) (ha' : a < 4294967296) : wrap32 a * b / 4294967296 = a * b / 4294967296 - (if 2147483648 ≤ a then b else 0) := by
  rcases wrap32_cases a ha ha' with ⟨h, e⟩ | ⟨h, e⟩
  · rw [e, if_pos h, Int.sub_mul]
    generalize a * b = p
    omega
  · rw [e, if_neg (by omega)]
    omega
theorem mul39 (a b : Int) (ha : 0 ≤ a) (ha' : a < 4294967296) (hb : 0 ≤ b) (hb' : b < 4294967296) :
    wrap32 a * wrap32 b / 4294967296 % 4294967296 = (a * b / 4294967296 - (if 2147483648 ≤ a then b else 0) - (if 2147483648 ≤ b then a else 0)) % 4294967296 := by
  rcases wrap32_cases b hb hb' with ⟨h, e⟩ | ⟨h, e⟩
  · have h1 : wrap32 a * wrap32 b = wrap32 a * b - wrap32 a * 4294967296 := by rw [e, Int.mul_sub]
    have h2 : wrap32 a * wrap32 b / 4294967296 = wrap32 a * b / 4294967296 - wrap32 a := by
      rw [h1]
      generalize wrap32 a * b = p
      omega
    rw [h2, mul40 a b ha ha', if_pos h]
    rcases wrap32_cases a ha ha' with ⟨h', e'⟩ | ⟨h', e'⟩ <;> omega
  · rw [e, mul40 a b ha ha', if_neg (show ¬ 2147483648 ≤ b by omega)]
    omega

theorem mul38 (p : Int) : (IntKind.u64.wrap p).tmod 4294967296 % 4294967296 = p % 4294967296 := by
  rw [u64_wrap, Int.tmod_eq_emod_of_nonneg (by omega)]
  omega

theorem or64 (x y : Int) (hx : 0 ≤ x) (hx' : x < 4294967296) (hy : 0 ≤ y) (hy' : y < 4294967296) : bits .or .u64 (x * 4294967296) y = x * 4294967296 + y := by
  rw [u64_or _ _ (by omega) (by omega) hy (by omega)]
  obtain ⟨X, rfl⟩ := Int.eq_ofNat_of_zero_le hx
  obtain ⟨Y, rfl⟩ := Int.eq_ofNat_of_zero_le hy
  have e : (((X : Int) * 4294967296).toNat ||| ((Y : Nat) : Int).toNat) = X * 4294967296 + Y := by
    rw [show ((X : Int) * 4294967296).toNat = 2 ^ 32 * X by omega, Int.toNat_natCast, ← Nat.two_pow_add_eq_or_of_lt (by omega)]
    omega
  rw [e]
  omega
theorem low_same (a b : Int) (ha : 0 ≤ a) (ha' : a < 4294967296) (hb : 0 ≤ b) (hb' : b < 4294967296) : a * b % 4294967296 = wrap32 a * wrap32 b % 4294967296 := by
  rcases wrap32_cases a ha ha' with ⟨_, e⟩ | ⟨_, e⟩ <;> rcases wrap32_cases b hb hb' with ⟨_, e2⟩ | ⟨_, e2⟩ <;> rw [e, e2]
  · rw [Int.sub_mul, Int.mul_sub]
    generalize a * b = p
    omega
  · rw [Int.sub_mul]
    generalize a * b = p
    omega
  · rw [Int.mul_sub]
    generalize a * b = p
    omega
theorem signed_prod (a b : Int) : -4611686018427387904 ≤ wrap32 a * wrap32 b ∧ wrap32 a * wrap32 b ≤ 4611686018427387904 := by
  have h1 := wrap32_in a
  have h2 := wrap32_in b
  generalize wrap32 a = x at *
  generalize wrap32 b = y at *
  have hx : x.natAbs ≤ 2147483648 := by omega
  have hy : y.natAbs ≤ 2147483648 := by omega
  have h : (x * y).natAbs ≤ 2147483648 * 2147483648 := by rw [Int.natAbs_mul]; exact Nat.mul_le_mul hx hy
  omega

end Go.Proofs.YtkamljmopbocnaaDoor
