/-
  PLAIN MATHEMATICS of words: numbers made of bits (mk), fields, fields that are set, signs that are continued. No Go in sight.
-/
import Derived.Laws.BitsAllLaws
import Derived.RowKit
namespace Go.Proofs.YtkamljmopbocnaaDoor
open Go Go.RowKit
set_option maxRecDepth 100000

/-- the number whose lowest n bits are f 0, f 1 .. -/
def mk (f : Nat → Bool) : Nat → Nat
  | 0 => 0
  | n + 1 => (f 0).toNat + 2 * mk (fun k => f (k + 1)) n

theorem mk_half (f : Nat → Bool) (n : Nat) : mk f (n + 1) / 2 = mk (fun k => f (k + 1)) n := by
  have : (f 0).toNat ≤ 1 := Bool.toNat_le _
  show ((f 0).toNat + 2 * mk (fun k => f (k + 1)) n) / 2 = _
  omega

theorem testBit_mk : ∀ (n : Nat) (f : Nat → Bool) (k : Nat), (mk f n).testBit k = (decide (k < n) && f k)
  | 0, f, k => by simp [mk]
  | n + 1, f, 0 => by
    rw [Nat.testBit_zero]
    show decide (((f 0).toNat + 2 * mk (fun k => f (k + 1)) n) % 2 = 1) = _
    cases f 0 <;> simp <;> omega
  | n + 1, f, k + 1 => by
    rw [Nat.testBit_succ, mk_half, testBit_mk]
    simp

theorem mk_lt : ∀ (n : Nat) (f : Nat → Bool), mk f n < 2 ^ n
  | 0, f => by simp [mk]
  | n + 1, f => by
    have h := mk_lt n (fun k => f (k + 1))
    have : (f 0).toNat ≤ 1 := Bool.toNat_le _
    show (f 0).toNat + 2 * mk (fun k => f (k + 1)) n < 2 ^ (n + 1)
    omega

theorem mk_lt32 {n : Nat} (f : Nat → Bool) (h : n ≤ 32) : mk f n < 4294967296 :=
  Nat.lt_of_lt_of_le (mk_lt n f) (Nat.pow_le_pow_right (by omega) h : 2 ^ n ≤ 2 ^ 32)

theorem eq_mk {a n : Nat} {f : Nat → Bool} (h : ∀ k, a.testBit k = (decide (k < n) && f k)) : a = mk f n :=
  Nat.eq_of_testBit_eq fun k => by rw [h, testBit_mk]

theorem mk_congr {n : Nat} {f g : Nat → Bool} (h : ∀ k, k < n → f k = g k) : mk f n = mk g n :=
  Nat.eq_of_testBit_eq fun k => by
    rw [testBit_mk, testBit_mk]
    by_cases hk : k < n
    · rw [h k hk]
    · simp [hk]

theorem testBit_high {a k : Nat} (h : a < 4294967296) (hk : 32 ≤ k) : a.testBit k = false :=
  Nat.testBit_lt_two_pow (Nat.lt_of_lt_of_le h (Nat.pow_le_pow_right (by omega) hk : 2 ^ 32 ≤ 2 ^ k))

/-- what a row of bits makes, from its end on, as words wrap -/
def ofL : List Nat → Nat
  | [] => 0
  | b :: r => (2 * ofL r % 4294967296 + b) % 4294967296

theorem ofL_lt : ∀ l, ofL l < 4294967296
  | [] => by simp [ofL]
  | b :: r => by simp only [ofL]; omega

theorem ofL_mk : ∀ (n : Nat) (f : Nat → Bool), n ≤ 32 → ofL ((List.range n).map fun k => (f k).toNat) = mk f n
  | 0, f, _ => by simp [ofL, mk]
  | n + 1, f, h => by
    have e : (List.range (n + 1)).map (fun k => (f k).toNat) = (f 0).toNat :: (List.range n).map (fun k => (f (k + 1)).toNat) := by
      rw [List.range_succ_eq_map]; simp [Function.comp_def]
    have ih := ofL_mk n (fun k => f (k + 1)) (by omega)
    have hl := mk_lt32 (n := n + 1) f h
    have hb : (f 0).toNat ≤ 1 := Bool.toNat_le _
    rw [e]
    simp only [ofL, ih]
    show _ = (f 0).toNat + 2 * mk (fun k => f (k + 1)) n
    have hl' : (f 0).toNat + 2 * mk (fun k => f (k + 1)) n < 4294967296 := hl
    omega

/-- bit k of a -/
theorem bit_nat (a k : Nat) : a / 2 ^ k % 2 = (a.testBit k).toNat := by
  rw [Nat.testBit_eq_decide_div_mod_eq]
  have := Nat.mod_two_eq_zero_or_one (a / 2 ^ k)
  rcases this with h | h <;> simp [h]

theorem bit_form (a i : Int) (ha : 0 ≤ a) (_hi : 0 ≤ i) : (a / (2 : Int) ^ i.toNat).tmod 2 = (((a.toNat.testBit i.toNat).toNat : Nat) : Int) := by
  obtain ⟨m, rfl⟩ := Int.eq_ofNat_of_zero_le ha
  rw [← bit_nat]
  rw [Int.tmod_eq_emod_of_nonneg (Int.ediv_nonneg ha (Int.pow_nonneg (by decide)))]
  simp

/-- may a field be? -/
def fitsB (i n : Int) : Bool := decide (0 ≤ i ∧ i ≤ 31 ∧ 1 ≤ n ∧ n ≤ 32 - i)
theorem fitsB_iff {i n : Int} : fitsB i n = true ↔ 0 ≤ i ∧ i ≤ 31 ∧ 1 ≤ n ∧ n ≤ 32 - i := by simp [fitsB]
theorem fitsB_no {i n : Int} : fitsB i n = false ↔ ¬ (0 ≤ i ∧ i ≤ 31 ∧ 1 ≤ n ∧ n ≤ 32 - i) := by simp [fitsB]

def fld (a i n : Int) : Nat := bif fitsB i n then mk (fun k => a.toNat.testBit (i.toNat + k)) n.toNat else 0
def stb (i n : Nat) (a v : Nat) (k : Nat) : Bool := bif decide (i ≤ k) && decide (k < i + n) then v.testBit (k - i) else a.testBit k
def stw (a i n v : Int) : Nat := bif fitsB i n then mk (stb i.toNat n.toNat a.toNat v.toNat) 32 else a.toNat
def sxb (n : Nat) (a : Nat) (k : Nat) : Bool := bif decide (k < n) then a.testBit k else a.testBit (n - 1)
def sxt (a n : Int) : Nat := bif decide (1 ≤ n ∧ n ≤ 32) then mk (sxb n.toNat a.toNat) 32 else a.toNat

theorem fld_lt (a i n : Int) : fld a i n < 4294967296 := by
  unfold fld
  cases h : fitsB i n
  · simp
  · have := fitsB_iff.1 h
    exact mk_lt32 _ (by omega)
theorem stw_lt (a i n v : Int) (ha : a < 4294967296) : stw a i n v < 4294967296 := by
  unfold stw
  cases fitsB i n
  · simp only [cond_false]; omega
  · exact mk_lt32 _ (by omega)
theorem sxt_lt (a n : Int) (ha : a < 4294967296) : sxt a n < 4294967296 := by
  unfold sxt
  cases decide (1 ≤ n ∧ n ≤ 32)
  · simp only [cond_false]; omega
  · exact mk_lt32 _ (by omega)

theorem pow_cast (n : Int) : ((2 : Int) ^ n.toNat) = ((2 ^ n.toNat : Nat) : Int) := by simp

/-- the n lowest bits -/
def msk (n : Int) : Nat := 2 ^ n.toNat - 1
/-- the walk's form of a mask -/
theorem mask_form (n : Int) (h0 : 0 ≤ n) (h1 : n ≤ 32) : ((2 : Int) ^ n.toNat % 4294967296 - 1) % 4294967296 = ((msk n : Nat) : Int) := by
  unfold msk
  obtain ⟨m, rfl⟩ := Int.eq_ofNat_of_zero_le h0
  have hm : m ≤ 32 := by omega
  have hp : 2 ^ m ≤ 2 ^ 32 := Nat.pow_le_pow_right (by omega) hm
  have h2 : 0 < 2 ^ m := Nat.two_pow_pos m
  rw [pow_cast]
  simp only [Int.toNat_natCast]
  rcases Nat.lt_or_ge m 32 with h | h
  · have hp' : 2 ^ m ≤ 2 ^ 31 := Nat.pow_le_pow_right (by omega) (by omega)
    omega
  · have : m = 32 := by omega
    subst this
    decide

theorem shr_cast (a i : Int) (ha : 0 ≤ a) (_hi : 0 ≤ i) : a / (2 : Int) ^ i.toNat = ((a.toNat / 2 ^ i.toNat : Nat) : Int) := by
  obtain ⟨m, rfl⟩ := Int.eq_ofNat_of_zero_le ha
  simp

theorem shr_lt (a i : Nat) (h : a < 4294967296) : a / 2 ^ i < 4294967296 := Nat.lt_of_le_of_lt (Nat.div_le_self _ _) h

theorem shl_cast (a i : Int) (ha : 0 ≤ a) : a * (2 : Int) ^ i.toNat % 4294967296 = ((a.toNat * 2 ^ i.toNat % 4294967296 : Nat) : Int) := by
  obtain ⟨m, rfl⟩ := Int.eq_ofNat_of_zero_le ha
  simp

/-- the field, as the program reckons it -/
theorem fld_form (a i n : Int) (ha : 0 ≤ a) (ha' : a < 4294967296) (h : fitsB i n = true) :
    bits .and .u32 (a / (2 : Int) ^ i.toNat) ((msk n : Nat) : Int) = ((fld a i n : Nat) : Int) := by
  unfold msk
  have hf := fitsB_iff.1 h
  have hm : (2 : Nat) ^ n.toNat ≤ 2 ^ 32 := Nat.pow_le_pow_right (by omega) (by omega)
  have h2 : 0 < 2 ^ n.toNat := Nat.two_pow_pos _
  rw [shr_cast a i ha (by omega)]
  rw [u32_and_nat _ _ (shr_lt _ _ (by omega)) (by omega)]
  refine Int.natCast_inj.2 ?_
  unfold fld
  rw [h, cond_true]
  refine eq_mk fun k => ?_
  rw [Nat.testBit_and, Nat.testBit_two_pow_sub_one, Nat.testBit_div_two_pow, Bool.and_comm, Nat.add_comm]

theorem testBit_shl32 (a i k : Nat) : (a * 2 ^ i % 4294967296).testBit k = (decide (k < 32) && decide (i ≤ k) && a.testBit (k - i)) := by
  rw [show (4294967296 : Nat) = 2 ^ 32 from rfl, Nat.testBit_mod_two_pow, Nat.mul_comm, Nat.testBit_two_pow_mul]
  simp [Bool.and_assoc]

theorem testBit_not32 (b k : Nat) (hb : b < 4294967296) : (4294967295 - b).testBit k = (decide (k < 32) && !b.testBit k) := by
  have := Nat.testBit_two_pow_sub_succ (x := b) (n := 32) (by simpa using hb) k
  rw [show (2 : Nat) ^ 32 - (b + 1) = 4294967295 - b from by omega] at this
  exact this

theorem stw_form (a i n v : Int) (ha : 0 ≤ a) (ha' : a < 4294967296) (hv : 0 ≤ v) (_hv' : v < 4294967296) (h : fitsB i n = true) :
    bits .or .u32 (bits .andNot .u32 a (((msk n : Nat) : Int) * (2 : Int) ^ i.toNat % 4294967296))
      (bits .and .u32 (v * (2 : Int) ^ i.toNat % 4294967296) (((msk n : Nat) : Int) * (2 : Int) ^ i.toNat % 4294967296)) = ((stw a i n v : Nat) : Int) := by
  unfold msk
  have hf := fitsB_iff.1 h
  have hm : (2 : Nat) ^ n.toNat ≤ 2 ^ 32 := Nat.pow_le_pow_right (by omega) (by omega)
  have h2 : 0 < 2 ^ n.toNat := Nat.two_pow_pos _
  rw [shl_cast _ i (by omega), shl_cast v i hv]
  obtain ⟨A, rfl⟩ := Int.eq_ofNat_of_zero_le ha
  simp only [Int.toNat_natCast]
  rw [u32_andNot_nat _ _ (by omega) (Nat.mod_lt _ (by omega)), u32_and_nat _ _ (Nat.mod_lt _ (by omega)) (Nat.mod_lt _ (by omega))]
  have l1 : A &&& (4294967295 - (2 ^ n.toNat - 1) * 2 ^ i.toNat % 4294967296) < 2 ^ 32 := Nat.and_lt_two_pow _ (by omega)
  have l2 : (v.toNat * 2 ^ i.toNat % 4294967296) &&& ((2 ^ n.toNat - 1) * 2 ^ i.toNat % 4294967296) < 2 ^ 32 := Nat.and_lt_two_pow _ (Nat.mod_lt _ (by omega))
  rw [u32_or_nat _ _ (by omega) (by omega)]
  refine Int.natCast_inj.2 ?_
  unfold stw
  rw [h, cond_true]
  refine eq_mk fun k => ?_
  rw [Nat.testBit_or, Nat.testBit_and, Nat.testBit_and, testBit_not32 _ _ (Nat.mod_lt _ (by omega)), testBit_shl32, testBit_shl32, Nat.testBit_two_pow_sub_one]
  unfold stb
  simp only [Int.toNat_natCast]
  by_cases hk : k < 32
  · by_cases h1 : i.toNat ≤ k
    · by_cases h3 : k < i.toNat + n.toNat
      · simp [hk, h1, h3, show k - i.toNat < n.toNat by omega]
      · simp [hk, h1, h3, show ¬ k - i.toNat < n.toNat by omega]
    · simp [hk, h1]
  · have : A.testBit k = false := testBit_high (by omega) (by omega)
    simp [hk, this]

theorem sxt_form (a n : Int) (ha : 0 ≤ a) (_ha' : a < 4294967296) (h1 : 1 ≤ n) (h2 : n ≤ 32) :
    wrap32 (a * (2 : Int) ^ (32 - n).toNat % 4294967296) / (2 : Int) ^ (32 - n).toNat % 4294967296 = ((sxt a n : Nat) : Int) := by
  obtain ⟨A, rfl⟩ := Int.eq_ofNat_of_zero_le ha
  obtain ⟨m, rfl⟩ := Int.eq_ofNat_of_zero_le (show 0 ≤ n by omega)
  have es : (32 - (m : Int)).toNat = 32 - m := by omega
  rw [es]
  obtain ⟨s, hs⟩ : ∃ s, s = 32 - m := ⟨_, rfl⟩
  rw [← hs]
  have hP : 2 ^ m * 2 ^ s = 4294967296 := by rw [← Nat.pow_add, show m + s = 32 by omega]
  have hQ : 2 ^ (m - 1) * 2 ^ s = 2147483648 := by rw [← Nat.pow_add, show m - 1 + s = 31 by omega]
  have hm2 : 2 ^ m = 2 * 2 ^ (m - 1) := by rw [show m = m - 1 + 1 by omega, Nat.pow_succ]; simp; omega
  have hs0 : 0 < 2 ^ s := Nat.two_pow_pos s
  have hr : A % 2 ^ m < 2 ^ m := Nat.mod_lt _ (Nat.two_pow_pos m)
  have hx : A * 2 ^ s % 4294967296 = A % 2 ^ m * 2 ^ s := by rw [← hP, Nat.mul_mod_mul_right]
  have hxI : (A : Int) * (2 : Int) ^ s % 4294967296 = ((A % 2 ^ m * 2 ^ s : Nat) : Int) := by
    rw [← hx]; simp
  rw [hxI]
  have hp2 : ((2 : Int) ^ s) = ((2 ^ s : Nat) : Int) := by simp
  rw [hp2]
  have hbit : A.testBit (m - 1) = decide (2 ^ (m - 1) ≤ A % 2 ^ m) := by
    have e : A.testBit (m - 1) = (A % 2 ^ m).testBit (m - 1) := by
      rw [Nat.testBit_mod_two_pow]; simp [show m - 1 < m by omega]
    rw [e]
    by_cases hc : 2 ^ (m - 1) ≤ A % 2 ^ m
    · rw [decide_eq_true hc]
      exact Nat.testBit_of_two_pow_le_and_two_pow_add_one_gt hc (by rw [show m - 1 + 1 = m by omega]; exact hr)
    · rw [decide_eq_false hc]
      exact Nat.testBit_lt_two_pow (by omega)
  unfold sxt
  have hd : decide (1 ≤ (m : Int) ∧ (m : Int) ≤ 32) = true := by simp; omega
  rw [hd, cond_true]
  simp only [Int.toNat_natCast]
  by_cases hc : 2 ^ (m - 1) ≤ A % 2 ^ m
  · have hge : 2147483648 ≤ A % 2 ^ m * 2 ^ s := by rw [← hQ]; exact Nat.mul_le_mul_right _ hc
    have hlt : A % 2 ^ m * 2 ^ s < 4294967296 := by rw [← hP]; exact Nat.mul_lt_mul_of_pos_right hr hs0
    have hw : wrap32 ((A % 2 ^ m * 2 ^ s : Nat) : Int) = ((A % 2 ^ m : Nat) - (2 ^ m : Nat) : Int) * ((2 ^ s : Nat) : Int) := by
      have e2 : ((A % 2 ^ m : Nat) - (2 ^ m : Nat) : Int) * ((2 ^ s : Nat) : Int) = ((A % 2 ^ m * 2 ^ s : Nat) : Int) - ((2 ^ m * 2 ^ s : Nat) : Int) := by
        rw [Int.sub_mul]; simp
      rw [e2, hP]
      unfold wrap32
      omega
    rw [hw, Int.mul_ediv_cancel _ (by omega)]
    have hle : 2 ^ m ≤ 4294967296 := Nat.pow_le_pow_right (n := 2) (by omega) (show m ≤ 32 by omega)
    have e3 : (((A % 2 ^ m : Nat) : Int) - ((2 ^ m : Nat) : Int)) % 4294967296 = ((2 ^ m * (2 ^ s - 1) + A % 2 ^ m : Nat) : Int) := by
      have e4 : 2 ^ m * (2 ^ s - 1) = 4294967296 - 2 ^ m := by rw [Nat.mul_sub, hP]; simp
      rw [e4]
      omega
    rw [e3]
    refine Int.natCast_inj.2 ?_
    refine eq_mk fun k => ?_
    rw [Nat.testBit_two_pow_mul_add _ hr]
    unfold sxb
    rw [hbit, decide_eq_true hc]
    by_cases hk : k < m
    · simp [hk, Nat.testBit_mod_two_pow, show k < 32 by omega]
    · simp only [hk, if_false, decide_false, cond_false, Nat.testBit_two_pow_sub_one, Bool.and_true]
      rw [decide_eq_decide]
      omega
  · have hlt : A % 2 ^ m * 2 ^ s < 2147483648 := by rw [← hQ]; exact Nat.mul_lt_mul_of_pos_right (by omega) hs0
    have hw : wrap32 ((A % 2 ^ m * 2 ^ s : Nat) : Int) = ((A % 2 ^ m : Nat) : Int) * ((2 ^ s : Nat) : Int) := by
      unfold wrap32
      rw [← Int.natCast_mul]
      omega
    rw [hw, Int.mul_ediv_cancel _ (by omega)]
    have hle : 2 ^ m ≤ 4294967296 := Nat.pow_le_pow_right (n := 2) (by omega) (show m ≤ 32 by omega)
    have e3 : ((A % 2 ^ m : Nat) : Int) % 4294967296 = ((A % 2 ^ m : Nat) : Int) := by omega
    rw [e3]
    refine Int.natCast_inj.2 ?_
    refine eq_mk fun k => ?_
    unfold sxb
    rw [hbit, decide_eq_false hc, Nat.testBit_mod_two_pow]
    by_cases hk : k < m
    · simp [hk, show k < 32 by omega]
    · simp [hk]

end Go.Proofs.YtkamljmopbocnaaDoor
