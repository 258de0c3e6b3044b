/- What the laws of layer 3 have in common. -/
import Derived.Test.YtbpafbogjhbogaaAluRef2
import Derived.Test.YtbpafbogjhbogaaWordLaw
namespace Go.Proofs.Ytbpafbogjhbogaa
open Go.ChangeShapes Go.WideShapes Go.ChangeAt Go.RowKit

theorem alive03_any (w : World) : Calls Try.prog 38 #[] w fun e w' => e = .returned (.bool true) ∧ w = w' := by
  go_enter Try.func38, Try.ntmps38
  go_wp2_with (go_at_call 36; refine (aluDo_any _ _ _ (by omega) (by omega) _).mono ?_; rintro e w2 ⟨rfl, rfl⟩)
  go_ret
  exact ⟨ret_bool (by decide), rfl⟩

theorem aluDo_add (a b : Int) : aluDo 28 a b = (a + b) % 4294967296 := rfl
theorem aluDo_sub (a b : Int) : aluDo 29 a b = (a - b) % 4294967296 := rfl
theorem aluDo_and (a b : Int) : aluDo 37 a b = bits .and .u32 a b := rfl
theorem aluDo_or (a b : Int) : aluDo 36 a b = bits .or .u32 a b := rfl
theorem aluDo_xor (a b : Int) : aluDo 33 a b = bits .xor .u32 a b := rfl
theorem aluDo_slt (a b : Int) : aluDo 31 a b = (bif decide (wrap32 a < wrap32 b) then 1 else 0) := rfl
theorem aluDo_sltu (a b : Int) : aluDo 32 a b = (bif decide (a < b) then 1 else 0) := rfl
theorem aluDo_sll (a b : Int) : aluDo 30 a b = a * 2 ^ (b % 32).toNat % 4294967296 := rfl
theorem aluDo_srl (a b : Int) : aluDo 34 a b = a / 2 ^ (b % 32).toNat := rfl
theorem aluDo_sra (a b : Int) : aluDo 35 a b = (wrap32 a / 2 ^ (b % 32).toNat) % 4294967296 := rfl

/-- all bits turned -/
theorem turned (b : Int) (hb : 0 ≤ b) (hb' : b < 4294967296) : aluDo 33 b 4294967295 = 4294967295 - b := by
  obtain ⟨B, rfl⟩ := Int.eq_ofNat_of_zero_le hb
  rw [aluDo_xor, show (4294967295 : Int) = ((4294967295 : Nat) : Int) from rfl, u32_xor_nat _ _ (by omega) (by omega)]
  have e : B ^^^ 4294967295 = 4294967295 - B := by
    refine Nat.eq_of_testBit_eq fun k => ?_
    rw [Nat.testBit_xor, testBit_not32 _ _ (by omega), show (4294967295 : Nat) = 2 ^ 32 - 1 from rfl, Nat.testBit_two_pow_sub_one]
    by_cases hk : k < 32
    · simp [hk]
    · simp [hk, testBit_high (show B < 4294967296 by omega) (show 32 ≤ k by omega)]
  rw [e]
  omega

theorem and_or (a b : Int) (ha : 0 ≤ a) (ha' : a < 4294967296) (hb : 0 ≤ b) (hb' : b < 4294967296) : aluDo 37 a (aluDo 36 a b) = a ∧ aluDo 36 a (aluDo 37 a b) = a := by
  obtain ⟨A, rfl⟩ := Int.eq_ofNat_of_zero_le ha
  obtain ⟨B, rfl⟩ := Int.eq_ofNat_of_zero_le hb
  have l1 : A ||| B < 2 ^ 32 := Nat.or_lt_two_pow (by omega) (by omega)
  have l2 : A &&& B < 2 ^ 32 := Nat.and_lt_two_pow _ (by omega)
  rw [aluDo_or, aluDo_and, aluDo_and, aluDo_or, u32_or_nat A B (by omega) (by omega), u32_and_nat A B (by omega) (by omega), u32_and_nat _ _ (by omega) (by omega), u32_or_nat _ _ (by omega) (by omega)]
  refine ⟨Int.natCast_inj.2 (Nat.eq_of_testBit_eq fun k => ?_), Int.natCast_inj.2 (Nat.eq_of_testBit_eq fun k => ?_)⟩
  · rw [Nat.testBit_and, Nat.testBit_or]
    cases A.testBit k <;> simp
  · rw [Nat.testBit_or, Nat.testBit_and]
    cases A.testBit k <;> simp

theorem and_add_or : ∀ (a b : Nat), (a &&& b) + (a ||| b) = a + b := by
  intro a
  induction a using Nat.strongRecOn with
  | _ a ih =>
    intro b
    by_cases h0 : a = 0
    · simp [h0]
    · have h := ih (a / 2) (by omega) (b / 2)
      have e1 : (a &&& b) / 2 = a / 2 &&& b / 2 := Nat.and_div_two
      have e2 : (a ||| b) / 2 = a / 2 ||| b / 2 := Nat.or_div_two
      have e3 : (a &&& b) % 2 = (if a % 2 = 1 ∧ b % 2 = 1 then 1 else 0) := by
        have := Nat.testBit_and a b 0
        simp only [Nat.testBit_zero] at this
        have h1 := Nat.mod_two_eq_zero_or_one (a &&& b)
        rcases h1 with h1 | h1 <;> simp [h1] at this ⊢ <;> omega
      have e4 : (a ||| b) % 2 = (if a % 2 = 1 ∨ b % 2 = 1 then 1 else 0) := by
        have := Nat.testBit_or a b 0
        simp only [Nat.testBit_zero] at this
        have h1 := Nat.mod_two_eq_zero_or_one (a ||| b)
        rcases h1 with h1 | h1 <;> simp [h1] at this ⊢ <;> omega
      split at e3 <;> split at e4 <;> omega

end Go.Proofs.Ytbpafbogjhbogaa
