/-
  PLAIN MATHEMATICS: what fields and fields that are set have to do with one another. No Go in sight.
-/
import Derived.Test.YtkamljmopbocnaaDoorMath
namespace Go.Proofs.YtkamljmopbocnaaDoor
open Go Go.RowKit
set_option maxRecDepth 100000

theorem testBit_fld (a i n : Int) (k : Nat) : (fld a i n).testBit k = (fitsB i n && (decide (k < n.toNat) && a.toNat.testBit (i.toNat + k))) := by
  unfold fld
  cases fitsB i n
  · simp
  · rw [cond_true, testBit_mk, Bool.true_and]

theorem testBit_stw (a i n v : Int) (k : Nat) (h : fitsB i n = true) : (stw a i n v).testBit k = (decide (k < 32) && stb i.toNat n.toNat a.toNat v.toNat k) := by
  unfold stw
  rw [h, cond_true, testBit_mk]

theorem stw_no (a i n v : Int) (h : fitsB i n = false) : stw a i n v = a.toNat := by simp [stw, h]

theorem lt_of_bit {a k : Nat} (ha : a < 4294967296) (h : a.testBit k = true) : k < 32 := by
  rcases Nat.lt_or_ge k 32 with h' | h'
  · exact h'
  · rw [testBit_high ha h'] at h
    cases h

/-- what is set is the field -/
theorem fld_stw (a i n v : Int) (h : fitsB i n = true) : fld (stw a i n v) i n = fld v 0 n := by
  have hf := fitsB_iff.1 h
  have h0 : fitsB 0 n = true := fitsB_iff.2 (by omega)
  refine Nat.eq_of_testBit_eq fun k => ?_
  rw [testBit_fld, testBit_fld, h, h0, Int.toNat_natCast, testBit_stw _ _ _ _ _ h]
  by_cases hk : k < n.toNat
  · simp [hk, stb, show i.toNat + k < 32 by omega]
  · simp [hk]

/-- the old field put back -/
theorem stw_back (a i n v : Int) (ha : 0 ≤ a) (ha' : a < 4294967296) (h : fitsB i n = true) : stw (stw a i n v) i n (fld a i n) = a.toNat := by
  have hf := fitsB_iff.1 h
  refine Nat.eq_of_testBit_eq fun k => ?_
  rw [testBit_stw _ _ _ _ _ h]
  by_cases hk : k < 32
  · unfold stb
    simp only [Int.toNat_natCast]
    rw [testBit_stw _ _ _ _ _ h, testBit_fld, h]
    by_cases h1 : i.toNat ≤ k
    · by_cases h2 : k < i.toNat + n.toNat
      · simp [hk, h1, h2, show k - i.toNat < n.toNat by omega, show i.toNat + (k - i.toNat) = k by omega]
      · simp [hk, h1, h2, stb]
    · simp [hk, h1, stb]
  · have : a.toNat.testBit k = false := testBit_high (by omega) (by omega)
    simp [hk, this]

/-- a field that lies beside it stays -/
theorem fld_beside (a i n v j m : Int) (h : fitsB i n = true) (h2 : fitsB j m = true) (hb : j + m ≤ i ∨ i + n ≤ j) : fld (stw a i n v) j m = fld a j m := by
  have hf := fitsB_iff.1 h
  have hg := fitsB_iff.1 h2
  refine Nat.eq_of_testBit_eq fun k => ?_
  rw [testBit_fld, testBit_fld, h2, Int.toNat_natCast, testBit_stw _ _ _ _ _ h]
  by_cases hk : k < m.toNat
  · unfold stb
    have hn : (decide (i.toNat ≤ j.toNat + k) && decide (j.toNat + k < i.toNat + n.toNat)) = false := by
      simp
      omega
    rw [hn]
    simp [hk, show j.toNat + k < 32 by omega]
  · simp [hk]

theorem halves (a : Int) (ha' : a < 4294967296) : stw (fld a 0 16) 16 16 (fld a 16 16) = a.toNat := by
  have h1 : fitsB 16 16 = true := by decide
  have h2 : fitsB 0 16 = true := by decide
  refine Nat.eq_of_testBit_eq fun k => ?_
  rw [testBit_stw _ _ _ _ _ h1]
  unfold stb
  simp only [Int.toNat_natCast]
  rw [testBit_fld, testBit_fld, h1, h2]
  by_cases hk : k < 32
  · by_cases h3 : 16 ≤ k
    · simp [hk, h3, show k - 16 < 16 by omega, show 16 + (k - 16) = k by omega]
    · simp [hk, h3, show k < 16 by omega]
  · have : a.toNat.testBit k = false := testBit_high (by omega) (by omega)
    simp [hk, this]

/-- a field of a field -/
theorem fld_fld (a i n j m : Int) (h : fitsB i n = true) (hj : 0 ≤ j) (hm : 1 ≤ m) (hjm : j + m ≤ n) : fld (fld a i n) j m = fld a (i + j) m := by
  have hf := fitsB_iff.1 h
  have h1 : fitsB j m = true := fitsB_iff.2 (by omega)
  have h2 : fitsB (i + j) m = true := fitsB_iff.2 (by omega)
  refine Nat.eq_of_testBit_eq fun k => ?_
  rw [testBit_fld, testBit_fld, h1, h2, Int.toNat_natCast, testBit_fld, h]
  by_cases hk : k < m.toNat
  · simp [hk, show j.toNat + k < n.toNat by omega, show (i + j).toNat + k = i.toNat + (j.toNat + k) by omega]
  · simp [hk]

theorem fld_none (a i n : Int) (h : fitsB i n = false) : fld a i n = 0 := by simp [fld, h]

/-- set twice: the later value -/
theorem stw_twice (a i n v u : Int) : stw (stw a i n v) i n u = stw a i n u := by
  cases h : fitsB i n
  · rw [stw_no _ _ _ _ h, stw_no _ _ _ _ h, stw_no _ _ _ _ h]
    exact Int.toNat_natCast _
  · have hf := fitsB_iff.1 h
    obtain ⟨I, rfl⟩ := Int.eq_ofNat_of_zero_le (show 0 ≤ i by omega)
    obtain ⟨N, rfl⟩ := Int.eq_ofNat_of_zero_le (show 0 ≤ n by omega)
    refine Nat.eq_of_testBit_eq fun k => ?_
    rw [testBit_stw _ _ _ _ _ h, testBit_stw _ _ _ _ _ h]
    unfold stb
    simp only [Int.toNat_natCast]
    by_cases hk : k < 32
    · cases hc : (decide (I ≤ k) && decide (k < I + N))
      · simp only [cond_false]
        rw [testBit_stw _ _ _ _ _ h]
        simp only [stb, Int.toNat_natCast, hc, cond_false, decide_eq_true hk, Bool.true_and]
      · simp only [cond_true]
    · simp [hk]

/-- two fields beside one another, in either order -/
theorem stw_comm (a i n v j m u : Int) (h : fitsB i n = true) (h2 : fitsB j m = true) (hb : j + m ≤ i ∨ i + n ≤ j) : stw (stw a i n v) j m u = stw (stw a j m u) i n v := by
  have hf := fitsB_iff.1 h
  have hg := fitsB_iff.1 h2
  obtain ⟨I, rfl⟩ := Int.eq_ofNat_of_zero_le (show 0 ≤ i by omega)
  obtain ⟨N, rfl⟩ := Int.eq_ofNat_of_zero_le (show 0 ≤ n by omega)
  obtain ⟨J, rfl⟩ := Int.eq_ofNat_of_zero_le (show 0 ≤ j by omega)
  obtain ⟨M, rfl⟩ := Int.eq_ofNat_of_zero_le (show 0 ≤ m by omega)
  refine Nat.eq_of_testBit_eq fun k => ?_
  rw [testBit_stw _ _ _ _ _ h, testBit_stw _ _ _ _ _ h2]
  unfold stb
  simp only [Int.toNat_natCast]
  by_cases hk : k < 32
  · cases hc : (decide (I ≤ k) && decide (k < I + N)) <;> cases hd : (decide (J ≤ k) && decide (k < J + M))
    · simp only [cond_false]
      rw [testBit_stw _ _ _ _ _ h, testBit_stw _ _ _ _ _ h2]
      simp only [stb, Int.toNat_natCast, hc, hd, cond_false]
    · simp only [cond_false, cond_true]
      rw [testBit_stw _ _ _ _ _ h2]
      simp only [stb, Int.toNat_natCast, hd, cond_true, decide_eq_true hk, Bool.true_and]
    · simp only [cond_false, cond_true]
      rw [testBit_stw _ _ _ _ _ h]
      simp only [stb, Int.toNat_natCast, hc, cond_true, decide_eq_true hk, Bool.true_and]
    · simp at hc hd
      omega
  · simp [hk]

/-- the sign continued twice -/
theorem sxt_twice (a n : Int) : sxt (sxt a n) n = sxt a n := by
  cases h : decide (1 ≤ n ∧ n ≤ 32)
  · have e : ∀ b, sxt b n = b.toNat := fun b => by simp only [sxt, h, cond_false]
    rw [e, e]
    exact Int.toNat_natCast _
  · have hn := of_decide_eq_true h
    obtain ⟨N, rfl⟩ := Int.eq_ofNat_of_zero_le (show 0 ≤ n by omega)
    have e : ∀ b, sxt b N = mk (sxb N b.toNat) 32 := fun b => by simp only [sxt, h, cond_true, Int.toNat_natCast]
    rw [e, e]
    simp only [Int.toNat_natCast]
    refine mk_congr fun k hk => ?_
    unfold sxb
    have h2 : N - 1 < 32 := by omega
    have h3 : N - 1 < N := by omega
    by_cases h1 : k < N
    · simp only [decide_eq_true h1, cond_true, testBit_mk, decide_eq_true hk, Bool.true_and]
    · simp only [decide_eq_false h1, cond_false, testBit_mk, decide_eq_true h2, decide_eq_true h3, cond_true, Bool.true_and]

theorem fld_sxt (a n : Int) (h : 1 ≤ n) (h2 : n ≤ 32) : fld (sxt a n) 0 n = fld a 0 n := by
  have h0 : fitsB 0 n = true := fitsB_iff.2 (by omega)
  have hd : decide (1 ≤ n ∧ n ≤ 32) = true := decide_eq_true ⟨h, h2⟩
  refine Nat.eq_of_testBit_eq fun k => ?_
  rw [testBit_fld, testBit_fld, h0, Int.toNat_natCast]
  unfold sxt
  rw [hd, cond_true, testBit_mk]
  by_cases hk : k < n.toNat
  · simp [hk, sxb, show k < 32 by omega]
  · simp [hk]

end Go.Proofs.YtkamljmopbocnaaDoor
