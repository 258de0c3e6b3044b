/- THE MATHEMATICS of SeqAdds: a program of additions alone, one behind the other. -/
import Derived.Test.YtkamljmopbocnaaDoorSeqD
namespace Go.Proofs.YtkamljmopbocnaaDoor
open Go.ChangeShapes Go.WideShapes Go.ChangeAt Go.RowKit
set_option linter.unusedVariables false
set_option linter.unusedSimpArgs false
set_option maxHeartbeats 2000000
set_option maxRecDepth 100000

theorem fld_div (a i n : Int) (h : fitsB i n = true) : fld a i n = a.toNat / 2 ^ i.toNat % 2 ^ n.toNat := by
  apply Nat.eq_of_testBit_eq
  intro k
  rw [testBit_fld, h, Nat.testBit_mod_two_pow, Nat.testBit_div_two_pow, Bool.true_and, Nat.add_comm]
theorem stw_low (n v : Int) (h : fitsB 0 n = true) : stw 0 0 n v = v.toNat % 2 ^ n.toNat := by
  apply Nat.eq_of_testBit_eq
  intro k
  rw [testBit_stw 0 0 n v k h, Nat.testBit_mod_two_pow]
  obtain ⟨_, _, h1, h2⟩ := fitsB_iff.1 h
  have h32 : k < n.toNat → k < 32 := fun h => by omega
  unfold stb
  by_cases hk : k < n.toNat
  · simp [hk, h32 hk]
  · simp [hk]
theorem and2047 (x : Int) (h0 : 0 ≤ x) (h1 : x < 4294967296) : bits .and .u32 x 2047 = x % 2048 := by
  obtain ⟨B, rfl⟩ := Int.eq_ofNat_of_zero_le h0
  rw [show (2047 : Int) = ((2047 : Nat) : Int) from rfl, u32_and_nat _ _ (by omega) (by omega)]
  rw [show (2047 : Nat) = 2 ^ 11 - 1 from rfl, Nat.and_two_pow_sub_one_eq_mod]
  simp
/-- the word of an addition of a small number to register 1 -/
def addW (y : Int) : Int := y * 1048576 + 32915
theorem or_word (y : Int) (h0 : 0 ≤ y) (h1 : y < 2048) : bits .or .u32 (bits .or .u32 (bits .or .u32 (y * 1048576) 32768) 128) 19 = addW y := by
  have d1 : ∀ (k : Nat), k < 4096 → ((1048576 * k ||| 32768) ||| 128) ||| 19 = 1048576 * k + 32915 := fun k hk => by
    have e1 : 1048576 * k ||| 32768 = 1048576 * k + 32768 := by
      have := Nat.two_pow_add_eq_or_of_lt (i := 20) (b := 32768) (by omega) k
      rw [show (2 : Nat) ^ 20 = 1048576 by rfl] at this
      exact this.symm
    have e2 : (1048576 * k + 32768) ||| 128 = 1048576 * k + 32768 + 128 := by
      have := Nat.two_pow_add_eq_or_of_lt (i := 8) (b := 128) (by omega) (4096 * k + 128)
      rw [show (2 : Nat) ^ 8 = 256 by rfl, show 256 * (4096 * k + 128) = 1048576 * k + 32768 by omega] at this
      exact this.symm
    have e3 : (1048576 * k + 32768 + 128) ||| 19 = 1048576 * k + 32768 + 128 + 19 := by
      have := Nat.two_pow_add_eq_or_of_lt (i := 7) (b := 19) (by omega) (8192 * k + 257)
      rw [show (2 : Nat) ^ 7 = 128 by rfl, show 128 * (8192 * k + 257) = 1048576 * k + 32768 + 128 by omega] at this
      exact this.symm
    rw [e1, e2, e3]
  obtain ⟨k, rfl⟩ := Int.eq_ofNat_of_zero_le h0
  have hk : k < 2048 := by omega
  have r1 : (1048576 * k ||| 32768) < 2 ^ 32 := Nat.or_lt_two_pow (by omega) (by omega)
  have r2 : ((1048576 * k ||| 32768) ||| 128) < 2 ^ 32 := Nat.or_lt_two_pow r1 (by omega)
  have e0 : (k : Int) * 1048576 = ((1048576 * k : Nat) : Int) := by omega
  rw [e0, u32_or _ 32768 (by omega) (by omega) (by omega) (by omega), Int.toNat_natCast, show (32768 : Int).toNat = 32768 from rfl,
    u32_or _ 128 (by omega) (by omega) (by omega) (by omega), Int.toNat_natCast, show (128 : Int).toNat = 128 from rfl,
    u32_or _ 19 (by omega) (by omega) (by omega) (by omega), Int.toNat_natCast, show (19 : Int).toNat = 19 from rfl, d1 k (by omega)]
  unfold addW
  omega
theorem sel19 : selR 19 0 0 = (19, 1, 19, 0, 0) ∧ selB 19 0 0 = true := by decide +kernel
theorem chosen_add (y : Int) (h0 : 0 ≤ y) (h1 : y < 2048) : chR (addW y) = (19, 1, 19, 0, 0) ∧ chB (addW y) = true := by
  have f1 : fld (addW y) 0 7 = 19 := by rw [fld_div _ _ _ (by decide)]; unfold addW; simp; omega
  have f2 : fld (addW y) 12 3 = 0 := by rw [fld_div _ _ _ (by decide)]; unfold addW; simp; omega
  have n1 : addW y ≠ 15 ∧ addW y ≠ 115 ∧ addW y ≠ 1048691 := by unfold addW; omega
  unfold chR chB cOf
  rw [if_neg n1.1, if_neg n1.2.1, if_neg n1.2.2, if_neg (by omega), f1, f2]
  have e1 : f3Of ((19 : Nat) : Int) ((0 : Nat) : Int) = 0 := rfl
  have e2 : ∀ v, f7Of ((19 : Nat) : Int) ((0 : Nat) : Int) v = 0 := fun v => rfl
  rw [e1, e2]
  exact sel19
theorem numV_add (y : Int) (h0 : 0 ≤ y) (h1 : y < 2048) : numV (addW y) 1 = y := by
  have f1 : fld (addW y) 20 12 = y.toNat := by rw [fld_div _ _ _ (by decide)]; unfold addW; simp; omega
  have g1 : gth (addW y) (numL 1) = y := by
    show gth (addW y) [(20, 12)] = y
    rw [gth1, f1, stw_low _ _ (by decide)]
    simp; omega
  unfold numV
  rw [g1]
  show ((sxt (y * 2 ^ 0 % 4294967296) 12 : Nat) : Int) = y
  have e : y * 2 ^ 0 % 4294967296 = y := by omega
  rw [e]
  have : sxt y 12 = y.toNat := by
    apply Nat.eq_of_testBit_eq
    intro k
    have hs := tb_sxt y 12 k (by omega)
    unfold tb at hs
    rw [Int.toNat_natCast] at hs
    rw [hs]
    have hb : ∀ j, 11 ≤ j → y.toNat.testBit j = false := fun j hj => Nat.testBit_lt_two_pow (Nat.lt_of_lt_of_le (show y.toNat < 2 ^ 11 by omega) (Nat.pow_le_pow_right (by omega) hj))
    rw [show (12 : Int).toNat - 1 = 11 from rfl, hb 11 (Nat.le_refl _)]
    by_cases hk : k < 12
    · rw [show decide (k < (12 : Int).toNat) = true by simpa using hk]; simp; omega
    · rw [show decide (k < (12 : Int).toNat) = false by simpa using hk, hb k (by omega)]; simp
  rw [this]
  omega
theorem insOf_add (y : Int) (h0 : 0 ≤ y) (h1 : y < 2048) : insOf (addW y) = ⟨19, 1, 1, 0, y⟩ := by
  unfold insOf
  rw [(chosen_add y h0 h1).1]
  simp only
  rw [numV_add y h0 h1]
  have g1 : gth (addW y) (rdL 1) = 1 := by
    show gth (addW y) [(7, 5)] = 1
    rw [gth1, fld_div _ _ _ (by decide), stw_low _ _ (by decide)]
    unfold addW; simp; omega
  have g2 : gth (addW y) (rs1L 1) = 1 := by
    show gth (addW y) [(15, 5)] = 1
    rw [gth1, fld_div _ _ _ (by decide), stw_low _ _ (by decide)]
    unfold addW; simp; omega
  rw [g1, g2]
  rfl
/-- the sum of the first k -/
def sumA (ys : List Int) : Nat → Int
  | 0 => 0
  | k + 1 => (sumA ys k + ys.getD k 0) % 4294967296
theorem sumA_range (ys : List Int) (k : Nat) : 0 ≤ sumA ys k ∧ sumA ys k < 4294967296 := by
  cases k
  · exact ⟨Int.le_refl 0, show (0 : Int) < _ by decide⟩
  · unfold sumA; omega
/-- the run behind k additions -/
def sqA (ys : List Int) (k : Nat) : Sq := ⟨4 * (k : Int), (List.replicate 32 (0 : Int)).set 1 (sumA ys k), clS ByteArray.empty, 0⟩
theorem step_add (ys : List Int) (hy : ∀ y ∈ ys, 0 ≤ y ∧ y < 2048) (k : Nat) (hk : k < ys.length) (hl : ys.length ≤ 60) : (stepS (ys.map addW) (sqA ys k)).1 = sqA ys (k + 1) := by
  obtain ⟨y, hyk⟩ : ∃ y, ys[k]? = some y := ⟨_, List.getElem?_eq_getElem hk⟩
  have hg : ys.getD k 0 = y := by rw [List.getD_eq_getElem?_getD, hyk]; rfl
  have hb := hy y (List.mem_of_getElem? hyk)
  have e4 : (4 * (k : Int) / 4).toNat = k := by omega
  have hf : ftV (ys.map addW) (ys.map addW).length (4 * (k : Int)) = addW y := by
    unfold ftV
    rw [if_pos ⟨by omega, by rw [List.length_map]; omega⟩, e4, List.getD_eq_getElem?_getD, List.getElem?_map, hyk]
    rfl
  have hfb : ftB (ys.map addW).length (4 * (k : Int)) = true := by
    unfold ftB
    exact decide_eq_true ⟨by omega, by rw [List.length_map]; omega⟩
  have hi := insOf_add y hb.1 hb.2
  have hc := (chosen_add y hb.1 hb.2).2
  have hw : whyS (ys.map addW) (4 * (k : Int)) = 0 := by
    unfold whyS
    rw [hfb, hf, hc, hi]
    rfl
  unfold stepS
  rw [if_neg (by simp [sqA]), if_neg (by show ¬ whyS _ (4 * (k : Int)) ≠ 0; rw [hw]; simp)]
  show (doS (sqA ys k) (insOf (ftV _ _ (4 * (k : Int))))).1 = _
  rw [hf, hi]
  have hr : rg (sqA ys k).regs 1 = sumA ys k := rfl
  have hv : valW 19 y (4 * (k : Int)) (sumA ys k) 0 = (sumA ys k + y) % 4294967296 := rfl
  have hwr : wrI 19 1 = 1 := by decide +kernel
  unfold doS
  simp only
  rw [hr]
  rw [if_neg (by decide), if_neg (by decide), if_neg (by decide)]
  unfold wrote
  simp only
  rw [hwr, if_neg (by decide), show rg (sqA ys k).regs 0 = 0 from rfl]
  show (⟨(4 * (k : Int) + 4) % 4294967296, ((List.replicate 32 (0 : Int)).set 1 (sumA ys k)).set 1 (valW 19 y (4 * (k : Int)) (sumA ys k) 0), clS ByteArray.empty, 0⟩ : Sq) = _
  rw [hv, List.set_set]
  have hs : sumA ys (k + 1) = (sumA ys k + y) % 4294967296 := by
    show (sumA ys k + ys.getD k 0) % 4294967296 = _
    rw [hg]
  unfold sqA
  rw [hs]
  congr 1
  omega
theorem last_add (ys : List Int) (hl : ys.length ≤ 60) : (stepS (ys.map addW) (sqA ys ys.length)).1 = { sqA ys ys.length with halt := 1 } := by
  have hfb : ftB (ys.map addW).length (4 * (ys.length : Int)) = false := by
    unfold ftB
    exact decide_eq_false (fun h => by have := h.2; rw [List.length_map] at this; omega)
  have hw : whyS (ys.map addW) (4 * (ys.length : Int)) = 1 := by
    unfold whyS
    rw [hfb]
    rfl
  unfold stepS
  rw [if_neg (by simp [sqA]), if_pos (by show whyS _ (4 * (ys.length : Int)) ≠ 0; rw [hw]; simp)]
  show (haltS _ (whyS _ (4 * (ys.length : Int))) 0).1 = _
  rw [hw]
  rfl
theorem run_adds (ys : List Int) (hy : ∀ y ∈ ys, 0 ≤ y ∧ y < 2048) (hl : ys.length ≤ 60) : ∀ (k : Nat), k ≤ ys.length →
    (runS (ys.map addW) k (sqA ys 0)).1 = sqA ys k ∧ (runS (ys.map addW) k (sqA ys 0)).2.length = k
  | 0, _ => ⟨rfl, rfl⟩
  | k + 1, hk => by
    obtain ⟨h1, h2⟩ := run_adds ys hy hl k (by omega)
    rw [runS_snoc _ _ _ (by rw [h1]; rfl), h1]
    exact ⟨step_add ys hy k (by omega) hl, by rw [List.length_append, h2]; rfl⟩
theorem run_all_adds (ys : List Int) (hy : ∀ y ∈ ys, 0 ≤ y ∧ y < 2048) (hl : ys.length ≤ 60) :
    (runR (ys.map addW) ByteArray.empty 100).1 = { sqA ys ys.length with halt := 1 } ∧ (runR (ys.map addW) ByteArray.empty 100).2.length = ys.length + 1 := by
  have e0 : newS ByteArray.empty = sqA ys 0 := rfl
  have e1 : (min (100 : Int) 10000).toNat = ys.length + 1 + (99 - ys.length) := by omega
  obtain ⟨h1, h2⟩ := run_adds ys hy hl ys.length (Nat.le_refl _)
  unfold runR
  rw [e1, e0, runS_add]
  have h3 : runS (ys.map addW) (ys.length + 1) (sqA ys 0) = ({ sqA ys ys.length with halt := 1 }, (runS (ys.map addW) ys.length (sqA ys 0)).2 ++ [(stepS (ys.map addW) (sqA ys ys.length)).2]) := by
    rw [runS_snoc _ _ _ (by rw [h1]; rfl), h1, last_add ys hl]
  rw [h3]
  simp only
  rw [runS_halted _ _ _ (by show (1 : Int) ≠ 0; decide)]
  exact ⟨rfl, by simp [h2]⟩
end Go.Proofs.YtkamljmopbocnaaDoor
