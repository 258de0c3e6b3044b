/- THE MATHEMATICS of package inst: a word that has a row is made again out of its fields. -/
import Derived.Test.YtbpafbogjhbogaaDoorInstEncW
import Derived.Test.YtbpafbogjhbogaaDoorMathW
namespace Go.Proofs.YtbpafbogjhbogaaDoor
open Go.ChangeShapes Go.WideShapes Go.ChangeAt Go.RowKit

/-- bit k of a number -/
def tb (a : Int) (k : Nat) : Bool := a.toNat.testBit k
theorem tb_fld (a i n : Int) (k : Nat) : tb ((fld a i n : Nat) : Int) k = (fitsB i n && (decide (k < n.toNat) && tb a (i.toNat + k))) := by
  unfold tb; rw [Int.toNat_natCast]; exact testBit_fld a i n k
theorem tb_stw (a i n v : Int) (k : Nat) (h : fitsB i n = true) : tb ((stw a i n v : Nat) : Int) k = (decide (k < 32) && bif decide (i.toNat ≤ k) && decide (k < i.toNat + n.toNat) then tb v (k - i.toNat) else tb a k) := by
  unfold tb; rw [Int.toNat_natCast]; exact testBit_stw a i n v k h
theorem tb_zero (k : Nat) : tb 0 k = false := by simp [tb]
theorem tb_orW {a b : Int} (ha : 0 ≤ a ∧ a < 4294967296) (hb : 0 ≤ b ∧ b < 4294967296) (k : Nat) : tb (orW a b) k = (tb a k || tb b k) := by
  unfold tb orW; rw [(bits_nat ha.1 ha.2 hb.1 hb.2).2.1, Int.toNat_natCast, Nat.testBit_or]
theorem tb_shl {a : Int} (ha : 0 ≤ a) (i k : Nat) : tb (a * 2 ^ i % 4294967296) k = (decide (k < 32) && decide (i ≤ k) && tb a (k - i)) := by
  unfold tb
  have e := shl_cast a i ha
  rw [Int.toNat_natCast] at e
  rw [e, Int.toNat_natCast]
  exact testBit_shl32 _ _ _
theorem tb_shr {a : Int} (ha : 0 ≤ a) (i k : Nat) : tb (a / 2 ^ i) k = tb a (k + i) := by
  unfold tb
  have e := shr_cast a i ha (by omega)
  rw [Int.toNat_natCast] at e
  rw [e, Int.toNat_natCast, Nat.testBit_div_two_pow]
theorem tb_sxt (a n : Int) (k : Nat) (h : 1 ≤ n ∧ n ≤ 32) : tb ((sxt a n : Nat) : Int) k = (decide (k < 32) && bif decide (k < n.toNat) then tb a k else tb a (n.toNat - 1)) := by
  unfold tb sxt
  rw [show decide (1 ≤ n ∧ n ≤ 32) = true by simpa using h, cond_true, Int.toNat_natCast, testBit_mk]
  rfl
theorem wrap_of {a : Int} (h : 0 ≤ a ∧ a < 4294967296) : IntKind.u32.wrap a = a := by
  show a % 4294967296 = a
  omega
/-- two words with one row of bits are one -/
theorem eq_of_tb {a b : Int} (ha : 0 ≤ a ∧ a < 4294967296) (hb : 0 ≤ b ∧ b < 4294967296) (h : ∀ k, k < 32 → tb a k = tb b k) : a = b := by
  have : a.toNat = b.toNat := by
    apply Nat.eq_of_testBit_eq
    intro k
    by_cases hk : k < 32
    · exact h k hk
    · rw [testBit_high (by omega) (by omega), testBit_high (by omega) (by omega)]
  omega
theorem tb_emptyW {c f3 f7 : Int} (hc : 0 ≤ c ∧ c < 4294967296) (h3 : 0 ≤ f3) (h7 : 0 ≤ f7) (k : Nat) (hk : k < 32) : tb (emptyW c f3 f7) k = (tb c k || (decide (12 ≤ k) && tb f3 (k - 12)) || (decide (25 ≤ k) && tb f7 (k - 25))) := by
  unfold emptyW
  have r3 : 0 ≤ f3 * 4096 % 4294967296 ∧ f3 * 4096 % 4294967296 < 4294967296 := by omega
  have r7 : 0 ≤ f7 * 33554432 % 4294967296 ∧ f7 * 33554432 % 4294967296 < 4294967296 := by omega
  rw [tb_orW (orW_range hc.1 hc.2 r3.1 r3.2) r7, tb_orW hc r3, show (f3 * 4096 : Int) = f3 * 2 ^ 12 by rfl, show (f7 * 33554432 : Int) = f7 * 2 ^ 25 by rfl, tb_shl h3, tb_shl h7]
  simp [hk]

/-- gather and spread over lists of one, two and four parts -/
theorem gth_nil (a : Int) : gth a [] = 0 := rfl
theorem spr_nil (a : Int) : spr a [] = 0 := rfl
theorem gth1 (a p s : Int) : gth a [(p, s)] = (stw 0 0 s (fld a p s : Nat) : Nat) := rfl
theorem spr1 (a p s : Int) : spr a [(p, s)] = (stw 0 p s (fld a 0 s : Nat) : Nat) := rfl
theorem gth2 (a p s p2 s2 : Int) : gth a [(p, s), (p2, s2)] = (stw (stw 0 0 s (fld a p s : Nat) : Nat) (0 + s) s2 (fld a p2 s2 : Nat) : Nat) := rfl
theorem spr2 (a p s p2 s2 : Int) : spr a [(p, s), (p2, s2)] = (stw (stw 0 p s (fld a 0 s : Nat) : Nat) p2 s2 (fld a (0 + s) s2 : Nat) : Nat) := rfl
theorem gth4 (a p s p2 s2 p3 s3 p4 s4 : Int) : gth a [(p, s), (p2, s2), (p3, s3), (p4, s4)] = (stw (stw (stw (stw 0 0 s (fld a p s : Nat) : Nat) (0 + s) s2 (fld a p2 s2 : Nat) : Nat) (0 + s + s2) s3 (fld a p3 s3 : Nat) : Nat) (0 + s + s2 + s3) s4 (fld a p4 s4 : Nat) : Nat) := rfl
theorem spr4 (a p s p2 s2 p3 s3 p4 s4 : Int) : spr a [(p, s), (p2, s2), (p3, s3), (p4, s4)] = (stw (stw (stw (stw 0 p s (fld a 0 s : Nat) : Nat) p2 s2 (fld a (0 + s) s2 : Nat) : Nat) p3 s3 (fld a (0 + s + s2) s3 : Nat) : Nat) p4 s4 (fld a (0 + s + s2 + s3) s4 : Nat) : Nat) := rfl

theorem tb_e4 (c f3 f7 form rd rs1 rs2 imm : Int) (hc : 0 ≤ c ∧ c < 4294967296) (h3 : 0 ≤ f3) (h7 : 0 ≤ f7) (k : Nat) (hk : k < 32) :
    tb (e4 c f3 f7 form rd rs1 rs2 imm) k = (tb c k || (decide (12 ≤ k) && tb f3 (k - 12)) || (decide (25 ≤ k) && tb f7 (k - 25)) || tb (spr (IntKind.u32.wrap rd) (rdL form)) k || tb (spr (IntKind.u32.wrap rs1) (rs1L form)) k || tb (spr (IntKind.u32.wrap rs2) (rs2L form)) k || tb (spr (imm / 2 ^ (fromI form).toNat) (numL form)) k) := by
  have h0 : 0 ≤ e0 c f3 f7 ∧ e0 c f3 f7 < 4294967296 := by
    have ha := orW_range hc.1 hc.2 (b := f3 * 4096 % 4294967296) (by omega) (by omega)
    exact orW_range ha.1 ha.2 (b := f7 * 33554432 % 4294967296) (by omega) (by omega)
  have s1 := spr_range (IntKind.u32.wrap rd) (rdL form)
  have s2 := spr_range (IntKind.u32.wrap rs1) (rs1L form)
  have s3 := spr_range (IntKind.u32.wrap rs2) (rs2L form)
  have s4 := spr_range (imm / 2 ^ (fromI form).toNat) (numL form)
  have h1 := orW_range h0.1 h0.2 s1.1 s1.2
  have h2 := orW_range h1.1 h1.2 s2.1 s2.2
  have h3' := orW_range h2.1 h2.2 s3.1 s3.2
  show tb (orW (orW (orW (orW (e0 c f3 f7) _) _) _) _) k = _
  rw [tb_orW h3' s4, tb_orW h2 s3, tb_orW h1 s2, tb_orW h0 s1, show e0 c f3 f7 = emptyW c f3 f7 from rfl, tb_emptyW hc h3 h7 k hk]

theorem all32 {P : Nat → Prop} (h : P 0 ∧ P 1 ∧ P 2 ∧ P 3 ∧ P 4 ∧ P 5 ∧ P 6 ∧ P 7 ∧ P 8 ∧ P 9 ∧ P 10 ∧ P 11 ∧ P 12 ∧ P 13 ∧ P 14 ∧ P 15 ∧ P 16 ∧ P 17 ∧ P 18 ∧ P 19 ∧ P 20 ∧ P 21 ∧ P 22 ∧ P 23 ∧ P 24 ∧ P 25 ∧ P 26 ∧ P 27 ∧ P 28 ∧ P 29 ∧ P 30 ∧ P 31) : ∀ k, k < 32 → P k := by
  intro k hk
  obtain ⟨h0, h1, h2, h3, h4, h5, h6, h7, h8, h9, h10, h11, h12, h13, h14, h15, h16, h17, h18, h19, h20, h21, h22, h23, h24, h25, h26, h27, h28, h29, h30, h31⟩ := h
  have : k = 0 ∨ k = 1 ∨ k = 2 ∨ k = 3 ∨ k = 4 ∨ k = 5 ∨ k = 6 ∨ k = 7 ∨ k = 8 ∨ k = 9 ∨ k = 10 ∨ k = 11 ∨ k = 12 ∨ k = 13 ∨ k = 14 ∨ k = 15 ∨ k = 16 ∨ k = 17 ∨ k = 18 ∨ k = 19 ∨ k = 20 ∨ k = 21 ∨ k = 22 ∨ k = 23 ∨ k = 24 ∨ k = 25 ∨ k = 26 ∨ k = 27 ∨ k = 28 ∨ k = 29 ∨ k = 30 ∨ k = 31 := by omega
  rcases this with rfl | rfl | rfl | rfl | rfl | rfl | rfl | rfl | rfl | rfl | rfl | rfl | rfl | rfl | rfl | rfl | rfl | rfl | rfl | rfl | rfl | rfl | rfl | rfl | rfl | rfl | rfl | rfl | rfl | rfl | rfl | rfl <;> assumption

end Go.Proofs.YtbpafbogjhbogaaDoor
