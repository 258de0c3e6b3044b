/- THE CONTRACTS of package guess: Right, slotOf, isCall, isReturn; auspexref12's Right. -/
import Derived.Test.YtkamljmopbocnaaArgB
import Derived.Test.YtkamljmopbocnaaInstKinds
import Derived.Test.YtkamljmopbocnaaOwnB
import Derived.Laws.Closers25b
namespace Go.Proofs.Ytkamljmopbocnaa
open Go.ChangeShapes Go.WideShapes Go.ChangeAt Go.RowKit
set_option linter.unusedVariables false
set_option linter.unusedSimpArgs false
set_option maxHeartbeats 2000000
set_option maxRecDepth 100000

/-- a guess, as a value -/
def gV (A : Option Addr) (na ca : Nat) (h : Int) (B : Option Addr) (nb cb : Nat) : Value := .agg #[.slice A na ca, .int .u32 h, .slice B nb cb]
def rightB (na : Nat) (h : Int) (nb : Nat) : Bool := decide (na = 8 ∧ h < 8 ∧ nb ≤ 4)
theorem guessRight_any (A : Option Addr) (na ca : Nat) (h : Int) (B : Option Addr) (nb cb : Nat) (w : World) :
    Calls Try.prog 12 #[gV A na ca h B nb cb] w fun r w' => r = .returned (.bool (rightB na h nb)) ∧ Below w.heap.size w w' := by
  unfold gV
  have hb : Below w.heap.size w (w.alloc (.cells #[.slice A na ca, .int .u32 h, .slice B nb cb] 27)) := (Below.refl _ _).alloc (Nat.le_refl _) _
  have HB := Lib.hid hb
  clear hb
  by_cases h1 : na = 8
  · subst h1
    by_cases h2 : h < 8
    · have d2 : decide (h < 8) = true := decide_eq_true (by omega)
      by_cases h3 : nb ≤ 4
      · have d3 : decide (nb ≤ 4) = true := decide_eq_true h3
        have d3' : decide ((nb : Int) ≤ 4) = true := decide_eq_true (by omega)
        have HR := Lib.hid (show rightB 8 h nb = true from decide_eq_true ⟨rfl, h2, h3⟩)
        go_enter Try.func12, Try.ntmps12
        go_wp2
        go_ret
        exact ⟨retb HR.out.symm, HB.out⟩
      · have d3 : decide (nb ≤ 4) = false := decide_eq_false h3
        have d3' : decide ((nb : Int) ≤ 4) = false := decide_eq_false (by omega)
        have HR := Lib.hid (show rightB 8 h nb = false from decide_eq_false fun h => h3 h.2.2)
        go_enter Try.func12, Try.ntmps12
        go_wp2
        go_ret
        exact ⟨retb HR.out.symm, HB.out⟩
    · have d2 : decide (h < 8) = false := decide_eq_false (by omega)
      have HR := Lib.hid (show rightB 8 h nb = false from decide_eq_false fun h => h2 h.2.1)
      go_enter Try.func12, Try.ntmps12
      go_wp2
      go_ret
      exact ⟨retb HR.out.symm, HB.out⟩
  · have q1 : ((na : Int) == 8) = false := by simp; omega
    have HR := Lib.hid (show rightB na h nb = false from decide_eq_false fun h => h1 h.1)
    go_enter Try.func12, Try.ntmps12
    go_wp2
    go_ret
    exact ⟨retb HR.out.symm, HB.out⟩
theorem guessRefRight_any (A : Option Addr) (na ca : Nat) (h : Int) (B : Option Addr) (nb cb : Nat) (w : World) :
    Calls Try.prog 7 #[gV A na ca h B nb cb] w fun r w' => r = .returned (.bool (rightB na h nb)) ∧ Below w.heap.size w w' := by
  unfold gV
  have hb : Below w.heap.size w (w.alloc (.cells #[.slice A na ca, .int .u32 h, .slice B nb cb] 27)) := (Below.refl _ _).alloc (Nat.le_refl _) _
  have HB := Lib.hid hb
  clear hb
  by_cases h1 : na = 8
  · subst h1
    by_cases h2 : h < 8
    · have d2 : decide (h ≤ 7) = true := decide_eq_true (by omega)
      by_cases h3 : nb ≤ 4
      · have d3 : decide (nb ≤ 4) = true := decide_eq_true h3
        have d3' : decide ((nb : Int) ≤ 4) = true := decide_eq_true (by omega)
        have HR := Lib.hid (show rightB 8 h nb = true from decide_eq_true ⟨rfl, h2, h3⟩)
        go_enter Try.func7, Try.ntmps7
        go_wp2
        go_ret
        exact ⟨retb HR.out.symm, HB.out⟩
      · have d3 : decide (nb ≤ 4) = false := decide_eq_false h3
        have d3' : decide ((nb : Int) ≤ 4) = false := decide_eq_false (by omega)
        have HR := Lib.hid (show rightB 8 h nb = false from decide_eq_false fun h => h3 h.2.2)
        go_enter Try.func7, Try.ntmps7
        go_wp2
        go_ret
        exact ⟨retb HR.out.symm, HB.out⟩
    · have d2 : decide (h ≤ 7) = false := decide_eq_false (by omega)
      have HR := Lib.hid (show rightB 8 h nb = false from decide_eq_false fun h => h2 h.2.1)
      go_enter Try.func7, Try.ntmps7
      go_wp2
      go_ret
      exact ⟨retb HR.out.symm, HB.out⟩
  · have q1 : ((na : Int) == 8) = false := by simp; omega
    have HR := Lib.hid (show rightB na h nb = false from decide_eq_false fun h => h1 h.1)
    go_enter Try.func7, Try.ntmps7
    go_wp2
    go_ret
    exact ⟨retb HR.out.symm, HB.out⟩
theorem slotOf_any (A : Option Addr) (na ca : Nat) (h : Int) (B : Option Addr) (nb cb : Nat) (pc : Int) (h0 : 0 ≤ h) (h1 : h < 4294967296) (p0 : 0 ≤ pc) (p1 : pc < 4294967296) (w : World) :
    Calls Try.prog 14 #[gV A na ca h B nb cb, .int .u32 pc] w fun r w' => ∃ k : Nat, k < 8 ∧ r = .returned (.int .u32 k) ∧ Below w.heap.size w w' := by
  unfold gV
  have HB := Lib.hid ((Below.refl w.heap.size w).alloc (Nat.le_refl _) (.cells #[.slice A na ca, .int .u32 h, .slice B nb cb] 27))
  go_enter Try.func14, Try.ntmps14
  go_wp2
  have hx := (bits_within .xor .u32 (pc / 4) h).1
  have hx0 : 0 ≤ bits .xor .u32 (pc / 4) h := hx
  generalize bits .xor .u32 (pc / 4) h = x at *
  have hk : x.tmod 8 = (((x % 8).toNat : Nat) : Int) := by rw [Int.tmod_eq_emod_of_nonneg hx0]; omega
  rw [hk]
  go_ret
  exact ⟨(x % 8).toNat, by omega, rfl, HB.out⟩
def callB (op rd : Int) : Bool := decide ((op = 3 ∨ op = 4) ∧ rd = 1)
def backB (op rd rs1 : Int) : Bool := decide (op = 4 ∧ rd = 0 ∧ rs1 = 1)
theorem isCall_any (op rd rs1 rs2 imm : Int) (w : World) : Calls Try.prog 17 #[.agg #[.int .i64 op, .int .i64 rd, .int .i64 rs1, .int .i64 rs2, .int .u32 imm]] w fun r w' => r = .returned (.bool (callB op rd)) ∧ Below w.heap.size w w' := by
  have HB := Lib.hid ((Below.refl w.heap.size w).alloc (Nat.le_refl _) (.cells #[.int .i64 op, .int .i64 rd, .int .i64 rs1, .int .i64 rs2, .int .u32 imm] 31))
  by_cases h3 : op = 3
  · subst h3
    by_cases h1 : rd = 1
    · subst h1
      go_enter Try.func17, Try.ntmps17
      go_wp2
      go_ret
      exact ⟨rfl, HB.out⟩
    · have q : (rd == 1) = false := by simpa using h1
      have HR := Lib.hid (show callB 3 rd = false from decide_eq_false fun h => h1 h.2)
      go_enter Try.func17, Try.ntmps17
      go_wp2
      go_ret
      exact ⟨retb HR.out.symm, HB.out⟩
  · have q3 : (op == 3) = false := by simpa using h3
    by_cases h4 : op = 4
    · subst h4
      by_cases h1 : rd = 1
      · subst h1
        go_enter Try.func17, Try.ntmps17
        go_wp2
        go_ret
        exact ⟨rfl, HB.out⟩
      · have q : (rd == 1) = false := by simpa using h1
        have HR := Lib.hid (show callB 4 rd = false from decide_eq_false fun h => h1 h.2)
        go_enter Try.func17, Try.ntmps17
        go_wp2
        go_ret
        exact ⟨retb HR.out.symm, HB.out⟩
    · have q4 : (op == 4) = false := by simpa using h4
      have HR := Lib.hid (show callB op rd = false from decide_eq_false fun h => h.1.elim h3 h4)
      go_enter Try.func17, Try.ntmps17
      go_wp2
      go_ret
      exact ⟨retb HR.out.symm, HB.out⟩
theorem isReturn_any (op rd rs1 rs2 imm : Int) (w : World) : Calls Try.prog 16 #[.agg #[.int .i64 op, .int .i64 rd, .int .i64 rs1, .int .i64 rs2, .int .u32 imm]] w fun r w' => r = .returned (.bool (backB op rd rs1)) ∧ Below w.heap.size w w' := by
  have HB := Lib.hid ((Below.refl w.heap.size w).alloc (Nat.le_refl _) (.cells #[.int .i64 op, .int .i64 rd, .int .i64 rs1, .int .i64 rs2, .int .u32 imm] 31))
  by_cases h4 : op = 4
  · subst h4
    by_cases h0 : rd = 0
    · subst h0
      by_cases h1 : rs1 = 1
      · subst h1
        go_enter Try.func16, Try.ntmps16
        go_wp2
        go_ret
        exact ⟨rfl, HB.out⟩
      · have q : (rs1 == 1) = false := by simpa using h1
        have HR := Lib.hid (show backB 4 0 rs1 = false from decide_eq_false fun h => h1 h.2.2)
        go_enter Try.func16, Try.ntmps16
        go_wp2
        go_ret
        exact ⟨retb HR.out.symm, HB.out⟩
    · have q : (rd == 0) = false := by simpa using h0
      have HR := Lib.hid (show backB 4 rd rs1 = false from decide_eq_false fun h => h0 h.2.1)
      go_enter Try.func16, Try.ntmps16
      go_wp2
      go_ret
      exact ⟨retb HR.out.symm, HB.out⟩
  · have q4 : (op == 4) = false := by simpa using h4
    have HR := Lib.hid (show backB op rd rs1 = false from decide_eq_false fun h => h4 h.1)
    go_enter Try.func16, Try.ntmps16
    go_wp2
    go_ret
    exact ⟨retb HR.out.symm, HB.out⟩
end Go.Proofs.Ytkamljmopbocnaa
