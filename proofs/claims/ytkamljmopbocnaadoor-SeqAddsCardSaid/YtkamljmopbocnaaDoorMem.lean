/- THE CONTRACTS of Right, Read of package mem and of auspexref05. -/
import Derived.Test.YtkamljmopbocnaaDoorMemC
import Derived.Test.YtkamljmopbocnaaDoorBlk
import Derived.Lib.ConvBytes
import Derived.Lib.AppendStr
import Derived.Laws.BytesArg
import Derived.Laws.Strings2
import Derived.Laws.Strings3
namespace Go.Proofs.YtkamljmopbocnaaDoor
open Go.ChangeShapes Go.WideShapes Go.ChangeAt Go.RowKit
set_option maxRecDepth 100000

/-- may the address be? -/
def rtB (size addr many : Int) : Bool := decide ((many = 1 ∨ many = 2 ∨ many = 4) ∧ addr % many = 0 ∧ addr + many ≤ size)
set_option linter.unusedVariables false

set_option maxHeartbeats 1000000
theorem right_any (size addr many : Int) (s0 : 0 ≤ size) (s1 : size ≤ maxLen) (h0 : 0 ≤ addr) (h1 : addr < 4294967296) (w : World) :
    Calls Tryd.prog 47 #[.int .i64 size, .int .u32 addr, .int .i64 many] w fun e w' => e = .returned (.bool (rtB size addr many)) ∧ w = w' := by
  unfold maxLen at s1
  by_cases m1 : many = 1
  · subst m1
    by_cases y : addr + 1 ≤ size
    · have H := Lib.hid (show rtB size addr 1 = true by unfold rtB; simp; omega)
      have z2 : decide (addr + 1 ≤ size) = true := by simp [y]
      go_enter Tryd.func47, Tryd.ntmps47
      go_wp2
      go_ret
      exact ⟨retb H.out.symm, rfl⟩
    · have H := Lib.hid (show rtB size addr 1 = false by unfold rtB; simp; omega)
      have z2 : decide (addr + 1 ≤ size) = false := by simp; omega
      go_enter Tryd.func47, Tryd.ntmps47
      go_wp2
      go_ret
      exact ⟨retb H.out.symm, rfl⟩
  by_cases m2 : many = 2
  · subst m2
    by_cases z : addr % 2 = 0
    · by_cases y : addr + 2 ≤ size
      · have H := Lib.hid (show rtB size addr 2 = true by unfold rtB; simp; omega)
        have z1 : (addr % 2 == 0) = true := by simp [z]
        have z2 : decide (addr + 2 ≤ size) = true := by simp [y]
        clear z
        go_enter Tryd.func47, Tryd.ntmps47
        go_wp2
        go_ret
        exact ⟨retb H.out.symm, rfl⟩
      · have H := Lib.hid (show rtB size addr 2 = false by unfold rtB; simp; omega)
        have z1 : (addr % 2 == 0) = true := by simp [z]
        have z2 : decide (addr + 2 ≤ size) = false := by simp; omega
        clear z
        go_enter Tryd.func47, Tryd.ntmps47
        go_wp2
        go_ret
        exact ⟨retb H.out.symm, rfl⟩
    · have H := Lib.hid (show rtB size addr 2 = false by unfold rtB; simp; omega)
      have z1 : (addr % 2 == 0) = false := by simp [z]
      clear z
      go_enter Tryd.func47, Tryd.ntmps47
      go_wp2
      go_ret
      exact ⟨retb H.out.symm, rfl⟩
  by_cases m4 : many = 4
  · subst m4
    by_cases z : addr % 4 = 0
    · by_cases y : addr + 4 ≤ size
      · have H := Lib.hid (show rtB size addr 4 = true by unfold rtB; simp; omega)
        have z1 : (addr % 4 == 0) = true := by simp [z]
        have z2 : decide (addr + 4 ≤ size) = true := by simp [y]
        clear z
        go_enter Tryd.func47, Tryd.ntmps47
        go_wp2
        go_ret
        exact ⟨retb H.out.symm, rfl⟩
      · have H := Lib.hid (show rtB size addr 4 = false by unfold rtB; simp; omega)
        have z1 : (addr % 4 == 0) = true := by simp [z]
        have z2 : decide (addr + 4 ≤ size) = false := by simp; omega
        clear z
        go_enter Tryd.func47, Tryd.ntmps47
        go_wp2
        go_ret
        exact ⟨retb H.out.symm, rfl⟩
    · have H := Lib.hid (show rtB size addr 4 = false by unfold rtB; simp; omega)
      have z1 : (addr % 4 == 0) = false := by simp [z]
      clear z
      go_enter Tryd.func47, Tryd.ntmps47
      go_wp2
      go_ret
      exact ⟨retb H.out.symm, rfl⟩
  have H := Lib.hid (show rtB size addr many = false by unfold rtB; simp [m1, m2, m4])
  go_enter Tryd.func47, Tryd.ntmps47
  go_wp2
  go_ret
  exact ⟨retb H.out.symm, rfl⟩

theorem refRight_any (size addr many : Int) (s0 : 0 ≤ size) (s1 : size ≤ maxLen) (h0 : 0 ≤ addr) (h1 : addr < 4294967296) (w : World) :
    Calls Tryd.prog 39 #[.int .i64 size, .int .u32 addr, .int .i64 many] w fun e w' => e = .returned (.bool (rtB size addr many)) ∧ w = w' := by
  unfold maxLen at s1
  by_cases m1 : many = 1
  · subst m1
    by_cases y : addr + 1 ≤ size
    · have H := Lib.hid (show rtB size addr 1 = true by unfold rtB; simp; omega)
      have z2 : decide (addr + 1 ≤ size) = true := by simp [y]
      go_enter Tryd.func39, Tryd.ntmps39
      go_wp2
      go_ret
      exact ⟨retb H.out.symm, rfl⟩
    · have H := Lib.hid (show rtB size addr 1 = false by unfold rtB; simp; omega)
      have z2 : decide (addr + 1 ≤ size) = false := by simp; omega
      go_enter Tryd.func39, Tryd.ntmps39
      go_wp2
      go_ret
      exact ⟨retb H.out.symm, rfl⟩
  by_cases m2 : many = 2
  · subst m2
    by_cases z : addr % 2 = 0
    · by_cases y : addr + 2 ≤ size
      · have H := Lib.hid (show rtB size addr 2 = true by unfold rtB; simp; omega)
        have z1 : (addr % 2 == 0) = true := by simp [z]
        have z2 : decide (addr + 2 ≤ size) = true := by simp [y]
        clear z
        go_enter Tryd.func39, Tryd.ntmps39
        go_wp2
        go_ret
        exact ⟨retb H.out.symm, rfl⟩
      · have H := Lib.hid (show rtB size addr 2 = false by unfold rtB; simp; omega)
        have z1 : (addr % 2 == 0) = true := by simp [z]
        have z2 : decide (addr + 2 ≤ size) = false := by simp; omega
        clear z
        go_enter Tryd.func39, Tryd.ntmps39
        go_wp2
        go_ret
        exact ⟨retb H.out.symm, rfl⟩
    · have H := Lib.hid (show rtB size addr 2 = false by unfold rtB; simp; omega)
      have z1 : (addr % 2 == 0) = false := by simp [z]
      clear z
      go_enter Tryd.func39, Tryd.ntmps39
      go_wp2
      go_ret
      exact ⟨retb H.out.symm, rfl⟩
  by_cases m4 : many = 4
  · subst m4
    by_cases z : addr % 4 = 0
    · by_cases y : addr + 4 ≤ size
      · have H := Lib.hid (show rtB size addr 4 = true by unfold rtB; simp; omega)
        have z1 : (addr % 4 == 0) = true := by simp [z]
        have z2 : decide (addr + 4 ≤ size) = true := by simp [y]
        clear z
        go_enter Tryd.func39, Tryd.ntmps39
        go_wp2
        go_ret
        exact ⟨retb H.out.symm, rfl⟩
      · have H := Lib.hid (show rtB size addr 4 = false by unfold rtB; simp; omega)
        have z1 : (addr % 4 == 0) = true := by simp [z]
        have z2 : decide (addr + 4 ≤ size) = false := by simp; omega
        clear z
        go_enter Tryd.func39, Tryd.ntmps39
        go_wp2
        go_ret
        exact ⟨retb H.out.symm, rfl⟩
    · have H := Lib.hid (show rtB size addr 4 = false by unfold rtB; simp; omega)
      have z1 : (addr % 4 == 0) = false := by simp [z]
      clear z
      go_enter Tryd.func39, Tryd.ntmps39
      go_wp2
      go_ret
      exact ⟨retb H.out.symm, rfl⟩
  have H := Lib.hid (show rtB size addr many = false by unfold rtB; simp [m1, m2, m4])
  have z1 : (many != 1) = true := by simp [m1]
  have z2 : (many != 2) = true := by simp [m2]
  have z4 : (many != 4) = true := by simp [m4]
  clear m1 m2 m4
  go_enter Tryd.func39, Tryd.ntmps39
  go_wp2
  go_ret
  exact ⟨retb H.out.symm, rfl⟩

theorem rtB_facts {size addr many : Int} (h : rtB size addr many = true) : (many = 1 ∨ many = 2 ∨ many = 4) ∧ addr % many = 0 ∧ addr + many ≤ size := by unfold rtB at h; simpa using h

theorem read_any (m : ByteArray) (addr many : Int) (s1 : m.size ≤ maxLen) (h0 : 0 ≤ addr) (h1 : addr < 4294967296) (w : World) :
    Calls Tryd.prog 109 #[.string m, .int .u32 addr, .int .i64 many] w fun e w' => e = .returned (.tuple #[.string (if rtB m.size addr many then m.extract addr.toNat (addr + many).toNat else ByteArray.empty), .int .i64 (if rtB m.size addr many then 0 else 1)]) ∧ w = w' := by
  have HR := Lib.hid (right_any m.size addr many (by omega) (by omega) h0 h1 w)
  cases hr : rtB m.size addr many
  · go_enter Tryd.func109, Tryd.ntmps109
    rw [hr] at HR
    clear hr
    go_wp2_with fail
    refine HR.out.mono ?_
    rintro e w1 ⟨rfl, rfl⟩
    go_wp2
    go_ret2
    exact ⟨rfl, rfl⟩
  · obtain ⟨f1, f2, f3⟩ := rtB_facts hr
    rw [hr] at HR
    have g1 : 1 ≤ many := by omega
    have g2 : many ≤ 4 := by omega
    clear hr f1 f2
    unfold maxLen at s1
    go_enter Tryd.func109, Tryd.ntmps109
    go_wp2_with fail
    refine HR.out.mono ?_
    rintro e w1 ⟨rfl, rfl⟩
    have hsl := run_slice_string (P := Tryd.prog) w 9 m .i64 .i64 addr (addr + many) Tryd.underlying9 h0 (by omega) f3
    go_wp2
    go_ret2
    exact ⟨rfl, rfl⟩

end Go.Proofs.YtkamljmopbocnaaDoor
