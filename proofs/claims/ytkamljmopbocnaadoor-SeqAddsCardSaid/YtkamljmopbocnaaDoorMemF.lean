/- THE CONTRACT of Fetch, of package mem. -/
import Derived.Test.YtkamljmopbocnaaDoorSlices
import Derived.Lib.Hide
import Derived.WalkKit
import Derived.WalkLawsBesides
import Derived.Deep.QuietTactic
import Derived.BigQuiet
namespace Go.Proofs.YtkamljmopbocnaaDoor
open Go.ChangeShapes Go.WideShapes Go.ChangeAt Go.RowKit
set_option maxRecDepth 100000

/-- is there a word at this place? and which -/
def ftB (n : Nat) (pc : Int) : Bool := decide (pc % 4 = 0 ∧ pc / 4 < n)
def ftV (zs : List Int) (n : Nat) (pc : Int) : Int := if pc % 4 = 0 ∧ pc / 4 < n then zs.getD (pc / 4).toNat 0 else 0
set_option linter.unusedVariables false
set_option maxHeartbeats 1000000
theorem ret_word {a b : Int} {c d : Bool} (h : a = b) (h' : c = d) : Ending.returned (.tuple #[.int .u32 a, .bool c]) = .returned (.tuple #[.int .u32 b, .bool d]) := by rw [h, h']
theorem fetch_any {w : World} {A : Option Addr} {n cap : Nat} {zs : List Int} (h : IntsAt w A n .u32 zs) (hn : n ≤ 200) (pc : Int) (h0 : 0 ≤ pc) (h1 : pc < 4294967296) :
    Calls Tryd.prog 107 #[.slice A n cap, .int .u32 pc] w fun e w' => e = .returned (.tuple #[.int .u32 (ftV zs n pc), .bool (ftB n pc)]) ∧ w = w' := by
  by_cases hg : pc % 4 = 0 ∧ pc / 4 < n
  · obtain ⟨a, rfl, hc⟩ := h.at_ (j := (pc / 4).toNat) (by omega)
    have G1 := Lib.hid (show ftV zs n pc = zs.getD (pc / 4).toNat 0 by unfold ftV; rw [if_pos hg])
    have G2 := Lib.hid (show ftB n pc = true by unfold ftB; simp; omega)
    clear h
    generalize zs.getD (pc / 4).toNat 0 = v at *
    generalize ftV zs n pc = fv at *
    generalize ftB n pc = fb at *
    obtain ⟨z, hlt⟩ := hg
    have z1 : (pc % 4 != 0) = false := by simp [z]
    have z2 : decide (pc / 4 ≥ (n : Int)) = false := by simp; omega
    go_enter Tryd.func107, Tryd.ntmps107
    go_wp2
    go_ret2
    exact ⟨ret_word G1.out.symm G2.out.symm, rfl⟩
  · have G1 := Lib.hid (show ftV zs n pc = 0 by unfold ftV; rw [if_neg hg])
    have G2 := Lib.hid (show ftB n pc = false by unfold ftB; exact decide_eq_false hg)
    clear h
    generalize ftV zs n pc = fv at *
    generalize ftB n pc = fb at *
    by_cases z : pc % 4 = 0
    · have hge : ¬ pc / 4 < (n : Int) := fun x => hg ⟨z, x⟩
      have z1 : (pc % 4 != 0) = false := by simp [z]
      have z2 : decide (pc / 4 ≥ (n : Int)) = true := by simp; omega
      clear hg
      go_enter Tryd.func107, Tryd.ntmps107
      go_wp2
      go_ret2
      exact ⟨ret_word G1.out.symm G2.out.symm, rfl⟩
    · have z1 : (pc % 4 != 0) = true := by simp [z]
      clear hg
      go_enter Tryd.func107, Tryd.ntmps107
      go_wp2
      go_ret2
      exact ⟨ret_word G1.out.symm G2.out.symm, rfl⟩

end Go.Proofs.YtkamljmopbocnaaDoor
