/- THE CONTRACTS of unitOf, group and Same. -/
import Derived.Test.YtebeelphilfjhaaPickM
import Derived.Test.YtebeelphilfjhaaSlices
import Derived.Lib.Hide
import Derived.WalkKit
import Derived.WalkLawsBesides
import Derived.Deep.QuietTactic
import Derived.BigQuiet
namespace Go.Proofs.Ytebeelphilfjhaa
open Go.ChangeShapes Go.WideShapes Go.ChangeAt Go.RowKit

theorem ret_int {k : IntKind} {a b : Int} (h : a = b) : Ending.returned (.int k a) = .returned (.int k b) := by rw [h]
theorem ret_bool {a b : Bool} (h : a = b) : Ending.returned (.bool a) = .returned (.bool b) := by rw [h]
set_option linter.unusedVariables false
set_option maxHeartbeats 1000000
theorem unitOf_any {w : World} {A : Option Addr} {n cap : Nat} {ks : List Int} (h : IntsAt w A n .i64 ks) (hn : n ≤ 40) (k : Nat) (hk : k ≤ 40) :
    Calls Try.prog 95 #[.slice A n cap, .int .i64 k] w fun e w' => e = .returned (.int .i64 (unitN ks k)) ∧ w = w' := by
  by_cases hkn : k < n
  · obtain ⟨a, rfl, hc⟩ := h.at_ hkn
    have G := Lib.hid (show unitN ks k = if ks.getD k 0 = 2 then 0 else if ks.getD k 0 = 3 ∨ ks.getD k 0 = 4 then 1 else 2 by unfold unitN; rw [if_pos (by rw [h.1]; exact hkn)])
    clear h
    generalize ks.getD k 0 = v at *
    go_enter Try.func95, Try.ntmps95
    go_wp2
    all_goals go_ret
    all_goals exact ⟨ret_int (by rw [G.out]; simp_all), rfl⟩
  · have G := Lib.hid (show unitN ks k = 2 by unfold unitN; rw [if_neg (by rw [h.1]; exact hkn)])
    clear h
    go_enter Try.func95, Try.ntmps95
    go_wp2
    go_ret
    exact ⟨ret_int (by rw [G.out]; rfl), rfl⟩

/-- the reference's group -/
def grpN (ks : List Int) (k : Nat) : Nat := if unitN ks k = 0 then 1 else if unitN ks k = 1 then 2 else 0
theorem group_any {w : World} {A : Option Addr} {n cap : Nat} {ks : List Int} (h : IntsAt w A n .i64 ks) (hn : n ≤ 40) (k : Nat) (hk : k ≤ 40) :
    Calls Try.prog 96 #[.slice A n cap, .int .i64 k] w fun e w' => e = .returned (.int .i64 (grpN ks k)) ∧ w = w' := by
  by_cases hkn : k < n
  · obtain ⟨a, rfl, hc⟩ := h.at_ hkn
    have G := Lib.hid (show grpN ks k = if ks.getD k 0 = 2 then 1 else if ks.getD k 0 = 3 ∨ ks.getD k 0 = 4 then 2 else 0 by
      have U : unitN ks k = if ks.getD k 0 = 2 then 0 else if ks.getD k 0 = 3 ∨ ks.getD k 0 = 4 then 1 else 2 := by unfold unitN; rw [if_pos (by rw [h.1]; exact hkn)]
      unfold grpN
      rw [U]
      generalize ks.getD k 0 = v
      by_cases c1 : v = 2
      · simp [c1]
      · by_cases c2 : v = 3 ∨ v = 4
        · simp [c1, c2]
        · simp [c1, c2])
    clear h
    generalize ks.getD k 0 = v at *
    go_enter Try.func96, Try.ntmps96
    go_wp2
    all_goals go_ret
    all_goals exact ⟨ret_int (by rw [G.out]; simp_all), rfl⟩
  · have G := Lib.hid (show grpN ks k = 0 by have U : unitN ks k = 2 := (by unfold unitN; rw [if_neg (by rw [h.1]; exact hkn)]); unfold grpN; rw [U]; rfl)
    clear h
    go_enter Try.func96, Try.ntmps96
    go_wp2
    go_ret
    exact ⟨ret_int (by rw [G.out]; rfl), rfl⟩

theorem same_any {w : World} {A B : Option Addr} {n m cap cap' : Nat} {xs : List Int} (h : IntsAt w A n .i64 xs) (h' : IntsAt w B m .i64 xs) (hn : n ≤ 40) :
    Calls Try.prog 70 #[.slice A n cap, .slice B m cap'] w fun e w' => e = .returned (.bool true) ∧ ∃ q, w' = w.drewN q := by
  obtain rfl : m = n := h'.1.symm.trans h.1
  go_enter Try.func70, Try.ntmps70
  go_wp2
  go_loopw [13] (fun i wr => ∃ k q : Nat, k ≤ m ∧ i = .int .i64 k ∧ wr = w.drewN q) (fun i _ => m - (intOf i).toNat)
  case atStart => exact ⟨0, 0, Nat.zero_le _, rfl, rfl⟩
  case round =>
    obtain ⟨k, q, hk, rfl, rfl⟩ := hrel
    by_cases hkn : k < m
    · obtain ⟨a, rfl, hc⟩ := h.at_ hkn
      obtain ⟨b, rfl, hc'⟩ := h'.at_ hkn
      generalize xs.getD k 0 = v at *
      clear h h'
      go_wp2
      go_quiet (fail)
      go_wp2
      go_roundw
      case rel => exact ⟨k + 1, _, by omega, by go_num, rfl⟩
      case measure => simp [intOf]; omega
    · have hkm : k = m := by omega
      subst hkm
      go_wp2
      go_ret
      exact ⟨rfl, _, rfl⟩

end Go.Proofs.Ytebeelphilfjhaa
