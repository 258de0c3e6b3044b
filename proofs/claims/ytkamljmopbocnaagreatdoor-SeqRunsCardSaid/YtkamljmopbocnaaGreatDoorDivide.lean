/- THE CONTRACTS of package divide. -/
import Derived.Test.YtkamljmopbocnaaGreatDoorWordZ
import Derived.Test.YtkamljmopbocnaaGreatDoorMathB
import Derived.WalkLawsBesides
namespace Go.Proofs.YtkamljmopbocnaaGreatDoor
open Go.ChangeShapes Go.WideShapes Go.ChangeAt Go.RowKit
set_option maxRecDepth 100000

def sgB (op : Int) : Bool := decide (op = 42 ∨ op = 44)
def knB (op : Int) : Bool := decide (42 ≤ op ∧ op ≤ 45)
def szB (s : Bool) (a : Int) : Int := bif s && decide (2147483648 ≤ a) then 4294967296 - a else a
def wsB (s c : Bool) (x : Int) : Int := bif s && c then (0 - x) % 4294967296 else x

theorem dsigned_any (op : Int) (w : World) :
    Calls Tryz.prog 66 #[.int .i64 op] w fun e w' => e = .returned (.tuple #[.bool (sgB op), .bool (knB op)]) ∧ w = w' := by
  go_enter Tryz.func66, Tryz.ntmps66
  go_wp2
  all_goals go_ret2
  all_goals refine ⟨?_, rfl⟩
  all_goals (simp_all [sgB, knB]; try omega)

theorem below_any (a : Int) (ha : 0 ≤ a) (ha' : a < 4294967296) (w : World) :
    Calls Tryz.prog 94 #[.int .u32 a] w fun e w' => e = .returned (.bool (decide (2147483648 ≤ a))) ∧ w' = w := by
  go_enter Tryz.func94, Tryz.ntmps94
  go_wp2
  go_ret
  exact ⟨ret_bool (by rw [beq_dec, decide_eq_decide]; omega), rfl⟩

theorem divSize_any (a : Int) (s : Bool) (ha : 0 ≤ a) (ha' : a < 4294967296) (w : World) :
    Calls Tryz.prog 67 #[.int .u32 a, .bool s] w fun e w' => e = .returned (.int .u32 (szB s a)) ∧ w' = w := by
  cases s
  · go_enter Tryz.func67, Tryz.ntmps67
    go_wp2_with (go_at_call 94; refine (below_any _ ha ha' _).mono ?_; rintro e w1 ⟨rfl, rfl⟩)
    go_ret
    exact ⟨rfl, rfl⟩
  · by_cases h : 2147483648 ≤ a
    · have d : decide (2147483648 ≤ a) = true := decide_eq_true h
      have D := Lib.hid d
      go_enter Tryz.func67, Tryz.ntmps67
      go_wp2_with (go_at_call 94; refine (below_any _ ha ha' _).mono ?_; rintro e w1 ⟨rfl, rfl⟩)
      go_ret
      exact ⟨ret_int (by unfold szB; rw [D.out]; simp; omega), rfl⟩
    · have d : decide (2147483648 ≤ a) = false := decide_eq_false h
      have D := Lib.hid d
      go_enter Tryz.func67, Tryz.ntmps67
      go_wp2_with (go_at_call 94; refine (below_any _ ha ha' _).mono ?_; rintro e w1 ⟨rfl, rfl⟩)
      go_ret
      exact ⟨ret_int (by unfold szB; rw [D.out]; simp), rfl⟩

theorem withSign_any (x : Int) (s c : Bool) (b : Nat) (w : World) (hc : w.cell? ⟨b, 0, none⟩ = some (.bool s)) :
    Calls Tryz.prog 93 #[.int .u32 x, .bool c, .pointer (some ⟨b, 0, none⟩)] w fun e w' => e = .returned (.int .u32 (wsB s c x)) ∧ w' = w := by
  cases s <;> cases c
  all_goals
    go_enter Tryz.func93, Tryz.ntmps93
    go_wp2
    go_ret
    exact ⟨ret_int (by simp [wsB]), rfl⟩

theorem byZero_any (op a : Int) (w : World) :
    Calls Tryz.prog 92 #[.int .i64 op, .int .u32 a] w fun e w' => e = .returned (.int .u32 (if op = 44 ∨ op = 45 then a else 4294967295)) ∧ w = w' := by
  go_enter Tryz.func92, Tryz.ntmps92
  go_wp2
  all_goals go_ret
  all_goals refine ⟨ret_int ?_, rfl⟩
  all_goals simp_all

theorem bits_any (a : Int) (ha : 0 ≤ a) (ha' : a < 4294967296) (w : World) :
    Calls Tryz.prog 68 #[.int .u32 a] w fun e w' => e = .returned (.int .i64 (nb a.toNat : Nat)) ∧ w = w' := by
  obtain ⟨A, rfl⟩ := Int.eq_ofNat_of_zero_le ha
  have hA : A < 4294967296 := by omega
  clear ha ha'
  obtain ⟨T, HT⟩ : ∃ T, Hid (T = nb A) := ⟨_, Lib.hid rfl⟩
  rw [Int.toNat_natCast, ← HT.out]
  have hT : T ≤ 32 := by rw [HT.out]; exact nb_le32 hA
  go_enter Tryz.func68, Tryz.ntmps68
  go_wp2
  go_loop [0, 3] (fun a n => ∃ x k : Nat, x < 4294967296 ∧ k ≤ T ∧ k + nb x = T ∧ a = .int .u32 x ∧ n = .int .i64 k) (fun a _ => (intOf a).toNat)
  case atStart => exact ⟨A, 0, hA, by omega, by rw [HT.out]; omega, rfl, rfl⟩
  case round =>
    obtain ⟨x, k, hx, hk, hs, rfl, rfl⟩ := hrel
    by_cases h0 : x = 0
    · subst h0
      have hkT : k = T := by rw [nb_zero] at hs; omega
      subst hkT
      clear hs
      go_wp2
      go_ret
      exact ⟨rfl, rfl⟩
    · have hn := nb_pos h0
      have HN := Lib.hid hn
      have HS := Lib.hid hs
      have hk2 : k < T := by omega
      have hx0 : 0 < x := by omega
      clear hn hs
      go_wp2
      go_round
      case rel => exact ⟨x / 2, k + 1, by omega, by omega, by have := HN.out; have := HS.out; omega, by go_num, by go_num⟩
      case measure => simp [intOf]; omega

end Go.Proofs.YtkamljmopbocnaaGreatDoor
