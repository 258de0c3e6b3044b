/- THE CONTRACT of mem.Load, of a string of any length (as in MemL, for a seat that holds the table of instructions). -/
import Derived.Test.YtaokhegbfaokdaaDoorWordZ
import Derived.Test.YtaokhegbfaokdaaDoorInstWrites
namespace Go.Proofs.YtaokhegbfaokdaaDoor
open Go.ChangeShapes Go.WideShapes Go.ChangeAt Go.RowKit
set_option linter.unusedVariables false
set_option linter.unusedSimpArgs false
set_option maxRecDepth 100000

theorem alloc_below (w : World) (o : Obj) : Below w.heap.size w (w.alloc o) := (Below.refl _ _).alloc (Nat.le_refl _) o
theorem alloc_then {w w' : World} {o : Obj} (b : Below (w.alloc o).heap.size (w.alloc o) w') : Below w.heap.size w w' := (alloc_below w o).trans (b.mono (by simp))

/-- a load's value -/
def ldV (op : Int) (s : ByteArray) : Int := if kindI op = 3 ∧ (s.size : Int) = sizeOp op then (if op = 11 ∨ op = 12 then (sxt (joinN s.data.toList : Nat) (8 * (s.size : Int)) : Nat) else (joinN s.data.toList : Nat)) else 0
set_option maxHeartbeats 1000000
set_option maxRecDepth 100000
theorem load_any (op : Int) (s : ByteArray) (hs : s.size ≤ 9223372036854775807) (w : World) :
    Calls Tryd.prog 39 #[.int .i64 op, .string s] w fun e w' => e = .returned (.int .u32 (ldV op s)) ∧ Below w.heap.size w w' := by
  by_cases hk : kindI op = 3
  · have HK := Lib.hid hk
    by_cases hz : (s.size : Int) = sizeOp op
    · have HS := Lib.hid hz.symm
      have h4 : s.size ≤ 4 := by have : sizeOp op ≤ 4 := by unfold sizeOp; split; omega; split; omega; split <;> omega
                                 omega
      by_cases ho : op = 11 ∨ op = 12
      · have HV := Lib.hid (show ldV op s = (sxt (joinN s.data.toList : Nat) (8 * (s.size : Int)) : Nat) by unfold ldV; rw [if_pos ⟨hk, hz⟩, if_pos ho])
        have hjl := joinN_lt32 (l := s.data.toList) h4
        clear hk hz
        go_enter Tryd.func39, Tryd.ntmps39
        go_wp2_with fail
        refine (kind_any op 0 0 0 0 _).mono ?_
        rintro e w1 ⟨rfl, b⟩
        obtain ⟨⟨a0, a1, a2, a3, a4⟩, _⟩ := (five_new w 25 (.int .i64 op) (.int .i64 0) (.int .i64 0) (.int .i64 0) (.int .u32 0)).below b (by simp)
        have hb := alloc_then b
        clear b
        rw [HK.out]
        go_wp2_with fail
        refine (size_any op 0 0 0 0 _).mono ?_
        rintro e w2 ⟨rfl, b⟩
        replace hb := hb.trans (b.mono hb.size)
        clear b a0 a1 a2 a3 a4
        rw [HS.out]
        go_wp2_with fail
        refine (join_any s (by omega) _).mono ?_
        rintro e w3 ⟨rfl, b⟩
        rw [if_pos h4, if_pos h4]
        replace hb := hb.trans (b.mono hb.size)
        clear b
        rcases ho with rfl | rfl
        all_goals
          go_wp2_with fail
          refine Calls.mono (sext_any _ _ (by omega) (by omega) _) ?_
          rintro e w4 ⟨rfl, rfl⟩
          go_wp2
          go_ret
          exact ⟨ret_int HV.out.symm, hb⟩
      · have HV := Lib.hid (show ldV op s = (joinN s.data.toList : Nat) by unfold ldV; rw [if_pos ⟨hk, hz⟩, if_neg ho])
        have o1 : (op == 11) = false := by simp; omega
        have o2 : (op == 12) = false := by simp; omega
        clear hk hz ho
        go_enter Tryd.func39, Tryd.ntmps39
        go_wp2_with fail
        refine (kind_any op 0 0 0 0 _).mono ?_
        rintro e w1 ⟨rfl, b⟩
        obtain ⟨⟨a0, a1, a2, a3, a4⟩, _⟩ := (five_new w 25 (.int .i64 op) (.int .i64 0) (.int .i64 0) (.int .i64 0) (.int .u32 0)).below b (by simp)
        have hb := alloc_then b
        clear b
        rw [HK.out]
        go_wp2_with fail
        refine (size_any op 0 0 0 0 _).mono ?_
        rintro e w2 ⟨rfl, b⟩
        replace hb := hb.trans (b.mono hb.size)
        clear b a0 a1 a2 a3 a4
        rw [HS.out]
        go_wp2_with fail
        refine (join_any s (by omega) _).mono ?_
        rintro e w3 ⟨rfl, b⟩
        rw [if_pos h4, if_pos h4]
        replace hb := hb.trans (b.mono hb.size)
        clear b
        go_wp2
        go_ret
        exact ⟨ret_int HV.out.symm, hb⟩
    · have hsz : ((s.size : Int) != sizeOp op) = true := by simpa using hz
      have HV := Lib.hid (show ldV op s = 0 by unfold ldV; rw [if_neg (fun h => hz h.2)])
      obtain ⟨z, hzz⟩ : ∃ z, sizeOp op = z := ⟨_, rfl⟩
      rw [hzz] at hsz
      have HS := Lib.hid hzz
      clear hk hz hzz
      go_enter Tryd.func39, Tryd.ntmps39
      go_wp2_with fail
      refine (kind_any op 0 0 0 0 _).mono ?_
      rintro e w1 ⟨rfl, b⟩
      obtain ⟨⟨a0, a1, a2, a3, a4⟩, _⟩ := (five_new w 25 (.int .i64 op) (.int .i64 0) (.int .i64 0) (.int .i64 0) (.int .u32 0)).below b (by simp)
      have hb := alloc_then b
      clear b
      rw [HK.out]
      go_wp2_with fail
      refine (size_any op 0 0 0 0 _).mono ?_
      rintro e w2 ⟨rfl, b⟩
      replace hb := hb.trans (b.mono hb.size)
      clear b a0 a1 a2 a3 a4
      rw [HS.out]
      go_wp2
      go_ret
      exact ⟨ret_int HV.out.symm, hb⟩
  · have hkn : (kindI op != 3) = true := by simpa using hk
    have HV := Lib.hid (show ldV op s = 0 by unfold ldV; rw [if_neg (fun h => hk h.1)])
    obtain ⟨z, hzz⟩ : ∃ z, kindI op = z := ⟨_, rfl⟩
    rw [hzz] at hkn
    have HK := Lib.hid hzz
    clear hk hzz
    go_enter Tryd.func39, Tryd.ntmps39
    go_wp2_with fail
    refine (kind_any op 0 0 0 0 _).mono ?_
    rintro e w1 ⟨rfl, b⟩
    obtain ⟨⟨a0, a1, a2, a3, a4⟩, _⟩ := (five_new w 25 (.int .i64 op) (.int .i64 0) (.int .i64 0) (.int .i64 0) (.int .u32 0)).below b (by simp)
    have hb := alloc_then b
    clear b
    rw [HK.out]
    go_wp2
    go_ret
    exact ⟨ret_int HV.out.symm, hb⟩

end Go.Proofs.YtaokhegbfaokdaaDoor
