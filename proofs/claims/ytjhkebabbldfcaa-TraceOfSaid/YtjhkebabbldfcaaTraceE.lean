/- THE CONTRACTS of trace.event and of auspexref07's Event. -/
import Derived.Test.YtjhkebabbldfcaaChecked
import Derived.Test.YtjhkebabbldfcaaSteps
import Derived.Test.YtjhkebabbldfcaaMathR
import Derived.WalkKit
import Derived.ProofKit
import Derived.WalkLawsBesides
namespace Go.Proofs.Ytjhkebabbldfcaa
open Go.ChangeShapes Go.WideShapes Go.ChangeAt Go.RowKit
set_option linter.unusedVariables false
set_option linter.unusedSimpArgs false
set_option maxHeartbeats 4000000
theorem ret_int {k : IntKind} {a b : Int} (h : a = b) : Ending.returned (.int k a) = .returned (.int k b) := by rw [h]
theorem ret_bool {a b : Bool} (h : a = b) : Ending.returned (.bool a) = .returned (.bool b) := by rw [h]

/-- what a step tells -/
def evOf (b : Bool) (s : St) : Ev := ⟨s.pc, s.addr, s.size, s.took, if (b && !s.store && decide (0 < s.size)) = true then s.value else 0, s.halt⟩
theorem event_any (s : St) (b : Bool) (w : World) : Calls Try.prog 24 #[stV s, .bool b] w fun e w' => e = .returned (evV (evOf b s)) ∧ Below w.heap.size w w' := by
  obtain ⟨pc, next, rd, value, addr, size, store, halt, took⟩ := s
  have he : evOf b ⟨pc, next, rd, value, addr, size, store, halt, took⟩ = ⟨pc, addr, size, took, if (b && !store && decide (0 < size)) = true then value else 0, halt⟩ := rfl
  unfold stV
  by_cases hs : 0 < size
  · have hd : decide (0 < size) = true := decide_eq_true hs
    rw [hd] at he
    clear hd
    cases b <;> cases store
    · rw [if_neg (by simp)] at he
      have HE := Lib.hid he
      clear he
      go_enter Try.func24, Try.ntmps24
      go_wp2
      refine bodyPost_ret (v := evV ⟨pc, addr, size, took, 0, halt⟩) (by simp [results, Try.results24, go_sem, evV]) rfl ⟨?_, ?_⟩
      · rw [HE.out]
      · repeat (first | exact Below.refl _ _ | refine Below.alloc ?_ (by first | (simp; done) | (simp; omega)) _)
    · rw [if_neg (by simp)] at he
      have HE := Lib.hid he
      clear he
      go_enter Try.func24, Try.ntmps24
      go_wp2
      refine bodyPost_ret (v := evV ⟨pc, addr, size, took, 0, halt⟩) (by simp [results, Try.results24, go_sem, evV]) rfl ⟨?_, ?_⟩
      · rw [HE.out]
      · repeat (first | exact Below.refl _ _ | refine Below.alloc ?_ (by first | (simp; done) | (simp; omega)) _)
    · rw [if_pos (by simp)] at he
      have HE := Lib.hid he
      clear he
      go_enter Try.func24, Try.ntmps24
      go_wp2
      refine bodyPost_ret (v := evV ⟨pc, addr, size, took, value, halt⟩) (by simp [results, Try.results24, go_sem, evV]) rfl ⟨?_, ?_⟩
      · rw [HE.out]
      · repeat (first | exact Below.refl _ _ | refine Below.alloc ?_ (by first | (simp; done) | (simp; omega)) _)
    · rw [if_neg (by simp)] at he
      have HE := Lib.hid he
      clear he
      go_enter Try.func24, Try.ntmps24
      go_wp2
      refine bodyPost_ret (v := evV ⟨pc, addr, size, took, 0, halt⟩) (by simp [results, Try.results24, go_sem, evV]) rfl ⟨?_, ?_⟩
      · rw [HE.out]
      · repeat (first | exact Below.refl _ _ | refine Below.alloc ?_ (by first | (simp; done) | (simp; omega)) _)
  · have hd : decide (0 < size) = false := decide_eq_false hs
    rw [hd] at he
    rw [if_neg (by simp)] at he
    have HE := Lib.hid he
    clear he
    cases b <;> cases store
    · go_enter Try.func24, Try.ntmps24
      go_wp2
      refine bodyPost_ret (v := evV ⟨pc, addr, size, took, 0, halt⟩) (by simp [results, Try.results24, go_sem, evV]) rfl ⟨?_, ?_⟩
      · rw [HE.out]
      · repeat (first | exact Below.refl _ _ | refine Below.alloc ?_ (by first | (simp; done) | (simp; omega)) _)
    · go_enter Try.func24, Try.ntmps24
      go_wp2
      refine bodyPost_ret (v := evV ⟨pc, addr, size, took, 0, halt⟩) (by simp [results, Try.results24, go_sem, evV]) rfl ⟨?_, ?_⟩
      · rw [HE.out]
      · repeat (first | exact Below.refl _ _ | refine Below.alloc ?_ (by first | (simp; done) | (simp; omega)) _)
    · go_enter Try.func24, Try.ntmps24
      go_wp2
      refine bodyPost_ret (v := evV ⟨pc, addr, size, took, 0, halt⟩) (by simp [results, Try.results24, go_sem, evV]) rfl ⟨?_, ?_⟩
      · rw [HE.out]
      · repeat (first | exact Below.refl _ _ | refine Below.alloc ?_ (by first | (simp; done) | (simp; omega)) _)
    · go_enter Try.func24, Try.ntmps24
      go_wp2
      refine bodyPost_ret (v := evV ⟨pc, addr, size, took, 0, halt⟩) (by simp [results, Try.results24, go_sem, evV]) rfl ⟨?_, ?_⟩
      · rw [HE.out]
      · repeat (first | exact Below.refl _ _ | refine Below.alloc ?_ (by first | (simp; done) | (simp; omega)) _)
theorem refEvent_any (s : St) (b : Bool) (w : World) : Calls Try.prog 25 #[stV s, .bool b] w fun e w' => e = .returned (evV (evOf b s)) ∧ Below w.heap.size w w' := by
  obtain ⟨pc, next, rd, value, addr, size, store, halt, took⟩ := s
  have he : evOf b ⟨pc, next, rd, value, addr, size, store, halt, took⟩ = ⟨pc, addr, size, took, if (b && !store && decide (0 < size)) = true then value else 0, halt⟩ := rfl
  unfold stV
  by_cases hs : 0 < size
  · have hd : decide (0 < size) = true := decide_eq_true hs
    rw [hd] at he
    clear hd
    cases b <;> cases store
    · rw [if_neg (by simp)] at he
      have HE := Lib.hid he
      clear he
      go_enter Try.func25, Try.ntmps25
      go_wp2
      refine bodyPost_ret (v := evV ⟨pc, addr, size, took, 0, halt⟩) (by simp [results, Try.results25, go_sem, evV]) rfl ⟨?_, ?_⟩
      · rw [HE.out]
      · repeat (first | exact Below.refl _ _ | refine Below.alloc ?_ (by first | (simp; done) | (simp; omega)) _)
    · rw [if_neg (by simp)] at he
      have HE := Lib.hid he
      clear he
      go_enter Try.func25, Try.ntmps25
      go_wp2
      refine bodyPost_ret (v := evV ⟨pc, addr, size, took, 0, halt⟩) (by simp [results, Try.results25, go_sem, evV]) rfl ⟨?_, ?_⟩
      · rw [HE.out]
      · repeat (first | exact Below.refl _ _ | refine Below.alloc ?_ (by first | (simp; done) | (simp; omega)) _)
    · rw [if_pos (by simp)] at he
      have HE := Lib.hid he
      clear he
      go_enter Try.func25, Try.ntmps25
      go_wp2
      refine bodyPost_ret (v := evV ⟨pc, addr, size, took, value, halt⟩) (by simp [results, Try.results25, go_sem, evV]) rfl ⟨?_, ?_⟩
      · rw [HE.out]
      · repeat (first | exact Below.refl _ _ | refine Below.alloc ?_ (by first | (simp; done) | (simp; omega)) _)
    · rw [if_neg (by simp)] at he
      have HE := Lib.hid he
      clear he
      go_enter Try.func25, Try.ntmps25
      go_wp2
      refine bodyPost_ret (v := evV ⟨pc, addr, size, took, 0, halt⟩) (by simp [results, Try.results25, go_sem, evV]) rfl ⟨?_, ?_⟩
      · rw [HE.out]
      · repeat (first | exact Below.refl _ _ | refine Below.alloc ?_ (by first | (simp; done) | (simp; omega)) _)
  · have hd : decide (0 < size) = false := decide_eq_false hs
    rw [hd] at he
    rw [if_neg (by simp)] at he
    have HE := Lib.hid he
    clear he
    cases b <;> cases store
    · go_enter Try.func25, Try.ntmps25
      go_wp2
      refine bodyPost_ret (v := evV ⟨pc, addr, size, took, 0, halt⟩) (by simp [results, Try.results25, go_sem, evV]) rfl ⟨?_, ?_⟩
      · rw [HE.out]
      · repeat (first | exact Below.refl _ _ | refine Below.alloc ?_ (by first | (simp; done) | (simp; omega)) _)
    · go_enter Try.func25, Try.ntmps25
      go_wp2
      refine bodyPost_ret (v := evV ⟨pc, addr, size, took, 0, halt⟩) (by simp [results, Try.results25, go_sem, evV]) rfl ⟨?_, ?_⟩
      · rw [HE.out]
      · repeat (first | exact Below.refl _ _ | refine Below.alloc ?_ (by first | (simp; done) | (simp; omega)) _)
    · go_enter Try.func25, Try.ntmps25
      go_wp2
      refine bodyPost_ret (v := evV ⟨pc, addr, size, took, 0, halt⟩) (by simp [results, Try.results25, go_sem, evV]) rfl ⟨?_, ?_⟩
      · rw [HE.out]
      · repeat (first | exact Below.refl _ _ | refine Below.alloc ?_ (by first | (simp; done) | (simp; omega)) _)
    · go_enter Try.func25, Try.ntmps25
      go_wp2
      refine bodyPost_ret (v := evV ⟨pc, addr, size, took, 0, halt⟩) (by simp [results, Try.results25, go_sem, evV]) rfl ⟨?_, ?_⟩
      · rw [HE.out]
      · repeat (first | exact Below.refl _ _ | refine Below.alloc ?_ (by first | (simp; done) | (simp; omega)) _)

end Go.Proofs.Ytjhkebabbldfcaa
