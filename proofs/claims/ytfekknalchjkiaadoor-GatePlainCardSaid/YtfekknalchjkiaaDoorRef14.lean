/- THE CONTRACTS of auspexref14's Safe and Visible. -/
import Derived.Test.YtfekknalchjkiaaDoorTaint
import Derived.Test.YtfekknalchjkiaaDoorRefKind
namespace Go.Proofs.YtfekknalchjkiaaDoor
open Go.ChangeShapes Go.WideShapes Go.ChangeAt Go.RowKit Go.Sort
set_option linter.unusedVariables false
set_option linter.unusedSimpArgs false
set_option maxHeartbeats 2000000
set_option maxRecDepth 100000

theorem refSafe_any (e : En) (w : World) : Calls Tryd.prog 75 #[enV e] w fun r w' => r = .returned (.bool (safeB e)) ∧ Below w.heap.size w w' := by
  obtain ⟨no, pc, op, rd, rs1, rs2, imm, guess, is, left, value, next, addr, halt, took, known, filled⟩ := e
  unfold enV enC
  obtain ⟨sb, hsb⟩ : ∃ sb, safeB ⟨no, pc, op, rd, rs1, rs2, imm, guess, is, left, value, next, addr, halt, took, known, filled⟩ = sb := ⟨_, rfl⟩
  rw [hsb]
  unfold safeB at hsb
  simp only at hsb
  have HK := Lib.hid (fun w => refKind_any op w)
  have HC := kindI_cases op
  obtain ⟨kd, hkd⟩ : ∃ kd, kindI op = kd := ⟨_, rfl⟩
  rw [hkd] at HK HC hsb
  clear hkd
  have HSB := Lib.hid hsb
  have HKC := Lib.hid HC
  clear hsb HC
  go_enter Tryd.func75, Tryd.ntmps75
  go_wp2_with fail
  go_at_call 51
  refine (HK.out _).mono ?_
  rintro r w1 ⟨rfl, rfl⟩
  by_cases h0 : halt = 0
  · subst h0
    rcases HKC.out with rfl | rfl | rfl | rfl | rfl | rfl | rfl
    all_goals
      cases known
      all_goals
        go_wp2
        go_ret
        exact ⟨retb (by rw [← HSB.out]; simp), (Below.refl _ _).alloc (Nat.le_refl _) _⟩
  · have hb : (halt != 0) = true := by simpa using h0
    go_wp2
    go_ret
    exact ⟨retb (by rw [← HSB.out, if_pos h0]), (Below.refl _ _).alloc (Nat.le_refl _) _⟩
theorem refVisible_any (A : Option Addr) (n cap : Nat) (es : List En) (i : Nat) (hi : i ≤ n) (hn : n ≤ cap) (hc : cap ≤ maxLen) (w : World) (hE : EntsAt w A n es) :
    Calls Tryd.prog 42 #[.slice A n cap, .int .i64 i] w fun r w' => r = .returned (.bool (decide (i ≤ frontN es))) ∧ Below w.heap.size w w' := by
  have HL := hE.len
  have HE := Lib.hid hE
  clear hE
  unfold maxLen at hc
  have d0 : decide ((i : Int) < 0) = false := decide_eq_false (by omega)
  have d1 : decide ((n : Int) < i) = false := decide_eq_false (by omega)
  have d2 : decide (n < i) = false := decide_eq_false (by omega)
  go_enter Tryd.func42, Tryd.ntmps42
  go_wp2
  clear d0 d1 d2
  go_loopw [5] (fun v wr => ∃ k : Nat, k ≤ i ∧ k ≤ frontN es ∧ v = .int .i64 k ∧ Below w.heap.size w wr) (fun v _ => i - (intOf v).toNat)
  case atStart => exact ⟨0, by omega, by omega, rfl, Below.refl _ _⟩
  case round =>
    obtain ⟨k, hk, hkf, rfl, hb⟩ := hrel
    have HB := Lib.hid hb
    have HKF := Lib.hid hkf
    clear hb hkf
    by_cases hlt : k < i
    · obtain ⟨e, he⟩ : ∃ e, es[k]? = some e := ⟨_, List.getElem?_eq_getElem (by omega)⟩
      obtain ⟨a, rfl, hal, hcell⟩ := (HE.out.below HB.out).at_ he
      have HS := Lib.hid (fun w => refSafe_any e w)
      unfold enV at HS
      obtain ⟨cs, hcs⟩ : ∃ cs, enC e = cs := ⟨_, rfl⟩
      have h17 : cs.length = 17 := by rw [← hcs]; rfl
      rw [hcs] at HS hcell
      have HX := Lib.hid hcell
      have HI := Lib.hid (show (Tryd.prog.info? 60).map (·.size) = some cs.length by rw [h17]; exact ent_info)
      have HQ := Lib.hid he
      clear hcs h17 hcell he
      cases hsb : safeB e
      · rw [hsb] at HS
        have HT := Lib.hid (front_at HQ.out hsb HKF.out)
        clear hsb
        go_wp2_with (first
          | (refine wpList_load_row rfl 60 (.tmp 21) rfl _ rfl cs _ HX.out Tryd.underlying60 rfl HI.out ?_)
          | (go_at_call 75; refine (HS.out _).mono ?_; rintro r w5 ⟨rfl, b5⟩; have KB := Lib.hid (HB.out.trans (b5.mono HB.out.size)); clear b5))
        go_ret
        exact ⟨retb (decide_eq_false (by rw [HT.out]; omega)).symm, KB.out⟩
      · rw [hsb] at HS
        have HT := Lib.hid (front_on HQ.out hsb HKF.out)
        clear hsb
        go_wp2_with (first
          | (refine wpList_load_row rfl 60 (.tmp 21) rfl _ rfl cs _ HX.out Tryd.underlying60 rfl HI.out ?_)
          | (go_at_call 75; refine (HS.out _).mono ?_; rintro r w5 ⟨rfl, b5⟩; have KB := Lib.hid (HB.out.trans (b5.mono HB.out.size)); clear b5))
        go_roundw
        case rel => exact ⟨k + 1, by omega, HT.out, by go_num, KB.out⟩
        case measure => simp [intOf]; omega
    · obtain rfl : k = i := by omega
      go_wp2
      go_ret
      exact ⟨retb (decide_eq_true HKF.out).symm, HB.out⟩
end Go.Proofs.YtfekknalchjkiaaDoor
