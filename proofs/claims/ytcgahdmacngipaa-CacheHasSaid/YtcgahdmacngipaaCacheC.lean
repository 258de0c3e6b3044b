/- THE CONTRACTS of package cache: Right, Find. -/
import Derived.Test.YtcgahdmacngipaaCacheB
namespace Go.Proofs.Ytcgahdmacngipaa
open Go.ChangeShapes Go.WideShapes Go.ChangeAt Go.RowKit Go.Sort
set_option linter.unusedVariables false
set_option linter.unusedSimpArgs false
set_option maxHeartbeats 2000000
set_option maxRecDepth 100000

def setsOK (ss : List (List Wy)) : Prop := ∀ s ∈ ss, linesOK s
theorem right_anyC (ways : Int) (A : Option Addr) (n cap : Nat) (hs : List Hd) (ss : List (List Wy)) (hn : n ≤ cap) (hc : cap ≤ maxLen) (hss : setsOK ss) (w : World) (hS : SetsAt w A n hs ss) :
    Calls Try.prog 13 #[caV ways A n cap] w fun e w' => e = .returned (.bool (rightC ways ss)) ∧ Below w.heap.size w w' := by
  have HS := Lib.hid hS
  have HL := Lib.hid hS.len
  have hl := hS.len
  unfold maxLen at hc
  have f1 := Blk.new w 24 [.int .i64 ways, .slice A n cap]
  have f3 : Below w.heap.size w (w.alloc (.cells #[.int .i64 ways, .slice A n cap] 24)) := (Below.refl _ _).alloc (Nat.le_refl _) _
  clear hS
  unfold caV
  go_enter Try.func13, Try.ntmps13
  go_upto_region 1 with fail
  generalize w.alloc (.cells #[.int .i64 ways, .slice A n cap] 24) = W0 at *
  have X1 := Lib.hid f1
  have KB := Lib.hid f3
  clear f1 f3
  have c0 := X1.out.2.1 0 _ rfl
  have c1 := X1.out.2.1 1 _ rfl
  by_cases n1 : n = 1
  · have q1 : ((n : Int) == 1) = true := by simp [n1]
    have HNB := Lib.hid (show numB n = true by rw [n1]; rfl)
    have hn4 : 0 < n ∧ n ≤ 4 := by omega
    clear n1
    by_cases w1 : ways = 1
    · have e1 : (ways != 1) = false := by simp [w1]
      have HRC := Lib.hid (show rightC ways ss = (List.range ss.length).all (setsB ways ss) by unfold rightC; rw [HL.out, HNB.out, w1]; rfl)
      clear w1
      go_wp2
      go_loopw [23] (fun v wr => ∃ j : Nat, j ≤ n ∧ v = .int .i64 j ∧ (∀ q, q < j → setsB ways ss q = true) ∧ Blk wr w.heap.size [.int .i64 ways, .slice A n cap] ∧ Below w.heap.size w wr) (fun v _ => n - (intOf v).toNat)
      case atStart => exact ⟨0, by omega, rfl, (fun q h => by omega), X1.out, KB.out⟩
      case round =>
        obtain ⟨j, hj, rfl, hno, hx1, hb⟩ := hrel
        clear X1 KB
        have KB := Lib.hid hb
        have X1 := Lib.hid hx1
        have HNO := Lib.hid hno
        clear hb hno hx1
        by_cases hlt : j < n
        · obtain ⟨s, hs⟩ : ∃ s, ss[j]? = some s := ⟨_, List.getElem?_eq_getElem (by omega)⟩
          obtain ⟨a, q, rfl, hal, hq, hcj, hqn, hqa⟩ := (HS.out.below KB.out).at_ hs
          have HSB := Lib.hid (show setsB ways ss j = (decide ((s.length : Int) ≤ ways) && setB ss.length j s) by unfold setsB; rw [hs])
          have HRS := Lib.hid (rightSet_any q.at_ s.length q.cap s j n (by have := hqa.1; omega) hqa.2.1 (by omega) (by omega) (hss s (List.mem_of_getElem? hs)) wr (by rw [← hqn]; exact hqa.2.2.2))
          obtain ⟨r, hr⟩ : ∃ r, setB n j s = r := ⟨_, rfl⟩
          rw [hr] at HRS
          rw [HL.out, hr] at HSB
          clear hs hq hqn hqa hr
          have c0 := X1.out.2.1 0 _ rfl
          have c1 := X1.out.2.1 1 _ rfl
          cases e1 : decide (ways < (s.length : Int))
          · have e1' : decide ((s.length : Int) ≤ ways) = true := by
              have := of_decide_eq_false e1
              exact decide_eq_true (by omega)
            cases r
            · have HF := Lib.hid (show (List.range ss.length).all (setsB ways ss) = false from allR_false (k := j) (by have := HL.out; omega) (by rw [HSB.out, e1']; rfl))
              go_wp2_with (go_at_call 38; refine HRS.out.mono ?_; rintro e w1 ⟨rfl, b⟩; have K1 := Lib.hid (KB.out.trans (b.mono KB.out.size)); clear b)
              go_ret
              exact ⟨ret_boolC (by rw [HRC.out, HF.out]), K1.out⟩
            · have HT := Lib.hid (show setsB ways ss j = true by rw [HSB.out, e1']; rfl)
              go_wp2_with (go_at_call 38; refine HRS.out.mono ?_; rintro e w1 ⟨rfl, b⟩; have K1 := Lib.hid (KB.out.trans (b.mono KB.out.size)); have X2 := Lib.hid (X1.out.below b X1.out.1); clear b)
              go_roundw
              case rel => exact ⟨j + 1, by omega, by go_num, (fun q hq => by
                rcases Nat.lt_or_ge q j with h | h
                · exact HNO.out q h
                · obtain rfl : q = j := by omega
                  exact HT.out), X2.out, K1.out⟩
              case measure => simp [intOf]; omega
          · have HF := Lib.hid (show (List.range ss.length).all (setsB ways ss) = false from allR_false (k := j) (by have := HL.out; omega) (by
              rw [HSB.out, show decide ((s.length : Int) ≤ ways) = false by
                have := of_decide_eq_true e1
                exact decide_eq_false (by omega)]
              rfl))
            go_wp2_with fail
            go_ret
            exact ⟨ret_boolC (by rw [HRC.out, HF.out]), KB.out⟩
        · obtain rfl : j = n := by omega
          have HT := Lib.hid (show (List.range ss.length).all (setsB ways ss) = true from allR_true (fun q hq => HNO.out q (by have := HL.out; omega)))
          go_wp2
          go_ret
          exact ⟨ret_boolC (by rw [HRC.out, HT.out]), KB.out⟩
    · by_cases w2 : ways = 2
      · have e1 : (ways != 1) = true := by simpa using w1
        have e2 : (ways != 2) = false := by simp [w2]
        have HRC := Lib.hid (show rightC ways ss = (List.range ss.length).all (setsB ways ss) by unfold rightC; rw [HL.out, HNB.out, w2]; rfl)
        clear w1 w2
        go_wp2
        go_loopw [23] (fun v wr => ∃ j : Nat, j ≤ n ∧ v = .int .i64 j ∧ (∀ q, q < j → setsB ways ss q = true) ∧ Blk wr w.heap.size [.int .i64 ways, .slice A n cap] ∧ Below w.heap.size w wr) (fun v _ => n - (intOf v).toNat)
        case atStart => exact ⟨0, by omega, rfl, (fun q h => by omega), X1.out, KB.out⟩
        case round =>
          obtain ⟨j, hj, rfl, hno, hx1, hb⟩ := hrel
          clear X1 KB
          have KB := Lib.hid hb
          have X1 := Lib.hid hx1
          have HNO := Lib.hid hno
          clear hb hno hx1
          by_cases hlt : j < n
          · obtain ⟨s, hs⟩ : ∃ s, ss[j]? = some s := ⟨_, List.getElem?_eq_getElem (by omega)⟩
            obtain ⟨a, q, rfl, hal, hq, hcj, hqn, hqa⟩ := (HS.out.below KB.out).at_ hs
            have HSB := Lib.hid (show setsB ways ss j = (decide ((s.length : Int) ≤ ways) && setB ss.length j s) by unfold setsB; rw [hs])
            have HRS := Lib.hid (rightSet_any q.at_ s.length q.cap s j n (by have := hqa.1; omega) hqa.2.1 (by omega) (by omega) (hss s (List.mem_of_getElem? hs)) wr (by rw [← hqn]; exact hqa.2.2.2))
            obtain ⟨r, hr⟩ : ∃ r, setB n j s = r := ⟨_, rfl⟩
            rw [hr] at HRS
            rw [HL.out, hr] at HSB
            clear hs hq hqn hqa hr
            have c0 := X1.out.2.1 0 _ rfl
            have c1 := X1.out.2.1 1 _ rfl
            cases e1 : decide (ways < (s.length : Int))
            · have e1' : decide ((s.length : Int) ≤ ways) = true := by
                have := of_decide_eq_false e1
                exact decide_eq_true (by omega)
              cases r
              · have HF := Lib.hid (show (List.range ss.length).all (setsB ways ss) = false from allR_false (k := j) (by have := HL.out; omega) (by rw [HSB.out, e1']; rfl))
                go_wp2_with (go_at_call 38; refine HRS.out.mono ?_; rintro e w1 ⟨rfl, b⟩; have K1 := Lib.hid (KB.out.trans (b.mono KB.out.size)); clear b)
                go_ret
                exact ⟨ret_boolC (by rw [HRC.out, HF.out]), K1.out⟩
              · have HT := Lib.hid (show setsB ways ss j = true by rw [HSB.out, e1']; rfl)
                go_wp2_with (go_at_call 38; refine HRS.out.mono ?_; rintro e w1 ⟨rfl, b⟩; have K1 := Lib.hid (KB.out.trans (b.mono KB.out.size)); have X2 := Lib.hid (X1.out.below b X1.out.1); clear b)
                go_roundw
                case rel => exact ⟨j + 1, by omega, by go_num, (fun q hq => by
                  rcases Nat.lt_or_ge q j with h | h
                  · exact HNO.out q h
                  · obtain rfl : q = j := by omega
                    exact HT.out), X2.out, K1.out⟩
                case measure => simp [intOf]; omega
            · have HF := Lib.hid (show (List.range ss.length).all (setsB ways ss) = false from allR_false (k := j) (by have := HL.out; omega) (by
                rw [HSB.out, show decide ((s.length : Int) ≤ ways) = false by
                  have := of_decide_eq_true e1
                  exact decide_eq_false (by omega)]
                rfl))
              go_wp2_with fail
              go_ret
              exact ⟨ret_boolC (by rw [HRC.out, HF.out]), KB.out⟩
          · obtain rfl : j = n := by omega
            have HT := Lib.hid (show (List.range ss.length).all (setsB ways ss) = true from allR_true (fun q hq => HNO.out q (by have := HL.out; omega)))
            go_wp2
            go_ret
            exact ⟨ret_boolC (by rw [HRC.out, HT.out]), KB.out⟩
      · have e1 : (ways != 1) = true := by simpa using w1
        have e2 : (ways != 2) = true := by simpa using w2
        have HF := Lib.hid (show rightC ways ss = false by unfold rightC; rw [show (ways == 1) = false by simpa using w1, show (ways == 2) = false by simpa using w2]; simp)
        clear w1 w2
        go_wp2
        go_ret
        exact ⟨ret_boolC HF.out.symm, KB.out⟩
  · have q1 : ((n : Int) == 1) = false := by simp; omega
    by_cases n2 : n = 2
    · have q2 : ((n : Int) == 2) = true := by simp [n2]
      have HNB := Lib.hid (show numB n = true by rw [n2]; rfl)
      have hn4 : 0 < n ∧ n ≤ 4 := by omega
      clear n1 n2
      by_cases w1 : ways = 1
      · have e1 : (ways != 1) = false := by simp [w1]
        have HRC := Lib.hid (show rightC ways ss = (List.range ss.length).all (setsB ways ss) by unfold rightC; rw [HL.out, HNB.out, w1]; rfl)
        clear w1
        go_wp2
        go_loopw [23] (fun v wr => ∃ j : Nat, j ≤ n ∧ v = .int .i64 j ∧ (∀ q, q < j → setsB ways ss q = true) ∧ Blk wr w.heap.size [.int .i64 ways, .slice A n cap] ∧ Below w.heap.size w wr) (fun v _ => n - (intOf v).toNat)
        case atStart => exact ⟨0, by omega, rfl, (fun q h => by omega), X1.out, KB.out⟩
        case round =>
          obtain ⟨j, hj, rfl, hno, hx1, hb⟩ := hrel
          clear X1 KB
          have KB := Lib.hid hb
          have X1 := Lib.hid hx1
          have HNO := Lib.hid hno
          clear hb hno hx1
          by_cases hlt : j < n
          · obtain ⟨s, hs⟩ : ∃ s, ss[j]? = some s := ⟨_, List.getElem?_eq_getElem (by omega)⟩
            obtain ⟨a, q, rfl, hal, hq, hcj, hqn, hqa⟩ := (HS.out.below KB.out).at_ hs
            have HSB := Lib.hid (show setsB ways ss j = (decide ((s.length : Int) ≤ ways) && setB ss.length j s) by unfold setsB; rw [hs])
            have HRS := Lib.hid (rightSet_any q.at_ s.length q.cap s j n (by have := hqa.1; omega) hqa.2.1 (by omega) (by omega) (hss s (List.mem_of_getElem? hs)) wr (by rw [← hqn]; exact hqa.2.2.2))
            obtain ⟨r, hr⟩ : ∃ r, setB n j s = r := ⟨_, rfl⟩
            rw [hr] at HRS
            rw [HL.out, hr] at HSB
            clear hs hq hqn hqa hr
            have c0 := X1.out.2.1 0 _ rfl
            have c1 := X1.out.2.1 1 _ rfl
            cases e1 : decide (ways < (s.length : Int))
            · have e1' : decide ((s.length : Int) ≤ ways) = true := by
                have := of_decide_eq_false e1
                exact decide_eq_true (by omega)
              cases r
              · have HF := Lib.hid (show (List.range ss.length).all (setsB ways ss) = false from allR_false (k := j) (by have := HL.out; omega) (by rw [HSB.out, e1']; rfl))
                go_wp2_with (go_at_call 38; refine HRS.out.mono ?_; rintro e w1 ⟨rfl, b⟩; have K1 := Lib.hid (KB.out.trans (b.mono KB.out.size)); clear b)
                go_ret
                exact ⟨ret_boolC (by rw [HRC.out, HF.out]), K1.out⟩
              · have HT := Lib.hid (show setsB ways ss j = true by rw [HSB.out, e1']; rfl)
                go_wp2_with (go_at_call 38; refine HRS.out.mono ?_; rintro e w1 ⟨rfl, b⟩; have K1 := Lib.hid (KB.out.trans (b.mono KB.out.size)); have X2 := Lib.hid (X1.out.below b X1.out.1); clear b)
                go_roundw
                case rel => exact ⟨j + 1, by omega, by go_num, (fun q hq => by
                  rcases Nat.lt_or_ge q j with h | h
                  · exact HNO.out q h
                  · obtain rfl : q = j := by omega
                    exact HT.out), X2.out, K1.out⟩
                case measure => simp [intOf]; omega
            · have HF := Lib.hid (show (List.range ss.length).all (setsB ways ss) = false from allR_false (k := j) (by have := HL.out; omega) (by
                rw [HSB.out, show decide ((s.length : Int) ≤ ways) = false by
                  have := of_decide_eq_true e1
                  exact decide_eq_false (by omega)]
                rfl))
              go_wp2_with fail
              go_ret
              exact ⟨ret_boolC (by rw [HRC.out, HF.out]), KB.out⟩
          · obtain rfl : j = n := by omega
            have HT := Lib.hid (show (List.range ss.length).all (setsB ways ss) = true from allR_true (fun q hq => HNO.out q (by have := HL.out; omega)))
            go_wp2
            go_ret
            exact ⟨ret_boolC (by rw [HRC.out, HT.out]), KB.out⟩
      · by_cases w2 : ways = 2
        · have e1 : (ways != 1) = true := by simpa using w1
          have e2 : (ways != 2) = false := by simp [w2]
          have HRC := Lib.hid (show rightC ways ss = (List.range ss.length).all (setsB ways ss) by unfold rightC; rw [HL.out, HNB.out, w2]; rfl)
          clear w1 w2
          go_wp2
          go_loopw [23] (fun v wr => ∃ j : Nat, j ≤ n ∧ v = .int .i64 j ∧ (∀ q, q < j → setsB ways ss q = true) ∧ Blk wr w.heap.size [.int .i64 ways, .slice A n cap] ∧ Below w.heap.size w wr) (fun v _ => n - (intOf v).toNat)
          case atStart => exact ⟨0, by omega, rfl, (fun q h => by omega), X1.out, KB.out⟩
          case round =>
            obtain ⟨j, hj, rfl, hno, hx1, hb⟩ := hrel
            clear X1 KB
            have KB := Lib.hid hb
            have X1 := Lib.hid hx1
            have HNO := Lib.hid hno
            clear hb hno hx1
            by_cases hlt : j < n
            · obtain ⟨s, hs⟩ : ∃ s, ss[j]? = some s := ⟨_, List.getElem?_eq_getElem (by omega)⟩
              obtain ⟨a, q, rfl, hal, hq, hcj, hqn, hqa⟩ := (HS.out.below KB.out).at_ hs
              have HSB := Lib.hid (show setsB ways ss j = (decide ((s.length : Int) ≤ ways) && setB ss.length j s) by unfold setsB; rw [hs])
              have HRS := Lib.hid (rightSet_any q.at_ s.length q.cap s j n (by have := hqa.1; omega) hqa.2.1 (by omega) (by omega) (hss s (List.mem_of_getElem? hs)) wr (by rw [← hqn]; exact hqa.2.2.2))
              obtain ⟨r, hr⟩ : ∃ r, setB n j s = r := ⟨_, rfl⟩
              rw [hr] at HRS
              rw [HL.out, hr] at HSB
              clear hs hq hqn hqa hr
              have c0 := X1.out.2.1 0 _ rfl
              have c1 := X1.out.2.1 1 _ rfl
              cases e1 : decide (ways < (s.length : Int))
              · have e1' : decide ((s.length : Int) ≤ ways) = true := by
                  have := of_decide_eq_false e1
                  exact decide_eq_true (by omega)
                cases r
                · have HF := Lib.hid (show (List.range ss.length).all (setsB ways ss) = false from allR_false (k := j) (by have := HL.out; omega) (by rw [HSB.out, e1']; rfl))
                  go_wp2_with (go_at_call 38; refine HRS.out.mono ?_; rintro e w1 ⟨rfl, b⟩; have K1 := Lib.hid (KB.out.trans (b.mono KB.out.size)); clear b)
                  go_ret
                  exact ⟨ret_boolC (by rw [HRC.out, HF.out]), K1.out⟩
                · have HT := Lib.hid (show setsB ways ss j = true by rw [HSB.out, e1']; rfl)
                  go_wp2_with (go_at_call 38; refine HRS.out.mono ?_; rintro e w1 ⟨rfl, b⟩; have K1 := Lib.hid (KB.out.trans (b.mono KB.out.size)); have X2 := Lib.hid (X1.out.below b X1.out.1); clear b)
                  go_roundw
                  case rel => exact ⟨j + 1, by omega, by go_num, (fun q hq => by
                    rcases Nat.lt_or_ge q j with h | h
                    · exact HNO.out q h
                    · obtain rfl : q = j := by omega
                      exact HT.out), X2.out, K1.out⟩
                  case measure => simp [intOf]; omega
              · have HF := Lib.hid (show (List.range ss.length).all (setsB ways ss) = false from allR_false (k := j) (by have := HL.out; omega) (by
                  rw [HSB.out, show decide ((s.length : Int) ≤ ways) = false by
                    have := of_decide_eq_true e1
                    exact decide_eq_false (by omega)]
                  rfl))
                go_wp2_with fail
                go_ret
                exact ⟨ret_boolC (by rw [HRC.out, HF.out]), KB.out⟩
            · obtain rfl : j = n := by omega
              have HT := Lib.hid (show (List.range ss.length).all (setsB ways ss) = true from allR_true (fun q hq => HNO.out q (by have := HL.out; omega)))
              go_wp2
              go_ret
              exact ⟨ret_boolC (by rw [HRC.out, HT.out]), KB.out⟩
        · have e1 : (ways != 1) = true := by simpa using w1
          have e2 : (ways != 2) = true := by simpa using w2
          have HF := Lib.hid (show rightC ways ss = false by unfold rightC; rw [show (ways == 1) = false by simpa using w1, show (ways == 2) = false by simpa using w2]; simp)
          clear w1 w2
          go_wp2
          go_ret
          exact ⟨ret_boolC HF.out.symm, KB.out⟩
    · have q2 : ((n : Int) == 2) = false := by simp; omega
      by_cases n4 : n = 4
      · have q4 : ((n : Int) == 4) = true := by simp [n4]
        have HNB := Lib.hid (show numB n = true by rw [n4]; rfl)
        have hn4 : 0 < n ∧ n ≤ 4 := by omega
        clear n1 n2 n4
        by_cases w1 : ways = 1
        · have e1 : (ways != 1) = false := by simp [w1]
          have HRC := Lib.hid (show rightC ways ss = (List.range ss.length).all (setsB ways ss) by unfold rightC; rw [HL.out, HNB.out, w1]; rfl)
          clear w1
          go_wp2
          go_loopw [23] (fun v wr => ∃ j : Nat, j ≤ n ∧ v = .int .i64 j ∧ (∀ q, q < j → setsB ways ss q = true) ∧ Blk wr w.heap.size [.int .i64 ways, .slice A n cap] ∧ Below w.heap.size w wr) (fun v _ => n - (intOf v).toNat)
          case atStart => exact ⟨0, by omega, rfl, (fun q h => by omega), X1.out, KB.out⟩
          case round =>
            obtain ⟨j, hj, rfl, hno, hx1, hb⟩ := hrel
            clear X1 KB
            have KB := Lib.hid hb
            have X1 := Lib.hid hx1
            have HNO := Lib.hid hno
            clear hb hno hx1
            by_cases hlt : j < n
            · obtain ⟨s, hs⟩ : ∃ s, ss[j]? = some s := ⟨_, List.getElem?_eq_getElem (by omega)⟩
              obtain ⟨a, q, rfl, hal, hq, hcj, hqn, hqa⟩ := (HS.out.below KB.out).at_ hs
              have HSB := Lib.hid (show setsB ways ss j = (decide ((s.length : Int) ≤ ways) && setB ss.length j s) by unfold setsB; rw [hs])
              have HRS := Lib.hid (rightSet_any q.at_ s.length q.cap s j n (by have := hqa.1; omega) hqa.2.1 (by omega) (by omega) (hss s (List.mem_of_getElem? hs)) wr (by rw [← hqn]; exact hqa.2.2.2))
              obtain ⟨r, hr⟩ : ∃ r, setB n j s = r := ⟨_, rfl⟩
              rw [hr] at HRS
              rw [HL.out, hr] at HSB
              clear hs hq hqn hqa hr
              have c0 := X1.out.2.1 0 _ rfl
              have c1 := X1.out.2.1 1 _ rfl
              cases e1 : decide (ways < (s.length : Int))
              · have e1' : decide ((s.length : Int) ≤ ways) = true := by
                  have := of_decide_eq_false e1
                  exact decide_eq_true (by omega)
                cases r
                · have HF := Lib.hid (show (List.range ss.length).all (setsB ways ss) = false from allR_false (k := j) (by have := HL.out; omega) (by rw [HSB.out, e1']; rfl))
                  go_wp2_with (go_at_call 38; refine HRS.out.mono ?_; rintro e w1 ⟨rfl, b⟩; have K1 := Lib.hid (KB.out.trans (b.mono KB.out.size)); clear b)
                  go_ret
                  exact ⟨ret_boolC (by rw [HRC.out, HF.out]), K1.out⟩
                · have HT := Lib.hid (show setsB ways ss j = true by rw [HSB.out, e1']; rfl)
                  go_wp2_with (go_at_call 38; refine HRS.out.mono ?_; rintro e w1 ⟨rfl, b⟩; have K1 := Lib.hid (KB.out.trans (b.mono KB.out.size)); have X2 := Lib.hid (X1.out.below b X1.out.1); clear b)
                  go_roundw
                  case rel => exact ⟨j + 1, by omega, by go_num, (fun q hq => by
                    rcases Nat.lt_or_ge q j with h | h
                    · exact HNO.out q h
                    · obtain rfl : q = j := by omega
                      exact HT.out), X2.out, K1.out⟩
                  case measure => simp [intOf]; omega
              · have HF := Lib.hid (show (List.range ss.length).all (setsB ways ss) = false from allR_false (k := j) (by have := HL.out; omega) (by
                  rw [HSB.out, show decide ((s.length : Int) ≤ ways) = false by
                    have := of_decide_eq_true e1
                    exact decide_eq_false (by omega)]
                  rfl))
                go_wp2_with fail
                go_ret
                exact ⟨ret_boolC (by rw [HRC.out, HF.out]), KB.out⟩
            · obtain rfl : j = n := by omega
              have HT := Lib.hid (show (List.range ss.length).all (setsB ways ss) = true from allR_true (fun q hq => HNO.out q (by have := HL.out; omega)))
              go_wp2
              go_ret
              exact ⟨ret_boolC (by rw [HRC.out, HT.out]), KB.out⟩
        · by_cases w2 : ways = 2
          · have e1 : (ways != 1) = true := by simpa using w1
            have e2 : (ways != 2) = false := by simp [w2]
            have HRC := Lib.hid (show rightC ways ss = (List.range ss.length).all (setsB ways ss) by unfold rightC; rw [HL.out, HNB.out, w2]; rfl)
            clear w1 w2
            go_wp2
            go_loopw [23] (fun v wr => ∃ j : Nat, j ≤ n ∧ v = .int .i64 j ∧ (∀ q, q < j → setsB ways ss q = true) ∧ Blk wr w.heap.size [.int .i64 ways, .slice A n cap] ∧ Below w.heap.size w wr) (fun v _ => n - (intOf v).toNat)
            case atStart => exact ⟨0, by omega, rfl, (fun q h => by omega), X1.out, KB.out⟩
            case round =>
              obtain ⟨j, hj, rfl, hno, hx1, hb⟩ := hrel
              clear X1 KB
              have KB := Lib.hid hb
              have X1 := Lib.hid hx1
              have HNO := Lib.hid hno
              clear hb hno hx1
              by_cases hlt : j < n
              · obtain ⟨s, hs⟩ : ∃ s, ss[j]? = some s := ⟨_, List.getElem?_eq_getElem (by omega)⟩
                obtain ⟨a, q, rfl, hal, hq, hcj, hqn, hqa⟩ := (HS.out.below KB.out).at_ hs
                have HSB := Lib.hid (show setsB ways ss j = (decide ((s.length : Int) ≤ ways) && setB ss.length j s) by unfold setsB; rw [hs])
                have HRS := Lib.hid (rightSet_any q.at_ s.length q.cap s j n (by have := hqa.1; omega) hqa.2.1 (by omega) (by omega) (hss s (List.mem_of_getElem? hs)) wr (by rw [← hqn]; exact hqa.2.2.2))
                obtain ⟨r, hr⟩ : ∃ r, setB n j s = r := ⟨_, rfl⟩
                rw [hr] at HRS
                rw [HL.out, hr] at HSB
                clear hs hq hqn hqa hr
                have c0 := X1.out.2.1 0 _ rfl
                have c1 := X1.out.2.1 1 _ rfl
                cases e1 : decide (ways < (s.length : Int))
                · have e1' : decide ((s.length : Int) ≤ ways) = true := by
                    have := of_decide_eq_false e1
                    exact decide_eq_true (by omega)
                  cases r
                  · have HF := Lib.hid (show (List.range ss.length).all (setsB ways ss) = false from allR_false (k := j) (by have := HL.out; omega) (by rw [HSB.out, e1']; rfl))
                    go_wp2_with (go_at_call 38; refine HRS.out.mono ?_; rintro e w1 ⟨rfl, b⟩; have K1 := Lib.hid (KB.out.trans (b.mono KB.out.size)); clear b)
                    go_ret
                    exact ⟨ret_boolC (by rw [HRC.out, HF.out]), K1.out⟩
                  · have HT := Lib.hid (show setsB ways ss j = true by rw [HSB.out, e1']; rfl)
                    go_wp2_with (go_at_call 38; refine HRS.out.mono ?_; rintro e w1 ⟨rfl, b⟩; have K1 := Lib.hid (KB.out.trans (b.mono KB.out.size)); have X2 := Lib.hid (X1.out.below b X1.out.1); clear b)
                    go_roundw
                    case rel => exact ⟨j + 1, by omega, by go_num, (fun q hq => by
                      rcases Nat.lt_or_ge q j with h | h
                      · exact HNO.out q h
                      · obtain rfl : q = j := by omega
                        exact HT.out), X2.out, K1.out⟩
                    case measure => simp [intOf]; omega
                · have HF := Lib.hid (show (List.range ss.length).all (setsB ways ss) = false from allR_false (k := j) (by have := HL.out; omega) (by
                    rw [HSB.out, show decide ((s.length : Int) ≤ ways) = false by
                      have := of_decide_eq_true e1
                      exact decide_eq_false (by omega)]
                    rfl))
                  go_wp2_with fail
                  go_ret
                  exact ⟨ret_boolC (by rw [HRC.out, HF.out]), KB.out⟩
              · obtain rfl : j = n := by omega
                have HT := Lib.hid (show (List.range ss.length).all (setsB ways ss) = true from allR_true (fun q hq => HNO.out q (by have := HL.out; omega)))
                go_wp2
                go_ret
                exact ⟨ret_boolC (by rw [HRC.out, HT.out]), KB.out⟩
          · have e1 : (ways != 1) = true := by simpa using w1
            have e2 : (ways != 2) = true := by simpa using w2
            have HF := Lib.hid (show rightC ways ss = false by unfold rightC; rw [show (ways == 1) = false by simpa using w1, show (ways == 2) = false by simpa using w2]; simp)
            clear w1 w2
            go_wp2
            go_ret
            exact ⟨ret_boolC HF.out.symm, KB.out⟩
      · have q4 : ((n : Int) == 4) = false := by simp; omega
        have HF := Lib.hid (show rightC ways ss = false by unfold rightC numB; rw [HL.out, show (n == 1) = false by simpa using n1, show (n == 2) = false by simpa using n2, show (n == 4) = false by simpa using n4]; rfl)
        clear n1 n2 n4
        go_wp2
        go_ret
        exact ⟨ret_boolC HF.out.symm, KB.out⟩
end Go.Proofs.Ytcgahdmacngipaa
