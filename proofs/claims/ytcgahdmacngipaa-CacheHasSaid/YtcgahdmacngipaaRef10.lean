/- THE CONTRACT of auspexref10.Right. -/
import Derived.Test.YtcgahdmacngipaaCacheD
namespace Go.Proofs.Ytcgahdmacngipaa
open Go.ChangeShapes Go.WideShapes Go.ChangeAt Go.RowKit Go.Sort
set_option linter.unusedVariables false
set_option linter.unusedSimpArgs false
set_option maxHeartbeats 4000000
set_option maxRecDepth 100000

theorem place_take_none {s : List Wy} {i : Nat} {line : Int} (h : ∀ y ∈ s.take i, isL line y = false) : placeI (s.take i) line < 0 := by
  unfold placeI
  rw [idxP_none _ _ h]
  decide
theorem place_take_hit {s : List Wy} {i p : Nat} {line : Int} {y : Wy} (hp : p < i) (hy : s[p]? = some y) (h : isL line y = true) : ¬ placeI (s.take i) line < 0 := by
  have := (idxP_any (isL line) (s.take i)).2.2.2 (List.any_eq_true.2 ⟨y, List.mem_iff_getElem?.2 ⟨p, by rw [List.getElem?_take, if_pos hp]; exact hy⟩, h⟩)
  unfold placeI
  omega
theorem refRight_anyC (ways : Int) (A : Option Addr) (n cap : Nat) (hs : List Hd) (ss : List (List Wy)) (hn : n ≤ cap) (hc : cap ≤ maxLen) (hss : setsOK ss) (w : World) (hS : SetsAt w A n hs ss) :
    Calls Try.prog 14 #[caV ways A n cap] w fun e w' => e = .returned (.bool (rightC ways ss)) ∧ Below w.heap.size w w' := by
  have HS := Lib.hid hS
  have HL := Lib.hid hS.len
  have hl := hS.len
  unfold maxLen at hc
  have f1 := Blk.new w 24 [.int .i64 ways, .slice A n cap]
  have f3 : Below w.heap.size w (w.alloc (.cells #[.int .i64 ways, .slice A n cap] 24)) := (Below.refl _ _).alloc (Nat.le_refl _) _
  clear hS
  unfold caV
  go_enter Try.func14, Try.ntmps14
  go_upto_region 1 with fail
  generalize w.alloc (.cells #[.int .i64 ways, .slice A n cap] 24) = W0 at *
  have X1 := Lib.hid f1
  have KB := Lib.hid f3
  clear f1 f3
  have c0 := X1.out.2.1 0 _ rfl
  have c1 := X1.out.2.1 1 _ rfl
  have HNB := Lib.hid (rfl : numB n = numB n)
  by_cases n0 : numB n = true
  · have hn3 := numB_of n0
    have hn4 : 0 < n ∧ n ≤ 4 := by omega
    replace HNB := Lib.hid n0
    clear n0
    cases q1 : ((n : Int) != 1)
    · by_cases w1 : ways = 1
      · have e1 : (ways != 1) = false := by simp [w1]
        have HRC := Lib.hid (show rightC ways ss = (List.range ss.length).all (setsB ways ss) by unfold rightC; rw [HL.out, HNB.out, w1]; rfl)
        clear w1
        go_wp2
        go_loopw [35] (fun v wr => ∃ j : Nat, j ≤ n ∧ v = .int .i64 j ∧ (∀ q, q < j → setsB ways ss q = true) ∧ Blk wr w.heap.size [.int .i64 ways, .slice A n cap] ∧ Below w.heap.size w wr) (fun v _ => n - (intOf v).toNat)
        case atStart => exact ⟨0, by omega, rfl, (fun q h => by omega), X1.out, KB.out⟩
        case round =>
          obtain ⟨j, hj, rfl, hno, hx1, hb⟩ := hrel
          clear X1 KB
          have K2 := Lib.hid hb
          have X1 := Lib.hid hx1
          have HNO := Lib.hid hno
          clear hb hno hx1
          by_cases hlt : j < n
          · obtain ⟨s, hs⟩ : ∃ s, ss[j]? = some s := ⟨_, List.getElem?_eq_getElem (by omega)⟩
            obtain ⟨a, q, rfl, hal, hq, hcj, hqn, hqa⟩ := (HS.out.below K2.out).at_ hs
            obtain ⟨hqw1, hqw2, hqw3, hqw⟩ := HS.out.2.2 j q s hq hs
            obtain ⟨qa, qn, qc⟩ := q
            simp only at hcj hqn hqw hqw1 hqw2
            subst hqn
            have ZW := Lib.hid hqw
            have hsl : linesOK s := hss s (List.mem_of_getElem? hs)
            have HSB := Lib.hid (show setsB ways ss j = (decide ((s.length : Int) ≤ ways) && setB ss.length j s) by unfold setsB; rw [hs])
            clear hs hq hqa hqw hqw3
            unfold maxLen at hqw2
            have c0 := X1.out.2.1 0 _ rfl
            have c1 := X1.out.2.1 1 _ rfl
            cases e1 : decide (ways < (s.length : Int))
            · have hle : decide ((s.length : Int) ≤ ways) = true := by
                have := of_decide_eq_false e1
                exact decide_eq_true (by omega)
              go_upto_region 9 with fail
              clear c0 c1 hcj
              go_wp2_with fail
              go_loopw [47] (fun v wr => ∃ i : Nat, i ≤ s.length ∧ v = .int .i64 i ∧ (∀ q, q < i → wayB n j s q = true) ∧ Blk wr w.heap.size [.int .i64 ways, .slice (some a) n cap] ∧ Below w.heap.size w wr) (fun v _ => s.length - (intOf v).toNat)
              case atStart => exact ⟨0, by omega, rfl, (fun q h => by omega), X1.out, K2.out⟩
              case round =>
                obtain ⟨i, hi, rfl, hni, hx1, hb⟩ := hrel
                clear X1 K2
                have X1 := Lib.hid hx1
                have K2 := Lib.hid hb
                have HNI := Lib.hid hni
                clear hx1 hb hni
                by_cases hlti : i < s.length
                · obtain ⟨x, hx⟩ : ∃ x, s[i]? = some x := ⟨_, List.getElem?_eq_getElem hlti⟩
                  obtain ⟨bq, rfl, hbl, g0, g1, g2⟩ := (ZW.out.below K2.out).at_ hx
                  have hxr := hsl x (List.mem_of_getElem? hx)
                  have hwb : wayB n j s i = ((x.line % 16 == 0) && ((x.line / 16 % n == (j : Int)) && (decide (placeI (s.take i) x.line < 0) && (x.data.size == 16 || x.data.size == 0)))) := by unfold wayB; rw [hx]
                  have HSO := Lib.hid (fun w => refSetOf_any ways (some a) n cap x.line hxr.1 hxr.2 hn4.1 hn4.2 w)
                  unfold caV at HSO
                  obtain ⟨si, hsi⟩ : ∃ p, setI n x.line = p := ⟨_, rfl⟩
                  rw [hsi] at HSO
                  rw [show x.line / 16 % (n : Int) = si from hsi] at hwb
                  have HWB := Lib.hid hwb
                  clear hx hwb hsi
                  have hb0 : Below wr.heap.size wr (wr.alloc (.cells (wyC x).toArray 37)) := (Below.refl _ _).alloc (Nat.le_refl _) _
                  have hx2 := Blk.new wr 37 (wyC x)
                  have hx1 := X1.out.below hb0 X1.out.1
                  have hb1 := K2.out.trans (hb0.mono K2.out.size)
                  unfold wyC at hx2 hx1 hb0 hb1
                  go_upto_region 12 with fail
                  generalize wr.alloc (.cells #[.int .u32 x.line, .bool x.dirty, .string x.data] 37) = W0 at *
                  clear X1 K2 hb0 g0 g1 g2
                  have X1 := Lib.hid hx1
                  have X2 := Lib.hid hx2
                  have K2 := Lib.hid hb1
                  clear hx1 hx2 hb1
                  generalize wr.heap.size = xb at *
                  have c0 := X1.out.2.1 0 _ rfl
                  have c1 := X1.out.2.1 1 _ rfl
                  have d0 := X2.out.2.1 0 _ rfl
                  have d2 := X2.out.2.1 2 _ rfl
                  cases e1 : (x.line % 16 != 0)
                  · have e1' : (x.line % 16 == 0) = true := by simpa using e1
                    cases e2 : (si != (j : Int))
                    · have e2' : (si == (j : Int)) = true := by simpa using e2
                      cases e3 : ((x.data.size : Int) != 0)
                      · have e3' : (x.data.size == 0) = true := by simp at e3 ⊢; omega
                        go_upto_region 14 with (first | (go_at_call 37
                                                         refine (HSO.out _).mono ?_
                                                         rintro e w3 ⟨rfl, b⟩
                                                         have z1 := X1.out.below b X1.out.1
                                                         have z2 := X2.out.below b X2.out.1
                                                         have z3 := K2.out.trans (b.mono K2.out.size)
                                                         clear X1 X2 K2 b c0 c1 d0 d2
                                                         have X1 := Lib.hid z1
                                                         have X2 := Lib.hid z2
                                                         have K2 := Lib.hid z3
                                                         clear z1 z2 z3
                                                         have d2 := X2.out.2.1 2 _ rfl))
                        clear d2
                        go_wp2_with fail
                        go_loopw [8] (fun v wr => ∃ p : Nat, p ≤ i ∧ v = .int .i64 p ∧ (∀ y ∈ s.take p, isL x.line y = false) ∧ Blk wr w.heap.size [.int .i64 ways, .slice (some a) n cap] ∧ Blk wr xb [.int .u32 x.line, .bool x.dirty, .string x.data] ∧ Below w.heap.size w wr) (fun v _ => i - (intOf v).toNat)
                        case atStart => exact ⟨0, by omega, rfl, by simp, X1.out, X2.out, K2.out⟩
                        case round =>
                          obtain ⟨p, hp, rfl, hnp, hx1, hx2, hb⟩ := hrel
                          clear X1 X2 K2
                          have X1 := Lib.hid hx1
                          have X2 := Lib.hid hx2
                          have K2 := Lib.hid hb
                          have HNP := Lib.hid hnp
                          clear hx1 hx2 hb hnp
                          by_cases hlp : p < i
                          · obtain ⟨y, hy⟩ : ∃ y, s[p]? = some y := ⟨_, List.getElem?_eq_getElem (by omega)⟩
                            obtain ⟨bb, hbb, hbl, g0, -, -⟩ := (ZW.out.below K2.out).at_ hy
                            cases hbb
                            have d0 := X2.out.2.1 0 _ rfl
                            have g0' := fun d os => cell_regrown g0 d os
                            have d0' := fun d os => cell_regrown d0 d os
                            have hps : (p : Int) < s.length := by omega
                            have HY := Lib.hid hy
                            clear hy g0 d0
                            cases e9 : (y.line == x.line)
                            · have HYL := Lib.hid (show isL x.line y = false from e9)
                              go_upto_region 17 with fail
                              refine wp_region_quiet_below (by kernel_rfl) (by kernel_rfl) ?_
                              repeat (go_big_quiet_step (fail))
                              refine wpQuiet_nil ?_
                              intro _ hw'
                              obtain ⟨⟨nq, osq⟩, hw''⟩ := hw'
                              subst hw''
                              have bq := below_regrown wr nq osq
                              clear g0' d0'
                              have z1 := X1.out.below bq X1.out.1
                              have z2 := X2.out.below bq X2.out.1
                              have z3 := K2.out.trans (bq.mono K2.out.size)
                              clear X1 X2 K2 bq
                              have X1 := Lib.hid z1
                              have X2 := Lib.hid z2
                              have K2 := Lib.hid z3
                              clear z1 z2 z3
                              generalize grow (redrawn wr nq) osq = wr2 at *
                              go_wp2
                              go_roundw
                              case rel => exact ⟨p + 1, by omega, by go_num, (fun z hz => by
                                rw [List.take_add_one, HY.out, List.mem_append] at hz
                                rcases hz with hz | hz
                                · exact HNP.out z hz
                                · simp at hz
                                  subst hz
                                  exact HYL.out), X1.out, X2.out, K2.out⟩
                              case measure => simp [intOf]; omega
                            · have HYL := Lib.hid (place_take_hit hlp HY.out (show isL x.line y = true from e9))
                              have HSF := Lib.hid (show setB n j s = false from allR_false (k := i) hlti (by rw [HWB.out]; rw [e1', e2', e3', show decide (placeI (s.take i) x.line < 0) = false from decide_eq_false HYL.out]; rfl))
                              have HF := Lib.hid (show (List.range ss.length).all (setsB ways ss) = false from allR_false (k := j) (by have := HL.out; omega) (by rw [HSB.out, HL.out, HSF.out]; simp))
                              go_upto_region 17 with fail
                              refine wp_region_quiet_below (by kernel_rfl) (by kernel_rfl) ?_
                              repeat (go_big_quiet_step (fail))
                              refine wpQuiet_nil ?_
                              intro _ hw'
                              obtain ⟨⟨nq, osq⟩, hw''⟩ := hw'
                              subst hw''
                              have bq := below_regrown wr nq osq
                              clear g0' d0'
                              have z3 := K2.out.trans (bq.mono K2.out.size)
                              clear X1 X2 K2 bq
                              have K2 := Lib.hid z3
                              clear z3
                              generalize grow (redrawn wr nq) osq = wr2 at *
                              go_wp2_with (first | (go_at_call 37
                                                    refine (HSO.out _).mono ?_
                                                    rintro e w3 ⟨rfl, b⟩
                                                    have z1 := X1.out.below b X1.out.1
                                                    have z2 := X2.out.below b X2.out.1
                                                    have z3 := K2.out.trans (b.mono K2.out.size)
                                                    clear X1 X2 K2 b c0 c1 d0 d2
                                                    have X1 := Lib.hid z1
                                                    have X2 := Lib.hid z2
                                                    have K2 := Lib.hid z3
                                                    clear z1 z2 z3
                                                    have d2 := X2.out.2.1 2 _ rfl))
                              go_ret
                              exact ⟨ret_boolC (by rw [HRC.out, HF.out]), K2.out⟩
                          · obtain rfl : p = i := by omega
                            have HWT := Lib.hid (show wayB n j s p = true by rw [HWB.out, e1', e2', e3', show decide (placeI (s.take p) x.line < 0) = true from decide_eq_true (place_take_none HNP.out)]; simp)
                            go_wp2
                            go_roundw
                            case rel => exact ⟨p + 1, by omega, by go_num, (fun q hq => by
                              rcases Nat.lt_or_ge q p with h | h
                              · exact HNI.out q h
                              · obtain rfl : q = p := by omega
                                exact HWT.out), X1.out, K2.out⟩
                            case measure => simp [intOf]; omega
                      · have e3' : (x.data.size == 0) = false := by simp at e3 ⊢; omega
                        cases e4 : ((x.data.size : Int) != 16)
                        · have e4' : (x.data.size == 16) = true := by simp at e4 ⊢; omega
                          go_upto_region 14 with (first | (go_at_call 37
                                                           refine (HSO.out _).mono ?_
                                                           rintro e w3 ⟨rfl, b⟩
                                                           have z1 := X1.out.below b X1.out.1
                                                           have z2 := X2.out.below b X2.out.1
                                                           have z3 := K2.out.trans (b.mono K2.out.size)
                                                           clear X1 X2 K2 b c0 c1 d0 d2
                                                           have X1 := Lib.hid z1
                                                           have X2 := Lib.hid z2
                                                           have K2 := Lib.hid z3
                                                           clear z1 z2 z3
                                                           have d2 := X2.out.2.1 2 _ rfl))
                          clear d2
                          go_wp2_with fail
                          go_loopw [8] (fun v wr => ∃ p : Nat, p ≤ i ∧ v = .int .i64 p ∧ (∀ y ∈ s.take p, isL x.line y = false) ∧ Blk wr w.heap.size [.int .i64 ways, .slice (some a) n cap] ∧ Blk wr xb [.int .u32 x.line, .bool x.dirty, .string x.data] ∧ Below w.heap.size w wr) (fun v _ => i - (intOf v).toNat)
                          case atStart => exact ⟨0, by omega, rfl, by simp, X1.out, X2.out, K2.out⟩
                          case round =>
                            obtain ⟨p, hp, rfl, hnp, hx1, hx2, hb⟩ := hrel
                            clear X1 X2 K2
                            have X1 := Lib.hid hx1
                            have X2 := Lib.hid hx2
                            have K2 := Lib.hid hb
                            have HNP := Lib.hid hnp
                            clear hx1 hx2 hb hnp
                            by_cases hlp : p < i
                            · obtain ⟨y, hy⟩ : ∃ y, s[p]? = some y := ⟨_, List.getElem?_eq_getElem (by omega)⟩
                              obtain ⟨bb, hbb, hbl, g0, -, -⟩ := (ZW.out.below K2.out).at_ hy
                              cases hbb
                              have d0 := X2.out.2.1 0 _ rfl
                              have g0' := fun d os => cell_regrown g0 d os
                              have d0' := fun d os => cell_regrown d0 d os
                              have hps : (p : Int) < s.length := by omega
                              have HY := Lib.hid hy
                              clear hy g0 d0
                              cases e9 : (y.line == x.line)
                              · have HYL := Lib.hid (show isL x.line y = false from e9)
                                go_upto_region 17 with fail
                                refine wp_region_quiet_below (by kernel_rfl) (by kernel_rfl) ?_
                                repeat (go_big_quiet_step (fail))
                                refine wpQuiet_nil ?_
                                intro _ hw'
                                obtain ⟨⟨nq, osq⟩, hw''⟩ := hw'
                                subst hw''
                                have bq := below_regrown wr nq osq
                                clear g0' d0'
                                have z1 := X1.out.below bq X1.out.1
                                have z2 := X2.out.below bq X2.out.1
                                have z3 := K2.out.trans (bq.mono K2.out.size)
                                clear X1 X2 K2 bq
                                have X1 := Lib.hid z1
                                have X2 := Lib.hid z2
                                have K2 := Lib.hid z3
                                clear z1 z2 z3
                                generalize grow (redrawn wr nq) osq = wr2 at *
                                go_wp2
                                go_roundw
                                case rel => exact ⟨p + 1, by omega, by go_num, (fun z hz => by
                                  rw [List.take_add_one, HY.out, List.mem_append] at hz
                                  rcases hz with hz | hz
                                  · exact HNP.out z hz
                                  · simp at hz
                                    subst hz
                                    exact HYL.out), X1.out, X2.out, K2.out⟩
                                case measure => simp [intOf]; omega
                              · have HYL := Lib.hid (place_take_hit hlp HY.out (show isL x.line y = true from e9))
                                have HSF := Lib.hid (show setB n j s = false from allR_false (k := i) hlti (by rw [HWB.out]; rw [e1', e2', e4', show decide (placeI (s.take i) x.line < 0) = false from decide_eq_false HYL.out]; rfl))
                                have HF := Lib.hid (show (List.range ss.length).all (setsB ways ss) = false from allR_false (k := j) (by have := HL.out; omega) (by rw [HSB.out, HL.out, HSF.out]; simp))
                                go_upto_region 17 with fail
                                refine wp_region_quiet_below (by kernel_rfl) (by kernel_rfl) ?_
                                repeat (go_big_quiet_step (fail))
                                refine wpQuiet_nil ?_
                                intro _ hw'
                                obtain ⟨⟨nq, osq⟩, hw''⟩ := hw'
                                subst hw''
                                have bq := below_regrown wr nq osq
                                clear g0' d0'
                                have z3 := K2.out.trans (bq.mono K2.out.size)
                                clear X1 X2 K2 bq
                                have K2 := Lib.hid z3
                                clear z3
                                generalize grow (redrawn wr nq) osq = wr2 at *
                                go_wp2_with (first | (go_at_call 37
                                                      refine (HSO.out _).mono ?_
                                                      rintro e w3 ⟨rfl, b⟩
                                                      have z1 := X1.out.below b X1.out.1
                                                      have z2 := X2.out.below b X2.out.1
                                                      have z3 := K2.out.trans (b.mono K2.out.size)
                                                      clear X1 X2 K2 b c0 c1 d0 d2
                                                      have X1 := Lib.hid z1
                                                      have X2 := Lib.hid z2
                                                      have K2 := Lib.hid z3
                                                      clear z1 z2 z3
                                                      have d2 := X2.out.2.1 2 _ rfl))
                                go_ret
                                exact ⟨ret_boolC (by rw [HRC.out, HF.out]), K2.out⟩
                            · obtain rfl : p = i := by omega
                              have HWT := Lib.hid (show wayB n j s p = true by rw [HWB.out, e1', e2', e4', show decide (placeI (s.take p) x.line < 0) = true from decide_eq_true (place_take_none HNP.out)]; simp)
                              go_wp2
                              go_roundw
                              case rel => exact ⟨p + 1, by omega, by go_num, (fun q hq => by
                                rcases Nat.lt_or_ge q p with h | h
                                · exact HNI.out q h
                                · obtain rfl : q = p := by omega
                                  exact HWT.out), X1.out, K2.out⟩
                              case measure => simp [intOf]; omega
                        · have e4' : (x.data.size == 16) = false := by simp at e4 ⊢; omega
                          have HSF := Lib.hid (show setB n j s = false from allR_false (k := i) hlti (by rw [HWB.out]; rw [e1', e2', e3', e4']; simp))
                          have HF := Lib.hid (show (List.range ss.length).all (setsB ways ss) = false from allR_false (k := j) (by have := HL.out; omega) (by rw [HSB.out, HL.out, HSF.out]; simp))
                          go_wp2_with (first | (go_at_call 37
                                                refine (HSO.out _).mono ?_
                                                rintro e w3 ⟨rfl, b⟩
                                                have z1 := X1.out.below b X1.out.1
                                                have z2 := X2.out.below b X2.out.1
                                                have z3 := K2.out.trans (b.mono K2.out.size)
                                                clear X1 X2 K2 b c0 c1 d0 d2
                                                have X1 := Lib.hid z1
                                                have X2 := Lib.hid z2
                                                have K2 := Lib.hid z3
                                                clear z1 z2 z3
                                                have d2 := X2.out.2.1 2 _ rfl))
                          go_ret
                          exact ⟨ret_boolC (by rw [HRC.out, HF.out]), K2.out⟩
                    · have e2' : (si == (j : Int)) = false := by simpa using e2
                      have HSF := Lib.hid (show setB n j s = false from allR_false (k := i) hlti (by rw [HWB.out]; rw [e1', e2']; rfl))
                      have HF := Lib.hid (show (List.range ss.length).all (setsB ways ss) = false from allR_false (k := j) (by have := HL.out; omega) (by rw [HSB.out, HL.out, HSF.out]; simp))
                      go_wp2_with (first | (go_at_call 37
                                            refine (HSO.out _).mono ?_
                                            rintro e w3 ⟨rfl, b⟩
                                            have z1 := X1.out.below b X1.out.1
                                            have z2 := X2.out.below b X2.out.1
                                            have z3 := K2.out.trans (b.mono K2.out.size)
                                            clear X1 X2 K2 b c0 c1 d0 d2
                                            have X1 := Lib.hid z1
                                            have X2 := Lib.hid z2
                                            have K2 := Lib.hid z3
                                            clear z1 z2 z3
                                            have d2 := X2.out.2.1 2 _ rfl))
                      go_ret
                      exact ⟨ret_boolC (by rw [HRC.out, HF.out]), K2.out⟩
                  · have e1' : (x.line % 16 == 0) = false := by simpa using e1
                    have HSF := Lib.hid (show setB n j s = false from allR_false (k := i) hlti (by rw [HWB.out]; rw [e1']; rfl))
                    have HF := Lib.hid (show (List.range ss.length).all (setsB ways ss) = false from allR_false (k := j) (by have := HL.out; omega) (by rw [HSB.out, HL.out, HSF.out]; simp))
                    go_wp2_with (first | (go_at_call 37
                                          refine (HSO.out _).mono ?_
                                          rintro e w3 ⟨rfl, b⟩
                                          have z1 := X1.out.below b X1.out.1
                                          have z2 := X2.out.below b X2.out.1
                                          have z3 := K2.out.trans (b.mono K2.out.size)
                                          clear X1 X2 K2 b c0 c1 d0 d2
                                          have X1 := Lib.hid z1
                                          have X2 := Lib.hid z2
                                          have K2 := Lib.hid z3
                                          clear z1 z2 z3
                                          have d2 := X2.out.2.1 2 _ rfl))
                    go_ret
                    exact ⟨ret_boolC (by rw [HRC.out, HF.out]), K2.out⟩
                · obtain rfl : i = s.length := by omega
                  have HST := Lib.hid (show setsB ways ss j = true by rw [HSB.out, HL.out, hle, show setB n j s = true from allR_true HNI.out]; rfl)
                  go_wp2
                  go_roundw
                  case rel => exact ⟨j + 1, by omega, by go_num, (fun q hq => by
                    rcases Nat.lt_or_ge q j with h | h
                    · exact HNO.out q h
                    · obtain rfl : q = j := by omega
                      exact HST.out), X1.out, K2.out⟩
                  case measure => simp [intOf]; omega
            · have HF := Lib.hid (show (List.range ss.length).all (setsB ways ss) = false from allR_false (k := j) (by have := HL.out; omega) (by
                rw [HSB.out, show decide ((s.length : Int) ≤ ways) = false by
                  have := of_decide_eq_true e1
                  exact decide_eq_false (by omega)]
                rfl))
              go_wp2_with fail
              go_ret
              exact ⟨ret_boolC (by rw [HRC.out, HF.out]), K2.out⟩
          · obtain rfl : j = n := by omega
            have HT := Lib.hid (show (List.range ss.length).all (setsB ways ss) = true from allR_true (fun q hq => HNO.out q (by have := HL.out; omega)))
            go_wp2
            go_ret
            exact ⟨ret_boolC (by rw [HRC.out, HT.out]), K2.out⟩
      · by_cases w2 : ways = 2
        · have e1 : (ways != 1) = true := by simpa using w1
          have e2 : (ways != 2) = false := by simp [w2]
          have HRC := Lib.hid (show rightC ways ss = (List.range ss.length).all (setsB ways ss) by unfold rightC; rw [HL.out, HNB.out, w2]; rfl)
          clear w1 w2
          go_wp2
          go_loopw [35] (fun v wr => ∃ j : Nat, j ≤ n ∧ v = .int .i64 j ∧ (∀ q, q < j → setsB ways ss q = true) ∧ Blk wr w.heap.size [.int .i64 ways, .slice A n cap] ∧ Below w.heap.size w wr) (fun v _ => n - (intOf v).toNat)
          case atStart => exact ⟨0, by omega, rfl, (fun q h => by omega), X1.out, KB.out⟩
          case round =>
            obtain ⟨j, hj, rfl, hno, hx1, hb⟩ := hrel
            clear X1 KB
            have K2 := Lib.hid hb
            have X1 := Lib.hid hx1
            have HNO := Lib.hid hno
            clear hb hno hx1
            by_cases hlt : j < n
            · obtain ⟨s, hs⟩ : ∃ s, ss[j]? = some s := ⟨_, List.getElem?_eq_getElem (by omega)⟩
              obtain ⟨a, q, rfl, hal, hq, hcj, hqn, hqa⟩ := (HS.out.below K2.out).at_ hs
              obtain ⟨hqw1, hqw2, hqw3, hqw⟩ := HS.out.2.2 j q s hq hs
              obtain ⟨qa, qn, qc⟩ := q
              simp only at hcj hqn hqw hqw1 hqw2
              subst hqn
              have ZW := Lib.hid hqw
              have hsl : linesOK s := hss s (List.mem_of_getElem? hs)
              have HSB := Lib.hid (show setsB ways ss j = (decide ((s.length : Int) ≤ ways) && setB ss.length j s) by unfold setsB; rw [hs])
              clear hs hq hqa hqw hqw3
              unfold maxLen at hqw2
              have c0 := X1.out.2.1 0 _ rfl
              have c1 := X1.out.2.1 1 _ rfl
              cases e1 : decide (ways < (s.length : Int))
              · have hle : decide ((s.length : Int) ≤ ways) = true := by
                  have := of_decide_eq_false e1
                  exact decide_eq_true (by omega)
                go_upto_region 9 with fail
                clear c0 c1 hcj
                go_wp2_with fail
                go_loopw [47] (fun v wr => ∃ i : Nat, i ≤ s.length ∧ v = .int .i64 i ∧ (∀ q, q < i → wayB n j s q = true) ∧ Blk wr w.heap.size [.int .i64 ways, .slice (some a) n cap] ∧ Below w.heap.size w wr) (fun v _ => s.length - (intOf v).toNat)
                case atStart => exact ⟨0, by omega, rfl, (fun q h => by omega), X1.out, K2.out⟩
                case round =>
                  obtain ⟨i, hi, rfl, hni, hx1, hb⟩ := hrel
                  clear X1 K2
                  have X1 := Lib.hid hx1
                  have K2 := Lib.hid hb
                  have HNI := Lib.hid hni
                  clear hx1 hb hni
                  by_cases hlti : i < s.length
                  · obtain ⟨x, hx⟩ : ∃ x, s[i]? = some x := ⟨_, List.getElem?_eq_getElem hlti⟩
                    obtain ⟨bq, rfl, hbl, g0, g1, g2⟩ := (ZW.out.below K2.out).at_ hx
                    have hxr := hsl x (List.mem_of_getElem? hx)
                    have hwb : wayB n j s i = ((x.line % 16 == 0) && ((x.line / 16 % n == (j : Int)) && (decide (placeI (s.take i) x.line < 0) && (x.data.size == 16 || x.data.size == 0)))) := by unfold wayB; rw [hx]
                    have HSO := Lib.hid (fun w => refSetOf_any ways (some a) n cap x.line hxr.1 hxr.2 hn4.1 hn4.2 w)
                    unfold caV at HSO
                    obtain ⟨si, hsi⟩ : ∃ p, setI n x.line = p := ⟨_, rfl⟩
                    rw [hsi] at HSO
                    rw [show x.line / 16 % (n : Int) = si from hsi] at hwb
                    have HWB := Lib.hid hwb
                    clear hx hwb hsi
                    have hb0 : Below wr.heap.size wr (wr.alloc (.cells (wyC x).toArray 37)) := (Below.refl _ _).alloc (Nat.le_refl _) _
                    have hx2 := Blk.new wr 37 (wyC x)
                    have hx1 := X1.out.below hb0 X1.out.1
                    have hb1 := K2.out.trans (hb0.mono K2.out.size)
                    unfold wyC at hx2 hx1 hb0 hb1
                    go_upto_region 12 with fail
                    generalize wr.alloc (.cells #[.int .u32 x.line, .bool x.dirty, .string x.data] 37) = W0 at *
                    clear X1 K2 hb0 g0 g1 g2
                    have X1 := Lib.hid hx1
                    have X2 := Lib.hid hx2
                    have K2 := Lib.hid hb1
                    clear hx1 hx2 hb1
                    generalize wr.heap.size = xb at *
                    have c0 := X1.out.2.1 0 _ rfl
                    have c1 := X1.out.2.1 1 _ rfl
                    have d0 := X2.out.2.1 0 _ rfl
                    have d2 := X2.out.2.1 2 _ rfl
                    cases e1 : (x.line % 16 != 0)
                    · have e1' : (x.line % 16 == 0) = true := by simpa using e1
                      cases e2 : (si != (j : Int))
                      · have e2' : (si == (j : Int)) = true := by simpa using e2
                        cases e3 : ((x.data.size : Int) != 0)
                        · have e3' : (x.data.size == 0) = true := by simp at e3 ⊢; omega
                          go_upto_region 14 with (first | (go_at_call 37
                                                           refine (HSO.out _).mono ?_
                                                           rintro e w3 ⟨rfl, b⟩
                                                           have z1 := X1.out.below b X1.out.1
                                                           have z2 := X2.out.below b X2.out.1
                                                           have z3 := K2.out.trans (b.mono K2.out.size)
                                                           clear X1 X2 K2 b c0 c1 d0 d2
                                                           have X1 := Lib.hid z1
                                                           have X2 := Lib.hid z2
                                                           have K2 := Lib.hid z3
                                                           clear z1 z2 z3
                                                           have d2 := X2.out.2.1 2 _ rfl))
                          clear d2
                          go_wp2_with fail
                          go_loopw [8] (fun v wr => ∃ p : Nat, p ≤ i ∧ v = .int .i64 p ∧ (∀ y ∈ s.take p, isL x.line y = false) ∧ Blk wr w.heap.size [.int .i64 ways, .slice (some a) n cap] ∧ Blk wr xb [.int .u32 x.line, .bool x.dirty, .string x.data] ∧ Below w.heap.size w wr) (fun v _ => i - (intOf v).toNat)
                          case atStart => exact ⟨0, by omega, rfl, by simp, X1.out, X2.out, K2.out⟩
                          case round =>
                            obtain ⟨p, hp, rfl, hnp, hx1, hx2, hb⟩ := hrel
                            clear X1 X2 K2
                            have X1 := Lib.hid hx1
                            have X2 := Lib.hid hx2
                            have K2 := Lib.hid hb
                            have HNP := Lib.hid hnp
                            clear hx1 hx2 hb hnp
                            by_cases hlp : p < i
                            · obtain ⟨y, hy⟩ : ∃ y, s[p]? = some y := ⟨_, List.getElem?_eq_getElem (by omega)⟩
                              obtain ⟨bb, hbb, hbl, g0, -, -⟩ := (ZW.out.below K2.out).at_ hy
                              cases hbb
                              have d0 := X2.out.2.1 0 _ rfl
                              have g0' := fun d os => cell_regrown g0 d os
                              have d0' := fun d os => cell_regrown d0 d os
                              have hps : (p : Int) < s.length := by omega
                              have HY := Lib.hid hy
                              clear hy g0 d0
                              cases e9 : (y.line == x.line)
                              · have HYL := Lib.hid (show isL x.line y = false from e9)
                                go_upto_region 17 with fail
                                refine wp_region_quiet_below (by kernel_rfl) (by kernel_rfl) ?_
                                repeat (go_big_quiet_step (fail))
                                refine wpQuiet_nil ?_
                                intro _ hw'
                                obtain ⟨⟨nq, osq⟩, hw''⟩ := hw'
                                subst hw''
                                have bq := below_regrown wr nq osq
                                clear g0' d0'
                                have z1 := X1.out.below bq X1.out.1
                                have z2 := X2.out.below bq X2.out.1
                                have z3 := K2.out.trans (bq.mono K2.out.size)
                                clear X1 X2 K2 bq
                                have X1 := Lib.hid z1
                                have X2 := Lib.hid z2
                                have K2 := Lib.hid z3
                                clear z1 z2 z3
                                generalize grow (redrawn wr nq) osq = wr2 at *
                                go_wp2
                                go_roundw
                                case rel => exact ⟨p + 1, by omega, by go_num, (fun z hz => by
                                  rw [List.take_add_one, HY.out, List.mem_append] at hz
                                  rcases hz with hz | hz
                                  · exact HNP.out z hz
                                  · simp at hz
                                    subst hz
                                    exact HYL.out), X1.out, X2.out, K2.out⟩
                                case measure => simp [intOf]; omega
                              · have HYL := Lib.hid (place_take_hit hlp HY.out (show isL x.line y = true from e9))
                                have HSF := Lib.hid (show setB n j s = false from allR_false (k := i) hlti (by rw [HWB.out]; rw [e1', e2', e3', show decide (placeI (s.take i) x.line < 0) = false from decide_eq_false HYL.out]; rfl))
                                have HF := Lib.hid (show (List.range ss.length).all (setsB ways ss) = false from allR_false (k := j) (by have := HL.out; omega) (by rw [HSB.out, HL.out, HSF.out]; simp))
                                go_upto_region 17 with fail
                                refine wp_region_quiet_below (by kernel_rfl) (by kernel_rfl) ?_
                                repeat (go_big_quiet_step (fail))
                                refine wpQuiet_nil ?_
                                intro _ hw'
                                obtain ⟨⟨nq, osq⟩, hw''⟩ := hw'
                                subst hw''
                                have bq := below_regrown wr nq osq
                                clear g0' d0'
                                have z3 := K2.out.trans (bq.mono K2.out.size)
                                clear X1 X2 K2 bq
                                have K2 := Lib.hid z3
                                clear z3
                                generalize grow (redrawn wr nq) osq = wr2 at *
                                go_wp2_with (first | (go_at_call 37
                                                      refine (HSO.out _).mono ?_
                                                      rintro e w3 ⟨rfl, b⟩
                                                      have z1 := X1.out.below b X1.out.1
                                                      have z2 := X2.out.below b X2.out.1
                                                      have z3 := K2.out.trans (b.mono K2.out.size)
                                                      clear X1 X2 K2 b c0 c1 d0 d2
                                                      have X1 := Lib.hid z1
                                                      have X2 := Lib.hid z2
                                                      have K2 := Lib.hid z3
                                                      clear z1 z2 z3
                                                      have d2 := X2.out.2.1 2 _ rfl))
                                go_ret
                                exact ⟨ret_boolC (by rw [HRC.out, HF.out]), K2.out⟩
                            · obtain rfl : p = i := by omega
                              have HWT := Lib.hid (show wayB n j s p = true by rw [HWB.out, e1', e2', e3', show decide (placeI (s.take p) x.line < 0) = true from decide_eq_true (place_take_none HNP.out)]; simp)
                              go_wp2
                              go_roundw
                              case rel => exact ⟨p + 1, by omega, by go_num, (fun q hq => by
                                rcases Nat.lt_or_ge q p with h | h
                                · exact HNI.out q h
                                · obtain rfl : q = p := by omega
                                  exact HWT.out), X1.out, K2.out⟩
                              case measure => simp [intOf]; omega
                        · have e3' : (x.data.size == 0) = false := by simp at e3 ⊢; omega
                          cases e4 : ((x.data.size : Int) != 16)
                          · have e4' : (x.data.size == 16) = true := by simp at e4 ⊢; omega
                            go_upto_region 14 with (first | (go_at_call 37
                                                             refine (HSO.out _).mono ?_
                                                             rintro e w3 ⟨rfl, b⟩
                                                             have z1 := X1.out.below b X1.out.1
                                                             have z2 := X2.out.below b X2.out.1
                                                             have z3 := K2.out.trans (b.mono K2.out.size)
                                                             clear X1 X2 K2 b c0 c1 d0 d2
                                                             have X1 := Lib.hid z1
                                                             have X2 := Lib.hid z2
                                                             have K2 := Lib.hid z3
                                                             clear z1 z2 z3
                                                             have d2 := X2.out.2.1 2 _ rfl))
                            clear d2
                            go_wp2_with fail
                            go_loopw [8] (fun v wr => ∃ p : Nat, p ≤ i ∧ v = .int .i64 p ∧ (∀ y ∈ s.take p, isL x.line y = false) ∧ Blk wr w.heap.size [.int .i64 ways, .slice (some a) n cap] ∧ Blk wr xb [.int .u32 x.line, .bool x.dirty, .string x.data] ∧ Below w.heap.size w wr) (fun v _ => i - (intOf v).toNat)
                            case atStart => exact ⟨0, by omega, rfl, by simp, X1.out, X2.out, K2.out⟩
                            case round =>
                              obtain ⟨p, hp, rfl, hnp, hx1, hx2, hb⟩ := hrel
                              clear X1 X2 K2
                              have X1 := Lib.hid hx1
                              have X2 := Lib.hid hx2
                              have K2 := Lib.hid hb
                              have HNP := Lib.hid hnp
                              clear hx1 hx2 hb hnp
                              by_cases hlp : p < i
                              · obtain ⟨y, hy⟩ : ∃ y, s[p]? = some y := ⟨_, List.getElem?_eq_getElem (by omega)⟩
                                obtain ⟨bb, hbb, hbl, g0, -, -⟩ := (ZW.out.below K2.out).at_ hy
                                cases hbb
                                have d0 := X2.out.2.1 0 _ rfl
                                have g0' := fun d os => cell_regrown g0 d os
                                have d0' := fun d os => cell_regrown d0 d os
                                have hps : (p : Int) < s.length := by omega
                                have HY := Lib.hid hy
                                clear hy g0 d0
                                cases e9 : (y.line == x.line)
                                · have HYL := Lib.hid (show isL x.line y = false from e9)
                                  go_upto_region 17 with fail
                                  refine wp_region_quiet_below (by kernel_rfl) (by kernel_rfl) ?_
                                  repeat (go_big_quiet_step (fail))
                                  refine wpQuiet_nil ?_
                                  intro _ hw'
                                  obtain ⟨⟨nq, osq⟩, hw''⟩ := hw'
                                  subst hw''
                                  have bq := below_regrown wr nq osq
                                  clear g0' d0'
                                  have z1 := X1.out.below bq X1.out.1
                                  have z2 := X2.out.below bq X2.out.1
                                  have z3 := K2.out.trans (bq.mono K2.out.size)
                                  clear X1 X2 K2 bq
                                  have X1 := Lib.hid z1
                                  have X2 := Lib.hid z2
                                  have K2 := Lib.hid z3
                                  clear z1 z2 z3
                                  generalize grow (redrawn wr nq) osq = wr2 at *
                                  go_wp2
                                  go_roundw
                                  case rel => exact ⟨p + 1, by omega, by go_num, (fun z hz => by
                                    rw [List.take_add_one, HY.out, List.mem_append] at hz
                                    rcases hz with hz | hz
                                    · exact HNP.out z hz
                                    · simp at hz
                                      subst hz
                                      exact HYL.out), X1.out, X2.out, K2.out⟩
                                  case measure => simp [intOf]; omega
                                · have HYL := Lib.hid (place_take_hit hlp HY.out (show isL x.line y = true from e9))
                                  have HSF := Lib.hid (show setB n j s = false from allR_false (k := i) hlti (by rw [HWB.out]; rw [e1', e2', e4', show decide (placeI (s.take i) x.line < 0) = false from decide_eq_false HYL.out]; rfl))
                                  have HF := Lib.hid (show (List.range ss.length).all (setsB ways ss) = false from allR_false (k := j) (by have := HL.out; omega) (by rw [HSB.out, HL.out, HSF.out]; simp))
                                  go_upto_region 17 with fail
                                  refine wp_region_quiet_below (by kernel_rfl) (by kernel_rfl) ?_
                                  repeat (go_big_quiet_step (fail))
                                  refine wpQuiet_nil ?_
                                  intro _ hw'
                                  obtain ⟨⟨nq, osq⟩, hw''⟩ := hw'
                                  subst hw''
                                  have bq := below_regrown wr nq osq
                                  clear g0' d0'
                                  have z3 := K2.out.trans (bq.mono K2.out.size)
                                  clear X1 X2 K2 bq
                                  have K2 := Lib.hid z3
                                  clear z3
                                  generalize grow (redrawn wr nq) osq = wr2 at *
                                  go_wp2_with (first | (go_at_call 37
                                                        refine (HSO.out _).mono ?_
                                                        rintro e w3 ⟨rfl, b⟩
                                                        have z1 := X1.out.below b X1.out.1
                                                        have z2 := X2.out.below b X2.out.1
                                                        have z3 := K2.out.trans (b.mono K2.out.size)
                                                        clear X1 X2 K2 b c0 c1 d0 d2
                                                        have X1 := Lib.hid z1
                                                        have X2 := Lib.hid z2
                                                        have K2 := Lib.hid z3
                                                        clear z1 z2 z3
                                                        have d2 := X2.out.2.1 2 _ rfl))
                                  go_ret
                                  exact ⟨ret_boolC (by rw [HRC.out, HF.out]), K2.out⟩
                              · obtain rfl : p = i := by omega
                                have HWT := Lib.hid (show wayB n j s p = true by rw [HWB.out, e1', e2', e4', show decide (placeI (s.take p) x.line < 0) = true from decide_eq_true (place_take_none HNP.out)]; simp)
                                go_wp2
                                go_roundw
                                case rel => exact ⟨p + 1, by omega, by go_num, (fun q hq => by
                                  rcases Nat.lt_or_ge q p with h | h
                                  · exact HNI.out q h
                                  · obtain rfl : q = p := by omega
                                    exact HWT.out), X1.out, K2.out⟩
                                case measure => simp [intOf]; omega
                          · have e4' : (x.data.size == 16) = false := by simp at e4 ⊢; omega
                            have HSF := Lib.hid (show setB n j s = false from allR_false (k := i) hlti (by rw [HWB.out]; rw [e1', e2', e3', e4']; simp))
                            have HF := Lib.hid (show (List.range ss.length).all (setsB ways ss) = false from allR_false (k := j) (by have := HL.out; omega) (by rw [HSB.out, HL.out, HSF.out]; simp))
                            go_wp2_with (first | (go_at_call 37
                                                  refine (HSO.out _).mono ?_
                                                  rintro e w3 ⟨rfl, b⟩
                                                  have z1 := X1.out.below b X1.out.1
                                                  have z2 := X2.out.below b X2.out.1
                                                  have z3 := K2.out.trans (b.mono K2.out.size)
                                                  clear X1 X2 K2 b c0 c1 d0 d2
                                                  have X1 := Lib.hid z1
                                                  have X2 := Lib.hid z2
                                                  have K2 := Lib.hid z3
                                                  clear z1 z2 z3
                                                  have d2 := X2.out.2.1 2 _ rfl))
                            go_ret
                            exact ⟨ret_boolC (by rw [HRC.out, HF.out]), K2.out⟩
                      · have e2' : (si == (j : Int)) = false := by simpa using e2
                        have HSF := Lib.hid (show setB n j s = false from allR_false (k := i) hlti (by rw [HWB.out]; rw [e1', e2']; rfl))
                        have HF := Lib.hid (show (List.range ss.length).all (setsB ways ss) = false from allR_false (k := j) (by have := HL.out; omega) (by rw [HSB.out, HL.out, HSF.out]; simp))
                        go_wp2_with (first | (go_at_call 37
                                              refine (HSO.out _).mono ?_
                                              rintro e w3 ⟨rfl, b⟩
                                              have z1 := X1.out.below b X1.out.1
                                              have z2 := X2.out.below b X2.out.1
                                              have z3 := K2.out.trans (b.mono K2.out.size)
                                              clear X1 X2 K2 b c0 c1 d0 d2
                                              have X1 := Lib.hid z1
                                              have X2 := Lib.hid z2
                                              have K2 := Lib.hid z3
                                              clear z1 z2 z3
                                              have d2 := X2.out.2.1 2 _ rfl))
                        go_ret
                        exact ⟨ret_boolC (by rw [HRC.out, HF.out]), K2.out⟩
                    · have e1' : (x.line % 16 == 0) = false := by simpa using e1
                      have HSF := Lib.hid (show setB n j s = false from allR_false (k := i) hlti (by rw [HWB.out]; rw [e1']; rfl))
                      have HF := Lib.hid (show (List.range ss.length).all (setsB ways ss) = false from allR_false (k := j) (by have := HL.out; omega) (by rw [HSB.out, HL.out, HSF.out]; simp))
                      go_wp2_with (first | (go_at_call 37
                                            refine (HSO.out _).mono ?_
                                            rintro e w3 ⟨rfl, b⟩
                                            have z1 := X1.out.below b X1.out.1
                                            have z2 := X2.out.below b X2.out.1
                                            have z3 := K2.out.trans (b.mono K2.out.size)
                                            clear X1 X2 K2 b c0 c1 d0 d2
                                            have X1 := Lib.hid z1
                                            have X2 := Lib.hid z2
                                            have K2 := Lib.hid z3
                                            clear z1 z2 z3
                                            have d2 := X2.out.2.1 2 _ rfl))
                      go_ret
                      exact ⟨ret_boolC (by rw [HRC.out, HF.out]), K2.out⟩
                  · obtain rfl : i = s.length := by omega
                    have HST := Lib.hid (show setsB ways ss j = true by rw [HSB.out, HL.out, hle, show setB n j s = true from allR_true HNI.out]; rfl)
                    go_wp2
                    go_roundw
                    case rel => exact ⟨j + 1, by omega, by go_num, (fun q hq => by
                      rcases Nat.lt_or_ge q j with h | h
                      · exact HNO.out q h
                      · obtain rfl : q = j := by omega
                        exact HST.out), X1.out, K2.out⟩
                    case measure => simp [intOf]; omega
              · have HF := Lib.hid (show (List.range ss.length).all (setsB ways ss) = false from allR_false (k := j) (by have := HL.out; omega) (by
                  rw [HSB.out, show decide ((s.length : Int) ≤ ways) = false by
                    have := of_decide_eq_true e1
                    exact decide_eq_false (by omega)]
                  rfl))
                go_wp2_with fail
                go_ret
                exact ⟨ret_boolC (by rw [HRC.out, HF.out]), K2.out⟩
            · obtain rfl : j = n := by omega
              have HT := Lib.hid (show (List.range ss.length).all (setsB ways ss) = true from allR_true (fun q hq => HNO.out q (by have := HL.out; omega)))
              go_wp2
              go_ret
              exact ⟨ret_boolC (by rw [HRC.out, HT.out]), K2.out⟩
        · have e1 : (ways != 1) = true := by simpa using w1
          have e2 : (ways != 2) = true := by simpa using w2
          have HF := Lib.hid (show rightC ways ss = false by unfold rightC; rw [show (ways == 1) = false by simpa using w1, show (ways == 2) = false by simpa using w2]; simp)
          clear w1 w2
          go_wp2
          go_ret
          exact ⟨ret_boolC HF.out.symm, KB.out⟩
    · cases q2 : ((n : Int) != 2)
      · by_cases w1 : ways = 1
        · have e1 : (ways != 1) = false := by simp [w1]
          have HRC := Lib.hid (show rightC ways ss = (List.range ss.length).all (setsB ways ss) by unfold rightC; rw [HL.out, HNB.out, w1]; rfl)
          clear w1
          go_wp2
          go_loopw [35] (fun v wr => ∃ j : Nat, j ≤ n ∧ v = .int .i64 j ∧ (∀ q, q < j → setsB ways ss q = true) ∧ Blk wr w.heap.size [.int .i64 ways, .slice A n cap] ∧ Below w.heap.size w wr) (fun v _ => n - (intOf v).toNat)
          case atStart => exact ⟨0, by omega, rfl, (fun q h => by omega), X1.out, KB.out⟩
          case round =>
            obtain ⟨j, hj, rfl, hno, hx1, hb⟩ := hrel
            clear X1 KB
            have K2 := Lib.hid hb
            have X1 := Lib.hid hx1
            have HNO := Lib.hid hno
            clear hb hno hx1
            by_cases hlt : j < n
            · obtain ⟨s, hs⟩ : ∃ s, ss[j]? = some s := ⟨_, List.getElem?_eq_getElem (by omega)⟩
              obtain ⟨a, q, rfl, hal, hq, hcj, hqn, hqa⟩ := (HS.out.below K2.out).at_ hs
              obtain ⟨hqw1, hqw2, hqw3, hqw⟩ := HS.out.2.2 j q s hq hs
              obtain ⟨qa, qn, qc⟩ := q
              simp only at hcj hqn hqw hqw1 hqw2
              subst hqn
              have ZW := Lib.hid hqw
              have hsl : linesOK s := hss s (List.mem_of_getElem? hs)
              have HSB := Lib.hid (show setsB ways ss j = (decide ((s.length : Int) ≤ ways) && setB ss.length j s) by unfold setsB; rw [hs])
              clear hs hq hqa hqw hqw3
              unfold maxLen at hqw2
              have c0 := X1.out.2.1 0 _ rfl
              have c1 := X1.out.2.1 1 _ rfl
              cases e1 : decide (ways < (s.length : Int))
              · have hle : decide ((s.length : Int) ≤ ways) = true := by
                  have := of_decide_eq_false e1
                  exact decide_eq_true (by omega)
                go_upto_region 9 with fail
                clear c0 c1 hcj
                go_wp2_with fail
                go_loopw [47] (fun v wr => ∃ i : Nat, i ≤ s.length ∧ v = .int .i64 i ∧ (∀ q, q < i → wayB n j s q = true) ∧ Blk wr w.heap.size [.int .i64 ways, .slice (some a) n cap] ∧ Below w.heap.size w wr) (fun v _ => s.length - (intOf v).toNat)
                case atStart => exact ⟨0, by omega, rfl, (fun q h => by omega), X1.out, K2.out⟩
                case round =>
                  obtain ⟨i, hi, rfl, hni, hx1, hb⟩ := hrel
                  clear X1 K2
                  have X1 := Lib.hid hx1
                  have K2 := Lib.hid hb
                  have HNI := Lib.hid hni
                  clear hx1 hb hni
                  by_cases hlti : i < s.length
                  · obtain ⟨x, hx⟩ : ∃ x, s[i]? = some x := ⟨_, List.getElem?_eq_getElem hlti⟩
                    obtain ⟨bq, rfl, hbl, g0, g1, g2⟩ := (ZW.out.below K2.out).at_ hx
                    have hxr := hsl x (List.mem_of_getElem? hx)
                    have hwb : wayB n j s i = ((x.line % 16 == 0) && ((x.line / 16 % n == (j : Int)) && (decide (placeI (s.take i) x.line < 0) && (x.data.size == 16 || x.data.size == 0)))) := by unfold wayB; rw [hx]
                    have HSO := Lib.hid (fun w => refSetOf_any ways (some a) n cap x.line hxr.1 hxr.2 hn4.1 hn4.2 w)
                    unfold caV at HSO
                    obtain ⟨si, hsi⟩ : ∃ p, setI n x.line = p := ⟨_, rfl⟩
                    rw [hsi] at HSO
                    rw [show x.line / 16 % (n : Int) = si from hsi] at hwb
                    have HWB := Lib.hid hwb
                    clear hx hwb hsi
                    have hb0 : Below wr.heap.size wr (wr.alloc (.cells (wyC x).toArray 37)) := (Below.refl _ _).alloc (Nat.le_refl _) _
                    have hx2 := Blk.new wr 37 (wyC x)
                    have hx1 := X1.out.below hb0 X1.out.1
                    have hb1 := K2.out.trans (hb0.mono K2.out.size)
                    unfold wyC at hx2 hx1 hb0 hb1
                    go_upto_region 12 with fail
                    generalize wr.alloc (.cells #[.int .u32 x.line, .bool x.dirty, .string x.data] 37) = W0 at *
                    clear X1 K2 hb0 g0 g1 g2
                    have X1 := Lib.hid hx1
                    have X2 := Lib.hid hx2
                    have K2 := Lib.hid hb1
                    clear hx1 hx2 hb1
                    generalize wr.heap.size = xb at *
                    have c0 := X1.out.2.1 0 _ rfl
                    have c1 := X1.out.2.1 1 _ rfl
                    have d0 := X2.out.2.1 0 _ rfl
                    have d2 := X2.out.2.1 2 _ rfl
                    cases e1 : (x.line % 16 != 0)
                    · have e1' : (x.line % 16 == 0) = true := by simpa using e1
                      cases e2 : (si != (j : Int))
                      · have e2' : (si == (j : Int)) = true := by simpa using e2
                        cases e3 : ((x.data.size : Int) != 0)
                        · have e3' : (x.data.size == 0) = true := by simp at e3 ⊢; omega
                          go_upto_region 14 with (first | (go_at_call 37
                                                           refine (HSO.out _).mono ?_
                                                           rintro e w3 ⟨rfl, b⟩
                                                           have z1 := X1.out.below b X1.out.1
                                                           have z2 := X2.out.below b X2.out.1
                                                           have z3 := K2.out.trans (b.mono K2.out.size)
                                                           clear X1 X2 K2 b c0 c1 d0 d2
                                                           have X1 := Lib.hid z1
                                                           have X2 := Lib.hid z2
                                                           have K2 := Lib.hid z3
                                                           clear z1 z2 z3
                                                           have d2 := X2.out.2.1 2 _ rfl))
                          clear d2
                          go_wp2_with fail
                          go_loopw [8] (fun v wr => ∃ p : Nat, p ≤ i ∧ v = .int .i64 p ∧ (∀ y ∈ s.take p, isL x.line y = false) ∧ Blk wr w.heap.size [.int .i64 ways, .slice (some a) n cap] ∧ Blk wr xb [.int .u32 x.line, .bool x.dirty, .string x.data] ∧ Below w.heap.size w wr) (fun v _ => i - (intOf v).toNat)
                          case atStart => exact ⟨0, by omega, rfl, by simp, X1.out, X2.out, K2.out⟩
                          case round =>
                            obtain ⟨p, hp, rfl, hnp, hx1, hx2, hb⟩ := hrel
                            clear X1 X2 K2
                            have X1 := Lib.hid hx1
                            have X2 := Lib.hid hx2
                            have K2 := Lib.hid hb
                            have HNP := Lib.hid hnp
                            clear hx1 hx2 hb hnp
                            by_cases hlp : p < i
                            · obtain ⟨y, hy⟩ : ∃ y, s[p]? = some y := ⟨_, List.getElem?_eq_getElem (by omega)⟩
                              obtain ⟨bb, hbb, hbl, g0, -, -⟩ := (ZW.out.below K2.out).at_ hy
                              cases hbb
                              have d0 := X2.out.2.1 0 _ rfl
                              have g0' := fun d os => cell_regrown g0 d os
                              have d0' := fun d os => cell_regrown d0 d os
                              have hps : (p : Int) < s.length := by omega
                              have HY := Lib.hid hy
                              clear hy g0 d0
                              cases e9 : (y.line == x.line)
                              · have HYL := Lib.hid (show isL x.line y = false from e9)
                                go_upto_region 17 with fail
                                refine wp_region_quiet_below (by kernel_rfl) (by kernel_rfl) ?_
                                repeat (go_big_quiet_step (fail))
                                refine wpQuiet_nil ?_
                                intro _ hw'
                                obtain ⟨⟨nq, osq⟩, hw''⟩ := hw'
                                subst hw''
                                have bq := below_regrown wr nq osq
                                clear g0' d0'
                                have z1 := X1.out.below bq X1.out.1
                                have z2 := X2.out.below bq X2.out.1
                                have z3 := K2.out.trans (bq.mono K2.out.size)
                                clear X1 X2 K2 bq
                                have X1 := Lib.hid z1
                                have X2 := Lib.hid z2
                                have K2 := Lib.hid z3
                                clear z1 z2 z3
                                generalize grow (redrawn wr nq) osq = wr2 at *
                                go_wp2
                                go_roundw
                                case rel => exact ⟨p + 1, by omega, by go_num, (fun z hz => by
                                  rw [List.take_add_one, HY.out, List.mem_append] at hz
                                  rcases hz with hz | hz
                                  · exact HNP.out z hz
                                  · simp at hz
                                    subst hz
                                    exact HYL.out), X1.out, X2.out, K2.out⟩
                                case measure => simp [intOf]; omega
                              · have HYL := Lib.hid (place_take_hit hlp HY.out (show isL x.line y = true from e9))
                                have HSF := Lib.hid (show setB n j s = false from allR_false (k := i) hlti (by rw [HWB.out]; rw [e1', e2', e3', show decide (placeI (s.take i) x.line < 0) = false from decide_eq_false HYL.out]; rfl))
                                have HF := Lib.hid (show (List.range ss.length).all (setsB ways ss) = false from allR_false (k := j) (by have := HL.out; omega) (by rw [HSB.out, HL.out, HSF.out]; simp))
                                go_upto_region 17 with fail
                                refine wp_region_quiet_below (by kernel_rfl) (by kernel_rfl) ?_
                                repeat (go_big_quiet_step (fail))
                                refine wpQuiet_nil ?_
                                intro _ hw'
                                obtain ⟨⟨nq, osq⟩, hw''⟩ := hw'
                                subst hw''
                                have bq := below_regrown wr nq osq
                                clear g0' d0'
                                have z3 := K2.out.trans (bq.mono K2.out.size)
                                clear X1 X2 K2 bq
                                have K2 := Lib.hid z3
                                clear z3
                                generalize grow (redrawn wr nq) osq = wr2 at *
                                go_wp2_with (first | (go_at_call 37
                                                      refine (HSO.out _).mono ?_
                                                      rintro e w3 ⟨rfl, b⟩
                                                      have z1 := X1.out.below b X1.out.1
                                                      have z2 := X2.out.below b X2.out.1
                                                      have z3 := K2.out.trans (b.mono K2.out.size)
                                                      clear X1 X2 K2 b c0 c1 d0 d2
                                                      have X1 := Lib.hid z1
                                                      have X2 := Lib.hid z2
                                                      have K2 := Lib.hid z3
                                                      clear z1 z2 z3
                                                      have d2 := X2.out.2.1 2 _ rfl))
                                go_ret
                                exact ⟨ret_boolC (by rw [HRC.out, HF.out]), K2.out⟩
                            · obtain rfl : p = i := by omega
                              have HWT := Lib.hid (show wayB n j s p = true by rw [HWB.out, e1', e2', e3', show decide (placeI (s.take p) x.line < 0) = true from decide_eq_true (place_take_none HNP.out)]; simp)
                              go_wp2
                              go_roundw
                              case rel => exact ⟨p + 1, by omega, by go_num, (fun q hq => by
                                rcases Nat.lt_or_ge q p with h | h
                                · exact HNI.out q h
                                · obtain rfl : q = p := by omega
                                  exact HWT.out), X1.out, K2.out⟩
                              case measure => simp [intOf]; omega
                        · have e3' : (x.data.size == 0) = false := by simp at e3 ⊢; omega
                          cases e4 : ((x.data.size : Int) != 16)
                          · have e4' : (x.data.size == 16) = true := by simp at e4 ⊢; omega
                            go_upto_region 14 with (first | (go_at_call 37
                                                             refine (HSO.out _).mono ?_
                                                             rintro e w3 ⟨rfl, b⟩
                                                             have z1 := X1.out.below b X1.out.1
                                                             have z2 := X2.out.below b X2.out.1
                                                             have z3 := K2.out.trans (b.mono K2.out.size)
                                                             clear X1 X2 K2 b c0 c1 d0 d2
                                                             have X1 := Lib.hid z1
                                                             have X2 := Lib.hid z2
                                                             have K2 := Lib.hid z3
                                                             clear z1 z2 z3
                                                             have d2 := X2.out.2.1 2 _ rfl))
                            clear d2
                            go_wp2_with fail
                            go_loopw [8] (fun v wr => ∃ p : Nat, p ≤ i ∧ v = .int .i64 p ∧ (∀ y ∈ s.take p, isL x.line y = false) ∧ Blk wr w.heap.size [.int .i64 ways, .slice (some a) n cap] ∧ Blk wr xb [.int .u32 x.line, .bool x.dirty, .string x.data] ∧ Below w.heap.size w wr) (fun v _ => i - (intOf v).toNat)
                            case atStart => exact ⟨0, by omega, rfl, by simp, X1.out, X2.out, K2.out⟩
                            case round =>
                              obtain ⟨p, hp, rfl, hnp, hx1, hx2, hb⟩ := hrel
                              clear X1 X2 K2
                              have X1 := Lib.hid hx1
                              have X2 := Lib.hid hx2
                              have K2 := Lib.hid hb
                              have HNP := Lib.hid hnp
                              clear hx1 hx2 hb hnp
                              by_cases hlp : p < i
                              · obtain ⟨y, hy⟩ : ∃ y, s[p]? = some y := ⟨_, List.getElem?_eq_getElem (by omega)⟩
                                obtain ⟨bb, hbb, hbl, g0, -, -⟩ := (ZW.out.below K2.out).at_ hy
                                cases hbb
                                have d0 := X2.out.2.1 0 _ rfl
                                have g0' := fun d os => cell_regrown g0 d os
                                have d0' := fun d os => cell_regrown d0 d os
                                have hps : (p : Int) < s.length := by omega
                                have HY := Lib.hid hy
                                clear hy g0 d0
                                cases e9 : (y.line == x.line)
                                · have HYL := Lib.hid (show isL x.line y = false from e9)
                                  go_upto_region 17 with fail
                                  refine wp_region_quiet_below (by kernel_rfl) (by kernel_rfl) ?_
                                  repeat (go_big_quiet_step (fail))
                                  refine wpQuiet_nil ?_
                                  intro _ hw'
                                  obtain ⟨⟨nq, osq⟩, hw''⟩ := hw'
                                  subst hw''
                                  have bq := below_regrown wr nq osq
                                  clear g0' d0'
                                  have z1 := X1.out.below bq X1.out.1
                                  have z2 := X2.out.below bq X2.out.1
                                  have z3 := K2.out.trans (bq.mono K2.out.size)
                                  clear X1 X2 K2 bq
                                  have X1 := Lib.hid z1
                                  have X2 := Lib.hid z2
                                  have K2 := Lib.hid z3
                                  clear z1 z2 z3
                                  generalize grow (redrawn wr nq) osq = wr2 at *
                                  go_wp2
                                  go_roundw
                                  case rel => exact ⟨p + 1, by omega, by go_num, (fun z hz => by
                                    rw [List.take_add_one, HY.out, List.mem_append] at hz
                                    rcases hz with hz | hz
                                    · exact HNP.out z hz
                                    · simp at hz
                                      subst hz
                                      exact HYL.out), X1.out, X2.out, K2.out⟩
                                  case measure => simp [intOf]; omega
                                · have HYL := Lib.hid (place_take_hit hlp HY.out (show isL x.line y = true from e9))
                                  have HSF := Lib.hid (show setB n j s = false from allR_false (k := i) hlti (by rw [HWB.out]; rw [e1', e2', e4', show decide (placeI (s.take i) x.line < 0) = false from decide_eq_false HYL.out]; rfl))
                                  have HF := Lib.hid (show (List.range ss.length).all (setsB ways ss) = false from allR_false (k := j) (by have := HL.out; omega) (by rw [HSB.out, HL.out, HSF.out]; simp))
                                  go_upto_region 17 with fail
                                  refine wp_region_quiet_below (by kernel_rfl) (by kernel_rfl) ?_
                                  repeat (go_big_quiet_step (fail))
                                  refine wpQuiet_nil ?_
                                  intro _ hw'
                                  obtain ⟨⟨nq, osq⟩, hw''⟩ := hw'
                                  subst hw''
                                  have bq := below_regrown wr nq osq
                                  clear g0' d0'
                                  have z3 := K2.out.trans (bq.mono K2.out.size)
                                  clear X1 X2 K2 bq
                                  have K2 := Lib.hid z3
                                  clear z3
                                  generalize grow (redrawn wr nq) osq = wr2 at *
                                  go_wp2_with (first | (go_at_call 37
                                                        refine (HSO.out _).mono ?_
                                                        rintro e w3 ⟨rfl, b⟩
                                                        have z1 := X1.out.below b X1.out.1
                                                        have z2 := X2.out.below b X2.out.1
                                                        have z3 := K2.out.trans (b.mono K2.out.size)
                                                        clear X1 X2 K2 b c0 c1 d0 d2
                                                        have X1 := Lib.hid z1
                                                        have X2 := Lib.hid z2
                                                        have K2 := Lib.hid z3
                                                        clear z1 z2 z3
                                                        have d2 := X2.out.2.1 2 _ rfl))
                                  go_ret
                                  exact ⟨ret_boolC (by rw [HRC.out, HF.out]), K2.out⟩
                              · obtain rfl : p = i := by omega
                                have HWT := Lib.hid (show wayB n j s p = true by rw [HWB.out, e1', e2', e4', show decide (placeI (s.take p) x.line < 0) = true from decide_eq_true (place_take_none HNP.out)]; simp)
                                go_wp2
                                go_roundw
                                case rel => exact ⟨p + 1, by omega, by go_num, (fun q hq => by
                                  rcases Nat.lt_or_ge q p with h | h
                                  · exact HNI.out q h
                                  · obtain rfl : q = p := by omega
                                    exact HWT.out), X1.out, K2.out⟩
                                case measure => simp [intOf]; omega
                          · have e4' : (x.data.size == 16) = false := by simp at e4 ⊢; omega
                            have HSF := Lib.hid (show setB n j s = false from allR_false (k := i) hlti (by rw [HWB.out]; rw [e1', e2', e3', e4']; simp))
                            have HF := Lib.hid (show (List.range ss.length).all (setsB ways ss) = false from allR_false (k := j) (by have := HL.out; omega) (by rw [HSB.out, HL.out, HSF.out]; simp))
                            go_wp2_with (first | (go_at_call 37
                                                  refine (HSO.out _).mono ?_
                                                  rintro e w3 ⟨rfl, b⟩
                                                  have z1 := X1.out.below b X1.out.1
                                                  have z2 := X2.out.below b X2.out.1
                                                  have z3 := K2.out.trans (b.mono K2.out.size)
                                                  clear X1 X2 K2 b c0 c1 d0 d2
                                                  have X1 := Lib.hid z1
                                                  have X2 := Lib.hid z2
                                                  have K2 := Lib.hid z3
                                                  clear z1 z2 z3
                                                  have d2 := X2.out.2.1 2 _ rfl))
                            go_ret
                            exact ⟨ret_boolC (by rw [HRC.out, HF.out]), K2.out⟩
                      · have e2' : (si == (j : Int)) = false := by simpa using e2
                        have HSF := Lib.hid (show setB n j s = false from allR_false (k := i) hlti (by rw [HWB.out]; rw [e1', e2']; rfl))
                        have HF := Lib.hid (show (List.range ss.length).all (setsB ways ss) = false from allR_false (k := j) (by have := HL.out; omega) (by rw [HSB.out, HL.out, HSF.out]; simp))
                        go_wp2_with (first | (go_at_call 37
                                              refine (HSO.out _).mono ?_
                                              rintro e w3 ⟨rfl, b⟩
                                              have z1 := X1.out.below b X1.out.1
                                              have z2 := X2.out.below b X2.out.1
                                              have z3 := K2.out.trans (b.mono K2.out.size)
                                              clear X1 X2 K2 b c0 c1 d0 d2
                                              have X1 := Lib.hid z1
                                              have X2 := Lib.hid z2
                                              have K2 := Lib.hid z3
                                              clear z1 z2 z3
                                              have d2 := X2.out.2.1 2 _ rfl))
                        go_ret
                        exact ⟨ret_boolC (by rw [HRC.out, HF.out]), K2.out⟩
                    · have e1' : (x.line % 16 == 0) = false := by simpa using e1
                      have HSF := Lib.hid (show setB n j s = false from allR_false (k := i) hlti (by rw [HWB.out]; rw [e1']; rfl))
                      have HF := Lib.hid (show (List.range ss.length).all (setsB ways ss) = false from allR_false (k := j) (by have := HL.out; omega) (by rw [HSB.out, HL.out, HSF.out]; simp))
                      go_wp2_with (first | (go_at_call 37
                                            refine (HSO.out _).mono ?_
                                            rintro e w3 ⟨rfl, b⟩
                                            have z1 := X1.out.below b X1.out.1
                                            have z2 := X2.out.below b X2.out.1
                                            have z3 := K2.out.trans (b.mono K2.out.size)
                                            clear X1 X2 K2 b c0 c1 d0 d2
                                            have X1 := Lib.hid z1
                                            have X2 := Lib.hid z2
                                            have K2 := Lib.hid z3
                                            clear z1 z2 z3
                                            have d2 := X2.out.2.1 2 _ rfl))
                      go_ret
                      exact ⟨ret_boolC (by rw [HRC.out, HF.out]), K2.out⟩
                  · obtain rfl : i = s.length := by omega
                    have HST := Lib.hid (show setsB ways ss j = true by rw [HSB.out, HL.out, hle, show setB n j s = true from allR_true HNI.out]; rfl)
                    go_wp2
                    go_roundw
                    case rel => exact ⟨j + 1, by omega, by go_num, (fun q hq => by
                      rcases Nat.lt_or_ge q j with h | h
                      · exact HNO.out q h
                      · obtain rfl : q = j := by omega
                        exact HST.out), X1.out, K2.out⟩
                    case measure => simp [intOf]; omega
              · have HF := Lib.hid (show (List.range ss.length).all (setsB ways ss) = false from allR_false (k := j) (by have := HL.out; omega) (by
                  rw [HSB.out, show decide ((s.length : Int) ≤ ways) = false by
                    have := of_decide_eq_true e1
                    exact decide_eq_false (by omega)]
                  rfl))
                go_wp2_with fail
                go_ret
                exact ⟨ret_boolC (by rw [HRC.out, HF.out]), K2.out⟩
            · obtain rfl : j = n := by omega
              have HT := Lib.hid (show (List.range ss.length).all (setsB ways ss) = true from allR_true (fun q hq => HNO.out q (by have := HL.out; omega)))
              go_wp2
              go_ret
              exact ⟨ret_boolC (by rw [HRC.out, HT.out]), K2.out⟩
        · by_cases w2 : ways = 2
          · have e1 : (ways != 1) = true := by simpa using w1
            have e2 : (ways != 2) = false := by simp [w2]
            have HRC := Lib.hid (show rightC ways ss = (List.range ss.length).all (setsB ways ss) by unfold rightC; rw [HL.out, HNB.out, w2]; rfl)
            clear w1 w2
            go_wp2
            go_loopw [35] (fun v wr => ∃ j : Nat, j ≤ n ∧ v = .int .i64 j ∧ (∀ q, q < j → setsB ways ss q = true) ∧ Blk wr w.heap.size [.int .i64 ways, .slice A n cap] ∧ Below w.heap.size w wr) (fun v _ => n - (intOf v).toNat)
            case atStart => exact ⟨0, by omega, rfl, (fun q h => by omega), X1.out, KB.out⟩
            case round =>
              obtain ⟨j, hj, rfl, hno, hx1, hb⟩ := hrel
              clear X1 KB
              have K2 := Lib.hid hb
              have X1 := Lib.hid hx1
              have HNO := Lib.hid hno
              clear hb hno hx1
              by_cases hlt : j < n
              · obtain ⟨s, hs⟩ : ∃ s, ss[j]? = some s := ⟨_, List.getElem?_eq_getElem (by omega)⟩
                obtain ⟨a, q, rfl, hal, hq, hcj, hqn, hqa⟩ := (HS.out.below K2.out).at_ hs
                obtain ⟨hqw1, hqw2, hqw3, hqw⟩ := HS.out.2.2 j q s hq hs
                obtain ⟨qa, qn, qc⟩ := q
                simp only at hcj hqn hqw hqw1 hqw2
                subst hqn
                have ZW := Lib.hid hqw
                have hsl : linesOK s := hss s (List.mem_of_getElem? hs)
                have HSB := Lib.hid (show setsB ways ss j = (decide ((s.length : Int) ≤ ways) && setB ss.length j s) by unfold setsB; rw [hs])
                clear hs hq hqa hqw hqw3
                unfold maxLen at hqw2
                have c0 := X1.out.2.1 0 _ rfl
                have c1 := X1.out.2.1 1 _ rfl
                cases e1 : decide (ways < (s.length : Int))
                · have hle : decide ((s.length : Int) ≤ ways) = true := by
                    have := of_decide_eq_false e1
                    exact decide_eq_true (by omega)
                  go_upto_region 9 with fail
                  clear c0 c1 hcj
                  go_wp2_with fail
                  go_loopw [47] (fun v wr => ∃ i : Nat, i ≤ s.length ∧ v = .int .i64 i ∧ (∀ q, q < i → wayB n j s q = true) ∧ Blk wr w.heap.size [.int .i64 ways, .slice (some a) n cap] ∧ Below w.heap.size w wr) (fun v _ => s.length - (intOf v).toNat)
                  case atStart => exact ⟨0, by omega, rfl, (fun q h => by omega), X1.out, K2.out⟩
                  case round =>
                    obtain ⟨i, hi, rfl, hni, hx1, hb⟩ := hrel
                    clear X1 K2
                    have X1 := Lib.hid hx1
                    have K2 := Lib.hid hb
                    have HNI := Lib.hid hni
                    clear hx1 hb hni
                    by_cases hlti : i < s.length
                    · obtain ⟨x, hx⟩ : ∃ x, s[i]? = some x := ⟨_, List.getElem?_eq_getElem hlti⟩
                      obtain ⟨bq, rfl, hbl, g0, g1, g2⟩ := (ZW.out.below K2.out).at_ hx
                      have hxr := hsl x (List.mem_of_getElem? hx)
                      have hwb : wayB n j s i = ((x.line % 16 == 0) && ((x.line / 16 % n == (j : Int)) && (decide (placeI (s.take i) x.line < 0) && (x.data.size == 16 || x.data.size == 0)))) := by unfold wayB; rw [hx]
                      have HSO := Lib.hid (fun w => refSetOf_any ways (some a) n cap x.line hxr.1 hxr.2 hn4.1 hn4.2 w)
                      unfold caV at HSO
                      obtain ⟨si, hsi⟩ : ∃ p, setI n x.line = p := ⟨_, rfl⟩
                      rw [hsi] at HSO
                      rw [show x.line / 16 % (n : Int) = si from hsi] at hwb
                      have HWB := Lib.hid hwb
                      clear hx hwb hsi
                      have hb0 : Below wr.heap.size wr (wr.alloc (.cells (wyC x).toArray 37)) := (Below.refl _ _).alloc (Nat.le_refl _) _
                      have hx2 := Blk.new wr 37 (wyC x)
                      have hx1 := X1.out.below hb0 X1.out.1
                      have hb1 := K2.out.trans (hb0.mono K2.out.size)
                      unfold wyC at hx2 hx1 hb0 hb1
                      go_upto_region 12 with fail
                      generalize wr.alloc (.cells #[.int .u32 x.line, .bool x.dirty, .string x.data] 37) = W0 at *
                      clear X1 K2 hb0 g0 g1 g2
                      have X1 := Lib.hid hx1
                      have X2 := Lib.hid hx2
                      have K2 := Lib.hid hb1
                      clear hx1 hx2 hb1
                      generalize wr.heap.size = xb at *
                      have c0 := X1.out.2.1 0 _ rfl
                      have c1 := X1.out.2.1 1 _ rfl
                      have d0 := X2.out.2.1 0 _ rfl
                      have d2 := X2.out.2.1 2 _ rfl
                      cases e1 : (x.line % 16 != 0)
                      · have e1' : (x.line % 16 == 0) = true := by simpa using e1
                        cases e2 : (si != (j : Int))
                        · have e2' : (si == (j : Int)) = true := by simpa using e2
                          cases e3 : ((x.data.size : Int) != 0)
                          · have e3' : (x.data.size == 0) = true := by simp at e3 ⊢; omega
                            go_upto_region 14 with (first | (go_at_call 37
                                                             refine (HSO.out _).mono ?_
                                                             rintro e w3 ⟨rfl, b⟩
                                                             have z1 := X1.out.below b X1.out.1
                                                             have z2 := X2.out.below b X2.out.1
                                                             have z3 := K2.out.trans (b.mono K2.out.size)
                                                             clear X1 X2 K2 b c0 c1 d0 d2
                                                             have X1 := Lib.hid z1
                                                             have X2 := Lib.hid z2
                                                             have K2 := Lib.hid z3
                                                             clear z1 z2 z3
                                                             have d2 := X2.out.2.1 2 _ rfl))
                            clear d2
                            go_wp2_with fail
                            go_loopw [8] (fun v wr => ∃ p : Nat, p ≤ i ∧ v = .int .i64 p ∧ (∀ y ∈ s.take p, isL x.line y = false) ∧ Blk wr w.heap.size [.int .i64 ways, .slice (some a) n cap] ∧ Blk wr xb [.int .u32 x.line, .bool x.dirty, .string x.data] ∧ Below w.heap.size w wr) (fun v _ => i - (intOf v).toNat)
                            case atStart => exact ⟨0, by omega, rfl, by simp, X1.out, X2.out, K2.out⟩
                            case round =>
                              obtain ⟨p, hp, rfl, hnp, hx1, hx2, hb⟩ := hrel
                              clear X1 X2 K2
                              have X1 := Lib.hid hx1
                              have X2 := Lib.hid hx2
                              have K2 := Lib.hid hb
                              have HNP := Lib.hid hnp
                              clear hx1 hx2 hb hnp
                              by_cases hlp : p < i
                              · obtain ⟨y, hy⟩ : ∃ y, s[p]? = some y := ⟨_, List.getElem?_eq_getElem (by omega)⟩
                                obtain ⟨bb, hbb, hbl, g0, -, -⟩ := (ZW.out.below K2.out).at_ hy
                                cases hbb
                                have d0 := X2.out.2.1 0 _ rfl
                                have g0' := fun d os => cell_regrown g0 d os
                                have d0' := fun d os => cell_regrown d0 d os
                                have hps : (p : Int) < s.length := by omega
                                have HY := Lib.hid hy
                                clear hy g0 d0
                                cases e9 : (y.line == x.line)
                                · have HYL := Lib.hid (show isL x.line y = false from e9)
                                  go_upto_region 17 with fail
                                  refine wp_region_quiet_below (by kernel_rfl) (by kernel_rfl) ?_
                                  repeat (go_big_quiet_step (fail))
                                  refine wpQuiet_nil ?_
                                  intro _ hw'
                                  obtain ⟨⟨nq, osq⟩, hw''⟩ := hw'
                                  subst hw''
                                  have bq := below_regrown wr nq osq
                                  clear g0' d0'
                                  have z1 := X1.out.below bq X1.out.1
                                  have z2 := X2.out.below bq X2.out.1
                                  have z3 := K2.out.trans (bq.mono K2.out.size)
                                  clear X1 X2 K2 bq
                                  have X1 := Lib.hid z1
                                  have X2 := Lib.hid z2
                                  have K2 := Lib.hid z3
                                  clear z1 z2 z3
                                  generalize grow (redrawn wr nq) osq = wr2 at *
                                  go_wp2
                                  go_roundw
                                  case rel => exact ⟨p + 1, by omega, by go_num, (fun z hz => by
                                    rw [List.take_add_one, HY.out, List.mem_append] at hz
                                    rcases hz with hz | hz
                                    · exact HNP.out z hz
                                    · simp at hz
                                      subst hz
                                      exact HYL.out), X1.out, X2.out, K2.out⟩
                                  case measure => simp [intOf]; omega
                                · have HYL := Lib.hid (place_take_hit hlp HY.out (show isL x.line y = true from e9))
                                  have HSF := Lib.hid (show setB n j s = false from allR_false (k := i) hlti (by rw [HWB.out]; rw [e1', e2', e3', show decide (placeI (s.take i) x.line < 0) = false from decide_eq_false HYL.out]; rfl))
                                  have HF := Lib.hid (show (List.range ss.length).all (setsB ways ss) = false from allR_false (k := j) (by have := HL.out; omega) (by rw [HSB.out, HL.out, HSF.out]; simp))
                                  go_upto_region 17 with fail
                                  refine wp_region_quiet_below (by kernel_rfl) (by kernel_rfl) ?_
                                  repeat (go_big_quiet_step (fail))
                                  refine wpQuiet_nil ?_
                                  intro _ hw'
                                  obtain ⟨⟨nq, osq⟩, hw''⟩ := hw'
                                  subst hw''
                                  have bq := below_regrown wr nq osq
                                  clear g0' d0'
                                  have z3 := K2.out.trans (bq.mono K2.out.size)
                                  clear X1 X2 K2 bq
                                  have K2 := Lib.hid z3
                                  clear z3
                                  generalize grow (redrawn wr nq) osq = wr2 at *
                                  go_wp2_with (first | (go_at_call 37
                                                        refine (HSO.out _).mono ?_
                                                        rintro e w3 ⟨rfl, b⟩
                                                        have z1 := X1.out.below b X1.out.1
                                                        have z2 := X2.out.below b X2.out.1
                                                        have z3 := K2.out.trans (b.mono K2.out.size)
                                                        clear X1 X2 K2 b c0 c1 d0 d2
                                                        have X1 := Lib.hid z1
                                                        have X2 := Lib.hid z2
                                                        have K2 := Lib.hid z3
                                                        clear z1 z2 z3
                                                        have d2 := X2.out.2.1 2 _ rfl))
                                  go_ret
                                  exact ⟨ret_boolC (by rw [HRC.out, HF.out]), K2.out⟩
                              · obtain rfl : p = i := by omega
                                have HWT := Lib.hid (show wayB n j s p = true by rw [HWB.out, e1', e2', e3', show decide (placeI (s.take p) x.line < 0) = true from decide_eq_true (place_take_none HNP.out)]; simp)
                                go_wp2
                                go_roundw
                                case rel => exact ⟨p + 1, by omega, by go_num, (fun q hq => by
                                  rcases Nat.lt_or_ge q p with h | h
                                  · exact HNI.out q h
                                  · obtain rfl : q = p := by omega
                                    exact HWT.out), X1.out, K2.out⟩
                                case measure => simp [intOf]; omega
                          · have e3' : (x.data.size == 0) = false := by simp at e3 ⊢; omega
                            cases e4 : ((x.data.size : Int) != 16)
                            · have e4' : (x.data.size == 16) = true := by simp at e4 ⊢; omega
                              go_upto_region 14 with (first | (go_at_call 37
                                                               refine (HSO.out _).mono ?_
                                                               rintro e w3 ⟨rfl, b⟩
                                                               have z1 := X1.out.below b X1.out.1
                                                               have z2 := X2.out.below b X2.out.1
                                                               have z3 := K2.out.trans (b.mono K2.out.size)
                                                               clear X1 X2 K2 b c0 c1 d0 d2
                                                               have X1 := Lib.hid z1
                                                               have X2 := Lib.hid z2
                                                               have K2 := Lib.hid z3
                                                               clear z1 z2 z3
                                                               have d2 := X2.out.2.1 2 _ rfl))
                              clear d2
                              go_wp2_with fail
                              go_loopw [8] (fun v wr => ∃ p : Nat, p ≤ i ∧ v = .int .i64 p ∧ (∀ y ∈ s.take p, isL x.line y = false) ∧ Blk wr w.heap.size [.int .i64 ways, .slice (some a) n cap] ∧ Blk wr xb [.int .u32 x.line, .bool x.dirty, .string x.data] ∧ Below w.heap.size w wr) (fun v _ => i - (intOf v).toNat)
                              case atStart => exact ⟨0, by omega, rfl, by simp, X1.out, X2.out, K2.out⟩
                              case round =>
                                obtain ⟨p, hp, rfl, hnp, hx1, hx2, hb⟩ := hrel
                                clear X1 X2 K2
                                have X1 := Lib.hid hx1
                                have X2 := Lib.hid hx2
                                have K2 := Lib.hid hb
                                have HNP := Lib.hid hnp
                                clear hx1 hx2 hb hnp
                                by_cases hlp : p < i
                                · obtain ⟨y, hy⟩ : ∃ y, s[p]? = some y := ⟨_, List.getElem?_eq_getElem (by omega)⟩
                                  obtain ⟨bb, hbb, hbl, g0, -, -⟩ := (ZW.out.below K2.out).at_ hy
                                  cases hbb
                                  have d0 := X2.out.2.1 0 _ rfl
                                  have g0' := fun d os => cell_regrown g0 d os
                                  have d0' := fun d os => cell_regrown d0 d os
                                  have hps : (p : Int) < s.length := by omega
                                  have HY := Lib.hid hy
                                  clear hy g0 d0
                                  cases e9 : (y.line == x.line)
                                  · have HYL := Lib.hid (show isL x.line y = false from e9)
                                    go_upto_region 17 with fail
                                    refine wp_region_quiet_below (by kernel_rfl) (by kernel_rfl) ?_
                                    repeat (go_big_quiet_step (fail))
                                    refine wpQuiet_nil ?_
                                    intro _ hw'
                                    obtain ⟨⟨nq, osq⟩, hw''⟩ := hw'
                                    subst hw''
                                    have bq := below_regrown wr nq osq
                                    clear g0' d0'
                                    have z1 := X1.out.below bq X1.out.1
                                    have z2 := X2.out.below bq X2.out.1
                                    have z3 := K2.out.trans (bq.mono K2.out.size)
                                    clear X1 X2 K2 bq
                                    have X1 := Lib.hid z1
                                    have X2 := Lib.hid z2
                                    have K2 := Lib.hid z3
                                    clear z1 z2 z3
                                    generalize grow (redrawn wr nq) osq = wr2 at *
                                    go_wp2
                                    go_roundw
                                    case rel => exact ⟨p + 1, by omega, by go_num, (fun z hz => by
                                      rw [List.take_add_one, HY.out, List.mem_append] at hz
                                      rcases hz with hz | hz
                                      · exact HNP.out z hz
                                      · simp at hz
                                        subst hz
                                        exact HYL.out), X1.out, X2.out, K2.out⟩
                                    case measure => simp [intOf]; omega
                                  · have HYL := Lib.hid (place_take_hit hlp HY.out (show isL x.line y = true from e9))
                                    have HSF := Lib.hid (show setB n j s = false from allR_false (k := i) hlti (by rw [HWB.out]; rw [e1', e2', e4', show decide (placeI (s.take i) x.line < 0) = false from decide_eq_false HYL.out]; rfl))
                                    have HF := Lib.hid (show (List.range ss.length).all (setsB ways ss) = false from allR_false (k := j) (by have := HL.out; omega) (by rw [HSB.out, HL.out, HSF.out]; simp))
                                    go_upto_region 17 with fail
                                    refine wp_region_quiet_below (by kernel_rfl) (by kernel_rfl) ?_
                                    repeat (go_big_quiet_step (fail))
                                    refine wpQuiet_nil ?_
                                    intro _ hw'
                                    obtain ⟨⟨nq, osq⟩, hw''⟩ := hw'
                                    subst hw''
                                    have bq := below_regrown wr nq osq
                                    clear g0' d0'
                                    have z3 := K2.out.trans (bq.mono K2.out.size)
                                    clear X1 X2 K2 bq
                                    have K2 := Lib.hid z3
                                    clear z3
                                    generalize grow (redrawn wr nq) osq = wr2 at *
                                    go_wp2_with (first | (go_at_call 37
                                                          refine (HSO.out _).mono ?_
                                                          rintro e w3 ⟨rfl, b⟩
                                                          have z1 := X1.out.below b X1.out.1
                                                          have z2 := X2.out.below b X2.out.1
                                                          have z3 := K2.out.trans (b.mono K2.out.size)
                                                          clear X1 X2 K2 b c0 c1 d0 d2
                                                          have X1 := Lib.hid z1
                                                          have X2 := Lib.hid z2
                                                          have K2 := Lib.hid z3
                                                          clear z1 z2 z3
                                                          have d2 := X2.out.2.1 2 _ rfl))
                                    go_ret
                                    exact ⟨ret_boolC (by rw [HRC.out, HF.out]), K2.out⟩
                                · obtain rfl : p = i := by omega
                                  have HWT := Lib.hid (show wayB n j s p = true by rw [HWB.out, e1', e2', e4', show decide (placeI (s.take p) x.line < 0) = true from decide_eq_true (place_take_none HNP.out)]; simp)
                                  go_wp2
                                  go_roundw
                                  case rel => exact ⟨p + 1, by omega, by go_num, (fun q hq => by
                                    rcases Nat.lt_or_ge q p with h | h
                                    · exact HNI.out q h
                                    · obtain rfl : q = p := by omega
                                      exact HWT.out), X1.out, K2.out⟩
                                  case measure => simp [intOf]; omega
                            · have e4' : (x.data.size == 16) = false := by simp at e4 ⊢; omega
                              have HSF := Lib.hid (show setB n j s = false from allR_false (k := i) hlti (by rw [HWB.out]; rw [e1', e2', e3', e4']; simp))
                              have HF := Lib.hid (show (List.range ss.length).all (setsB ways ss) = false from allR_false (k := j) (by have := HL.out; omega) (by rw [HSB.out, HL.out, HSF.out]; simp))
                              go_wp2_with (first | (go_at_call 37
                                                    refine (HSO.out _).mono ?_
                                                    rintro e w3 ⟨rfl, b⟩
                                                    have z1 := X1.out.below b X1.out.1
                                                    have z2 := X2.out.below b X2.out.1
                                                    have z3 := K2.out.trans (b.mono K2.out.size)
                                                    clear X1 X2 K2 b c0 c1 d0 d2
                                                    have X1 := Lib.hid z1
                                                    have X2 := Lib.hid z2
                                                    have K2 := Lib.hid z3
                                                    clear z1 z2 z3
                                                    have d2 := X2.out.2.1 2 _ rfl))
                              go_ret
                              exact ⟨ret_boolC (by rw [HRC.out, HF.out]), K2.out⟩
                        · have e2' : (si == (j : Int)) = false := by simpa using e2
                          have HSF := Lib.hid (show setB n j s = false from allR_false (k := i) hlti (by rw [HWB.out]; rw [e1', e2']; rfl))
                          have HF := Lib.hid (show (List.range ss.length).all (setsB ways ss) = false from allR_false (k := j) (by have := HL.out; omega) (by rw [HSB.out, HL.out, HSF.out]; simp))
                          go_wp2_with (first | (go_at_call 37
                                                refine (HSO.out _).mono ?_
                                                rintro e w3 ⟨rfl, b⟩
                                                have z1 := X1.out.below b X1.out.1
                                                have z2 := X2.out.below b X2.out.1
                                                have z3 := K2.out.trans (b.mono K2.out.size)
                                                clear X1 X2 K2 b c0 c1 d0 d2
                                                have X1 := Lib.hid z1
                                                have X2 := Lib.hid z2
                                                have K2 := Lib.hid z3
                                                clear z1 z2 z3
                                                have d2 := X2.out.2.1 2 _ rfl))
                          go_ret
                          exact ⟨ret_boolC (by rw [HRC.out, HF.out]), K2.out⟩
                      · have e1' : (x.line % 16 == 0) = false := by simpa using e1
                        have HSF := Lib.hid (show setB n j s = false from allR_false (k := i) hlti (by rw [HWB.out]; rw [e1']; rfl))
                        have HF := Lib.hid (show (List.range ss.length).all (setsB ways ss) = false from allR_false (k := j) (by have := HL.out; omega) (by rw [HSB.out, HL.out, HSF.out]; simp))
                        go_wp2_with (first | (go_at_call 37
                                              refine (HSO.out _).mono ?_
                                              rintro e w3 ⟨rfl, b⟩
                                              have z1 := X1.out.below b X1.out.1
                                              have z2 := X2.out.below b X2.out.1
                                              have z3 := K2.out.trans (b.mono K2.out.size)
                                              clear X1 X2 K2 b c0 c1 d0 d2
                                              have X1 := Lib.hid z1
                                              have X2 := Lib.hid z2
                                              have K2 := Lib.hid z3
                                              clear z1 z2 z3
                                              have d2 := X2.out.2.1 2 _ rfl))
                        go_ret
                        exact ⟨ret_boolC (by rw [HRC.out, HF.out]), K2.out⟩
                    · obtain rfl : i = s.length := by omega
                      have HST := Lib.hid (show setsB ways ss j = true by rw [HSB.out, HL.out, hle, show setB n j s = true from allR_true HNI.out]; rfl)
                      go_wp2
                      go_roundw
                      case rel => exact ⟨j + 1, by omega, by go_num, (fun q hq => by
                        rcases Nat.lt_or_ge q j with h | h
                        · exact HNO.out q h
                        · obtain rfl : q = j := by omega
                          exact HST.out), X1.out, K2.out⟩
                      case measure => simp [intOf]; omega
                · have HF := Lib.hid (show (List.range ss.length).all (setsB ways ss) = false from allR_false (k := j) (by have := HL.out; omega) (by
                    rw [HSB.out, show decide ((s.length : Int) ≤ ways) = false by
                      have := of_decide_eq_true e1
                      exact decide_eq_false (by omega)]
                    rfl))
                  go_wp2_with fail
                  go_ret
                  exact ⟨ret_boolC (by rw [HRC.out, HF.out]), K2.out⟩
              · obtain rfl : j = n := by omega
                have HT := Lib.hid (show (List.range ss.length).all (setsB ways ss) = true from allR_true (fun q hq => HNO.out q (by have := HL.out; omega)))
                go_wp2
                go_ret
                exact ⟨ret_boolC (by rw [HRC.out, HT.out]), K2.out⟩
          · have e1 : (ways != 1) = true := by simpa using w1
            have e2 : (ways != 2) = true := by simpa using w2
            have HF := Lib.hid (show rightC ways ss = false by unfold rightC; rw [show (ways == 1) = false by simpa using w1, show (ways == 2) = false by simpa using w2]; simp)
            clear w1 w2
            go_wp2
            go_ret
            exact ⟨ret_boolC HF.out.symm, KB.out⟩
      · have q4 : ((n : Int) != 4) = false := by simp at q1 q2 ⊢; omega
        by_cases w1 : ways = 1
        · have e1 : (ways != 1) = false := by simp [w1]
          have HRC := Lib.hid (show rightC ways ss = (List.range ss.length).all (setsB ways ss) by unfold rightC; rw [HL.out, HNB.out, w1]; rfl)
          clear w1
          go_wp2
          go_loopw [35] (fun v wr => ∃ j : Nat, j ≤ n ∧ v = .int .i64 j ∧ (∀ q, q < j → setsB ways ss q = true) ∧ Blk wr w.heap.size [.int .i64 ways, .slice A n cap] ∧ Below w.heap.size w wr) (fun v _ => n - (intOf v).toNat)
          case atStart => exact ⟨0, by omega, rfl, (fun q h => by omega), X1.out, KB.out⟩
          case round =>
            obtain ⟨j, hj, rfl, hno, hx1, hb⟩ := hrel
            clear X1 KB
            have K2 := Lib.hid hb
            have X1 := Lib.hid hx1
            have HNO := Lib.hid hno
            clear hb hno hx1
            by_cases hlt : j < n
            · obtain ⟨s, hs⟩ : ∃ s, ss[j]? = some s := ⟨_, List.getElem?_eq_getElem (by omega)⟩
              obtain ⟨a, q, rfl, hal, hq, hcj, hqn, hqa⟩ := (HS.out.below K2.out).at_ hs
              obtain ⟨hqw1, hqw2, hqw3, hqw⟩ := HS.out.2.2 j q s hq hs
              obtain ⟨qa, qn, qc⟩ := q
              simp only at hcj hqn hqw hqw1 hqw2
              subst hqn
              have ZW := Lib.hid hqw
              have hsl : linesOK s := hss s (List.mem_of_getElem? hs)
              have HSB := Lib.hid (show setsB ways ss j = (decide ((s.length : Int) ≤ ways) && setB ss.length j s) by unfold setsB; rw [hs])
              clear hs hq hqa hqw hqw3
              unfold maxLen at hqw2
              have c0 := X1.out.2.1 0 _ rfl
              have c1 := X1.out.2.1 1 _ rfl
              cases e1 : decide (ways < (s.length : Int))
              · have hle : decide ((s.length : Int) ≤ ways) = true := by
                  have := of_decide_eq_false e1
                  exact decide_eq_true (by omega)
                go_upto_region 9 with fail
                clear c0 c1 hcj
                go_wp2_with fail
                go_loopw [47] (fun v wr => ∃ i : Nat, i ≤ s.length ∧ v = .int .i64 i ∧ (∀ q, q < i → wayB n j s q = true) ∧ Blk wr w.heap.size [.int .i64 ways, .slice (some a) n cap] ∧ Below w.heap.size w wr) (fun v _ => s.length - (intOf v).toNat)
                case atStart => exact ⟨0, by omega, rfl, (fun q h => by omega), X1.out, K2.out⟩
                case round =>
                  obtain ⟨i, hi, rfl, hni, hx1, hb⟩ := hrel
                  clear X1 K2
                  have X1 := Lib.hid hx1
                  have K2 := Lib.hid hb
                  have HNI := Lib.hid hni
                  clear hx1 hb hni
                  by_cases hlti : i < s.length
                  · obtain ⟨x, hx⟩ : ∃ x, s[i]? = some x := ⟨_, List.getElem?_eq_getElem hlti⟩
                    obtain ⟨bq, rfl, hbl, g0, g1, g2⟩ := (ZW.out.below K2.out).at_ hx
                    have hxr := hsl x (List.mem_of_getElem? hx)
                    have hwb : wayB n j s i = ((x.line % 16 == 0) && ((x.line / 16 % n == (j : Int)) && (decide (placeI (s.take i) x.line < 0) && (x.data.size == 16 || x.data.size == 0)))) := by unfold wayB; rw [hx]
                    have HSO := Lib.hid (fun w => refSetOf_any ways (some a) n cap x.line hxr.1 hxr.2 hn4.1 hn4.2 w)
                    unfold caV at HSO
                    obtain ⟨si, hsi⟩ : ∃ p, setI n x.line = p := ⟨_, rfl⟩
                    rw [hsi] at HSO
                    rw [show x.line / 16 % (n : Int) = si from hsi] at hwb
                    have HWB := Lib.hid hwb
                    clear hx hwb hsi
                    have hb0 : Below wr.heap.size wr (wr.alloc (.cells (wyC x).toArray 37)) := (Below.refl _ _).alloc (Nat.le_refl _) _
                    have hx2 := Blk.new wr 37 (wyC x)
                    have hx1 := X1.out.below hb0 X1.out.1
                    have hb1 := K2.out.trans (hb0.mono K2.out.size)
                    unfold wyC at hx2 hx1 hb0 hb1
                    go_upto_region 12 with fail
                    generalize wr.alloc (.cells #[.int .u32 x.line, .bool x.dirty, .string x.data] 37) = W0 at *
                    clear X1 K2 hb0 g0 g1 g2
                    have X1 := Lib.hid hx1
                    have X2 := Lib.hid hx2
                    have K2 := Lib.hid hb1
                    clear hx1 hx2 hb1
                    generalize wr.heap.size = xb at *
                    have c0 := X1.out.2.1 0 _ rfl
                    have c1 := X1.out.2.1 1 _ rfl
                    have d0 := X2.out.2.1 0 _ rfl
                    have d2 := X2.out.2.1 2 _ rfl
                    cases e1 : (x.line % 16 != 0)
                    · have e1' : (x.line % 16 == 0) = true := by simpa using e1
                      cases e2 : (si != (j : Int))
                      · have e2' : (si == (j : Int)) = true := by simpa using e2
                        cases e3 : ((x.data.size : Int) != 0)
                        · have e3' : (x.data.size == 0) = true := by simp at e3 ⊢; omega
                          go_upto_region 14 with (first | (go_at_call 37
                                                           refine (HSO.out _).mono ?_
                                                           rintro e w3 ⟨rfl, b⟩
                                                           have z1 := X1.out.below b X1.out.1
                                                           have z2 := X2.out.below b X2.out.1
                                                           have z3 := K2.out.trans (b.mono K2.out.size)
                                                           clear X1 X2 K2 b c0 c1 d0 d2
                                                           have X1 := Lib.hid z1
                                                           have X2 := Lib.hid z2
                                                           have K2 := Lib.hid z3
                                                           clear z1 z2 z3
                                                           have d2 := X2.out.2.1 2 _ rfl))
                          clear d2
                          go_wp2_with fail
                          go_loopw [8] (fun v wr => ∃ p : Nat, p ≤ i ∧ v = .int .i64 p ∧ (∀ y ∈ s.take p, isL x.line y = false) ∧ Blk wr w.heap.size [.int .i64 ways, .slice (some a) n cap] ∧ Blk wr xb [.int .u32 x.line, .bool x.dirty, .string x.data] ∧ Below w.heap.size w wr) (fun v _ => i - (intOf v).toNat)
                          case atStart => exact ⟨0, by omega, rfl, by simp, X1.out, X2.out, K2.out⟩
                          case round =>
                            obtain ⟨p, hp, rfl, hnp, hx1, hx2, hb⟩ := hrel
                            clear X1 X2 K2
                            have X1 := Lib.hid hx1
                            have X2 := Lib.hid hx2
                            have K2 := Lib.hid hb
                            have HNP := Lib.hid hnp
                            clear hx1 hx2 hb hnp
                            by_cases hlp : p < i
                            · obtain ⟨y, hy⟩ : ∃ y, s[p]? = some y := ⟨_, List.getElem?_eq_getElem (by omega)⟩
                              obtain ⟨bb, hbb, hbl, g0, -, -⟩ := (ZW.out.below K2.out).at_ hy
                              cases hbb
                              have d0 := X2.out.2.1 0 _ rfl
                              have g0' := fun d os => cell_regrown g0 d os
                              have d0' := fun d os => cell_regrown d0 d os
                              have hps : (p : Int) < s.length := by omega
                              have HY := Lib.hid hy
                              clear hy g0 d0
                              cases e9 : (y.line == x.line)
                              · have HYL := Lib.hid (show isL x.line y = false from e9)
                                go_upto_region 17 with fail
                                refine wp_region_quiet_below (by kernel_rfl) (by kernel_rfl) ?_
                                repeat (go_big_quiet_step (fail))
                                refine wpQuiet_nil ?_
                                intro _ hw'
                                obtain ⟨⟨nq, osq⟩, hw''⟩ := hw'
                                subst hw''
                                have bq := below_regrown wr nq osq
                                clear g0' d0'
                                have z1 := X1.out.below bq X1.out.1
                                have z2 := X2.out.below bq X2.out.1
                                have z3 := K2.out.trans (bq.mono K2.out.size)
                                clear X1 X2 K2 bq
                                have X1 := Lib.hid z1
                                have X2 := Lib.hid z2
                                have K2 := Lib.hid z3
                                clear z1 z2 z3
                                generalize grow (redrawn wr nq) osq = wr2 at *
                                go_wp2
                                go_roundw
                                case rel => exact ⟨p + 1, by omega, by go_num, (fun z hz => by
                                  rw [List.take_add_one, HY.out, List.mem_append] at hz
                                  rcases hz with hz | hz
                                  · exact HNP.out z hz
                                  · simp at hz
                                    subst hz
                                    exact HYL.out), X1.out, X2.out, K2.out⟩
                                case measure => simp [intOf]; omega
                              · have HYL := Lib.hid (place_take_hit hlp HY.out (show isL x.line y = true from e9))
                                have HSF := Lib.hid (show setB n j s = false from allR_false (k := i) hlti (by rw [HWB.out]; rw [e1', e2', e3', show decide (placeI (s.take i) x.line < 0) = false from decide_eq_false HYL.out]; rfl))
                                have HF := Lib.hid (show (List.range ss.length).all (setsB ways ss) = false from allR_false (k := j) (by have := HL.out; omega) (by rw [HSB.out, HL.out, HSF.out]; simp))
                                go_upto_region 17 with fail
                                refine wp_region_quiet_below (by kernel_rfl) (by kernel_rfl) ?_
                                repeat (go_big_quiet_step (fail))
                                refine wpQuiet_nil ?_
                                intro _ hw'
                                obtain ⟨⟨nq, osq⟩, hw''⟩ := hw'
                                subst hw''
                                have bq := below_regrown wr nq osq
                                clear g0' d0'
                                have z3 := K2.out.trans (bq.mono K2.out.size)
                                clear X1 X2 K2 bq
                                have K2 := Lib.hid z3
                                clear z3
                                generalize grow (redrawn wr nq) osq = wr2 at *
                                go_wp2_with (first | (go_at_call 37
                                                      refine (HSO.out _).mono ?_
                                                      rintro e w3 ⟨rfl, b⟩
                                                      have z1 := X1.out.below b X1.out.1
                                                      have z2 := X2.out.below b X2.out.1
                                                      have z3 := K2.out.trans (b.mono K2.out.size)
                                                      clear X1 X2 K2 b c0 c1 d0 d2
                                                      have X1 := Lib.hid z1
                                                      have X2 := Lib.hid z2
                                                      have K2 := Lib.hid z3
                                                      clear z1 z2 z3
                                                      have d2 := X2.out.2.1 2 _ rfl))
                                go_ret
                                exact ⟨ret_boolC (by rw [HRC.out, HF.out]), K2.out⟩
                            · obtain rfl : p = i := by omega
                              have HWT := Lib.hid (show wayB n j s p = true by rw [HWB.out, e1', e2', e3', show decide (placeI (s.take p) x.line < 0) = true from decide_eq_true (place_take_none HNP.out)]; simp)
                              go_wp2
                              go_roundw
                              case rel => exact ⟨p + 1, by omega, by go_num, (fun q hq => by
                                rcases Nat.lt_or_ge q p with h | h
                                · exact HNI.out q h
                                · obtain rfl : q = p := by omega
                                  exact HWT.out), X1.out, K2.out⟩
                              case measure => simp [intOf]; omega
                        · have e3' : (x.data.size == 0) = false := by simp at e3 ⊢; omega
                          cases e4 : ((x.data.size : Int) != 16)
                          · have e4' : (x.data.size == 16) = true := by simp at e4 ⊢; omega
                            go_upto_region 14 with (first | (go_at_call 37
                                                             refine (HSO.out _).mono ?_
                                                             rintro e w3 ⟨rfl, b⟩
                                                             have z1 := X1.out.below b X1.out.1
                                                             have z2 := X2.out.below b X2.out.1
                                                             have z3 := K2.out.trans (b.mono K2.out.size)
                                                             clear X1 X2 K2 b c0 c1 d0 d2
                                                             have X1 := Lib.hid z1
                                                             have X2 := Lib.hid z2
                                                             have K2 := Lib.hid z3
                                                             clear z1 z2 z3
                                                             have d2 := X2.out.2.1 2 _ rfl))
                            clear d2
                            go_wp2_with fail
                            go_loopw [8] (fun v wr => ∃ p : Nat, p ≤ i ∧ v = .int .i64 p ∧ (∀ y ∈ s.take p, isL x.line y = false) ∧ Blk wr w.heap.size [.int .i64 ways, .slice (some a) n cap] ∧ Blk wr xb [.int .u32 x.line, .bool x.dirty, .string x.data] ∧ Below w.heap.size w wr) (fun v _ => i - (intOf v).toNat)
                            case atStart => exact ⟨0, by omega, rfl, by simp, X1.out, X2.out, K2.out⟩
                            case round =>
                              obtain ⟨p, hp, rfl, hnp, hx1, hx2, hb⟩ := hrel
                              clear X1 X2 K2
                              have X1 := Lib.hid hx1
                              have X2 := Lib.hid hx2
                              have K2 := Lib.hid hb
                              have HNP := Lib.hid hnp
                              clear hx1 hx2 hb hnp
                              by_cases hlp : p < i
                              · obtain ⟨y, hy⟩ : ∃ y, s[p]? = some y := ⟨_, List.getElem?_eq_getElem (by omega)⟩
                                obtain ⟨bb, hbb, hbl, g0, -, -⟩ := (ZW.out.below K2.out).at_ hy
                                cases hbb
                                have d0 := X2.out.2.1 0 _ rfl
                                have g0' := fun d os => cell_regrown g0 d os
                                have d0' := fun d os => cell_regrown d0 d os
                                have hps : (p : Int) < s.length := by omega
                                have HY := Lib.hid hy
                                clear hy g0 d0
                                cases e9 : (y.line == x.line)
                                · have HYL := Lib.hid (show isL x.line y = false from e9)
                                  go_upto_region 17 with fail
                                  refine wp_region_quiet_below (by kernel_rfl) (by kernel_rfl) ?_
                                  repeat (go_big_quiet_step (fail))
                                  refine wpQuiet_nil ?_
                                  intro _ hw'
                                  obtain ⟨⟨nq, osq⟩, hw''⟩ := hw'
                                  subst hw''
                                  have bq := below_regrown wr nq osq
                                  clear g0' d0'
                                  have z1 := X1.out.below bq X1.out.1
                                  have z2 := X2.out.below bq X2.out.1
                                  have z3 := K2.out.trans (bq.mono K2.out.size)
                                  clear X1 X2 K2 bq
                                  have X1 := Lib.hid z1
                                  have X2 := Lib.hid z2
                                  have K2 := Lib.hid z3
                                  clear z1 z2 z3
                                  generalize grow (redrawn wr nq) osq = wr2 at *
                                  go_wp2
                                  go_roundw
                                  case rel => exact ⟨p + 1, by omega, by go_num, (fun z hz => by
                                    rw [List.take_add_one, HY.out, List.mem_append] at hz
                                    rcases hz with hz | hz
                                    · exact HNP.out z hz
                                    · simp at hz
                                      subst hz
                                      exact HYL.out), X1.out, X2.out, K2.out⟩
                                  case measure => simp [intOf]; omega
                                · have HYL := Lib.hid (place_take_hit hlp HY.out (show isL x.line y = true from e9))
                                  have HSF := Lib.hid (show setB n j s = false from allR_false (k := i) hlti (by rw [HWB.out]; rw [e1', e2', e4', show decide (placeI (s.take i) x.line < 0) = false from decide_eq_false HYL.out]; rfl))
                                  have HF := Lib.hid (show (List.range ss.length).all (setsB ways ss) = false from allR_false (k := j) (by have := HL.out; omega) (by rw [HSB.out, HL.out, HSF.out]; simp))
                                  go_upto_region 17 with fail
                                  refine wp_region_quiet_below (by kernel_rfl) (by kernel_rfl) ?_
                                  repeat (go_big_quiet_step (fail))
                                  refine wpQuiet_nil ?_
                                  intro _ hw'
                                  obtain ⟨⟨nq, osq⟩, hw''⟩ := hw'
                                  subst hw''
                                  have bq := below_regrown wr nq osq
                                  clear g0' d0'
                                  have z3 := K2.out.trans (bq.mono K2.out.size)
                                  clear X1 X2 K2 bq
                                  have K2 := Lib.hid z3
                                  clear z3
                                  generalize grow (redrawn wr nq) osq = wr2 at *
                                  go_wp2_with (first | (go_at_call 37
                                                        refine (HSO.out _).mono ?_
                                                        rintro e w3 ⟨rfl, b⟩
                                                        have z1 := X1.out.below b X1.out.1
                                                        have z2 := X2.out.below b X2.out.1
                                                        have z3 := K2.out.trans (b.mono K2.out.size)
                                                        clear X1 X2 K2 b c0 c1 d0 d2
                                                        have X1 := Lib.hid z1
                                                        have X2 := Lib.hid z2
                                                        have K2 := Lib.hid z3
                                                        clear z1 z2 z3
                                                        have d2 := X2.out.2.1 2 _ rfl))
                                  go_ret
                                  exact ⟨ret_boolC (by rw [HRC.out, HF.out]), K2.out⟩
                              · obtain rfl : p = i := by omega
                                have HWT := Lib.hid (show wayB n j s p = true by rw [HWB.out, e1', e2', e4', show decide (placeI (s.take p) x.line < 0) = true from decide_eq_true (place_take_none HNP.out)]; simp)
                                go_wp2
                                go_roundw
                                case rel => exact ⟨p + 1, by omega, by go_num, (fun q hq => by
                                  rcases Nat.lt_or_ge q p with h | h
                                  · exact HNI.out q h
                                  · obtain rfl : q = p := by omega
                                    exact HWT.out), X1.out, K2.out⟩
                                case measure => simp [intOf]; omega
                          · have e4' : (x.data.size == 16) = false := by simp at e4 ⊢; omega
                            have HSF := Lib.hid (show setB n j s = false from allR_false (k := i) hlti (by rw [HWB.out]; rw [e1', e2', e3', e4']; simp))
                            have HF := Lib.hid (show (List.range ss.length).all (setsB ways ss) = false from allR_false (k := j) (by have := HL.out; omega) (by rw [HSB.out, HL.out, HSF.out]; simp))
                            go_wp2_with (first | (go_at_call 37
                                                  refine (HSO.out _).mono ?_
                                                  rintro e w3 ⟨rfl, b⟩
                                                  have z1 := X1.out.below b X1.out.1
                                                  have z2 := X2.out.below b X2.out.1
                                                  have z3 := K2.out.trans (b.mono K2.out.size)
                                                  clear X1 X2 K2 b c0 c1 d0 d2
                                                  have X1 := Lib.hid z1
                                                  have X2 := Lib.hid z2
                                                  have K2 := Lib.hid z3
                                                  clear z1 z2 z3
                                                  have d2 := X2.out.2.1 2 _ rfl))
                            go_ret
                            exact ⟨ret_boolC (by rw [HRC.out, HF.out]), K2.out⟩
                      · have e2' : (si == (j : Int)) = false := by simpa using e2
                        have HSF := Lib.hid (show setB n j s = false from allR_false (k := i) hlti (by rw [HWB.out]; rw [e1', e2']; rfl))
                        have HF := Lib.hid (show (List.range ss.length).all (setsB ways ss) = false from allR_false (k := j) (by have := HL.out; omega) (by rw [HSB.out, HL.out, HSF.out]; simp))
                        go_wp2_with (first | (go_at_call 37
                                              refine (HSO.out _).mono ?_
                                              rintro e w3 ⟨rfl, b⟩
                                              have z1 := X1.out.below b X1.out.1
                                              have z2 := X2.out.below b X2.out.1
                                              have z3 := K2.out.trans (b.mono K2.out.size)
                                              clear X1 X2 K2 b c0 c1 d0 d2
                                              have X1 := Lib.hid z1
                                              have X2 := Lib.hid z2
                                              have K2 := Lib.hid z3
                                              clear z1 z2 z3
                                              have d2 := X2.out.2.1 2 _ rfl))
                        go_ret
                        exact ⟨ret_boolC (by rw [HRC.out, HF.out]), K2.out⟩
                    · have e1' : (x.line % 16 == 0) = false := by simpa using e1
                      have HSF := Lib.hid (show setB n j s = false from allR_false (k := i) hlti (by rw [HWB.out]; rw [e1']; rfl))
                      have HF := Lib.hid (show (List.range ss.length).all (setsB ways ss) = false from allR_false (k := j) (by have := HL.out; omega) (by rw [HSB.out, HL.out, HSF.out]; simp))
                      go_wp2_with (first | (go_at_call 37
                                            refine (HSO.out _).mono ?_
                                            rintro e w3 ⟨rfl, b⟩
                                            have z1 := X1.out.below b X1.out.1
                                            have z2 := X2.out.below b X2.out.1
                                            have z3 := K2.out.trans (b.mono K2.out.size)
                                            clear X1 X2 K2 b c0 c1 d0 d2
                                            have X1 := Lib.hid z1
                                            have X2 := Lib.hid z2
                                            have K2 := Lib.hid z3
                                            clear z1 z2 z3
                                            have d2 := X2.out.2.1 2 _ rfl))
                      go_ret
                      exact ⟨ret_boolC (by rw [HRC.out, HF.out]), K2.out⟩
                  · obtain rfl : i = s.length := by omega
                    have HST := Lib.hid (show setsB ways ss j = true by rw [HSB.out, HL.out, hle, show setB n j s = true from allR_true HNI.out]; rfl)
                    go_wp2
                    go_roundw
                    case rel => exact ⟨j + 1, by omega, by go_num, (fun q hq => by
                      rcases Nat.lt_or_ge q j with h | h
                      · exact HNO.out q h
                      · obtain rfl : q = j := by omega
                        exact HST.out), X1.out, K2.out⟩
                    case measure => simp [intOf]; omega
              · have HF := Lib.hid (show (List.range ss.length).all (setsB ways ss) = false from allR_false (k := j) (by have := HL.out; omega) (by
                  rw [HSB.out, show decide ((s.length : Int) ≤ ways) = false by
                    have := of_decide_eq_true e1
                    exact decide_eq_false (by omega)]
                  rfl))
                go_wp2_with fail
                go_ret
                exact ⟨ret_boolC (by rw [HRC.out, HF.out]), K2.out⟩
            · obtain rfl : j = n := by omega
              have HT := Lib.hid (show (List.range ss.length).all (setsB ways ss) = true from allR_true (fun q hq => HNO.out q (by have := HL.out; omega)))
              go_wp2
              go_ret
              exact ⟨ret_boolC (by rw [HRC.out, HT.out]), K2.out⟩
        · by_cases w2 : ways = 2
          · have e1 : (ways != 1) = true := by simpa using w1
            have e2 : (ways != 2) = false := by simp [w2]
            have HRC := Lib.hid (show rightC ways ss = (List.range ss.length).all (setsB ways ss) by unfold rightC; rw [HL.out, HNB.out, w2]; rfl)
            clear w1 w2
            go_wp2
            go_loopw [35] (fun v wr => ∃ j : Nat, j ≤ n ∧ v = .int .i64 j ∧ (∀ q, q < j → setsB ways ss q = true) ∧ Blk wr w.heap.size [.int .i64 ways, .slice A n cap] ∧ Below w.heap.size w wr) (fun v _ => n - (intOf v).toNat)
            case atStart => exact ⟨0, by omega, rfl, (fun q h => by omega), X1.out, KB.out⟩
            case round =>
              obtain ⟨j, hj, rfl, hno, hx1, hb⟩ := hrel
              clear X1 KB
              have K2 := Lib.hid hb
              have X1 := Lib.hid hx1
              have HNO := Lib.hid hno
              clear hb hno hx1
              by_cases hlt : j < n
              · obtain ⟨s, hs⟩ : ∃ s, ss[j]? = some s := ⟨_, List.getElem?_eq_getElem (by omega)⟩
                obtain ⟨a, q, rfl, hal, hq, hcj, hqn, hqa⟩ := (HS.out.below K2.out).at_ hs
                obtain ⟨hqw1, hqw2, hqw3, hqw⟩ := HS.out.2.2 j q s hq hs
                obtain ⟨qa, qn, qc⟩ := q
                simp only at hcj hqn hqw hqw1 hqw2
                subst hqn
                have ZW := Lib.hid hqw
                have hsl : linesOK s := hss s (List.mem_of_getElem? hs)
                have HSB := Lib.hid (show setsB ways ss j = (decide ((s.length : Int) ≤ ways) && setB ss.length j s) by unfold setsB; rw [hs])
                clear hs hq hqa hqw hqw3
                unfold maxLen at hqw2
                have c0 := X1.out.2.1 0 _ rfl
                have c1 := X1.out.2.1 1 _ rfl
                cases e1 : decide (ways < (s.length : Int))
                · have hle : decide ((s.length : Int) ≤ ways) = true := by
                    have := of_decide_eq_false e1
                    exact decide_eq_true (by omega)
                  go_upto_region 9 with fail
                  clear c0 c1 hcj
                  go_wp2_with fail
                  go_loopw [47] (fun v wr => ∃ i : Nat, i ≤ s.length ∧ v = .int .i64 i ∧ (∀ q, q < i → wayB n j s q = true) ∧ Blk wr w.heap.size [.int .i64 ways, .slice (some a) n cap] ∧ Below w.heap.size w wr) (fun v _ => s.length - (intOf v).toNat)
                  case atStart => exact ⟨0, by omega, rfl, (fun q h => by omega), X1.out, K2.out⟩
                  case round =>
                    obtain ⟨i, hi, rfl, hni, hx1, hb⟩ := hrel
                    clear X1 K2
                    have X1 := Lib.hid hx1
                    have K2 := Lib.hid hb
                    have HNI := Lib.hid hni
                    clear hx1 hb hni
                    by_cases hlti : i < s.length
                    · obtain ⟨x, hx⟩ : ∃ x, s[i]? = some x := ⟨_, List.getElem?_eq_getElem hlti⟩
                      obtain ⟨bq, rfl, hbl, g0, g1, g2⟩ := (ZW.out.below K2.out).at_ hx
                      have hxr := hsl x (List.mem_of_getElem? hx)
                      have hwb : wayB n j s i = ((x.line % 16 == 0) && ((x.line / 16 % n == (j : Int)) && (decide (placeI (s.take i) x.line < 0) && (x.data.size == 16 || x.data.size == 0)))) := by unfold wayB; rw [hx]
                      have HSO := Lib.hid (fun w => refSetOf_any ways (some a) n cap x.line hxr.1 hxr.2 hn4.1 hn4.2 w)
                      unfold caV at HSO
                      obtain ⟨si, hsi⟩ : ∃ p, setI n x.line = p := ⟨_, rfl⟩
                      rw [hsi] at HSO
                      rw [show x.line / 16 % (n : Int) = si from hsi] at hwb
                      have HWB := Lib.hid hwb
                      clear hx hwb hsi
                      have hb0 : Below wr.heap.size wr (wr.alloc (.cells (wyC x).toArray 37)) := (Below.refl _ _).alloc (Nat.le_refl _) _
                      have hx2 := Blk.new wr 37 (wyC x)
                      have hx1 := X1.out.below hb0 X1.out.1
                      have hb1 := K2.out.trans (hb0.mono K2.out.size)
                      unfold wyC at hx2 hx1 hb0 hb1
                      go_upto_region 12 with fail
                      generalize wr.alloc (.cells #[.int .u32 x.line, .bool x.dirty, .string x.data] 37) = W0 at *
                      clear X1 K2 hb0 g0 g1 g2
                      have X1 := Lib.hid hx1
                      have X2 := Lib.hid hx2
                      have K2 := Lib.hid hb1
                      clear hx1 hx2 hb1
                      generalize wr.heap.size = xb at *
                      have c0 := X1.out.2.1 0 _ rfl
                      have c1 := X1.out.2.1 1 _ rfl
                      have d0 := X2.out.2.1 0 _ rfl
                      have d2 := X2.out.2.1 2 _ rfl
                      cases e1 : (x.line % 16 != 0)
                      · have e1' : (x.line % 16 == 0) = true := by simpa using e1
                        cases e2 : (si != (j : Int))
                        · have e2' : (si == (j : Int)) = true := by simpa using e2
                          cases e3 : ((x.data.size : Int) != 0)
                          · have e3' : (x.data.size == 0) = true := by simp at e3 ⊢; omega
                            go_upto_region 14 with (first | (go_at_call 37
                                                             refine (HSO.out _).mono ?_
                                                             rintro e w3 ⟨rfl, b⟩
                                                             have z1 := X1.out.below b X1.out.1
                                                             have z2 := X2.out.below b X2.out.1
                                                             have z3 := K2.out.trans (b.mono K2.out.size)
                                                             clear X1 X2 K2 b c0 c1 d0 d2
                                                             have X1 := Lib.hid z1
                                                             have X2 := Lib.hid z2
                                                             have K2 := Lib.hid z3
                                                             clear z1 z2 z3
                                                             have d2 := X2.out.2.1 2 _ rfl))
                            clear d2
                            go_wp2_with fail
                            go_loopw [8] (fun v wr => ∃ p : Nat, p ≤ i ∧ v = .int .i64 p ∧ (∀ y ∈ s.take p, isL x.line y = false) ∧ Blk wr w.heap.size [.int .i64 ways, .slice (some a) n cap] ∧ Blk wr xb [.int .u32 x.line, .bool x.dirty, .string x.data] ∧ Below w.heap.size w wr) (fun v _ => i - (intOf v).toNat)
                            case atStart => exact ⟨0, by omega, rfl, by simp, X1.out, X2.out, K2.out⟩
                            case round =>
                              obtain ⟨p, hp, rfl, hnp, hx1, hx2, hb⟩ := hrel
                              clear X1 X2 K2
                              have X1 := Lib.hid hx1
                              have X2 := Lib.hid hx2
                              have K2 := Lib.hid hb
                              have HNP := Lib.hid hnp
                              clear hx1 hx2 hb hnp
                              by_cases hlp : p < i
                              · obtain ⟨y, hy⟩ : ∃ y, s[p]? = some y := ⟨_, List.getElem?_eq_getElem (by omega)⟩
                                obtain ⟨bb, hbb, hbl, g0, -, -⟩ := (ZW.out.below K2.out).at_ hy
                                cases hbb
                                have d0 := X2.out.2.1 0 _ rfl
                                have g0' := fun d os => cell_regrown g0 d os
                                have d0' := fun d os => cell_regrown d0 d os
                                have hps : (p : Int) < s.length := by omega
                                have HY := Lib.hid hy
                                clear hy g0 d0
                                cases e9 : (y.line == x.line)
                                · have HYL := Lib.hid (show isL x.line y = false from e9)
                                  go_upto_region 17 with fail
                                  refine wp_region_quiet_below (by kernel_rfl) (by kernel_rfl) ?_
                                  repeat (go_big_quiet_step (fail))
                                  refine wpQuiet_nil ?_
                                  intro _ hw'
                                  obtain ⟨⟨nq, osq⟩, hw''⟩ := hw'
                                  subst hw''
                                  have bq := below_regrown wr nq osq
                                  clear g0' d0'
                                  have z1 := X1.out.below bq X1.out.1
                                  have z2 := X2.out.below bq X2.out.1
                                  have z3 := K2.out.trans (bq.mono K2.out.size)
                                  clear X1 X2 K2 bq
                                  have X1 := Lib.hid z1
                                  have X2 := Lib.hid z2
                                  have K2 := Lib.hid z3
                                  clear z1 z2 z3
                                  generalize grow (redrawn wr nq) osq = wr2 at *
                                  go_wp2
                                  go_roundw
                                  case rel => exact ⟨p + 1, by omega, by go_num, (fun z hz => by
                                    rw [List.take_add_one, HY.out, List.mem_append] at hz
                                    rcases hz with hz | hz
                                    · exact HNP.out z hz
                                    · simp at hz
                                      subst hz
                                      exact HYL.out), X1.out, X2.out, K2.out⟩
                                  case measure => simp [intOf]; omega
                                · have HYL := Lib.hid (place_take_hit hlp HY.out (show isL x.line y = true from e9))
                                  have HSF := Lib.hid (show setB n j s = false from allR_false (k := i) hlti (by rw [HWB.out]; rw [e1', e2', e3', show decide (placeI (s.take i) x.line < 0) = false from decide_eq_false HYL.out]; rfl))
                                  have HF := Lib.hid (show (List.range ss.length).all (setsB ways ss) = false from allR_false (k := j) (by have := HL.out; omega) (by rw [HSB.out, HL.out, HSF.out]; simp))
                                  go_upto_region 17 with fail
                                  refine wp_region_quiet_below (by kernel_rfl) (by kernel_rfl) ?_
                                  repeat (go_big_quiet_step (fail))
                                  refine wpQuiet_nil ?_
                                  intro _ hw'
                                  obtain ⟨⟨nq, osq⟩, hw''⟩ := hw'
                                  subst hw''
                                  have bq := below_regrown wr nq osq
                                  clear g0' d0'
                                  have z3 := K2.out.trans (bq.mono K2.out.size)
                                  clear X1 X2 K2 bq
                                  have K2 := Lib.hid z3
                                  clear z3
                                  generalize grow (redrawn wr nq) osq = wr2 at *
                                  go_wp2_with (first | (go_at_call 37
                                                        refine (HSO.out _).mono ?_
                                                        rintro e w3 ⟨rfl, b⟩
                                                        have z1 := X1.out.below b X1.out.1
                                                        have z2 := X2.out.below b X2.out.1
                                                        have z3 := K2.out.trans (b.mono K2.out.size)
                                                        clear X1 X2 K2 b c0 c1 d0 d2
                                                        have X1 := Lib.hid z1
                                                        have X2 := Lib.hid z2
                                                        have K2 := Lib.hid z3
                                                        clear z1 z2 z3
                                                        have d2 := X2.out.2.1 2 _ rfl))
                                  go_ret
                                  exact ⟨ret_boolC (by rw [HRC.out, HF.out]), K2.out⟩
                              · obtain rfl : p = i := by omega
                                have HWT := Lib.hid (show wayB n j s p = true by rw [HWB.out, e1', e2', e3', show decide (placeI (s.take p) x.line < 0) = true from decide_eq_true (place_take_none HNP.out)]; simp)
                                go_wp2
                                go_roundw
                                case rel => exact ⟨p + 1, by omega, by go_num, (fun q hq => by
                                  rcases Nat.lt_or_ge q p with h | h
                                  · exact HNI.out q h
                                  · obtain rfl : q = p := by omega
                                    exact HWT.out), X1.out, K2.out⟩
                                case measure => simp [intOf]; omega
                          · have e3' : (x.data.size == 0) = false := by simp at e3 ⊢; omega
                            cases e4 : ((x.data.size : Int) != 16)
                            · have e4' : (x.data.size == 16) = true := by simp at e4 ⊢; omega
                              go_upto_region 14 with (first | (go_at_call 37
                                                               refine (HSO.out _).mono ?_
                                                               rintro e w3 ⟨rfl, b⟩
                                                               have z1 := X1.out.below b X1.out.1
                                                               have z2 := X2.out.below b X2.out.1
                                                               have z3 := K2.out.trans (b.mono K2.out.size)
                                                               clear X1 X2 K2 b c0 c1 d0 d2
                                                               have X1 := Lib.hid z1
                                                               have X2 := Lib.hid z2
                                                               have K2 := Lib.hid z3
                                                               clear z1 z2 z3
                                                               have d2 := X2.out.2.1 2 _ rfl))
                              clear d2
                              go_wp2_with fail
                              go_loopw [8] (fun v wr => ∃ p : Nat, p ≤ i ∧ v = .int .i64 p ∧ (∀ y ∈ s.take p, isL x.line y = false) ∧ Blk wr w.heap.size [.int .i64 ways, .slice (some a) n cap] ∧ Blk wr xb [.int .u32 x.line, .bool x.dirty, .string x.data] ∧ Below w.heap.size w wr) (fun v _ => i - (intOf v).toNat)
                              case atStart => exact ⟨0, by omega, rfl, by simp, X1.out, X2.out, K2.out⟩
                              case round =>
                                obtain ⟨p, hp, rfl, hnp, hx1, hx2, hb⟩ := hrel
                                clear X1 X2 K2
                                have X1 := Lib.hid hx1
                                have X2 := Lib.hid hx2
                                have K2 := Lib.hid hb
                                have HNP := Lib.hid hnp
                                clear hx1 hx2 hb hnp
                                by_cases hlp : p < i
                                · obtain ⟨y, hy⟩ : ∃ y, s[p]? = some y := ⟨_, List.getElem?_eq_getElem (by omega)⟩
                                  obtain ⟨bb, hbb, hbl, g0, -, -⟩ := (ZW.out.below K2.out).at_ hy
                                  cases hbb
                                  have d0 := X2.out.2.1 0 _ rfl
                                  have g0' := fun d os => cell_regrown g0 d os
                                  have d0' := fun d os => cell_regrown d0 d os
                                  have hps : (p : Int) < s.length := by omega
                                  have HY := Lib.hid hy
                                  clear hy g0 d0
                                  cases e9 : (y.line == x.line)
                                  · have HYL := Lib.hid (show isL x.line y = false from e9)
                                    go_upto_region 17 with fail
                                    refine wp_region_quiet_below (by kernel_rfl) (by kernel_rfl) ?_
                                    repeat (go_big_quiet_step (fail))
                                    refine wpQuiet_nil ?_
                                    intro _ hw'
                                    obtain ⟨⟨nq, osq⟩, hw''⟩ := hw'
                                    subst hw''
                                    have bq := below_regrown wr nq osq
                                    clear g0' d0'
                                    have z1 := X1.out.below bq X1.out.1
                                    have z2 := X2.out.below bq X2.out.1
                                    have z3 := K2.out.trans (bq.mono K2.out.size)
                                    clear X1 X2 K2 bq
                                    have X1 := Lib.hid z1
                                    have X2 := Lib.hid z2
                                    have K2 := Lib.hid z3
                                    clear z1 z2 z3
                                    generalize grow (redrawn wr nq) osq = wr2 at *
                                    go_wp2
                                    go_roundw
                                    case rel => exact ⟨p + 1, by omega, by go_num, (fun z hz => by
                                      rw [List.take_add_one, HY.out, List.mem_append] at hz
                                      rcases hz with hz | hz
                                      · exact HNP.out z hz
                                      · simp at hz
                                        subst hz
                                        exact HYL.out), X1.out, X2.out, K2.out⟩
                                    case measure => simp [intOf]; omega
                                  · have HYL := Lib.hid (place_take_hit hlp HY.out (show isL x.line y = true from e9))
                                    have HSF := Lib.hid (show setB n j s = false from allR_false (k := i) hlti (by rw [HWB.out]; rw [e1', e2', e4', show decide (placeI (s.take i) x.line < 0) = false from decide_eq_false HYL.out]; rfl))
                                    have HF := Lib.hid (show (List.range ss.length).all (setsB ways ss) = false from allR_false (k := j) (by have := HL.out; omega) (by rw [HSB.out, HL.out, HSF.out]; simp))
                                    go_upto_region 17 with fail
                                    refine wp_region_quiet_below (by kernel_rfl) (by kernel_rfl) ?_
                                    repeat (go_big_quiet_step (fail))
                                    refine wpQuiet_nil ?_
                                    intro _ hw'
                                    obtain ⟨⟨nq, osq⟩, hw''⟩ := hw'
                                    subst hw''
                                    have bq := below_regrown wr nq osq
                                    clear g0' d0'
                                    have z3 := K2.out.trans (bq.mono K2.out.size)
                                    clear X1 X2 K2 bq
                                    have K2 := Lib.hid z3
                                    clear z3
                                    generalize grow (redrawn wr nq) osq = wr2 at *
                                    go_wp2_with (first | (go_at_call 37
                                                          refine (HSO.out _).mono ?_
                                                          rintro e w3 ⟨rfl, b⟩
                                                          have z1 := X1.out.below b X1.out.1
                                                          have z2 := X2.out.below b X2.out.1
                                                          have z3 := K2.out.trans (b.mono K2.out.size)
                                                          clear X1 X2 K2 b c0 c1 d0 d2
                                                          have X1 := Lib.hid z1
                                                          have X2 := Lib.hid z2
                                                          have K2 := Lib.hid z3
                                                          clear z1 z2 z3
                                                          have d2 := X2.out.2.1 2 _ rfl))
                                    go_ret
                                    exact ⟨ret_boolC (by rw [HRC.out, HF.out]), K2.out⟩
                                · obtain rfl : p = i := by omega
                                  have HWT := Lib.hid (show wayB n j s p = true by rw [HWB.out, e1', e2', e4', show decide (placeI (s.take p) x.line < 0) = true from decide_eq_true (place_take_none HNP.out)]; simp)
                                  go_wp2
                                  go_roundw
                                  case rel => exact ⟨p + 1, by omega, by go_num, (fun q hq => by
                                    rcases Nat.lt_or_ge q p with h | h
                                    · exact HNI.out q h
                                    · obtain rfl : q = p := by omega
                                      exact HWT.out), X1.out, K2.out⟩
                                  case measure => simp [intOf]; omega
                            · have e4' : (x.data.size == 16) = false := by simp at e4 ⊢; omega
                              have HSF := Lib.hid (show setB n j s = false from allR_false (k := i) hlti (by rw [HWB.out]; rw [e1', e2', e3', e4']; simp))
                              have HF := Lib.hid (show (List.range ss.length).all (setsB ways ss) = false from allR_false (k := j) (by have := HL.out; omega) (by rw [HSB.out, HL.out, HSF.out]; simp))
                              go_wp2_with (first | (go_at_call 37
                                                    refine (HSO.out _).mono ?_
                                                    rintro e w3 ⟨rfl, b⟩
                                                    have z1 := X1.out.below b X1.out.1
                                                    have z2 := X2.out.below b X2.out.1
                                                    have z3 := K2.out.trans (b.mono K2.out.size)
                                                    clear X1 X2 K2 b c0 c1 d0 d2
                                                    have X1 := Lib.hid z1
                                                    have X2 := Lib.hid z2
                                                    have K2 := Lib.hid z3
                                                    clear z1 z2 z3
                                                    have d2 := X2.out.2.1 2 _ rfl))
                              go_ret
                              exact ⟨ret_boolC (by rw [HRC.out, HF.out]), K2.out⟩
                        · have e2' : (si == (j : Int)) = false := by simpa using e2
                          have HSF := Lib.hid (show setB n j s = false from allR_false (k := i) hlti (by rw [HWB.out]; rw [e1', e2']; rfl))
                          have HF := Lib.hid (show (List.range ss.length).all (setsB ways ss) = false from allR_false (k := j) (by have := HL.out; omega) (by rw [HSB.out, HL.out, HSF.out]; simp))
                          go_wp2_with (first | (go_at_call 37
                                                refine (HSO.out _).mono ?_
                                                rintro e w3 ⟨rfl, b⟩
                                                have z1 := X1.out.below b X1.out.1
                                                have z2 := X2.out.below b X2.out.1
                                                have z3 := K2.out.trans (b.mono K2.out.size)
                                                clear X1 X2 K2 b c0 c1 d0 d2
                                                have X1 := Lib.hid z1
                                                have X2 := Lib.hid z2
                                                have K2 := Lib.hid z3
                                                clear z1 z2 z3
                                                have d2 := X2.out.2.1 2 _ rfl))
                          go_ret
                          exact ⟨ret_boolC (by rw [HRC.out, HF.out]), K2.out⟩
                      · have e1' : (x.line % 16 == 0) = false := by simpa using e1
                        have HSF := Lib.hid (show setB n j s = false from allR_false (k := i) hlti (by rw [HWB.out]; rw [e1']; rfl))
                        have HF := Lib.hid (show (List.range ss.length).all (setsB ways ss) = false from allR_false (k := j) (by have := HL.out; omega) (by rw [HSB.out, HL.out, HSF.out]; simp))
                        go_wp2_with (first | (go_at_call 37
                                              refine (HSO.out _).mono ?_
                                              rintro e w3 ⟨rfl, b⟩
                                              have z1 := X1.out.below b X1.out.1
                                              have z2 := X2.out.below b X2.out.1
                                              have z3 := K2.out.trans (b.mono K2.out.size)
                                              clear X1 X2 K2 b c0 c1 d0 d2
                                              have X1 := Lib.hid z1
                                              have X2 := Lib.hid z2
                                              have K2 := Lib.hid z3
                                              clear z1 z2 z3
                                              have d2 := X2.out.2.1 2 _ rfl))
                        go_ret
                        exact ⟨ret_boolC (by rw [HRC.out, HF.out]), K2.out⟩
                    · obtain rfl : i = s.length := by omega
                      have HST := Lib.hid (show setsB ways ss j = true by rw [HSB.out, HL.out, hle, show setB n j s = true from allR_true HNI.out]; rfl)
                      go_wp2
                      go_roundw
                      case rel => exact ⟨j + 1, by omega, by go_num, (fun q hq => by
                        rcases Nat.lt_or_ge q j with h | h
                        · exact HNO.out q h
                        · obtain rfl : q = j := by omega
                          exact HST.out), X1.out, K2.out⟩
                      case measure => simp [intOf]; omega
                · have HF := Lib.hid (show (List.range ss.length).all (setsB ways ss) = false from allR_false (k := j) (by have := HL.out; omega) (by
                    rw [HSB.out, show decide ((s.length : Int) ≤ ways) = false by
                      have := of_decide_eq_true e1
                      exact decide_eq_false (by omega)]
                    rfl))
                  go_wp2_with fail
                  go_ret
                  exact ⟨ret_boolC (by rw [HRC.out, HF.out]), K2.out⟩
              · obtain rfl : j = n := by omega
                have HT := Lib.hid (show (List.range ss.length).all (setsB ways ss) = true from allR_true (fun q hq => HNO.out q (by have := HL.out; omega)))
                go_wp2
                go_ret
                exact ⟨ret_boolC (by rw [HRC.out, HT.out]), K2.out⟩
          · have e1 : (ways != 1) = true := by simpa using w1
            have e2 : (ways != 2) = true := by simpa using w2
            have HF := Lib.hid (show rightC ways ss = false by unfold rightC; rw [show (ways == 1) = false by simpa using w1, show (ways == 2) = false by simpa using w2]; simp)
            clear w1 w2
            go_wp2
            go_ret
            exact ⟨ret_boolC HF.out.symm, KB.out⟩
  · have n0' : numB n = false := by simpa using n0
    have q1 : ((n : Int) != 1) = true := by unfold numB at n0'; simp at n0' ⊢; omega
    have q2 : ((n : Int) != 2) = true := by unfold numB at n0'; simp at n0' ⊢; omega
    have q4 : ((n : Int) != 4) = true := by unfold numB at n0'; simp at n0' ⊢; omega
    have HF := Lib.hid (show rightC ways ss = false by unfold rightC; rw [HL.out, n0']; rfl)
    clear n0 n0'
    go_wp2
    go_ret
    exact ⟨ret_boolC HF.out.symm, KB.out⟩
end Go.Proofs.Ytcgahdmacngipaa
