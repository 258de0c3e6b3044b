/- THE CONTRACT of auspexref10.Touch. -/
import Derived.Test.YtcgahdmacngipaaRef10T
namespace Go.Proofs.Ytcgahdmacngipaa
open Go.ChangeShapes Go.WideShapes Go.ChangeAt Go.RowKit Go.Sort
set_option linter.unusedVariables false
set_option linter.unusedSimpArgs false
set_option maxHeartbeats 4000000
set_option maxRecDepth 100000

theorem accS_at {ways : Int} {ss : List (List Wy)} {k i : Nat} {s : List Wy} {x y : Wy} (hr : rightC ways ss = true) (hsk : ss[k]? = some s) (hx : s[i]? = some x) (hy : y.line = x.line) : accS y s s.length = y :: (s.take i ++ s.drop (i + 1)) := by
  unfold accS
  rw [List.take_of_length_le (Nat.le_refl _), hy, filter_others hx (fun j r hj => (((right_at hr).2.2 k s hsk).2 j r hj).2.2.1)]
theorem accS_new {s : List Wy} {y : Wy} (h : placeI s y.line < 0) (m : Nat) : accS y (s.take m) (s.take m).length = y :: s.take m := by
  unfold accS
  rw [List.take_of_length_le (Nat.le_refl _)]
  congr 1
  rw [List.filter_eq_self]
  intro z hz
  have := place_neg h z (List.mem_of_mem_take hz)
  simp only [bne]
  rw [this]
  rfl
theorem refTouch_any (ways : Int) (A : Option Addr) (n cap : Nat) (hs : List Hd) (ss : List (List Wy)) (line : Int) (hn : n ≤ cap) (hc : cap ≤ maxLen) (hz : A = none → cap = 0) (hss : setsOK ss) (h0 : 0 ≤ line) (h1 : line < 4294967296) (w : World) (hS : SetsAt w A n hs ss) :
    Calls Try.prog 24 #[caV ways A n cap, .int .u32 line] w fun e w' => ∃ (A' : Option Addr) (c' : Nat) (hs' : List Hd), e = .returned (caV ways A' n c') ∧ n ≤ c' ∧ c' ≤ maxLen ∧ (A' = none → c' = 0) ∧ SetsAt w' A' n hs' (touchS ways ss line) ∧ Below w.heap.size w w' := by
  have HF := Lib.hid (fun w h => refFind_any ways A n cap hs ss line hn hc hss h0 h1 w h)
  have HS := Lib.hid hS
  have hl := hS.len
  cases hff : (findS ways ss line).2.2
  · rw [touchS_no hff]
    obtain ⟨f, hf⟩ : ∃ f, findS ways ss line = f := ⟨_, rfl⟩
    rw [hf] at HF hff
    obtain ⟨k, i, b⟩ := f
    simp only at hff
    subst hff
    unfold findV at HF
    simp only at HF
    unfold caV at HF ⊢
    clear hss h0 h1 hS hf
    go_enter Try.func24, Try.ntmps24
    go_upto_region 1 with fail
    refine wp_allocs [([.int .i64 ways, .slice A n cap], 24), ([.int .i64 0, .slice none 0 0], 24)] rfl ?_
    intro W0 y1 KB y3
    have x1 := y3 0 _ rfl
    have x2 := y3 1 _ rfl
    rw [Nat.add_zero] at x1
    have X1 := Lib.hid x1
    have X2 := Lib.hid x2
    replace KB := Lib.hid KB
    clear y1 y3 x1 x2
    have HZI := Lib.hid (show (Try.prog.info? 24).map (·.size) = some (#[.int .i64 ways, .slice A n cap] : Array Value).size by kernel_rfl)
    have HZO := Lib.hid (show (#[.int .i64 ways, .slice A n cap] : Array Value).all (·.oneCell') = true by simp [Value.oneCell'])
    go_wp2_with (first
      | (refine wpList_load_mid rfl 24 (.tmp 2) rfl w.heap.size 0 rfl [.int .i64 ways, .slice A n cap] _ X1.out.range Try.underlying24 rfl ca_info ?_)
      | (go_at_call 11
         refine (HF.out _ (HS.out.below KB.out)).mono ?_
         rintro e W1 ⟨rfl, b⟩
         have z1 := X1.out.below b X1.out.1
         have z2 := X2.out.below b X2.out.1
         have z3 := KB.out.trans (b.mono KB.out.size)
         clear X1 X2 KB b
         have X1 := Lib.hid z1
         have X2 := Lib.hid z2
         have KB := Lib.hid z3
         clear z1 z2 z3)
      | (refine wpList_store_blk3 rfl 24 (.tmp 4) (.tmp 17) rfl (w.heap.size + 1) _ #[.int .i64 ways, .slice A n cap] X2.out rfl rfl rfl HZI.out HZO.out ?_
         intro W4 q1 q2 q2f q3 q4
         have G1 := Lib.hid q1
         have G3 := Lib.hid (KB.out.trans (q3 w.heap.size (by omega)))
         clear q1 q2 q2f q3 q4))
    exact bodyPost_ret (v := .agg #[.int .i64 ways, .slice A n cap]) (results_cell_blk Try.results24 _ W4 (w.heap.size + 1) [.int .i64 ways, .slice A n cap] _ rfl G1.out Try.underlying24 rfl ca_info) rfl ⟨A, cap, rfl, hn, hc, hz, ⟨hs, HS.out.below G3.out⟩, G3.out⟩
  · have hr : rightC ways ss = true := by
      cases hr : rightC ways ss
      · rw [findS_no line hr] at hff
        cases hff
      · rfl
    obtain ⟨k, s, hk, hsk, ⟨hp, hf⟩ | ⟨i, x, hx, hxl, hf⟩⟩ := findS_cases line hr
    · rw [hf] at hff
      cases hff
    · rw [touchS_yes hsk hf, show toF s i = accS x s s.length by rw [accS_at hr hsk hx rfl]; unfold toF; rw [hx]]
      have hn4 := (right_at hr).1
      have hw2 := (right_at hr).2.1
      have hsl := ((right_at hr).2.2 k s hsk).1
      have hxr := hss s (List.mem_of_getElem? hsk) x (List.mem_of_getElem? hx)
      have HG := Lib.hid (fun w h => (get_any ways A n cap hs ss line hn hc hss h0 h1 w h k i s x hsk hx hf))
      have HFI := Lib.hid (fun W h => first_any ways A n cap hs ss x hn (by omega) (by omega) hxr.1 hxr.2 W h k s (by rw [hxl, ← hl]; exact hk) hsk (by omega))
      rw [hf] at HF
      unfold findV at HF
      unfold wyV caV at HG
      unfold wyV at HFI
      unfold caV at HF HFI ⊢
      clear hss h0 h1 hS hf hff hr hsk hx hxl hk
      go_enter Try.func24, Try.ntmps24
      go_upto_region 1 with fail
      refine wp_allocs [([.int .i64 ways, .slice A n cap], 24), ([.int .i64 0, .slice none 0 0], 24)] rfl ?_
      intro W0 y1 KB y3
      have x1 := y3 0 _ rfl
      have x2 := y3 1 _ rfl
      rw [Nat.add_zero] at x1
      have X1 := Lib.hid x1
      have X2 := Lib.hid x2
      replace KB := Lib.hid KB
      clear y1 y3 x1 x2
      go_upto_region 4 with (first
        | (refine wpList_load_mid rfl 24 (.tmp 2) rfl w.heap.size 0 rfl [.int .i64 ways, .slice A n cap] _ X1.out.range Try.underlying24 rfl ca_info ?_)
        | (go_at_call 11
           refine (HF.out _ (HS.out.below KB.out)).mono ?_
           rintro e W1 ⟨rfl, b⟩
           have z1 := X1.out.below b X1.out.1
           have z2 := X2.out.below b X2.out.1
           have z3 := KB.out.trans (b.mono KB.out.size)
           clear X1 X2 KB b
           have X1 := Lib.hid z1
           have X2 := Lib.hid z2
           have KB := Lib.hid z3
           clear z1 z2 z3))
      refine wp_region_below_tail 4 (by kernel_rfl) (by kernel_rfl) ?_
      simp only [List.take_succ_cons, List.take_zero, List.drop_succ_cons, List.drop_zero]
      repeat (first
        | (go_big_quiet_want; refine quiet_load_mid 24 (.tmp 2) rfl _ rfl _ _ X1.out Try.underlying24 rfl ca_info ?_; simp only [Act.put, List.setIfInBounds_toArray, List.set_cons_succ, List.set_cons_zero]; go_big_quiet_on)
        | (go_big_quiet_step (first
          | (go_at_call 32; exact Calls.regrown_of (HG.out _ ((HS.out.below KB.out).below (below_regrown _ _ _)))))))
      refine wpQuiet_nil ?_
      intro _ hw'
      obtain ⟨⟨nq, osq⟩, hw''⟩ := hw'
      subst hw''
      have bq := below_regrown W1 nq osq
      have z1 := X2.out.below bq X2.out.1
      have z3 := KB.out.trans (bq.mono KB.out.size)
      clear X1 X2 KB bq
      have X2 := Lib.hid z1
      have KB := Lib.hid z3
      clear z1 z3
      generalize grow (redrawn W1 nq) osq = W2 at *
      go_wp2_with (first
        | (go_at_call 42
           refine (HFI.out _ (HS.out.below KB.out)).mono ?_
           rintro e W3 ⟨A', c', q, rfl, g1, g2, g3, g4, g5, g6, g7, g8, b⟩
           have O1 := Lib.hid g7
           have O2 := Lib.hid g8
           have Y2 := Lib.hid (X2.out.below b X2.out.1)
           have YB := Lib.hid (KB.out.trans (b.mono KB.out.size))
           have hlt := X2.out.1
           have HZI := Lib.hid (show (Try.prog.info? 24).map (·.size) = some (#[.int .i64 ways, .slice A' n c'] : Array Value).size by kernel_rfl)
           have HZO := Lib.hid (show (#[.int .i64 ways, .slice A' n c'] : Array Value).all (·.oneCell') = true by simp [Value.oneCell'])
           clear b g7 g8)
        | (refine wpList_store_blk3 rfl 24 (.tmp 4) (.tmp 22) rfl (w.heap.size + 1) _ #[.int .i64 ways, .slice A' n c'] Y2.out rfl rfl rfl HZI.out HZO.out ?_
           intro W4 q1 q2 q2f q3 q4
           have G1 := Lib.hid q1
           have G3 := Lib.hid (YB.out.trans (q3 w.heap.size (by omega)))
           have P1 := Lib.hid (O1.out.same (b := w.heap.size + 1) hlt q2 q2f q4)
           have P2 := Lib.hid (O2.out.same (b := w.heap.size + 1) hlt q2 q2f q4)
           clear q1 q2 q2f q3 q4))
      exact bodyPost_ret (v := .agg #[.int .i64 ways, .slice A' n c']) (results_cell_blk Try.results24 _ W4 (w.heap.size + 1) [.int .i64 ways, .slice A' n c'] _ rfl G1.out Try.underlying24 rfl ca_info) rfl
        ⟨A', c', rfl, g1, g2, g3, ⟨hs.set k q, first_sets HS.out.2 G3.out (by have := P1.out.1; first | exact this | (rw [List.map_set] at this; exact this) | (rw [← List.map_set] at this; exact this)) g4 g5 g6 P2.out.1⟩, G3.out⟩
end Go.Proofs.Ytcgahdmacngipaa
