/- THE CONTRACTS of Right, Lat, Tape, Most of package conf; few and alive of auspexlaw08. -/
import Derived.Test.YtebeelphilfjhaaConfC
namespace Go.Proofs.Ytebeelphilfjhaa
open Go.ChangeShapes Go.WideShapes Go.ChangeAt Go.RowKit
set_option linter.unusedVariables false
set_option linter.unusedSimpArgs false
theorem ret_int {k : IntKind} {a b : Int} (h : a = b) : Ending.returned (.int k a) = .returned (.int k b) := by rw [h]
theorem ret_bool {a b : Bool} (h : a = b) : Ending.returned (.bool a) = .returned (.bool b) := by rw [h]
theorem alloc_below (w : World) (o : Obj) : Below w.heap.size w (w.alloc o) := (Below.refl _ _).alloc (Nat.le_refl _) o
theorem alloc_then {w w' : World} {o : Obj} (b : Below (w.alloc o).heap.size (w.alloc o) w') : Below w.heap.size w w' := (alloc_below w o).trans (b.mono (by simp))
theorem below_drewN {B : Nat} {a w : World} (h : Below B a w) (n : Nat) : Below B a (w.drewN n) := ⟨h.os, h.tape, h.output, h.size, h.block⟩

set_option maxHeartbeats 2000000
set_option maxRecDepth 100000
theorem eq_step {a b : List Int} {k : Nat} (x y : Int) (hx : a[k]? = some x) (hy : b[k]? = some y) (h : a.take k = b.take k) : (x = y → a.take (k + 1) = b.take (k + 1)) ∧ (x ≠ y → a ≠ b) := by
  refine ⟨fun e => ?_, fun e h => ?_⟩
  · rw [List.take_add_one, List.take_add_one, h, hx, hy, e]
  · rw [h, hy] at hx
    exact e (Option.some.inj hx).symm
theorem equal_ints (A B : Option Addr) (n m ca cb : Nat) (a b : List Int) (hn : n ≤ 1000) (hm : m ≤ 1000) (w : World) (ha : IntsAt w A n .i64 a) (hb : IntsAt w B m .i64 b) :
    Calls Try.prog 80 #[.slice A n ca, .slice B m cb] w fun e w' => ∃ t : Bool, e = .returned (.bool t) ∧ (t = true ↔ a = b) ∧ Below w.heap.size w w' := by
  have la := Lib.hid ha.1
  have lb := Lib.hid hb.1
  by_cases hnm : n = m
  · subst hnm
    go_enter Try.func80, Try.ntmps80
    go_wp2
    go_loopw [13] (fun i wr => ∃ k : Nat, k ≤ n ∧ i = .int .i64 k ∧ a.take k = b.take k ∧ Below w.heap.size w wr) (fun i _ => n - (intOf i).toNat)
    case atStart => exact ⟨0, Nat.zero_le _, rfl, rfl, Below.refl _ _⟩
    case round =>
      obtain ⟨k, hk, rfl, htk, hbel⟩ := hrel
      by_cases hkn : k < n
      · obtain ⟨x, hx⟩ : ∃ r, a[k]? = some r := ⟨_, List.getElem?_eq_getElem (by rw [la.out]; exact hkn)⟩
        obtain ⟨y, hy⟩ : ∃ r, b[k]? = some r := ⟨_, List.getElem?_eq_getElem (by rw [lb.out]; exact hkn)⟩
        obtain ⟨s1, s2⟩ := eq_step x y hx hy htk
        have S1 := Lib.hid s1
        have S2 := Lib.hid s2
        obtain ⟨pa, rfl, _, a0⟩ := (ha.below hbel).2 k x hx
        obtain ⟨pb, rfl, _, b0⟩ := (hb.below hbel).2 k y hy
        clear hx hy htk s1 s2
        by_cases e : x = y
        · have HN := Lib.hid (S1.out e)
          subst e
          clear S1 S2
          go_wp2
          go_quiet (fail)
          go_wp2
          go_roundw
          case rel => exact ⟨k + 1, by omega, by go_num, HN.out, below_drewN hbel _⟩
          case measure => simp [intOf]; omega
        · have e1 : (x != y) = true := by simpa using e
          have HN := Lib.hid (S2.out e)
          clear e S1 S2
          go_wp2
          go_quiet (fail)
          go_wp2
          go_ret
          exact ⟨false, rfl, by simp [HN.out], below_drewN hbel _⟩
      · have hkn' : k = n := by omega
        have HN := Lib.hid (show a = b by rw [hkn', List.take_of_length_le (by rw [la.out]; exact Nat.le_refl _), List.take_of_length_le (by rw [lb.out]; exact Nat.le_refl _)] at htk; exact htk)
        clear htk
        subst hkn'
        go_wp2
        go_ret
        exact ⟨true, rfl, by simp [HN.out], hbel⟩
  · have hnm' : ((n : Int) != m) = true := by simp; omega
    have HN := Lib.hid (show a ≠ b from fun e => hnm (by rw [← la.out, ← lb.out, e]))
    go_enter Try.func80, Try.ntmps80
    go_wp2
    go_ret
    exact ⟨false, rfl, by simp [HN.out], Below.refl _ _⟩

/-- may the shape be? -/
def rightB (c : Cf) (lat : List Int) : Bool := decide (c.mode = lim c.mode 0 2 ∧ c.width = lim c.width 1 2 ∧ c.rob = lim c.rob 2 8 ∧ c.queue = lim c.queue 1 4 ∧ c.stores = lim c.stores 1 4 ∧ c.slots = lim c.slots 2 6 ∧ c.sets = setsOf c.sets ∧ c.ways = lim c.ways 1 2 ∧ lat = latOf lat ∧ c.tn = min c.tn 64)
set_option maxHeartbeats 8000000 in
theorem right_conf (c : Cf) (lat tape : List Int) (hl : c.ln ≤ 200) (ht : c.tn ≤ 200) (w : World) (h : CfAt w c lat tape) :
    Calls Try.prog 25 #[cfV c] w fun e w' => e = .returned (.bool (rightB c lat)) ∧ Below w.heap.size w w' := by
  obtain ⟨mode, width, rob, queue, stores, slots, sets, ways, la, ln, lc, tb, ta, tn, tc⟩ := c
  have hC := clean_conf ⟨mode, width, rob, queue, stores, slots, sets, ways, la, ln, lc, tb, ta, tn, tc⟩ lat tape hl ht (w.alloc (.cells (cfL ⟨mode, width, rob, queue, stores, slots, sets, ways, la, ln, lc, tb, ta, tn, tc⟩).toArray 25)) (h.below (alloc_below _ _))
  have hB := Blk.new w 25 (cfL ⟨mode, width, rob, queue, stores, slots, sets, ways, la, ln, lc, tb, ta, tn, tc⟩)
  simp only [cfV, cfL] at hC hB ⊢
  have HC := Lib.hid hC
  have hlat := Lib.hid h.1.1
  have hw1 : w.heap.size < (w.alloc (.cells [.int .i64 mode, .int .i64 width, .int .i64 rob, .int .i64 queue, .int .i64 stores, .int .i64 slots, .int .i64 sets, .int .i64 ways, .slice la ln lc, .bool tb, .slice ta tn tc].toArray 25)).heap.size := hB.1
  obtain ⟨⟨x0, x1, x2, x3, x4, x5, x6, x7, x8, x9, x10⟩, _⟩ := hB.c11
  clear hC
  go_enter Try.func25, Try.ntmps25
  go_wp2_with fail
  refine HC.out.mono ?_
  rintro e w2 ⟨la2, lc2, ta2, tc2, rfl, hat, b⟩
  clear x0 x1 x2 x3 x4 x5 x6 x7 x8 x9 x10
  have HB := Lib.hid (alloc_then b)
  have hci := (h.below HB.out)
  simp only [cfClean]
  have hn2 : w.heap.size < w2.heap.size := Nat.lt_of_lt_of_le hw1 b.size
  have hX := (hB.below b hw1).below (alloc_below w2 (.cells [.int .i64 (lim mode 0 2), .int .i64 (lim width 1 2), .int .i64 (lim rob 2 8), .int .i64 (lim queue 1 4), .int .i64 (lim stores 1 4), .int .i64 (lim slots 2 6), .int .i64 (setsOf sets), .int .i64 (lim ways 1 2), .slice la2 (min ln 64) lc2, .bool tb, .slice ta2 (min tn 64) tc2].toArray 25)) hn2
  have hD := Blk.new w2 25 [.int .i64 (lim mode 0 2), .int .i64 (lim width 1 2), .int .i64 (lim rob 2 8), .int .i64 (lim queue 1 4), .int .i64 (lim stores 1 4), .int .i64 (lim slots 2 6), .int .i64 (setsOf sets), .int .i64 (lim ways 1 2), .slice la2 (min ln 64) lc2, .bool tb, .slice ta2 (min tn 64) tc2]
  clear hB b HC
  by_cases h0 : mode = lim mode 0 2
  · have e0 : (mode == lim mode 0 2) = true := by simpa using h0
    have H0 := Lib.hid h0
    clear h0
    by_cases h1 : width = lim width 1 2
    · have e1 : (width == lim width 1 2) = true := by simpa using h1
      have H1 := Lib.hid h1
      clear h1
      by_cases h2 : rob = lim rob 2 8
      · have e2 : (rob == lim rob 2 8) = true := by simpa using h2
        have H2 := Lib.hid h2
        clear h2
        by_cases h3 : queue = lim queue 1 4
        · have e3 : (queue == lim queue 1 4) = true := by simpa using h3
          have H3 := Lib.hid h3
          clear h3
          by_cases h4 : stores = lim stores 1 4
          · have e4 : (stores == lim stores 1 4) = true := by simpa using h4
            have H4 := Lib.hid h4
            clear h4
            by_cases h5 : slots = lim slots 2 6
            · have e5 : (slots == lim slots 2 6) = true := by simpa using h5
              have H5 := Lib.hid h5
              clear h5
              by_cases h6 : sets = setsOf sets
              · have e6 : (sets == setsOf sets) = true := by simpa using h6
                have H6 := Lib.hid h6
                clear h6
                by_cases h7 : ways = lim ways 1 2
                · have e7 : (ways == lim ways 1 2) = true := by simpa using h7
                  have H7 := Lib.hid h7
                  clear h7
                  have hX0 := hX
                  obtain ⟨⟨x0, x1, x2, x3, x4, x5, x6, x7, x8, x9, x10⟩, _⟩ := hX0.c11
                  go_wp2_with fail
                  refine (equal_ints la la2 ln (min ln 64) lc lc2 lat (latOf lat) (by omega) (by omega) _ (hci.1.below (alloc_below _ _)) (hat.1.below (alloc_below _ _))).mono ?_
                  rintro e w3 ⟨t, rfl, htt, b⟩
                  have HB3 := Lib.hid (HB.out.trans ((alloc_then b).mono HB.out.size))
                  clear x0 x1 x2 x3 x4 x5 x6 x7 x8 x9 x10
                  obtain ⟨⟨x0, x1, x2, x3, x4, x5, x6, x7, x8, x9, x10⟩, _⟩ := (hX.below b (by simp; omega)).c11
                  obtain ⟨⟨u0, u1, u2, u3, u4, u5, u6, u7, u8, u9, u10⟩, _⟩ := (hD.below b (by simp)).c11
                  clear hX hD b hci hat
                  cases t
                  · have HV := Lib.hid (show rightB ⟨mode, width, rob, queue, stores, slots, sets, ways, la, ln, lc, tb, ta, tn, tc⟩ lat = false by unfold rightB; simp only [decide_eq_false_iff_not]; intro h; have := htt.2 h.2.2.2.2.2.2.2.2.1; cases this)
                    clear htt
                    go_wp2
                    go_ret
                    exact ⟨ret_bool HV.out.symm, HB3.out⟩
                  · by_cases ht64 : tn ≤ 64
                    · have HV := Lib.hid (show rightB ⟨mode, width, rob, queue, stores, slots, sets, ways, la, ln, lc, tb, ta, tn, tc⟩ lat = true by unfold rightB; simp only [decide_eq_true_eq]; exact ⟨H0.out, H1.out, H2.out, H3.out, H4.out, H5.out, H6.out, H7.out, htt.1 rfl, by omega⟩)
                      have hmn : min tn 64 = tn := by omega
                      clear htt
                      go_wp2
                      go_ret
                      exact ⟨ret_bool HV.out.symm, HB3.out⟩
                    · have HV := Lib.hid (show rightB ⟨mode, width, rob, queue, stores, slots, sets, ways, la, ln, lc, tb, ta, tn, tc⟩ lat = false by unfold rightB; simp only [decide_eq_false_iff_not]; intro h; have := h.2.2.2.2.2.2.2.2.2; omega)
                      have hmn : min tn 64 = 64 := by omega
                      have hne : ((tn : Int) == 64) = false := by simp; omega
                      clear htt
                      go_wp2
                      go_ret
                      exact ⟨ret_bool HV.out.symm, HB3.out⟩
                · obtain ⟨⟨x0, x1, x2, x3, x4, x5, x6, x7, x8, x9, x10⟩, _⟩ := hX.c11
                  clear x8 x9 x10 hci hat hX hD h
                  have e7 : (ways == lim ways 1 2) = false := by simpa using h7
                  have HV := Lib.hid (show rightB ⟨mode, width, rob, queue, stores, slots, sets, ways, la, ln, lc, tb, ta, tn, tc⟩ lat = false by unfold rightB; simp only [decide_eq_false_iff_not]; intro h; exact h7 h.2.2.2.2.2.2.2.1)
                  clear h7
                  go_wp2
                  go_ret
                  exact ⟨ret_bool HV.out.symm, HB.out.alloc HB.out.size _⟩
              · obtain ⟨⟨x0, x1, x2, x3, x4, x5, x6, x7, x8, x9, x10⟩, _⟩ := hX.c11
                clear x7 x8 x9 x10 hci hat hX hD h
                have e6 : (sets == setsOf sets) = false := by simpa using h6
                have HV := Lib.hid (show rightB ⟨mode, width, rob, queue, stores, slots, sets, ways, la, ln, lc, tb, ta, tn, tc⟩ lat = false by unfold rightB; simp only [decide_eq_false_iff_not]; intro h; exact h6 h.2.2.2.2.2.2.1)
                clear h6
                go_wp2
                go_ret
                exact ⟨ret_bool HV.out.symm, HB.out.alloc HB.out.size _⟩
            · obtain ⟨⟨x0, x1, x2, x3, x4, x5, x6, x7, x8, x9, x10⟩, _⟩ := hX.c11
              clear x6 x7 x8 x9 x10 hci hat hX hD h
              have e5 : (slots == lim slots 2 6) = false := by simpa using h5
              have HV := Lib.hid (show rightB ⟨mode, width, rob, queue, stores, slots, sets, ways, la, ln, lc, tb, ta, tn, tc⟩ lat = false by unfold rightB; simp only [decide_eq_false_iff_not]; intro h; exact h5 h.2.2.2.2.2.1)
              clear h5
              go_wp2
              go_ret
              exact ⟨ret_bool HV.out.symm, HB.out.alloc HB.out.size _⟩
          · obtain ⟨⟨x0, x1, x2, x3, x4, x5, x6, x7, x8, x9, x10⟩, _⟩ := hX.c11
            clear x5 x6 x7 x8 x9 x10 hci hat hX hD h
            have e4 : (stores == lim stores 1 4) = false := by simpa using h4
            have HV := Lib.hid (show rightB ⟨mode, width, rob, queue, stores, slots, sets, ways, la, ln, lc, tb, ta, tn, tc⟩ lat = false by unfold rightB; simp only [decide_eq_false_iff_not]; intro h; exact h4 h.2.2.2.2.1)
            clear h4
            go_wp2
            go_ret
            exact ⟨ret_bool HV.out.symm, HB.out.alloc HB.out.size _⟩
        · obtain ⟨⟨x0, x1, x2, x3, x4, x5, x6, x7, x8, x9, x10⟩, _⟩ := hX.c11
          clear x4 x5 x6 x7 x8 x9 x10 hci hat hX hD h
          have e3 : (queue == lim queue 1 4) = false := by simpa using h3
          have HV := Lib.hid (show rightB ⟨mode, width, rob, queue, stores, slots, sets, ways, la, ln, lc, tb, ta, tn, tc⟩ lat = false by unfold rightB; simp only [decide_eq_false_iff_not]; intro h; exact h3 h.2.2.2.1)
          clear h3
          go_wp2
          go_ret
          exact ⟨ret_bool HV.out.symm, HB.out.alloc HB.out.size _⟩
      · obtain ⟨⟨x0, x1, x2, x3, x4, x5, x6, x7, x8, x9, x10⟩, _⟩ := hX.c11
        clear x3 x4 x5 x6 x7 x8 x9 x10 hci hat hX hD h
        have e2 : (rob == lim rob 2 8) = false := by simpa using h2
        have HV := Lib.hid (show rightB ⟨mode, width, rob, queue, stores, slots, sets, ways, la, ln, lc, tb, ta, tn, tc⟩ lat = false by unfold rightB; simp only [decide_eq_false_iff_not]; intro h; exact h2 h.2.2.1)
        clear h2
        go_wp2
        go_ret
        exact ⟨ret_bool HV.out.symm, HB.out.alloc HB.out.size _⟩
    · obtain ⟨⟨x0, x1, x2, x3, x4, x5, x6, x7, x8, x9, x10⟩, _⟩ := hX.c11
      clear x2 x3 x4 x5 x6 x7 x8 x9 x10 hci hat hX hD h
      have e1 : (width == lim width 1 2) = false := by simpa using h1
      have HV := Lib.hid (show rightB ⟨mode, width, rob, queue, stores, slots, sets, ways, la, ln, lc, tb, ta, tn, tc⟩ lat = false by unfold rightB; simp only [decide_eq_false_iff_not]; intro h; exact h1 h.2.1)
      clear h1
      go_wp2
      go_ret
      exact ⟨ret_bool HV.out.symm, HB.out.alloc HB.out.size _⟩
  · obtain ⟨⟨x0, x1, x2, x3, x4, x5, x6, x7, x8, x9, x10⟩, _⟩ := hX.c11
    clear x1 x2 x3 x4 x5 x6 x7 x8 x9 x10 hci hat hX hD h
    have e0 : (mode == lim mode 0 2) = false := by simpa using h0
    have HV := Lib.hid (show rightB ⟨mode, width, rob, queue, stores, slots, sets, ways, la, ln, lc, tb, ta, tn, tc⟩ lat = false by unfold rightB; simp only [decide_eq_false_iff_not]; intro h; exact h0 h.1)
    clear h0
    go_wp2
    go_ret
    exact ⟨ret_bool HV.out.symm, HB.out.alloc HB.out.size _⟩

end Go.Proofs.Ytebeelphilfjhaa
