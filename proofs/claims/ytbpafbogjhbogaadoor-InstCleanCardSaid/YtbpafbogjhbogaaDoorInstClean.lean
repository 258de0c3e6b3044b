/- THE WALK of InstClean (auspexlaw02): of an instruction that a word tells registers are 0 to 31; what its kind does not read or write is 0; a load and a store have a size, others have none. -/
import Derived.Test.YtbpafbogjhbogaaDoorInstMore
import Derived.Lib.QuietBelow
import Derived.BigQuiet
import Derived.WalkLawsBesides
namespace Go.Proofs.YtbpafbogjhbogaaDoor.instClean
open Go.ChangeShapes Go.WideShapes Go.ChangeAt Go.RowKit

theorem in_any (n : Int) (h : 0 ≤ n ∧ n ≤ 31) (w : World) : Calls Tryd.prog 14 #[.int .i64 n] w fun e w' => e = .returned (.bool true) ∧ w = w' := by
  obtain ⟨h1, h2⟩ := h
  go_enter Tryd.func14, Tryd.ntmps14
  go_wp2
  go_ret
  exact ⟨rfl, rfl⟩

/-- what a word that has a row tells -/
def Told (p0 p1 p2 p3 p4 : Int) : Prop :=
  (0 ≤ p1 ∧ p1 ≤ 31) ∧ (0 ≤ p2 ∧ p2 ≤ 31) ∧ (0 ≤ p3 ∧ p3 ≤ 31) ∧ 0 ≤ kindI p0 ∧ kindI p0 ≤ 6 ∧ (if kindI p0 = 3 ∨ kindI p0 = 4 then 0 < sizeOp p0 else sizeOp p0 = 0) ∧
  (kindI p0 = 4 → p1 = 0) ∧ (kindI p0 = 3 → p3 = 0) ∧ (kindI p0 = 1 ∨ kindI p0 = 2 → p4 = 0) ∧ (kindI p0 = 6 → p1 = 0 ∧ p2 = 0 ∧ p3 = 0 ∧ p4 = 0) ∧ wrI p0 p1 = p1
theorem told (w : Int) (h : chB w = true) : Told (chR w).1 (gth w (rdL (chR w).2.1)) (gth w (rs1L (chR w).2.1)) (gth w (rs2L (chR w).2.1)) (numV w (chR w).2.1) := by
  have ok := kindW_ok w h
  unfold kindOK at ok
  obtain ⟨k0, k6, ks, k4, k3, k1, kw, _⟩ := ok
  refine ⟨rd_range w _, rs1_range w _, rs2_range w _, k0, k6, ks, fun e => ?_, fun e => ?_, fun e => ?_, fun e => ?_, wrW_ok w h⟩
  · rw [k4 e]; exact gth_nil w
  · rw [k3 e]; exact gth_nil w
  · exact num_nil _ _ (k1 e)
  · rw [kw e]; exact ⟨gth_nil w, gth_nil w, gth_nil w, num_nil _ _ rfl⟩

theorem writes_told (op rd rs1 rs2 imm : Int) (h : wrI op rd = rd) (w : World) (ht : TabIs w) (hg : 0 < w.heap.size) :
    Calls Tryd.prog 17 #[.agg #[.int .i64 op, .int .i64 rd, .int .i64 rs1, .int .i64 rs2, .int .u32 imm]] w fun e w' => e = .returned (.int .i64 rd) ∧ Below w.heap.size w w' := by
  have hz := writes_any op rd rs1 rs2 imm w ht hg
  rw [h] at hz
  exact hz

set_option maxHeartbeats 4000000
theorem walk (w : Int) (hw : 0 ≤ w ∧ w < 4294967296) (W : World) (ht : TabIs W) (hg : 0 < W.heap.size) :
    Calls Tryd.prog 6 #[.int .u32 w] W fun e w' => e = .returned (.bool true) ∧ Below W.heap.size W w' := by
  have HT := Lib.hid ht
  clear ht
  have HW := Lib.hid hw
  clear hw
  go_enter Tryd.func6, Tryd.ntmps6
  go_wp2_with fail
  go_at_call 10
  refine (decode_any _ HW.out.1 HW.out.2 _ HT.out hg).mono ?_
  rintro e w1 ⟨rfl, b1⟩
  have hb := b1
  clear b1
  cases hc : chB w
  · rw [(decV_no hc).1, (decV_no hc).2]
    simp only [zeroAgg]
    clear hc
    go_wp2_with fail
    have hI := five_new w1 24 (.int .i64 0) (.int .i64 0) (.int .i64 0) (.int .i64 0) (.int .u32 0)
    have hx : Below w1.heap.size w1 (w1.alloc (.cells #[.int .i64 0, .int .i64 0, .int .i64 0, .int .i64 0, .int .u32 0] 24)) := (Below.refl _ _).alloc (Nat.le_refl _) _
    have hs : w1.heap.size < (w1.alloc (.cells #[.int .i64 0, .int .i64 0, .int .i64 0, .int .i64 0, .int .u32 0] 24)).heap.size := by simp
    replace hb := hb.trans (hx.mono hb.size)
    generalize hw2 : w1.alloc (.cells #[.int .i64 0, .int .i64 0, .int .i64 0, .int .i64 0, .int .u32 0] 24) = w2 at *
    clear hw2 hx
    go_at_call 12
    refine (alive02_any _ (HT.out.below hb hg) (Nat.lt_of_lt_of_le hg hb.size)).mono ?_
    rintro e w5 ⟨rfl, b5⟩
    replace hI := hI.below b5 hs
    replace hb := hb.trans (b5.mono hb.size)
    have HB := Lib.hid hb
    obtain ⟨⟨a0, a1, a2, a3, a4⟩, _⟩ := hI
    clear b5 hb hs
    go_wp2
    go_ret
    exact ⟨rfl, HB.out⟩
  · rw [(decV_yes hc).1, (decV_yes hc).2]
    simp only [decAgg]
    have T := told w hc
    clear hc
    generalize (chR w).1 = p0 at *
    generalize gth w (rdL (chR w).2.1) = p1 at *
    generalize gth w (rs1L (chR w).2.1) = p2 at *
    generalize gth w (rs2L (chR w).2.1) = p3 at *
    generalize numV w (chR w).2.1 = p4 at *
    unfold Told at T
    obtain ⟨K, hK⟩ : ∃ K, K = kindI p0 := ⟨_, rfl⟩
    obtain ⟨S, hS⟩ : ∃ S, S = sizeOp p0 := ⟨_, rfl⟩
    rw [← hK, ← hS] at T
    obtain ⟨r1, r2, r3, k0, k6, ks, z4, z3, z1, z6, hR⟩ := T
    have HK := Lib.hid hK
    have HS := Lib.hid hS
    have HR := Lib.hid hR
    clear hK hS hR
    go_wp2_with fail
    have hI := five_new w1 24 (.int .i64 p0) (.int .i64 p1) (.int .i64 p2) (.int .i64 p3) (.int .u32 p4)
    have hx : Below w1.heap.size w1 (w1.alloc (.cells #[.int .i64 p0, .int .i64 p1, .int .i64 p2, .int .i64 p3, .int .u32 p4] 24)) := (Below.refl _ _).alloc (Nat.le_refl _) _
    have hs : w1.heap.size < (w1.alloc (.cells #[.int .i64 p0, .int .i64 p1, .int .i64 p2, .int .i64 p3, .int .u32 p4] 24)).heap.size := by simp
    replace hb := hb.trans (hx.mono hb.size)
    generalize hw2 : w1.alloc (.cells #[.int .i64 p0, .int .i64 p1, .int .i64 p2, .int .i64 p3, .int .u32 p4] 24) = w2 at *
    clear hw2 hx
    go_at_call 15
    refine (kind_any _ _ _ _ _ _).mono ?_
    rintro e wn ⟨rfl, b⟩
    replace hI := hI.below b hs
    replace hs := Nat.lt_of_lt_of_le hs b.size
    replace hb := hb.trans (b.mono hb.size)
    clear b
    rw [← HK.out]
    clear HK
    obtain rfl | rfl | rfl | rfl | rfl | rfl | rfl : K = 0 ∨ K = 1 ∨ K = 2 ∨ K = 3 ∨ K = 4 ∨ K = 5 ∨ K = 6 := by omega
    · replace ks : S = 0 := by simpa using ks
      subst ks
      clear z4 z3 z1 z6 k0 k6
      have HI := Lib.hid hI
      obtain ⟨⟨c0, c1, c2, c3, c4⟩, _⟩ := hI
      go_wp2_with (go_at_call 14; refine (in_any _ (by omega) _).mono ?_; rintro e wn ⟨rfl, rfl⟩)
      clear c0 c1 c2 c3 c4
      go_at_call 16
      refine (size_any _ _ _ _ _ _).mono ?_
      rintro e wn ⟨rfl, b⟩
      have hI := HI.out.below b hs
      replace hs := Nat.lt_of_lt_of_le hs b.size
      replace hb := hb.trans (b.mono hb.size)
      clear HI b
      rw [← HS.out]
      obtain ⟨⟨c0, c1, c2, c3, c4⟩, _⟩ := hI
      have HTn := Lib.hid (HT.out.below hb hg)
      have hgn := Nat.lt_of_lt_of_le hg hb.size
      have HB0 := Lib.hid hb
      clear hb
      go_wp2_with fail
      have g0 := fun d os => cell_regrown c0 d os
      have g1 := fun d os => cell_regrown c1 d os
      have g2 := fun d os => cell_regrown c2 d os
      have g3 := fun d os => cell_regrown c3 d os
      have g4 := fun d os => cell_regrown c4 d os
      clear c0 c1 c2 c3 c4
      refine wp_region_quiet_below (by kernel_rfl) (by kernel_rfl) ?_
      repeat (go_big_quiet_step (first
        | (go_at_call 12; exact Calls.regrown_of (alive02_any _ (HTn.out.below (below_regrown _ _ _) hgn) (Nat.lt_of_lt_of_le hgn (below_regrown _ _ _).size)))
        | (go_at_call 17; exact Calls.regrown_of (writes_told p0 p1 p2 p3 p4 HR.out _ (HTn.out.below (below_regrown _ _ _) hgn) (Nat.lt_of_lt_of_le hgn (below_regrown _ _ _).size)))))
      refine wpQuiet_nil ?_
      intro _ hw'
      obtain ⟨⟨nq, osq⟩, hw''⟩ := hw'
      subst hw''
      clear g0 g1 g2 g3 g4
      go_wp2
      go_ret
      exact ⟨ret_bool (by simp), HB0.out.trans ((below_regrown _ _ _).mono HB0.out.size)⟩
    · replace ks : S = 0 := by simpa using ks
      subst ks
      obtain rfl := z1 (Or.inl rfl)
      clear z4 z3 z1 z6 k0 k6
      have HI := Lib.hid hI
      obtain ⟨⟨c0, c1, c2, c3, c4⟩, _⟩ := hI
      go_wp2_with (go_at_call 14; refine (in_any _ (by omega) _).mono ?_; rintro e wn ⟨rfl, rfl⟩)
      clear c0 c1 c2 c3 c4
      go_at_call 16
      refine (size_any _ _ _ _ _ _).mono ?_
      rintro e wn ⟨rfl, b⟩
      have hI := HI.out.below b hs
      replace hs := Nat.lt_of_lt_of_le hs b.size
      replace hb := hb.trans (b.mono hb.size)
      clear HI b
      rw [← HS.out]
      obtain ⟨⟨c0, c1, c2, c3, c4⟩, _⟩ := hI
      have HTn := Lib.hid (HT.out.below hb hg)
      have hgn := Nat.lt_of_lt_of_le hg hb.size
      have HB0 := Lib.hid hb
      clear hb
      go_wp2_with fail
      have g0 := fun d os => cell_regrown c0 d os
      have g1 := fun d os => cell_regrown c1 d os
      have g2 := fun d os => cell_regrown c2 d os
      have g3 := fun d os => cell_regrown c3 d os
      have g4 := fun d os => cell_regrown c4 d os
      clear c0 c1 c2 c3 c4
      refine wp_region_quiet_below (by kernel_rfl) (by kernel_rfl) ?_
      repeat (go_big_quiet_step (first
        | (go_at_call 12; exact Calls.regrown_of (alive02_any _ (HTn.out.below (below_regrown _ _ _) hgn) (Nat.lt_of_lt_of_le hgn (below_regrown _ _ _).size)))
        | (go_at_call 17; exact Calls.regrown_of (writes_told p0 p1 p2 p3 0 HR.out _ (HTn.out.below (below_regrown _ _ _) hgn) (Nat.lt_of_lt_of_le hgn (below_regrown _ _ _).size)))))
      refine wpQuiet_nil ?_
      intro _ hw'
      obtain ⟨⟨nq, osq⟩, hw''⟩ := hw'
      subst hw''
      clear g0 g1 g2 g3 g4
      go_wp2
      go_ret
      exact ⟨ret_bool (by simp), HB0.out.trans ((below_regrown _ _ _).mono HB0.out.size)⟩
    · replace ks : S = 0 := by simpa using ks
      subst ks
      obtain rfl := z1 (Or.inr rfl)
      clear z4 z3 z1 z6 k0 k6
      have HI := Lib.hid hI
      obtain ⟨⟨c0, c1, c2, c3, c4⟩, _⟩ := hI
      go_wp2_with (go_at_call 14; refine (in_any _ (by omega) _).mono ?_; rintro e wn ⟨rfl, rfl⟩)
      clear c0 c1 c2 c3 c4
      go_at_call 16
      refine (size_any _ _ _ _ _ _).mono ?_
      rintro e wn ⟨rfl, b⟩
      have hI := HI.out.below b hs
      replace hs := Nat.lt_of_lt_of_le hs b.size
      replace hb := hb.trans (b.mono hb.size)
      clear HI b
      rw [← HS.out]
      obtain ⟨⟨c0, c1, c2, c3, c4⟩, _⟩ := hI
      have HTn := Lib.hid (HT.out.below hb hg)
      have hgn := Nat.lt_of_lt_of_le hg hb.size
      have HB0 := Lib.hid hb
      clear hb
      go_wp2_with fail
      have g0 := fun d os => cell_regrown c0 d os
      have g1 := fun d os => cell_regrown c1 d os
      have g2 := fun d os => cell_regrown c2 d os
      have g3 := fun d os => cell_regrown c3 d os
      have g4 := fun d os => cell_regrown c4 d os
      clear c0 c1 c2 c3 c4
      refine wp_region_quiet_below (by kernel_rfl) (by kernel_rfl) ?_
      repeat (go_big_quiet_step (first
        | (go_at_call 12; exact Calls.regrown_of (alive02_any _ (HTn.out.below (below_regrown _ _ _) hgn) (Nat.lt_of_lt_of_le hgn (below_regrown _ _ _).size)))
        | (go_at_call 17; exact Calls.regrown_of (writes_told p0 p1 p2 p3 0 HR.out _ (HTn.out.below (below_regrown _ _ _) hgn) (Nat.lt_of_lt_of_le hgn (below_regrown _ _ _).size)))))
      refine wpQuiet_nil ?_
      intro _ hw'
      obtain ⟨⟨nq, osq⟩, hw''⟩ := hw'
      subst hw''
      clear g0 g1 g2 g3 g4
      go_wp2
      go_ret
      exact ⟨ret_bool (by simp), HB0.out.trans ((below_regrown _ _ _).mono HB0.out.size)⟩
    · replace ks : 0 < S := by simpa using ks
      obtain rfl := z3 rfl
      clear z4 z3 z1 z6 k0 k6
      have HI := Lib.hid hI
      obtain ⟨⟨c0, c1, c2, c3, c4⟩, _⟩ := hI
      go_wp2_with (go_at_call 14; refine (in_any _ (by omega) _).mono ?_; rintro e wn ⟨rfl, rfl⟩)
      clear c0 c1 c2 c3 c4
      go_at_call 16
      refine (size_any _ _ _ _ _ _).mono ?_
      rintro e wn ⟨rfl, b⟩
      have hI := HI.out.below b hs
      replace hs := Nat.lt_of_lt_of_le hs b.size
      replace hb := hb.trans (b.mono hb.size)
      clear HI b
      rw [← HS.out]
      obtain ⟨⟨c0, c1, c2, c3, c4⟩, _⟩ := hI
      have HTn := Lib.hid (HT.out.below hb hg)
      have hgn := Nat.lt_of_lt_of_le hg hb.size
      have HB0 := Lib.hid hb
      clear hb
      go_wp2_with fail
      have g0 := fun d os => cell_regrown c0 d os
      have g1 := fun d os => cell_regrown c1 d os
      have g2 := fun d os => cell_regrown c2 d os
      have g3 := fun d os => cell_regrown c3 d os
      have g4 := fun d os => cell_regrown c4 d os
      clear c0 c1 c2 c3 c4
      refine wp_region_quiet_below (by kernel_rfl) (by kernel_rfl) ?_
      repeat (go_big_quiet_step (first
        | (go_at_call 12; exact Calls.regrown_of (alive02_any _ (HTn.out.below (below_regrown _ _ _) hgn) (Nat.lt_of_lt_of_le hgn (below_regrown _ _ _).size)))
        | (go_at_call 17; exact Calls.regrown_of (writes_told p0 p1 p2 0 p4 HR.out _ (HTn.out.below (below_regrown _ _ _) hgn) (Nat.lt_of_lt_of_le hgn (below_regrown _ _ _).size)))))
      refine wpQuiet_nil ?_
      intro _ hw'
      obtain ⟨⟨nq, osq⟩, hw''⟩ := hw'
      subst hw''
      clear g0 g1 g2 g3 g4
      go_wp2
      go_ret
      exact ⟨ret_bool (by simp), HB0.out.trans ((below_regrown _ _ _).mono HB0.out.size)⟩
    · replace ks : 0 < S := by simpa using ks
      obtain rfl := z4 rfl
      clear z4 z3 z1 z6 k0 k6
      have HI := Lib.hid hI
      obtain ⟨⟨c0, c1, c2, c3, c4⟩, _⟩ := hI
      go_wp2_with (go_at_call 14; refine (in_any _ (by omega) _).mono ?_; rintro e wn ⟨rfl, rfl⟩)
      clear c0 c1 c2 c3 c4
      go_at_call 16
      refine (size_any _ _ _ _ _ _).mono ?_
      rintro e wn ⟨rfl, b⟩
      have hI := HI.out.below b hs
      replace hs := Nat.lt_of_lt_of_le hs b.size
      replace hb := hb.trans (b.mono hb.size)
      clear HI b
      rw [← HS.out]
      obtain ⟨⟨c0, c1, c2, c3, c4⟩, _⟩ := hI
      have HTn := Lib.hid (HT.out.below hb hg)
      have hgn := Nat.lt_of_lt_of_le hg hb.size
      have HB0 := Lib.hid hb
      clear hb
      go_wp2_with fail
      have g0 := fun d os => cell_regrown c0 d os
      have g1 := fun d os => cell_regrown c1 d os
      have g2 := fun d os => cell_regrown c2 d os
      have g3 := fun d os => cell_regrown c3 d os
      have g4 := fun d os => cell_regrown c4 d os
      clear c0 c1 c2 c3 c4
      refine wp_region_quiet_below (by kernel_rfl) (by kernel_rfl) ?_
      repeat (go_big_quiet_step (first
        | (go_at_call 12; exact Calls.regrown_of (alive02_any _ (HTn.out.below (below_regrown _ _ _) hgn) (Nat.lt_of_lt_of_le hgn (below_regrown _ _ _).size)))
        | (go_at_call 17; exact Calls.regrown_of (writes_told p0 0 p2 p3 p4 HR.out _ (HTn.out.below (below_regrown _ _ _) hgn) (Nat.lt_of_lt_of_le hgn (below_regrown _ _ _).size)))))
      refine wpQuiet_nil ?_
      intro _ hw'
      obtain ⟨⟨nq, osq⟩, hw''⟩ := hw'
      subst hw''
      clear g0 g1 g2 g3 g4
      go_wp2
      go_ret
      exact ⟨ret_bool (by simp), HB0.out.trans ((below_regrown _ _ _).mono HB0.out.size)⟩
    · replace ks : S = 0 := by simpa using ks
      subst ks
      clear z4 z3 z1 z6 k0 k6
      have HI := Lib.hid hI
      obtain ⟨⟨c0, c1, c2, c3, c4⟩, _⟩ := hI
      go_wp2_with (go_at_call 14; refine (in_any _ (by omega) _).mono ?_; rintro e wn ⟨rfl, rfl⟩)
      clear c0 c1 c2 c3 c4
      go_at_call 16
      refine (size_any _ _ _ _ _ _).mono ?_
      rintro e wn ⟨rfl, b⟩
      have hI := HI.out.below b hs
      replace hs := Nat.lt_of_lt_of_le hs b.size
      replace hb := hb.trans (b.mono hb.size)
      clear HI b
      rw [← HS.out]
      obtain ⟨⟨c0, c1, c2, c3, c4⟩, _⟩ := hI
      have HTn := Lib.hid (HT.out.below hb hg)
      have hgn := Nat.lt_of_lt_of_le hg hb.size
      have HB0 := Lib.hid hb
      clear hb
      go_wp2_with fail
      have g0 := fun d os => cell_regrown c0 d os
      have g1 := fun d os => cell_regrown c1 d os
      have g2 := fun d os => cell_regrown c2 d os
      have g3 := fun d os => cell_regrown c3 d os
      have g4 := fun d os => cell_regrown c4 d os
      clear c0 c1 c2 c3 c4
      refine wp_region_quiet_below (by kernel_rfl) (by kernel_rfl) ?_
      repeat (go_big_quiet_step (first
        | (go_at_call 12; exact Calls.regrown_of (alive02_any _ (HTn.out.below (below_regrown _ _ _) hgn) (Nat.lt_of_lt_of_le hgn (below_regrown _ _ _).size)))
        | (go_at_call 17; exact Calls.regrown_of (writes_told p0 p1 p2 p3 p4 HR.out _ (HTn.out.below (below_regrown _ _ _) hgn) (Nat.lt_of_lt_of_le hgn (below_regrown _ _ _).size)))))
      refine wpQuiet_nil ?_
      intro _ hw'
      obtain ⟨⟨nq, osq⟩, hw''⟩ := hw'
      subst hw''
      clear g0 g1 g2 g3 g4
      go_wp2
      go_ret
      exact ⟨ret_bool (by simp), HB0.out.trans ((below_regrown _ _ _).mono HB0.out.size)⟩
    · replace ks : S = 0 := by simpa using ks
      subst ks
      obtain ⟨rfl, rfl, rfl, rfl⟩ := z6 rfl
      clear z4 z3 z1 z6 k0 k6
      have HI := Lib.hid hI
      obtain ⟨⟨c0, c1, c2, c3, c4⟩, _⟩ := hI
      go_wp2_with (go_at_call 14; refine (in_any _ (by omega) _).mono ?_; rintro e wn ⟨rfl, rfl⟩)
      clear c0 c1 c2 c3 c4
      go_at_call 16
      refine (size_any _ _ _ _ _ _).mono ?_
      rintro e wn ⟨rfl, b⟩
      have hI := HI.out.below b hs
      replace hs := Nat.lt_of_lt_of_le hs b.size
      replace hb := hb.trans (b.mono hb.size)
      clear HI b
      rw [← HS.out]
      obtain ⟨⟨c0, c1, c2, c3, c4⟩, _⟩ := hI
      have HTn := Lib.hid (HT.out.below hb hg)
      have hgn := Nat.lt_of_lt_of_le hg hb.size
      have HB0 := Lib.hid hb
      clear hb
      go_wp2_with fail
      have g0 := fun d os => cell_regrown c0 d os
      have g1 := fun d os => cell_regrown c1 d os
      have g2 := fun d os => cell_regrown c2 d os
      have g3 := fun d os => cell_regrown c3 d os
      have g4 := fun d os => cell_regrown c4 d os
      clear c0 c1 c2 c3 c4
      refine wp_region_quiet_below (by kernel_rfl) (by kernel_rfl) ?_
      repeat (go_big_quiet_step (first
        | (go_at_call 12; exact Calls.regrown_of (alive02_any _ (HTn.out.below (below_regrown _ _ _) hgn) (Nat.lt_of_lt_of_le hgn (below_regrown _ _ _).size)))
        | (go_at_call 17; exact Calls.regrown_of (writes_told p0 0 0 0 0 HR.out _ (HTn.out.below (below_regrown _ _ _) hgn) (Nat.lt_of_lt_of_le hgn (below_regrown _ _ _).size)))))
      refine wpQuiet_nil ?_
      intro _ hw'
      obtain ⟨⟨nq, osq⟩, hw''⟩ := hw'
      subst hw''
      clear g0 g1 g2 g3 g4
      go_wp2
      go_ret
      exact ⟨ret_bool (by simp), HB0.out.trans ((below_regrown _ _ _).mono HB0.out.size)⟩

end Go.Proofs.YtbpafbogjhbogaaDoor.instClean
