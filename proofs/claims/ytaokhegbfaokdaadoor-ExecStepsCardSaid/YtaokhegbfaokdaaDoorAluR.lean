import Derived.Test.YtaokhegbfaokdaaDoorAluD
/- THE CONTRACTS of the bits of auspexref03, and of its Do and Mul. -/
namespace Go.Proofs.YtaokhegbfaokdaaDoor
open Go.ChangeShapes Go.WideShapes Go.ChangeAt Go.RowKit
set_option maxRecDepth 100000
set_option maxHeartbeats 1000000

theorem both1_any (a b : Int) (ha0 : 0 ≤ a) (hb0 : 0 ≤ b) (w : World) (f : Nat → Bool) (hf : ∀ k, f k = (a.toNat.testBit k && b.toNat.testBit k)) :
    Calls Tryd.prog 75 #[.int .i64 1, .int .u32 a, .int .u32 b] w fun e w' => e = .returned (.int .u32 (mk f 32 : Nat)) ∧ Below w.heap.size w w' := by
  obtain ⟨i0, hi, hz0, hz1, hz2⟩ := info_parts info_u32
  have Hf := Lib.hid hf
  clear hf
  go_enter Tryd.func75, Tryd.ntmps75
  go_wp2
  go_loopw [7, 8] (fun v i wr => ∃ k : Nat, k ≤ 32 ∧ i = .int .i64 k ∧ wr.ownsRow w.heap.size 22 1 v k (rowB f k) ∧ Below w.heap.size w wr) (fun _ i _ => 32 - (intOf i).toNat)
  case atStart => exact ⟨0, Nat.zero_le _, rfl, World.ownsRow_made _ _ _ (Nat.le_refl _) (by simp [maxLen]) rfl, (Below.refl _ _).alloc (Nat.le_refl _) _⟩
  case round =>
    obtain ⟨k, hk, rfl, hown, hbel⟩ := hrel
    by_cases hkn : k < 32
    · cases ha : a.toNat.testBit k <;> cases hb : b.toNat.testBit k
      · go_wp2_with (first | (go_at_call 69; refine (bit_any _ _ (by omega) (by omega) (by omega) _).mono ?_; rintro e w' ⟨rfl, rfl⟩) | (at_builtin; refine wpList_append_own _ rfl (.tmp 49) (.tmp 50) 32 rfl w.heap.size 22 i0 (.int .u32 0) 1 4 Tryd.underlying32 hi hz0 hz1 hz2 rfl (by decide) _ _ _ rfl (hown.alloc _) ⟨wr.heap.size, 0, none⟩ 1 1 [_] rfl rfl (cell_new1 _ _ _) (one_int _ _) ?_ ?_ ?_ ?_))
        · unfold maxLen; omega
        · omega
        · have := hbel.size; simp; omega
        intro v' w1 hown' hgrow _
        have R := row_step (b := false) hbel hown hgrow hown' (by rw [Hf.out, ha, hb]; rfl)
        clear hown' hgrow hown hbel
        go_wp2
        go_roundw
        case rel => exact ⟨k + 1, by omega, by go_num, R.1, R.2⟩
        case measure => simp [intOf]; omega
      · go_wp2_with (first | (go_at_call 69; refine (bit_any _ _ (by omega) (by omega) (by omega) _).mono ?_; rintro e w' ⟨rfl, rfl⟩) | (at_builtin; refine wpList_append_own _ rfl (.tmp 49) (.tmp 50) 32 rfl w.heap.size 22 i0 (.int .u32 0) 1 4 Tryd.underlying32 hi hz0 hz1 hz2 rfl (by decide) _ _ _ rfl (hown.alloc _) ⟨wr.heap.size, 0, none⟩ 1 1 [_] rfl rfl (cell_new1 _ _ _) (one_int _ _) ?_ ?_ ?_ ?_))
        · unfold maxLen; omega
        · omega
        · have := hbel.size; simp; omega
        intro v' w1 hown' hgrow _
        have R := row_step (b := false) hbel hown hgrow hown' (by rw [Hf.out, ha, hb]; rfl)
        clear hown' hgrow hown hbel
        go_wp2
        go_roundw
        case rel => exact ⟨k + 1, by omega, by go_num, R.1, R.2⟩
        case measure => simp [intOf]; omega
      · go_wp2_with (first | (go_at_call 69; refine (bit_any _ _ (by omega) (by omega) (by omega) _).mono ?_; rintro e w' ⟨rfl, rfl⟩) | (at_builtin; refine wpList_append_own _ rfl (.tmp 49) (.tmp 50) 32 rfl w.heap.size 22 i0 (.int .u32 0) 1 4 Tryd.underlying32 hi hz0 hz1 hz2 rfl (by decide) _ _ _ rfl (hown.alloc _) ⟨wr.heap.size, 0, none⟩ 1 1 [_] rfl rfl (cell_new1 _ _ _) (one_int _ _) ?_ ?_ ?_ ?_))
        · unfold maxLen; omega
        · omega
        · have := hbel.size; simp; omega
        intro v' w1 hown' hgrow _
        have R := row_step (b := false) hbel hown hgrow hown' (by rw [Hf.out, ha, hb]; rfl)
        clear hown' hgrow hown hbel
        go_wp2
        go_roundw
        case rel => exact ⟨k + 1, by omega, by go_num, R.1, R.2⟩
        case measure => simp [intOf]; omega
      · go_wp2_with (first | (go_at_call 69; refine (bit_any _ _ (by omega) (by omega) (by omega) _).mono ?_; rintro e w' ⟨rfl, rfl⟩) | (at_builtin; refine wpList_append_own _ rfl (.tmp 46) (.tmp 47) 32 rfl w.heap.size 22 i0 (.int .u32 0) 1 4 Tryd.underlying32 hi hz0 hz1 hz2 rfl (by decide) _ _ _ rfl (hown.alloc _) ⟨wr.heap.size, 0, none⟩ 1 1 [_] rfl rfl (cell_new1 _ _ _) (one_int _ _) ?_ ?_ ?_ ?_))
        · unfold maxLen; omega
        · omega
        · have := hbel.size; simp; omega
        intro v' w1 hown' hgrow _
        have R := row_step (b := true) hbel hown hgrow hown' (by rw [Hf.out, ha, hb]; rfl)
        clear hown' hgrow hown hbel
        go_wp2
        go_roundw
        case rel => exact ⟨k + 1, by omega, by go_num, R.1, R.2⟩
        case measure => simp [intOf]; omega
    · have hkN : k = 32 := by omega
      subst hkN
      go_wp2_with (go_at_call 70; refine (ofB_any _ _ _ f 32 (by omega) hown).mono ?_; rintro e w' ⟨rfl, rfl⟩)
      go_ret
      exact ⟨rfl, hbel⟩

theorem both2_any (a b : Int) (ha0 : 0 ≤ a) (hb0 : 0 ≤ b) (w : World) (f : Nat → Bool) (hf : ∀ k, f k = (a.toNat.testBit k || b.toNat.testBit k)) :
    Calls Tryd.prog 75 #[.int .i64 2, .int .u32 a, .int .u32 b] w fun e w' => e = .returned (.int .u32 (mk f 32 : Nat)) ∧ Below w.heap.size w w' := by
  obtain ⟨i0, hi, hz0, hz1, hz2⟩ := info_parts info_u32
  have Hf := Lib.hid hf
  clear hf
  go_enter Tryd.func75, Tryd.ntmps75
  go_wp2
  go_loopw [7, 8] (fun v i wr => ∃ k : Nat, k ≤ 32 ∧ i = .int .i64 k ∧ wr.ownsRow w.heap.size 22 1 v k (rowB f k) ∧ Below w.heap.size w wr) (fun _ i _ => 32 - (intOf i).toNat)
  case atStart => exact ⟨0, Nat.zero_le _, rfl, World.ownsRow_made _ _ _ (Nat.le_refl _) (by simp [maxLen]) rfl, (Below.refl _ _).alloc (Nat.le_refl _) _⟩
  case round =>
    obtain ⟨k, hk, rfl, hown, hbel⟩ := hrel
    by_cases hkn : k < 32
    · cases ha : a.toNat.testBit k <;> cases hb : b.toNat.testBit k
      · go_wp2_with (first | (go_at_call 69; refine (bit_any _ _ (by omega) (by omega) (by omega) _).mono ?_; rintro e w' ⟨rfl, rfl⟩) | (at_builtin; refine wpList_append_own _ rfl (.tmp 49) (.tmp 50) 32 rfl w.heap.size 22 i0 (.int .u32 0) 1 4 Tryd.underlying32 hi hz0 hz1 hz2 rfl (by decide) _ _ _ rfl (hown.alloc _) ⟨wr.heap.size, 0, none⟩ 1 1 [_] rfl rfl (cell_new1 _ _ _) (one_int _ _) ?_ ?_ ?_ ?_))
        · unfold maxLen; omega
        · omega
        · have := hbel.size; simp; omega
        intro v' w1 hown' hgrow _
        have R := row_step (b := false) hbel hown hgrow hown' (by rw [Hf.out, ha, hb]; rfl)
        clear hown' hgrow hown hbel
        go_wp2
        go_roundw
        case rel => exact ⟨k + 1, by omega, by go_num, R.1, R.2⟩
        case measure => simp [intOf]; omega
      · go_wp2_with (first | (go_at_call 69; refine (bit_any _ _ (by omega) (by omega) (by omega) _).mono ?_; rintro e w' ⟨rfl, rfl⟩) | (at_builtin; refine wpList_append_own _ rfl (.tmp 46) (.tmp 47) 32 rfl w.heap.size 22 i0 (.int .u32 0) 1 4 Tryd.underlying32 hi hz0 hz1 hz2 rfl (by decide) _ _ _ rfl (hown.alloc _) ⟨wr.heap.size, 0, none⟩ 1 1 [_] rfl rfl (cell_new1 _ _ _) (one_int _ _) ?_ ?_ ?_ ?_))
        · unfold maxLen; omega
        · omega
        · have := hbel.size; simp; omega
        intro v' w1 hown' hgrow _
        have R := row_step (b := true) hbel hown hgrow hown' (by rw [Hf.out, ha, hb]; rfl)
        clear hown' hgrow hown hbel
        go_wp2
        go_roundw
        case rel => exact ⟨k + 1, by omega, by go_num, R.1, R.2⟩
        case measure => simp [intOf]; omega
      · go_wp2_with (first | (go_at_call 69; refine (bit_any _ _ (by omega) (by omega) (by omega) _).mono ?_; rintro e w' ⟨rfl, rfl⟩) | (at_builtin; refine wpList_append_own _ rfl (.tmp 46) (.tmp 47) 32 rfl w.heap.size 22 i0 (.int .u32 0) 1 4 Tryd.underlying32 hi hz0 hz1 hz2 rfl (by decide) _ _ _ rfl (hown.alloc _) ⟨wr.heap.size, 0, none⟩ 1 1 [_] rfl rfl (cell_new1 _ _ _) (one_int _ _) ?_ ?_ ?_ ?_))
        · unfold maxLen; omega
        · omega
        · have := hbel.size; simp; omega
        intro v' w1 hown' hgrow _
        have R := row_step (b := true) hbel hown hgrow hown' (by rw [Hf.out, ha, hb]; rfl)
        clear hown' hgrow hown hbel
        go_wp2
        go_roundw
        case rel => exact ⟨k + 1, by omega, by go_num, R.1, R.2⟩
        case measure => simp [intOf]; omega
      · go_wp2_with (first | (go_at_call 69; refine (bit_any _ _ (by omega) (by omega) (by omega) _).mono ?_; rintro e w' ⟨rfl, rfl⟩) | (at_builtin; refine wpList_append_own _ rfl (.tmp 46) (.tmp 47) 32 rfl w.heap.size 22 i0 (.int .u32 0) 1 4 Tryd.underlying32 hi hz0 hz1 hz2 rfl (by decide) _ _ _ rfl (hown.alloc _) ⟨wr.heap.size, 0, none⟩ 1 1 [_] rfl rfl (cell_new1 _ _ _) (one_int _ _) ?_ ?_ ?_ ?_))
        · unfold maxLen; omega
        · omega
        · have := hbel.size; simp; omega
        intro v' w1 hown' hgrow _
        have R := row_step (b := true) hbel hown hgrow hown' (by rw [Hf.out, ha, hb]; rfl)
        clear hown' hgrow hown hbel
        go_wp2
        go_roundw
        case rel => exact ⟨k + 1, by omega, by go_num, R.1, R.2⟩
        case measure => simp [intOf]; omega
    · have hkN : k = 32 := by omega
      subst hkN
      go_wp2_with (go_at_call 70; refine (ofB_any _ _ _ f 32 (by omega) hown).mono ?_; rintro e w' ⟨rfl, rfl⟩)
      go_ret
      exact ⟨rfl, hbel⟩

theorem both3_any (a b : Int) (ha0 : 0 ≤ a) (hb0 : 0 ≤ b) (w : World) (f : Nat → Bool) (hf : ∀ k, f k = (a.toNat.testBit k ^^ b.toNat.testBit k)) :
    Calls Tryd.prog 75 #[.int .i64 3, .int .u32 a, .int .u32 b] w fun e w' => e = .returned (.int .u32 (mk f 32 : Nat)) ∧ Below w.heap.size w w' := by
  obtain ⟨i0, hi, hz0, hz1, hz2⟩ := info_parts info_u32
  have Hf := Lib.hid hf
  clear hf
  go_enter Tryd.func75, Tryd.ntmps75
  go_wp2
  go_loopw [7, 8] (fun v i wr => ∃ k : Nat, k ≤ 32 ∧ i = .int .i64 k ∧ wr.ownsRow w.heap.size 22 1 v k (rowB f k) ∧ Below w.heap.size w wr) (fun _ i _ => 32 - (intOf i).toNat)
  case atStart => exact ⟨0, Nat.zero_le _, rfl, World.ownsRow_made _ _ _ (Nat.le_refl _) (by simp [maxLen]) rfl, (Below.refl _ _).alloc (Nat.le_refl _) _⟩
  case round =>
    obtain ⟨k, hk, rfl, hown, hbel⟩ := hrel
    by_cases hkn : k < 32
    · cases ha : a.toNat.testBit k <;> cases hb : b.toNat.testBit k
      · go_wp2_with (first | (go_at_call 69; refine (bit_any _ _ (by omega) (by omega) (by omega) _).mono ?_; rintro e w' ⟨rfl, rfl⟩) | (at_builtin; refine wpList_append_own _ rfl (.tmp 49) (.tmp 50) 32 rfl w.heap.size 22 i0 (.int .u32 0) 1 4 Tryd.underlying32 hi hz0 hz1 hz2 rfl (by decide) _ _ _ rfl (hown.alloc _) ⟨wr.heap.size, 0, none⟩ 1 1 [_] rfl rfl (cell_new1 _ _ _) (one_int _ _) ?_ ?_ ?_ ?_))
        · unfold maxLen; omega
        · omega
        · have := hbel.size; simp; omega
        intro v' w1 hown' hgrow _
        have R := row_step (b := false) hbel hown hgrow hown' (by rw [Hf.out, ha, hb]; rfl)
        clear hown' hgrow hown hbel
        go_wp2
        go_roundw
        case rel => exact ⟨k + 1, by omega, by go_num, R.1, R.2⟩
        case measure => simp [intOf]; omega
      · go_wp2_with (first | (go_at_call 69; refine (bit_any _ _ (by omega) (by omega) (by omega) _).mono ?_; rintro e w' ⟨rfl, rfl⟩) | (at_builtin; refine wpList_append_own _ rfl (.tmp 46) (.tmp 47) 32 rfl w.heap.size 22 i0 (.int .u32 0) 1 4 Tryd.underlying32 hi hz0 hz1 hz2 rfl (by decide) _ _ _ rfl (hown.alloc _) ⟨wr.heap.size, 0, none⟩ 1 1 [_] rfl rfl (cell_new1 _ _ _) (one_int _ _) ?_ ?_ ?_ ?_))
        · unfold maxLen; omega
        · omega
        · have := hbel.size; simp; omega
        intro v' w1 hown' hgrow _
        have R := row_step (b := true) hbel hown hgrow hown' (by rw [Hf.out, ha, hb]; rfl)
        clear hown' hgrow hown hbel
        go_wp2
        go_roundw
        case rel => exact ⟨k + 1, by omega, by go_num, R.1, R.2⟩
        case measure => simp [intOf]; omega
      · go_wp2_with (first | (go_at_call 69; refine (bit_any _ _ (by omega) (by omega) (by omega) _).mono ?_; rintro e w' ⟨rfl, rfl⟩) | (at_builtin; refine wpList_append_own _ rfl (.tmp 46) (.tmp 47) 32 rfl w.heap.size 22 i0 (.int .u32 0) 1 4 Tryd.underlying32 hi hz0 hz1 hz2 rfl (by decide) _ _ _ rfl (hown.alloc _) ⟨wr.heap.size, 0, none⟩ 1 1 [_] rfl rfl (cell_new1 _ _ _) (one_int _ _) ?_ ?_ ?_ ?_))
        · unfold maxLen; omega
        · omega
        · have := hbel.size; simp; omega
        intro v' w1 hown' hgrow _
        have R := row_step (b := true) hbel hown hgrow hown' (by rw [Hf.out, ha, hb]; rfl)
        clear hown' hgrow hown hbel
        go_wp2
        go_roundw
        case rel => exact ⟨k + 1, by omega, by go_num, R.1, R.2⟩
        case measure => simp [intOf]; omega
      · go_wp2_with (first | (go_at_call 69; refine (bit_any _ _ (by omega) (by omega) (by omega) _).mono ?_; rintro e w' ⟨rfl, rfl⟩) | (at_builtin; refine wpList_append_own _ rfl (.tmp 49) (.tmp 50) 32 rfl w.heap.size 22 i0 (.int .u32 0) 1 4 Tryd.underlying32 hi hz0 hz1 hz2 rfl (by decide) _ _ _ rfl (hown.alloc _) ⟨wr.heap.size, 0, none⟩ 1 1 [_] rfl rfl (cell_new1 _ _ _) (one_int _ _) ?_ ?_ ?_ ?_))
        · unfold maxLen; omega
        · omega
        · have := hbel.size; simp; omega
        intro v' w1 hown' hgrow _
        have R := row_step (b := false) hbel hown hgrow hown' (by rw [Hf.out, ha, hb]; rfl)
        clear hown' hgrow hown hbel
        go_wp2
        go_roundw
        case rel => exact ⟨k + 1, by omega, by go_num, R.1, R.2⟩
        case measure => simp [intOf]; omega
    · have hkN : k = 32 := by omega
      subst hkN
      go_wp2_with (go_at_call 70; refine (ofB_any _ _ _ f 32 (by omega) hown).mono ?_; rintro e w' ⟨rfl, rfl⟩)
      go_ret
      exact ⟨rfl, hbel⟩

theorem moved_any (a by_ fill : Int) (c : Bool) (ha : 0 ≤ a) (hb1 : -31 ≤ by_) (hb2 : by_ ≤ 31) (hc : fill = (c.toNat : Nat)) (w : World) :
    Calls Tryd.prog 76 #[.int .u32 a, .int .i64 by_, .int .u32 fill] w fun e w' => e = .returned (.int .u32 (mk (mvb by_ c a.toNat) 32 : Nat)) ∧ Below w.heap.size w w' := by
  obtain ⟨i0, hi, hz0, hz1, hz2⟩ := info_parts info_u32
  subst hc
  obtain ⟨f, Hf⟩ : ∃ f : Nat → Bool, Hid (f = mvb by_ c a.toNat) := ⟨_, Lib.hid rfl⟩
  rw [← Hf.out]
  go_enter Tryd.func76, Tryd.ntmps76
  go_wp2
  go_loopw [7, 8] (fun v i wr => ∃ k : Nat, k ≤ 32 ∧ i = .int .i64 k ∧ wr.ownsRow w.heap.size 22 1 v k (rowB f k) ∧ Below w.heap.size w wr) (fun _ i _ => 32 - (intOf i).toNat)
  case atStart => exact ⟨0, Nat.zero_le _, rfl, World.ownsRow_made _ _ _ (Nat.le_refl _) (by simp [maxLen]) rfl, (Below.refl _ _).alloc (Nat.le_refl _) _⟩
  case round =>
    obtain ⟨k, hk, rfl, hown, hbel⟩ := hrel
    by_cases hkn : k < 32
    · by_cases h1 : (k : Int) - by_ < 0
      · have d1 : decide ((k : Int) - by_ < 0) = true := decide_eq_true h1
        have D := Lib.hid d1
        go_wp2_with (first | (go_at_call 69; refine (bit_any _ _ (by omega) (by omega) (by omega) _).mono ?_; rintro e w' ⟨rfl, rfl⟩) | (at_builtin; refine wpList_append_own _ rfl (.tmp 24) (.tmp 26) 32 rfl w.heap.size 22 i0 (.int .u32 0) 1 4 Tryd.underlying32 hi hz0 hz1 hz2 rfl (by decide) _ _ _ rfl (hown.alloc _) ⟨wr.heap.size, 0, none⟩ 1 1 [_] rfl rfl (cell_new1 _ _ _) (one_int _ _) ?_ ?_ ?_ ?_))
        · unfold maxLen; omega
        · omega
        · have := hbel.size; simp; omega
        intro v' w1 hown' hgrow _
        have R := row_step (b := c) hbel hown hgrow hown' (by rw [Hf.out]; unfold mvb; rw [D.out]; rfl)
        clear hown' hgrow hown hbel
        go_wp2
        go_roundw
        case rel => exact ⟨k + 1, by omega, by go_num, R.1, R.2⟩
        case measure => simp [intOf]; omega
      · have d1 : decide ((k : Int) - by_ < 0) = false := decide_eq_false h1
        have D := Lib.hid d1
        by_cases h2 : 31 < (k : Int) - by_
        · have d2 : decide (31 < (k : Int) - by_) = true := decide_eq_true h2
          have D2 := Lib.hid d2
          go_wp2_with (first | (go_at_call 69; refine (bit_any _ _ (by omega) (by omega) (by omega) _).mono ?_; rintro e w' ⟨rfl, rfl⟩) | (at_builtin; refine wpList_append_own _ rfl (.tmp 24) (.tmp 26) 32 rfl w.heap.size 22 i0 (.int .u32 0) 1 4 Tryd.underlying32 hi hz0 hz1 hz2 rfl (by decide) _ _ _ rfl (hown.alloc _) ⟨wr.heap.size, 0, none⟩ 1 1 [_] rfl rfl (cell_new1 _ _ _) (one_int _ _) ?_ ?_ ?_ ?_))
          · unfold maxLen; omega
          · omega
          · have := hbel.size; simp; omega
          intro v' w1 hown' hgrow _
          have R := row_step (b := c) hbel hown hgrow hown' (by rw [Hf.out]; unfold mvb; rw [D.out, D2.out]; rfl)
          clear hown' hgrow hown hbel
          go_wp2
          go_roundw
          case rel => exact ⟨k + 1, by omega, by go_num, R.1, R.2⟩
          case measure => simp [intOf]; omega
        · have d2 : decide (31 < (k : Int) - by_) = false := decide_eq_false h2
          have D2 := Lib.hid d2
          go_wp2_with (first | (go_at_call 69; refine (bit_any _ _ (by omega) (by omega) (by omega) _).mono ?_; rintro e w' ⟨rfl, rfl⟩) | (at_builtin; refine wpList_append_own _ rfl (.tmp 28) (.tmp 34) 32 rfl w.heap.size 22 i0 (.int .u32 0) 1 4 Tryd.underlying32 hi hz0 hz1 hz2 rfl (by decide) _ _ _ rfl (hown.alloc _) ⟨wr.heap.size, 0, none⟩ 1 1 [_] rfl rfl (cell_new1 _ _ _) (one_int _ _) ?_ ?_ ?_ ?_))
          · unfold maxLen; omega
          · omega
          · have := hbel.size; simp; omega
          intro v' w1 hown' hgrow _
          have R := row_step (b := a.toNat.testBit ((k : Int) - by_).toNat) hbel hown hgrow hown' (by rw [Hf.out]; unfold mvb; rw [D.out, D2.out]; rfl)
          clear hown' hgrow hown hbel
          go_wp2
          go_roundw
          case rel => exact ⟨k + 1, by omega, by go_num, R.1, R.2⟩
          case measure => simp [intOf]; omega
    · have hkN : k = 32 := by omega
      subst hkN
      go_wp2_with (go_at_call 70; refine (ofB_any _ _ _ f 32 (by omega) hown).mono ?_; rintro e w' ⟨rfl, rfl⟩)
      go_ret
      exact ⟨rfl, hbel⟩

theorem refHigh_any (a b : Int) (ha : 0 ≤ a) (ha' : a < 4294967296) (hb : 0 ≤ b) (hb' : b < 4294967296) (w : World) :
    Calls Tryd.prog 72 #[.int .u32 a, .int .u32 b] w fun e w' => e = .returned (.int .u32 (a * b / 4294967296 % 4294967296)) ∧ w = w' := by
  have H := Lib.hid (high_form a b ha ha' hb hb')
  obtain ⟨⟨p1, p2⟩, ⟨q1, q2⟩, ⟨r1, r2⟩, ⟨s1, s2⟩⟩ := prod_bounds a b ha ha' hb hb'
  go_enter Tryd.func72, Tryd.ntmps72
  go_wp2
  go_ret
  refine ⟨ret_int ?_, rfl⟩
  rw [← H.out]

end Go.Proofs.YtaokhegbfaokdaaDoor

/- THE CONTRACTS of Do and Mul of auspexref03. -/
namespace Go.Proofs.YtaokhegbfaokdaaDoor
open Go.ChangeShapes Go.WideShapes Go.ChangeAt Go.RowKit
set_option maxRecDepth 100000

theorem aluDo29 (op a b : Int) (h : (op == 29) = true) : aluDo op a b = (a - b) % 4294967296 := by
  have h29 : op = 29 := by simpa using h
  rw [h29]
  rfl

set_option maxRecDepth 100000 in
theorem refDo_any (op a b : Int) (ha : 0 ≤ a) (ha' : a < 4294967296) (hb : 0 ≤ b) (hb' : b < 4294967296) (w : World) :
    Calls Tryd.prog 52 #[.int .i64 op, .int .u32 a, .int .u32 b] w fun e w' => e = .returned (.int .u32 (aluDo op a b)) ∧ Below w.heap.size w w' := by
  have b1 : 0 ≤ b % 32 := by omega
  have b2 : b % 32 ≤ 31 := by omega
  go_enter Tryd.func52, Tryd.ntmps52
  have G1 := Lib.hid (mv_shl' a (b % 32) ha b1 b2)
  have G2 := Lib.hid (mv_shr' a (b % 32) ha ha' b1)
  have G3 := Lib.hid (mv_sra' a (b % 32) ha ha' b1 b2)
  have G4 := Lib.hid (bo_and' a b ha ha' hb hb')
  have G5 := Lib.hid (bo_or' a b ha ha' hb hb')
  have G6 := Lib.hid (bo_xor' a b ha ha' hb hb')
  go_wp2_with (first
    | (go_at_call 77; refine (one_any _ _).mono ?_; rintro e w' ⟨rfl, rfl⟩)
    | (go_at_call 69; refine (bit_any _ _ (by omega) (by omega) (by omega) _).mono ?_; rintro e w' ⟨rfl, rfl⟩)
    | (go_at_call 73; refine (signed_any _ (by omega) (by omega) _).mono ?_; rintro e w' ⟨rfl, rfl⟩)
    | (go_at_call 75; (with_reducible refine (both1_any _ _ ha hb _ _ (fun _ => rfl)).mono ?_); rintro e w' ⟨rfl, hb5⟩)
    | (go_at_call 75; (with_reducible refine (both2_any _ _ ha hb _ _ (fun _ => rfl)).mono ?_); rintro e w' ⟨rfl, hb5⟩)
    | (go_at_call 75; (with_reducible refine (both3_any _ _ ha hb _ _ (fun _ => rfl)).mono ?_); rintro e w' ⟨rfl, hb5⟩)
    | (go_at_call 76; (with_reducible refine (moved_any _ _ 0 false (by omega) (by omega) (by omega) rfl _).mono ?_); rintro e w' ⟨rfl, hb6⟩)
    | (go_at_call 76; (with_reducible refine (moved_any _ _ _ (a.toNat.testBit 31) (by omega) (by omega) (by omega) (by simp) _).mono ?_); rintro e w' ⟨rfl, hb6⟩))
  all_goals go_ret
  all_goals refine ⟨ret_int ?_, by repeat (first | exact Below.refl _ _ | assumption)⟩
  all_goals have H1 := G1.out
  all_goals have H2 := G2.out
  all_goals have H3 := G3.out
  all_goals have H4 := G4.out
  all_goals have H5 := G5.out
  all_goals have H6 := G6.out
  all_goals clear G1 G2 G3 G4 G5 G6 ha ha' hb hb'
  all_goals first | (simp_all [aluDo, aluSh]; done) | (rw [aluDo29 op a b ‹(op == 29) = true›]; clear H1 H2 H3 H4 H5 H6; omega)

theorem refMul_any (op a b : Int) (ha : 0 ≤ a) (ha' : a < 4294967296) (hb : 0 ≤ b) (hb' : b < 4294967296) (w : World) :
    Calls Tryd.prog 50 #[.int .i64 op, .int .u32 a, .int .u32 b] w fun e w' => e = .returned (.int .u32 (mulW op a b)) ∧ w = w' := by
  go_enter Tryd.func50, Tryd.ntmps50
  go_wp2_with (first
    | (go_at_call 72; refine (refHigh_any _ _ ha ha' hb hb' _).mono ?_; rintro e w' ⟨rfl, rfl⟩))
  all_goals go_ret
  all_goals refine ⟨ret_int ?_, rfl⟩
  all_goals have E39 := mul39 a b ha ha' hb hb'
  all_goals have E40 := mul40 a b ha ha'
  all_goals have E38 := mul38 (a * b)
  all_goals clear ha ha' hb hb'
  all_goals unfold mulW
  all_goals generalize a * b / 4294967296 = q at *
  all_goals generalize wrap32 a * wrap32 b / 4294967296 = r at *
  all_goals generalize wrap32 a * b / 4294967296 = t at *
  all_goals first | (simp_all; done) | (simp_all; split at * <;> omega) | (simp_all; omega)

end Go.Proofs.YtaokhegbfaokdaaDoor

/- THE CONTRACTS of auspexref04; that the program of layer 4 is alive. -/
namespace Go.Proofs.YtaokhegbfaokdaaDoor
open Go.ChangeShapes Go.WideShapes Go.ChangeAt Go.RowKit
set_option maxRecDepth 100000

theorem word04_any (n : Int) (h1 : -4611686018427387904 ≤ n) (h2 : n ≤ 4611686018427387904) (w : World) :
    Calls Tryd.prog 74 #[.int .i64 n] w fun e w' => e = .returned (.int .u32 (n % 4294967296)) ∧ w = w' := by
  have e : n.tmod 4294967296 = if 0 ≤ n then n % 4294967296 else -((-n) % 4294967296) := by
    by_cases h : 0 ≤ n
    · rw [if_pos h, Int.tmod_eq_emod_of_nonneg h]
    · rw [if_neg h, show n = -(-n) by omega, Int.neg_tmod, Int.tmod_eq_emod_of_nonneg (by omega)]; simp
  have hb : -4294967296 < n.tmod 4294967296 ∧ n.tmod 4294967296 < 4294967296 := by rw [e]; split <;> omega
  have hf : (n.tmod 4294967296 < 0 → n.tmod 4294967296 + 4294967296 = n % 4294967296) ∧ (0 ≤ n.tmod 4294967296 → n.tmod 4294967296 = n % 4294967296) := by rw [e]; split <;> omega
  have F := Lib.hid hf
  obtain ⟨b1, b2⟩ := hb
  clear hf e
  by_cases hn : n.tmod 4294967296 < 0
  · go_enter Tryd.func74, Tryd.ntmps74
    go_wp2
    go_ret
    exact ⟨ret_int (by have := F.out.1; omega), rfl⟩
  · have hn' : 0 ≤ n.tmod 4294967296 := by omega
    go_enter Tryd.func74, Tryd.ntmps74
    go_wp2
    go_ret
    exact ⟨ret_int (by have := F.out.2; omega), rfl⟩

theorem refSize_any (op a : Int) (ha : 0 ≤ a) (ha' : a < 4294967296) (w : World) :
    Calls Tryd.prog 54 #[.int .i64 op, .int .u32 a] w fun e w' => e = .returned (.int .i64 (sz op a)) ∧ w = w' := by
  have hw := wrap32_in a
  have hc := Lib.hid (wrap32_cases a ha ha')
  by_cases h1 : op = 42 ∨ op = 44
  · have hs : sz op a = if 2147483648 ≤ a then 4294967296 - a else a := by simp [sz, h1]
    have S := Lib.hid hs
    clear hs
    by_cases h2 : wrap32 a < 0
    · rcases h1 with rfl | rfl
      all_goals
        go_enter Tryd.func54, Tryd.ntmps54
        go_wp2_with (go_at_call 73; refine (signed_any _ ha ha' _).mono ?_; rintro e w1 ⟨rfl, rfl⟩)
        go_ret
        exact ⟨ret_int (by rw [S.out]; have := hc.out; split <;> omega), rfl⟩
    · rcases h1 with rfl | rfl
      all_goals
        go_enter Tryd.func54, Tryd.ntmps54
        go_wp2_with (go_at_call 73; refine (signed_any _ ha ha' _).mono ?_; rintro e w1 ⟨rfl, rfl⟩)
        go_ret
        exact ⟨ret_int (by rw [S.out]; have := hc.out; split <;> omega), rfl⟩
  · have n1 : (op == 42) = false := by rw [beq_eq_false_iff_ne]; omega
    have n2 : (op == 44) = false := by rw [beq_eq_false_iff_ne]; omega
    have hs : sz op a = a := by simp [sz, h1]
    have S := Lib.hid hs
    clear hs
    go_enter Tryd.func54, Tryd.ntmps54
    go_wp2
    go_ret
    exact ⟨ret_int S.out.symm, rfl⟩

theorem refBits_any (a : Int) (ha : 0 ≤ a) (ha' : a < 4294967296) (w : World) :
    Calls Tryd.prog 55 #[.int .u32 a] w fun e w' => e = .returned (.int .i64 (nb a.toNat : Nat)) ∧ w = w' := by
  obtain ⟨A, rfl⟩ := Int.eq_ofNat_of_zero_le ha
  have hA : A < 4294967296 := by omega
  clear ha ha'
  obtain ⟨T, HT⟩ : ∃ T, Hid (T = nb A) := ⟨_, Lib.hid rfl⟩
  rw [Int.toNat_natCast, ← HT.out]
  have hT : T ≤ 32 := by rw [HT.out]; exact nb_le32 hA
  go_enter Tryd.func55, Tryd.ntmps55
  go_wp2
  go_loop [0, 3] (fun a n => ∃ x k : Nat, x < 4294967296 ∧ k ≤ T ∧ k + nb x = T ∧ a = .int .u32 x ∧ n = .int .i64 k) (fun a _ => (intOf a).toNat)
  case atStart => exact ⟨A, 0, hA, by omega, by rw [HT.out]; omega, rfl, rfl⟩
  case round =>
    obtain ⟨x, k, hx, hk, hs, rfl, rfl⟩ := hrel
    by_cases h0 : x = 0
    · subst h0
      have hkT : k = T := by rw [nb_zero] at hs; omega
      subst hkT
      clear hs
      go_wp2
      go_ret
      exact ⟨rfl, rfl⟩
    · have hn := nb_pos h0
      have HN := Lib.hid hn
      have HS := Lib.hid hs
      have hk2 : k < T := by omega
      have hx0 : 0 < x := by omega
      clear hn hs
      go_wp2
      go_round
      case rel => exact ⟨x / 2, k + 1, by omega, by omega, by have := HN.out; have := HS.out; omega, by go_num, by go_num⟩
      case measure => simp [intOf]; omega

theorem quo_range (a b : Int) :
    (-4611686018427387904 ≤ (wrap32 a).tdiv (wrap32 b) ∧ (wrap32 a).tdiv (wrap32 b) ≤ 4611686018427387904) ∧ (-4611686018427387904 ≤ (wrap32 a).tmod (wrap32 b) ∧ (wrap32 a).tmod (wrap32 b) ≤ 4611686018427387904) := by
  have hw := wrap32_in a
  have h1 : ((wrap32 a).tdiv (wrap32 b)).natAbs ≤ (wrap32 a).natAbs := by rw [Int.natAbs_tdiv]; exact Nat.div_le_self _ _
  have h2 : ((wrap32 a).tmod (wrap32 b)).natAbs ≤ (wrap32 a).natAbs := by rw [Int.natAbs_tmod]; exact Nat.mod_le _ _
  omega

set_option maxHeartbeats 1000000 in
theorem refDiv_any (op a b : Int) (ha : 0 ≤ a) (ha' : a < 4294967296) (hb : 0 ≤ b) (hb' : b < 4294967296) (w : World) :
    Calls Tryd.prog 51 #[.int .i64 op, .int .u32 a, .int .u32 b] w fun e w' => e = .returned (.int .u32 (divW op a b)) ∧ w = w' := by
  by_cases hk : 42 ≤ op ∧ op ≤ 45
  · by_cases h0 : b = 0
    · subst h0
      rcases (show op = 42 ∨ op = 43 ∨ op = 44 ∨ op = 45 by omega) with rfl | rfl | rfl | rfl
      all_goals
        go_enter Tryd.func51, Tryd.ntmps51
        go_wp2
        go_ret
        exact ⟨rfl, rfl⟩
    · have b0 : (b == 0) = false := by simpa using h0
      obtain ⟨⟨q1, q2⟩, ⟨q3, q4⟩⟩ := quo_range a b
      obtain ⟨v1, v2⟩ := wrap32_in a
      obtain ⟨v3, v4⟩ := wrap32_in b
      have hwb : wrap32 b ≠ 0 := by unfold wrap32; omega
      have hd1 := Int.ediv_nonneg ha hb
      have hd2 := Int.ediv_le_self b ha
      have hm1 := Int.emod_nonneg a h0
      have hm2 := Int.emod_lt_of_pos a (show 0 < b by omega)
      rcases (show op = 42 ∨ op = 43 ∨ op = 44 ∨ op = 45 by omega) with rfl | rfl | rfl | rfl
      · have hd : divW 42 a b = (wrap32 a).tdiv (wrap32 b) % 4294967296 := by simp [divW, h0]
        rw [hd]
        clear hd
        go_enter Tryd.func51, Tryd.ntmps51
        go_wp2_with (first
          | (go_at_call 73; refine (signed_any _ (by omega) (by omega) _).mono ?_; rintro e w1 ⟨rfl, rfl⟩)
          | (go_at_call 74; refine (word04_any _ (by omega) (by omega) _).mono ?_; rintro e w1 ⟨rfl, rfl⟩))
        go_ret
        exact ⟨rfl, rfl⟩
      · have hd : divW 43 a b = a / b := by simp [divW, h0]
        rw [hd]
        clear hd
        go_enter Tryd.func51, Tryd.ntmps51
        go_wp2_with (first
          | (go_at_call 74; refine (word04_any _ (by omega) (by omega) _).mono ?_; rintro e w1 ⟨rfl, rfl⟩))
        go_ret
        exact ⟨ret_int (by omega), rfl⟩
      · have hd : divW 44 a b = (wrap32 a).tmod (wrap32 b) % 4294967296 := by simp [divW, h0]
        rw [hd]
        clear hd
        go_enter Tryd.func51, Tryd.ntmps51
        go_wp2_with (first
          | (go_at_call 73; refine (signed_any _ (by omega) (by omega) _).mono ?_; rintro e w1 ⟨rfl, rfl⟩)
          | (go_at_call 74; refine (word04_any _ (by omega) (by omega) _).mono ?_; rintro e w1 ⟨rfl, rfl⟩))
        go_ret
        exact ⟨rfl, rfl⟩
      · have hd : divW 45 a b = a % b := by simp [divW, h0]
        rw [hd]
        clear hd
        go_enter Tryd.func51, Tryd.ntmps51
        go_wp2_with (first
          | (go_at_call 74; refine (word04_any _ (by omega) (by omega) _).mono ?_; rintro e w1 ⟨rfl, rfl⟩))
        go_ret
        exact ⟨ret_int (by omega), rfl⟩
  · have E : divW op a b = 0 := by
      unfold divW
      rw [if_neg (by omega), if_neg (by omega), if_neg (by omega), if_neg (by omega)]
    rw [E]
    clear E
    by_cases h1 : op < 42
    · go_enter Tryd.func51, Tryd.ntmps51
      go_wp2
      go_ret
      exact ⟨rfl, rfl⟩
    · have h2 : 45 < op := by omega
      go_enter Tryd.func51, Tryd.ntmps51
      go_wp2
      go_ret
      exact ⟨rfl, rfl⟩

set_option maxHeartbeats 1000000 in
theorem refTook_any (op a b : Int) (ha : 0 ≤ a) (ha' : a < 4294967296) (hb : 0 ≤ b) (hb' : b < 4294967296) (w : World) :
    Calls Tryd.prog 31 #[.int .i64 op, .int .u32 a, .int .u32 b] w fun e w' => e = .returned (.int .i64 (tookW op a b)) ∧ w = w' := by
  by_cases hk : 42 ≤ op ∧ op ≤ 45
  · obtain ⟨k1, k2⟩ := hk
    obtain ⟨l1, l2⟩ := sz_range (op := op) ha ha'
    obtain ⟨l3, l4⟩ := sz_range (op := op) hb hb'
    have n1 := nb_le32 (n := (sz op a).toNat) (by omega)
    have n2 := nb_le32 (n := (sz op b).toNat) (by omega)
    rw [took_form op a b ⟨k1, k2⟩]
    by_cases h0 : b = 0
    · rw [if_pos (.inl h0)]
      subst h0
      go_enter Tryd.func31, Tryd.ntmps31
      go_wp2_with (first
        | (go_at_call 54; refine (refSize_any _ _ (by omega) (by omega) _).mono ?_; rintro e w1 ⟨rfl, rfl⟩))
      go_ret
      exact ⟨rfl, rfl⟩
    · have b0 : (b == 0) = false := by simpa using h0
      by_cases h1 : sz op a < sz op b
      · rw [if_pos (.inr h1)]
        have d1 : decide (sz op a < sz op b) = true := decide_eq_true h1
        clear h0
        go_enter Tryd.func31, Tryd.ntmps31
        go_wp2_with (first
          | (go_at_call 54; refine (refSize_any _ _ (by omega) (by omega) _).mono ?_; rintro e w1 ⟨rfl, rfl⟩))
        go_ret
        exact ⟨rfl, rfl⟩
      · rw [if_neg (by omega)]
        have d1 : decide (sz op a < sz op b) = false := decide_eq_false h1
        clear h0
        go_enter Tryd.func31, Tryd.ntmps31
        go_wp2_with (first
          | (go_at_call 54; refine (refSize_any _ _ (by omega) (by omega) _).mono ?_; rintro e w1 ⟨rfl, rfl⟩)
          | (go_at_call 55; refine (refBits_any _ (by omega) (by omega) _).mono ?_; rintro e w1 ⟨rfl, rfl⟩))
        go_ret
        exact ⟨rfl, rfl⟩
  · have E : tookW op a b = 0 := by unfold tookW; rw [if_neg hk]
    rw [E]
    clear E
    by_cases h1 : op < 42
    · go_enter Tryd.func31, Tryd.ntmps31
      go_wp2
      go_ret
      exact ⟨rfl, rfl⟩
    · have h2 : 45 < op := by omega
      go_enter Tryd.func31, Tryd.ntmps31
      go_wp2
      go_ret
      exact ⟨rfl, rfl⟩

end Go.Proofs.YtaokhegbfaokdaaDoor
