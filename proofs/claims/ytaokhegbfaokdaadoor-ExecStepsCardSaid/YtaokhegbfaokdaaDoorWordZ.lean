import Derived.Test.YtaokhegbfaokdaaDoorChecked
import Derived.Test.YtaokhegbfaokdaaDoorMathB
import Derived.WalkKit
import Derived.ProofKit
import Derived.Deep.QuietTactic
import Derived.BigQuiet
import Derived.Lib.Hide
import Derived.Laws.BytesArg
import Derived.WalkLawsBesides
/-
  THE CONTRACTS of package word and of the bits of package auspexref01, over this seat's translation.
-/
namespace Go.Proofs.YtaokhegbfaokdaaDoor
open Go.ChangeShapes Go.WideShapes Go.ChangeAt Go.RowKit
set_option maxRecDepth 100000

theorem ret_int {k : IntKind} {a b : Int} (h : a = b) : Ending.returned (.int k a) = .returned (.int k b) := by rw [h]
theorem ret_bool {a b : Bool} (h : a = b) : Ending.returned (.bool a) = .returned (.bool b) := by rw [h]

theorem mask_any (n : Int) (h0 : 0 ≤ n) (h1 : n ≤ 32) (w : World) :
    Calls Tryd.prog 86 #[.int .i64 n] w fun e w' => e = .returned (.int .u32 (msk n : Nat)) ∧ w' = w := by
  go_enter Tryd.func86, Tryd.ntmps86
  go_wp2
  go_ret
  exact ⟨ret_int (mask_form n h0 h1), rfl⟩

theorem mayBe_any (i n : Int) (w : World) :
    Calls Tryd.prog 85 #[.int .i64 i, .int .i64 n] w fun e w' => e = .returned (.bool (fitsB i n)) ∧ w = w' := by
  go_enter Tryd.func85, Tryd.ntmps85
  go_wp2
  all_goals
    go_ret
    exact ⟨ret_bool (by first | (rw [fitsB, decide_eq_decide]; omega) | exact (fitsB_no.2 (by omega)).symm), rfl⟩

theorem fits_any (i n : Int) (w : World) :
    Calls Tryd.prog 71 #[.int .i64 i, .int .i64 n] w fun e w' => e = .returned (.bool (fitsB i n)) ∧ w = w' := by
  go_enter Tryd.func71, Tryd.ntmps71
  go_wp2
  all_goals
    go_ret
    exact ⟨ret_bool (by first | (rw [fitsB, decide_eq_decide]; omega) | exact (fitsB_no.2 (by omega)).symm), rfl⟩

theorem field_any (a i n : Int) (ha : 0 ≤ a) (ha' : a < 4294967296) (w : World) :
    Calls Tryd.prog 65 #[.int .u32 a, .int .i64 i, .int .i64 n] w fun e w' => e = .returned (.int .u32 (fld a i n : Nat)) ∧ ∃ m, w' = w.drewN m := by
  cases hf : fitsB i n
  · have e : fld a i n = 0 := by simp [fld, hf]
    rw [e]
    clear e
    go_enter Tryd.func65, Tryd.ntmps65
    go_wp2_with (go_at_call 85; refine (mayBe_any _ _ _).mono ?_; rintro e w' ⟨rfl, rfl⟩)
    go_ret
    exact ⟨rfl, 0, rfl⟩
  · have h := fitsB_iff.1 hf
    obtain ⟨h0, h1, h2, h3⟩ := h
    have H := Lib.hid (fld_form a i n ha ha' hf)
    go_enter Tryd.func65, Tryd.ntmps65
    go_wp2_with (go_at_call 85; refine (mayBe_any _ _ _).mono ?_; rintro e w' ⟨rfl, rfl⟩)
    go_quiet ((go_at_call 86; exact Calls.quiet_of_same (mask_any _ (by omega) (by omega) _)))
    go_wp2
    go_ret
    exact ⟨ret_int H.out, _, rfl⟩

theorem set_any (a i n v : Int) (ha : 0 ≤ a) (ha' : a < 4294967296) (hv : 0 ≤ v) (hv' : v < 4294967296) (w : World) :
    Calls Tryd.prog 66 #[.int .u32 a, .int .i64 i, .int .i64 n, .int .u32 v] w fun e w' => e = .returned (.int .u32 (stw a i n v : Nat)) ∧ ∃ m, w' = w.drewN m := by
  cases hf : fitsB i n
  · have e : a = (stw a i n v : Nat) := by simp [stw, hf]; omega
    have H := Lib.hid e
    clear e
    go_enter Tryd.func66, Tryd.ntmps66
    go_wp2_with (go_at_call 85; refine (mayBe_any _ _ _).mono ?_; rintro e w' ⟨rfl, rfl⟩)
    go_ret
    exact ⟨ret_int H.out, 0, rfl⟩
  · have h := fitsB_iff.1 hf
    obtain ⟨h0, h1, h2, h3⟩ := h
    have H := Lib.hid (stw_form a i n v ha ha' hv hv' hf)
    go_enter Tryd.func66, Tryd.ntmps66
    go_wp2_with (first | (go_at_call 85; refine (mayBe_any _ _ _).mono ?_; rintro e w' ⟨rfl, rfl⟩) | (go_at_call 86; refine (mask_any _ (by omega) (by omega) _).mono ?_; rintro e w' ⟨rfl, rfl⟩))
    go_ret
    exact ⟨ret_int H.out, 0, rfl⟩

theorem sext_any (a n : Int) (ha : 0 ≤ a) (ha' : a < 4294967296) (w : World) :
    Calls Tryd.prog 64 #[.int .u32 a, .int .i64 n] w fun e w' => e = .returned (.int .u32 (sxt a n : Nat)) ∧ w = w' := by
  by_cases hn : 1 ≤ n
  · by_cases hn2 : n ≤ 32
    · have H := Lib.hid (sxt_form a n ha ha' hn hn2)
      go_enter Tryd.func64, Tryd.ntmps64
      go_wp2
      go_ret
      exact ⟨ret_int H.out, rfl⟩
    · have e : a = (sxt a n : Nat) := by simp [sxt, hn2]; omega
      have H := Lib.hid e
      clear e
      go_enter Tryd.func64, Tryd.ntmps64
      go_wp2
      go_ret
      exact ⟨ret_int H.out, rfl⟩
  · have e : a = (sxt a n : Nat) := by simp [sxt, hn]; omega
    have H := Lib.hid e
    clear e
    go_enter Tryd.func64, Tryd.ntmps64
    go_wp2
    go_ret
    exact ⟨ret_int H.out, rfl⟩

theorem bit_any (a i : Int) (ha : 0 ≤ a) (h0 : 0 ≤ i) (h1 : i ≤ 31) (w : World) :
    Calls Tryd.prog 69 #[.int .u32 a, .int .i64 i] w fun e w' => e = .returned (.int .u32 ((a.toNat.testBit i.toNat).toNat : Nat)) ∧ w = w' := by
  have H := Lib.hid (bit_form a i ha h0)
  go_enter Tryd.func69, Tryd.ntmps69
  go_wp2
  go_ret
  exact ⟨ret_int H.out, rfl⟩

/-- a slice value that owns a row of words: nil or empty, or it leads to the cells -/
theorem row_words {w : World} {base e : Nat} {v : Value} {xs : List Nat} (hown : w.ownsRow base e 1 v xs.length (xs.map fun x => Value.int .u32 (x : Nat))) :
    (xs = [] ∧ ∃ a cap, v = .slice a 0 cap) ∨ ∃ g cap, v = .slice (some ⟨g, 0, none⟩) xs.length cap ∧ ∀ j, j < xs.length → w.cell? ⟨g, j, none⟩ = some (.int .u32 (xs[j]?.getD 0 : Nat)) := by
  rcases hown.2 with ⟨rfl, hn⟩ | ⟨g, cap, cur, rfl, hg, hh, r⟩
  · have : xs = [] := by simpa using hn
    subst this
    exact .inl ⟨rfl, none, 0, rfl⟩
  · refine .inr ⟨g, cap, rfl, fun j h => ?_⟩
    have := hown.cellAt j (by omega)
    rw [this]
    simp [h]

theorem of_any (w : World) (base : Nat) (v : Value) (xs : List Nat) (hx : xs.length ≤ 64) (hown : w.ownsRow base 22 1 v xs.length (xs.map fun x => Value.int .u32 (x : Nat))) :
    Calls Tryd.prog 70 #[v] w fun e w' => e = .returned (.int .u32 (ofL xs : Nat)) ∧ w = w' := by
  rcases row_words hown with ⟨rfl, a, cap, rfl⟩ | ⟨g, cap, rfl, hcell⟩
  · go_enter Tryd.func70, Tryd.ntmps70
    go_wp2
    refine wp_loop_rounds 1 ?_
    rw [rounds_succ]
    go_wp2
    go_ret
    exact ⟨rfl, rfl⟩
  · clear hown
    go_enter Tryd.func70, Tryd.ntmps70
    go_wp2
    go_loop [3, 4] (fun t i => ∃ j : Int, -1 ≤ j ∧ j < xs.length ∧ i = .int .i64 j ∧ t = .int .u32 (ofL (xs.drop (j + 1).toNat) : Nat)) (fun _ i => (intOf i + 1).toNat)
    case atStart => exact ⟨_, by omega, by omega, rfl, by simp [ofL]⟩
    case round =>
      obtain ⟨j, hj1, hj2, rfl, rfl⟩ := hrel
      by_cases h0 : 0 ≤ j
      · obtain ⟨k, rfl⟩ := Int.eq_ofNat_of_zero_le h0
        have hk : k < xs.length := by omega
        have hc := hcell k hk
        have hd : xs.drop k = (xs[k]?.getD 0) :: xs.drop (k + 1) := by rw [List.drop_eq_getElem_cons hk]; simp [hk]
        have HD : Hid (ofL (xs.drop k) = (2 * ofL (xs.drop (k + 1)) % 4294967296 + (xs[k]?.getD 0)) % 4294967296) := by rw [hd]; rfl
        clear hd hcell
        go_wp2
        go_round
        case rel => exact ⟨k - 1, by omega, by omega, rfl, by rw [show ((k : Int) - 1 + 1).toNat = k by omega, HD.out]; simp [hk]⟩
        case measure => simp [intOf]
      · have hj : j = -1 := by omega
        subst hj
        go_wp2
        go_ret
        exact ⟨rfl, rfl⟩

theorem info_u32 : (Tryd.prog.info? 22).map (fun i => (i.zero, i.size, i.bytes)) = some (some (.int .u32 0), 1, 4) := by kernel_rfl

/-- the row of the first k bits -/
def rowB (f : Nat → Bool) (k : Nat) : List Value := (List.range k).map fun j => Value.int .u32 ((f j).toNat : Nat)
theorem rowB_succ (f : Nat → Bool) (k : Nat) : rowB f (k + 1) = rowB f k ++ [Value.int .u32 ((f k).toNat : Nat)] := by simp [rowB, List.range_succ]
theorem rowB_map (f : Nat → Bool) (k : Nat) : rowB f k = (((List.range k).map fun j => (f j).toNat).map fun x => Value.int .u32 (x : Nat)) := by simp [rowB]

theorem below_app {B : Nat} {w wr w1 : World} {e size n : Nat} {v : Value} {xs : List Value} {o : Obj} (hbel : Below B w wr) (hB : B ≤ w.heap.size) (hown : wr.ownsRow B e size v n xs) (hgrow : (wr.alloc o).grownBy w1 v.ownBlock) : Below B w w1 :=
  (hbel.alloc (by have := hbel.size; omega) o).grown hgrow (by have := hbel.size; simp; omega) (fun j hj => (hown.lt j hj).1)

theorem cell_new1 (w : World) (x : Value) (t : TypeId) : ∀ j u, [x][j]? = some u → (w.alloc (.cells #[x] t)).cell? ((⟨w.heap.size, 0, none⟩ : Addr).add j) = some u := by
  intro j u hj
  match j, hj with
  | 0, hj =>
    simp at hj
    subst hj
    show (w.alloc (.cells #[x] t)).cell? ⟨w.heap.size, 0, none⟩ = some x
    rw [World.cell?_alloc_at _ _ _ _ rfl]
    rfl
theorem one_int (k : IntKind) (x : Int) : ∀ u ∈ [Value.int k x], u.oneCell' = true := by
  intro u hu
  simp at hu
  subst hu
  rfl

theorem ofB_any (w : World) (base : Nat) (v : Value) (f : Nat → Bool) (N : Nat) (hN : N ≤ 32) (hown : w.ownsRow base 22 1 v N (rowB f N)) :
    Calls Tryd.prog 70 #[v] w fun e w' => e = .returned (.int .u32 (mk f N : Nat)) ∧ w = w' := by
  have hlen : ((List.range N).map fun j => (f j).toNat).length = N := by simp
  have h := of_any w base v ((List.range N).map fun j => (f j).toNat) (by omega) (by rw [← rowB_map, hlen]; exact hown)
  rw [ofL_mk _ _ hN] at h
  exact h

theorem refField_any (a i n : Int) (ha : 0 ≤ a) (w : World) :
    Calls Tryd.prog 48 #[.int .u32 a, .int .i64 i, .int .i64 n] w fun e w' => e = .returned (.int .u32 (fld a i n : Nat)) ∧ Below w.heap.size w w' := by
  cases hf : fitsB i n
  · have e : fld a i n = 0 := by simp [fld, hf]
    rw [e]
    clear e
    go_enter Tryd.func48, Tryd.ntmps48
    go_wp2_with (go_at_call 71; refine (fits_any _ _ _).mono ?_; rintro e w' ⟨rfl, rfl⟩)
    go_ret
    exact ⟨rfl, Below.refl _ _⟩
  · have h := fitsB_iff.1 hf
    obtain ⟨h0, h1, h2, h3⟩ := h
    obtain ⟨N, rfl⟩ := Int.eq_ofNat_of_zero_le (show 0 ≤ n by omega)
    obtain ⟨i0, hi, hz0, hz1, hz2⟩ := info_parts info_u32
    obtain ⟨f, Hf⟩ : ∃ f : Nat → Bool, Hid (f = fun k => a.toNat.testBit (i.toNat + k)) := ⟨_, Lib.hid rfl⟩
    go_enter Tryd.func48, Tryd.ntmps48
    go_wp2_with (go_at_call 71; refine (fits_any _ _ _).mono ?_; rintro e w' ⟨rfl, rfl⟩)
    go_loopw [7, 8] (fun v i wr => ∃ k : Nat, k ≤ N ∧ i = .int .i64 k ∧ wr.ownsRow w.heap.size 22 1 v k (rowB f k) ∧ Below w.heap.size w wr) (fun _ i _ => N - (intOf i).toNat)
    case atStart => exact ⟨0, Nat.zero_le _, rfl, World.ownsRow_made _ _ _ (Nat.le_refl _) (by simp [maxLen]) rfl, (Below.refl _ _).alloc (Nat.le_refl _) _⟩
    case round =>
      obtain ⟨k, hk, rfl, hown, hbel⟩ := hrel
      by_cases hkn : k < N
      · go_wp2_with (first | (go_at_call 69; refine (bit_any _ _ ha (by omega) (by omega) _).mono ?_; rintro e w' ⟨rfl, rfl⟩) | (at_builtin; refine (wpList_append_own _ rfl (.tmp 19) (.tmp 25) 32 rfl w.heap.size 22 i0 (.int .u32 0) 1 4 Tryd.underlying32 hi hz0 hz1 hz2 rfl (by decide) _ _ _ rfl (hown.alloc _) ⟨wr.heap.size, 0, none⟩ 1 1 [_] rfl rfl (cell_new1 _ _ _) (one_int _ _) ?c3 ?c4 ?c5 ?_)))
        case c3 => unfold maxLen; omega
        case c4 => omega
        case c5 => have := hbel.size; simp; omega
        intro v' w1 hown' hgrow _
        have hbel1 := below_app hbel (Nat.le_refl _) hown hgrow
        have hown1 : w1.ownsRow w.heap.size 22 1 v' (k + 1) (rowB f (k + 1)) := by
          rw [rowB_succ, Hf.out]
          rw [show (i + (k : Int)).toNat = i.toNat + k by omega] at hown'
          rw [Hf.out] at hown'
          exact hown'
        clear hown' hgrow hown hbel
        go_wp2
        go_roundw
        case rel => exact ⟨k + 1, by omega, by go_num, hown1, hbel1⟩
        case measure => simp [intOf]; omega
      · have hkN : k = N := by omega
        subst hkN
        have HF : Hid (mk f k = fld a i k) := by
          show _ = _
          rw [Hf.out]
          simp [fld, hf]
        go_wp2_with (go_at_call 70; refine (ofB_any _ _ _ f k (by omega) hown).mono ?_; rintro e w' ⟨rfl, rfl⟩)
        go_ret
        exact ⟨ret_int (by rw [HF.out]), hbel⟩

/-- one bit more in the row -/
theorem row_step {w wr w1 : World} {v v' : Value} {f : Nat → Bool} {k : Nat} {o : Obj} {b : Bool} (hbel : Below w.heap.size w wr) (hown : wr.ownsRow w.heap.size 22 1 v k (rowB f k))
    (hgrow : (wr.alloc o).grownBy w1 v.ownBlock) (hown' : w1.ownsRow w.heap.size 22 1 v' (k + 1) (rowB f k ++ [Value.int .u32 (b.toNat : Nat)])) (hb : b = f k) :
    w1.ownsRow w.heap.size 22 1 v' (k + 1) (rowB f (k + 1)) ∧ Below w.heap.size w w1 :=
  ⟨by rw [rowB_succ, ← hb]; exact hown', below_app hbel (Nat.le_refl _) hown hgrow⟩

theorem refSext_any (a n : Int) (ha : 0 ≤ a) (w : World) :
    Calls Tryd.prog 47 #[.int .u32 a, .int .i64 n] w fun e w' => e = .returned (.int .u32 (sxt a n : Nat)) ∧ Below w.heap.size w w' := by
  by_cases hn : 1 ≤ n
  · by_cases hn2 : n ≤ 32
    · obtain ⟨N, rfl⟩ := Int.eq_ofNat_of_zero_le (show 0 ≤ n by omega)
      obtain ⟨i0, hi, hz0, hz1, hz2⟩ := info_parts info_u32
      obtain ⟨f, Hf⟩ : ∃ f : Nat → Bool, Hid (f = sxb N a.toNat) := ⟨_, Lib.hid rfl⟩
      go_enter Tryd.func47, Tryd.ntmps47
      go_wp2
      go_loopw [5, 6] (fun v i wr => ∃ k : Nat, k ≤ 32 ∧ i = .int .i64 k ∧ wr.ownsRow w.heap.size 22 1 v k (rowB f k) ∧ Below w.heap.size w wr) (fun _ i _ => 32 - (intOf i).toNat)
      case atStart => exact ⟨0, Nat.zero_le _, rfl, World.ownsRow_made _ _ _ (Nat.le_refl _) (by simp [maxLen]) rfl, (Below.refl _ _).alloc (Nat.le_refl _) _⟩
      case round =>
        obtain ⟨k, hk, rfl, hown, hbel⟩ := hrel
        by_cases hkn : k < 32
        · by_cases c1 : k < N
          · go_wp2_with (first | (go_at_call 69; refine (bit_any _ _ ha (by omega) (by omega) _).mono ?_; rintro e w' ⟨rfl, rfl⟩) | (at_builtin; refine wpList_append_own _ rfl (.tmp 22) (.tmp 26) 32 rfl w.heap.size 22 i0 (.int .u32 0) 1 4 Tryd.underlying32 hi hz0 hz1 hz2 rfl (by decide) _ _ _ rfl (hown.alloc _) ⟨wr.heap.size, 0, none⟩ 1 1 [_] rfl rfl (cell_new1 _ _ _) (one_int _ _) ?_ ?_ ?_ ?_))
            · unfold maxLen; omega
            · omega
            · have := hbel.size; simp; omega
            intro v' w1 hown' hgrow _
            have R := row_step hbel hown hgrow hown' (by rw [Hf.out]; simp [sxb, c1])
            clear hown' hgrow hown hbel
            go_wp2
            go_roundw
            case rel => exact ⟨k + 1, by omega, by go_num, R.1, R.2⟩
            case measure => simp [intOf]; omega
          · go_wp2_with (first | (go_at_call 69; refine (bit_any _ _ ha (by omega) (by omega) _).mono ?_; rintro e w' ⟨rfl, rfl⟩) | (at_builtin; refine wpList_append_own _ rfl (.tmp 28) (.tmp 33) 32 rfl w.heap.size 22 i0 (.int .u32 0) 1 4 Tryd.underlying32 hi hz0 hz1 hz2 rfl (by decide) _ _ _ rfl (hown.alloc _) ⟨wr.heap.size, 0, none⟩ 1 1 [_] rfl rfl (cell_new1 _ _ _) (one_int _ _) ?_ ?_ ?_ ?_))
            · unfold maxLen; omega
            · omega
            · have := hbel.size; simp; omega
            intro v' w1 hown' hgrow _
            have R := row_step hbel hown hgrow hown' (by rw [Hf.out]; simp [sxb, c1])
            clear hown' hgrow hown hbel
            go_wp2
            go_roundw
            case rel => exact ⟨k + 1, by omega, by go_num, R.1, R.2⟩
            case measure => simp [intOf]; omega
        · have hkN : k = 32 := by omega
          subst hkN
          have HF : Hid (mk f 32 = sxt a N) := by
            show _ = _
            rw [Hf.out]
            have hd : decide (1 ≤ (N : Int) ∧ (N : Int) ≤ 32) = true := by simp; omega
            unfold sxt
            rw [hd]
            rfl
          go_wp2_with (go_at_call 70; refine (ofB_any _ _ _ f 32 (by omega) hown).mono ?_; rintro e w' ⟨rfl, rfl⟩)
          go_ret
          exact ⟨ret_int (by rw [HF.out]), hbel⟩
    · have e : a = (sxt a n : Nat) := by simp [sxt, hn2]; omega
      have H := Lib.hid e
      clear e
      go_enter Tryd.func47, Tryd.ntmps47
      go_wp2
      go_ret
      exact ⟨ret_int H.out, Below.refl _ _⟩
  · have e : a = (sxt a n : Nat) := by simp [sxt, hn]; omega
    have H := Lib.hid e
    clear e
    go_enter Tryd.func47, Tryd.ntmps47
    go_wp2
    go_ret
    exact ⟨ret_int H.out, Below.refl _ _⟩

end Go.Proofs.YtaokhegbfaokdaaDoor

/- What the laws of layer 1 have in common: that the program is alive; that new blocks alone come to be. -/
namespace Go.Proofs.YtaokhegbfaokdaaDoor
open Go.ChangeShapes Go.WideShapes Go.ChangeAt Go.RowKit
set_option maxRecDepth 100000

theorem bthen {a b c : World} (h : Below a.heap.size a b) (k : Below b.heap.size b c) : Below a.heap.size a c := h.trans (k.mono h.size)
theorem bdrewN {B : Nat} {a w : World} (h : Below B a w) (n : Nat) : Below B a (w.drewN n) := ⟨h.os, h.tape, h.output, h.size, h.block⟩
theorem bthenN {a b c : World} {n : Nat} (h : Below a.heap.size a b) (k : Below b.heap.size (b.drewN n) c) : Below a.heap.size a c := h.trans ⟨k.os, k.tape, k.output, k.size, fun i hi => k.block i (Nat.lt_of_lt_of_le hi h.size)⟩

/-- what is owned from block B on, in a world whose old blocks stay -/
theorem own_below {w w2 : World} {B e size n : Nat} {v : Value} {xs : List Value} (h : w.ownsRow B e size v n xs) (hb : Below w.heap.size w w2) : w2.ownsRow B e size v n xs := by
  refine ⟨h.1, ?_⟩
  rcases h.2 with h0 | ⟨g, cap, cur, hv, hg, hh, r⟩
  · exact .inl h0
  · have hlt : g < w.heap.size := by
      rcases Nat.lt_or_ge g w.heap.size with h' | h'
      · exact h'
      · rw [Array.getElem?_eq_none (by omega)] at hh; cases hh
    exact .inr ⟨g, cap, cur, hv, hg, by rw [hb.block g hlt]; exact hh, r⟩

end Go.Proofs.YtaokhegbfaokdaaDoor

/- THE CONTRACTS of Bytes and Join, of package word and of auspexref01. -/
namespace Go.Proofs.YtaokhegbfaokdaaDoor
open Go.ChangeShapes Go.WideShapes Go.ChangeAt Go.RowKit
set_option maxRecDepth 100000

theorem info_u8 : (Tryd.prog.info? 5).map (fun i => (i.zero, i.size, i.bytes)) = some (some (.int .u8 0), 1, 1) := by kernel_rfl

/-- byte k of a word -/
def byt (a : Int) (k : Nat) : Nat := fld a (8 * (k : Int)) 8
def bytL (a : Int) (n : Nat) : List Int := (List.range n).map fun k => (byt a k : Int)
theorem byt_lt (a : Int) (k : Nat) : byt a k < 256 := by
  unfold byt fld
  cases fitsB (8 * (k : Int)) 8
  · simp
  · rw [cond_true]; exact Nat.lt_of_lt_of_le (mk_lt _ _) (by decide)
theorem bytL_succ (a : Int) (k : Nat) : bytL a (k + 1) = bytL a k ++ [(byt a k : Int)] := by simp [bytL, List.range_succ]
theorem bytL_len (a : Int) (n : Nat) : (bytL a n).length = n := by simp [bytL]

/-- a slice that owns a row of bytes, as a string -/
theorem conv_own {w : World} {base : Nat} {v : Value} {xs : List Int} {n : Nat} (hn : xs.length = n) (hown : w.ownsRow base 5 1 v n (xs.map (Value.int .u8))) :
    (convert 53 9 v).run Tryd.prog w = .ok (.string (strOfNums xs)) w := by
  rcases hown.2 with ⟨rfl, h0⟩ | ⟨g, cap, cur, rfl, hg, hh, r⟩
  · have : xs = [] := by cases xs; rfl; simp at hn; omega
    subst this
    exact run_convert_bytes_nil w 53 5 Tryd.underlying53 Tryd.underlying5 0 0 9 Tryd.underlying9
  · refine run_convert_bytes_arg w 53 5 Tryd.underlying53 Tryd.underlying5 g 0 n cap xs hn (fun i hi => ?_) 9 Tryd.underlying9
    have := hown.cellAt i (by omega)
    rw [Nat.zero_add, this]
    simp [List.getD, show i < xs.length by omega]

theorem refBytes_any (a n : Int) (ha : 0 ≤ a) (w : World) :
    Calls Tryd.prog 26 #[.int .u32 a, .int .i64 n] w fun e w' => e = .returned (.tuple #[.string (if 0 ≤ n ∧ n ≤ 4 then strOfNums (bytL a n.toNat) else ByteArray.empty), .int .i64 (if 0 ≤ n ∧ n ≤ 4 then 0 else 1)]) ∧ Below w.heap.size w w' := by
  by_cases hn : 0 ≤ n ∧ n ≤ 4
  · rw [if_pos hn, if_pos hn]
    obtain ⟨h0, h1⟩ := hn
    obtain ⟨N, rfl⟩ := Int.eq_ofNat_of_zero_le h0
    obtain ⟨i0, hi, hz0, hz1, hz2⟩ := info_parts info_u8
    go_enter Tryd.func26, Tryd.ntmps26
    go_wp2
    go_loopw [6, 7] (fun v i wr => ∃ k : Nat, k ≤ N ∧ i = .int .i64 k ∧ wr.ownsRow w.heap.size 5 1 v k ((bytL a k).map (Value.int .u8)) ∧ Below w.heap.size w wr) (fun _ i _ => N - (intOf i).toNat)
    case atStart => exact ⟨0, Nat.zero_le _, rfl, World.ownsRow_made _ _ _ (Nat.le_refl _) (by simp [maxLen]) rfl, (Below.refl _ _).alloc (Nat.le_refl _) _⟩
    case round =>
      obtain ⟨k, hk, rfl, hown, hbel⟩ := hrel
      by_cases hkn : k < N
      · have hlt := byt_lt a k
        have B := Lib.hid (show fld a (8 * (k : Int)) 8 = byt a k from rfl)
        go_wp2_with fail
        refine (refField_any _ _ _ ha _).mono ?_
        rintro e w2 ⟨rfl, hb2⟩
        rw [B.out]
        have hown2 : w2.ownsRow w.heap.size 5 1 _ k ((bytL a k).map (Value.int .u8)) := own_below hown hb2
        have hbel2 := hbel.trans (hb2.mono hbel.size)
        clear hown hbel
        go_wp2_with (at_builtin; refine wpList_append_own _ rfl (.tmp 20) (.tmp 26) 53 rfl w.heap.size 5 i0 (.int .u8 0) 1 1 Tryd.underlying53 hi hz0 hz1 hz2 rfl (by decide) _ _ _ rfl (hown2.alloc _) ⟨w2.heap.size, 0, none⟩ 1 1 [_] rfl rfl (cell_new1 _ _ _) (one_int _ _) ?_ ?_ ?_ ?_)
        · unfold maxLen; omega
        · omega
        · have := hbel2.size; simp; omega
        intro v' w1 hown' hgrow _
        have hbel1 := below_app hbel2 (Nat.le_refl _) hown2 hgrow
        have hown1 : w1.ownsRow w.heap.size 5 1 v' (k + 1) ((bytL a (k + 1)).map (Value.int .u8)) := by
          rw [bytL_succ, List.map_append]; exact hown'
        clear hown' hgrow hown2 hbel2 hb2
        go_wp2
        go_roundw
        case rel => exact ⟨k + 1, by omega, by go_num, hown1, hbel1⟩
        case measure => simp [intOf]; omega
      · have hkN : k = N := by omega
        subst hkN
        have hconv := conv_own (bytL_len a k) hown
        go_wp2
        go_ret2
        exact ⟨by rw [Int.toNat_natCast]; rfl, hbel⟩
  · rw [if_neg hn, if_neg hn]
    by_cases h0 : n < 0
    · go_enter Tryd.func26, Tryd.ntmps26
      go_wp2
      go_ret2
      exact ⟨rfl, Below.refl _ _⟩
    · have h1 : 4 < n := by omega
      go_enter Tryd.func26, Tryd.ntmps26
      go_wp2
      go_ret2
      exact ⟨rfl, Below.refl _ _⟩

theorem stored_byte {w : World} {base g N k : Nat} {a : Int} (hk : k < N)
    (h : w.ownsRow base 5 1 (.slice (some ⟨g, 0, none⟩) N N) N ((bytL a k ++ List.replicate (N - k) 0).map (Value.int .u8))) :
    (w.setCell ⟨g, k, none⟩ (.int .u8 (byt a k : Nat))).ownsRow base 5 1 (.slice (some ⟨g, 0, none⟩) N N) N ((bytL a (k + 1) ++ List.replicate (N - (k + 1)) 0).map (Value.int .u8)) := by
  have := h.stored k (.int .u8 (byt a k : Nat))
  have e : ((bytL a k ++ List.replicate (N - k) 0).map (Value.int .u8)).set k (.int .u8 (byt a k : Nat)) = (bytL a (k + 1) ++ List.replicate (N - (k + 1)) 0).map (Value.int .u8) := by
    rw [← List.map_set, bytL_succ]
    congr 1
    have hl := bytL_len a k
    rw [show N - k = (N - (k + 1)) + 1 by omega, List.replicate_succ, List.set_append_right _ _ (by omega), hl]
    simp
  rw [e] at this
  exact this.1

theorem bytes_any (a n : Int) (ha : 0 ≤ a) (ha' : a < 4294967296) (w : World) :
    Calls Tryd.prog 40 #[.int .u32 a, .int .i64 n] w fun e w' => e = .returned (.tuple #[.string (if 0 ≤ n ∧ n ≤ 4 then strOfNums (bytL a n.toNat) else ByteArray.empty), .int .i64 (if 0 ≤ n ∧ n ≤ 4 then 0 else 1)]) ∧ Below w.heap.size w w' := by
  by_cases hn : 0 ≤ n ∧ n ≤ 4
  · rw [if_pos hn, if_pos hn]
    obtain ⟨h0, h1⟩ := hn
    obtain ⟨N, rfl⟩ := Int.eq_ofNat_of_zero_le h0
    obtain ⟨i0, hi, hz0, hz1, hz2⟩ := info_parts info_u8
    go_enter Tryd.func40, Tryd.ntmps40
    go_wp2_with (at_make; refine wpList_make_full _ rfl _ _ 53 rfl w.heap.size 5 i0 (.int .u8 0) 1 Tryd.underlying53 hi hz0 hz1 .i64 .i64 _ _ N rfl rfl rfl rfl (by rw [hz2]; omega) (by unfold maxLen; omega) (Nat.le_refl _) ?_; intro w0 hown0 hgrow0)
    have hbel0 : Below w.heap.size w w0 := (Below.refl _ _).grown hgrow0 (Nat.le_refl _) (fun k hk => by cases hk)
    rw [show (madeCells (Value.int .u8 0).cells (N * 1)).toList = (bytL a 0 ++ List.replicate (N - 0) 0).map (Value.int .u8) by rw [Nat.mul_one, Nat.sub_zero]; simp [bytL, Value.cells, toList_madeCells_one]] at hown0
    clear hgrow0
    generalize hB : w.heap.size = B at *
    have HB := Lib.hid hB
    clear hB
    go_wp2
    go_loopw [17] (fun i wr => ∃ k : Nat, k ≤ N ∧ i = .int .i64 k ∧ wr.ownsRow B 5 1 (.slice (some ⟨B, 0, none⟩) N N) N ((bytL a k ++ List.replicate (N - k) 0).map (Value.int .u8)) ∧ Below B w wr) (fun i _ => N - (intOf i).toNat)
    case atStart => exact ⟨0, Nat.zero_le _, rfl, hown0, hbel0⟩
    case round =>
      obtain ⟨k, hk, rfl, hown, hbel⟩ := hrel
      by_cases hkn : k < N
      · have hlt := byt_lt a k
        have Bk := Lib.hid (show fld a (8 * (k : Int)) 8 = byt a k from rfl)
        have hf := hown.frozenAt k
        have hc := hown.cellAt k (by omega)
        have hcell : wr.cell? ⟨B, k, none⟩ = some (.int .u8 0) := by
          rw [hc]
          simp [List.getElem?_append_right, bytL_len]
          rw [List.getElem?_replicate, if_pos (by omega)]
        clear hc
        go_wp2_with fail
        refine (field_any _ _ _ ha ha' _).mono ?_
        rintro e w2 ⟨rfl, m, rfl⟩
        rw [Bk.out]
        have hs := stored_byte hkn hown
        clear hown
        go_wp2
        go_roundw
        case rel => exact ⟨k + 1, by omega, by go_num, hs, ((bdrewN hbel m).setCell (show B ≤ B from Nat.le_refl _) _)⟩
        case measure => simp [intOf]; omega
      · have hkN : k = N := by omega
        subst hkN
        have hl := bytL_len a k
        have e : bytL a k ++ List.replicate (k - k) 0 = bytL a k := by simp
        rw [e] at hown
        have hconv := conv_own hl hown
        go_wp2
        go_ret2
        exact ⟨by rw [Int.toNat_natCast]; rfl, by rw [HB.out]; exact hbel⟩
  · rw [if_neg hn, if_neg hn]
    by_cases h0 : n < 0
    · go_enter Tryd.func40, Tryd.ntmps40
      go_wp2
      go_ret2
      exact ⟨rfl, Below.refl _ _⟩
    · have h1 : 4 < n := by omega
      go_enter Tryd.func40, Tryd.ntmps40
      go_wp2
      go_ret2
      exact ⟨rfl, Below.refl _ _⟩

/-- the word that bytes make -/
def joinN : List UInt8 → Nat
  | [] => 0
  | b :: r => 256 * joinN r + b.toNat
theorem joinN_lt : ∀ l, joinN l < 2 ^ (8 * l.length)
  | [] => by simp [joinN]
  | b :: r => by
    have h := joinN_lt r
    have hb := b.toNat_lt
    simp only [joinN, List.length_cons]
    rw [show 8 * (r.length + 1) = 8 * r.length + 8 by omega, Nat.pow_add]
    generalize 2 ^ (8 * r.length) = P at *
    omega
theorem joinN_lt32 {l : List UInt8} (h : l.length ≤ 4) : joinN l < 4294967296 :=
  Nat.lt_of_lt_of_le (joinN_lt l) (Nat.pow_le_pow_right (n := 2) (by omega) (show 8 * l.length ≤ 32 by omega))
theorem joinN_snoc : ∀ (l : List UInt8) (b : UInt8), joinN (l ++ [b]) = joinN l + 2 ^ (8 * l.length) * b.toNat
  | [], b => by simp [joinN]
  | c :: r, b => by
    simp only [List.cons_append, joinN, joinN_snoc r b, List.length_cons]
    rw [show 8 * (r.length + 1) = 8 * r.length + 8 by omega, Nat.pow_add, Nat.mul_add, Nat.add_right_comm]
    congr 1
    rw [Nat.mul_comm (2 ^ (8 * r.length)) (2 ^ 8), Nat.mul_assoc]

/-- a byte set behind the others -/
theorem stw_join (l : List UInt8) (b : UInt8) (h : l.length < 4) : stw (joinN l : Nat) (8 * (l.length : Int)) 8 (b.toNat : Nat) = joinN (l ++ [b]) := by
  have hf : fitsB (8 * (l.length : Int)) 8 = true := fitsB_iff.2 (by omega)
  have hlt := joinN_lt l
  have hlt32 := joinN_lt32 (l := l) (by omega)
  have hb := b.toNat_lt
  rw [joinN_snoc]
  refine Nat.eq_of_testBit_eq fun k => ?_
  rw [testBit_stw _ _ _ _ _ hf, Nat.add_comm, Nat.testBit_two_pow_mul_add _ hlt]
  unfold stb
  simp only [Int.toNat_natCast]
  rw [show (8 * (l.length : Int)).toNat = 8 * l.length by omega, show (8 : Int).toNat = 8 from rfl]
  by_cases h1 : k < 8 * l.length
  · simp [h1, show ¬ 8 * l.length ≤ k by omega, show k < 32 by omega]
  · by_cases h2 : k < 8 * l.length + 8
    · simp [h1, h2, show 8 * l.length ≤ k by omega, show k < 32 by omega]
    · have e1 : b.toNat.testBit (k - 8 * l.length) = false := Nat.testBit_lt_two_pow (Nat.lt_of_lt_of_le hb (Nat.pow_le_pow_right (n := 2) (by omega) (show 8 ≤ k - 8 * l.length by omega)))
      have e2 : (joinN l).testBit k = false := Nat.testBit_lt_two_pow (Nat.lt_of_lt_of_le hlt (Nat.pow_le_pow_right (n := 2) (by omega) (show 8 * l.length ≤ k by omega)))
      simp [h1, h2, e1, e2]

theorem join_any (s : ByteArray) (hs : s.size ≤ 9223372036854775807) (w : World) :
    Calls Tryd.prog 41 #[.string s] w fun e w' => e = .returned (.tuple #[.int .u32 (if s.size ≤ 4 then joinN s.data.toList else 0 : Nat), .int .i64 (if s.size ≤ 4 then 0 else 2)]) ∧ Below w.heap.size w w' := by
  by_cases h4 : s.size ≤ 4
  · rw [if_pos h4, if_pos h4]
    go_enter Tryd.func41, Tryd.ntmps41
    go_wp2
    go_loopw [4, 11] (fun t i wr => ∃ k : Nat, k ≤ s.size ∧ i = .int .i64 k ∧ t = .int .u32 (joinN (s.data.toList.take k) : Nat) ∧ Below w.heap.size w wr) (fun _ i _ => s.size - (intOf i).toNat)
    case atStart => exact ⟨0, Nat.zero_le _, rfl, by simp [joinN], Below.refl _ _⟩
    case round =>
      obtain ⟨k, hk, rfl, rfl, hbel⟩ := hrel
      by_cases hkn : k < s.size
      · have hlen : (s.data.toList.take k).length = k := by rw [List.length_take]; have : s.data.toList.length = s.size := rfl; omega
        have hlt := joinN_lt32 (l := s.data.toList.take k) (by omega)
        have hsn : s.data.toList.take (k + 1) = s.data.toList.take k ++ [s[k]] := by rw [List.take_succ_eq_append_getElem (by simpa using hkn)]; rfl
        have E := stw_join (s.data.toList.take k) s[k] (by omega)
        rw [hlen, ← hsn] at E
        have H := Lib.hid E
        have hb := s[k].toNat_lt
        clear E hsn hlen
        go_wp2_with fail
        refine (set_any _ _ _ _ (by omega) (by omega) (by omega) (by omega) _).mono ?_
        rintro e w2 ⟨rfl, m, rfl⟩
        rw [H.out]
        go_wp2
        go_roundw
        case rel => exact ⟨k + 1, by omega, by go_num, rfl, bdrewN hbel m⟩
        case measure => simp [intOf]; omega
      · have hkN : k = s.size := by omega
        subst hkN
        have e : s.data.toList.take s.size = s.data.toList := List.take_of_length_le (Nat.le_refl _)
        rw [e]
        go_wp2
        go_ret2
        exact ⟨rfl, hbel⟩
  · rw [if_neg h4, if_neg h4]
    go_enter Tryd.func41, Tryd.ntmps41
    go_wp2
    go_ret2
    exact ⟨rfl, Below.refl _ _⟩

theorem refJoin_any (s : ByteArray) (hs : s.size ≤ 9223372036854775807) (w : World) :
    Calls Tryd.prog 28 #[.string s] w fun e w' => e = .returned (.tuple #[.int .u32 (if s.size ≤ 4 then joinN s.data.toList else 0 : Nat), .int .i64 (if s.size ≤ 4 then 0 else 2)]) ∧ w = w' := by
  by_cases h4 : s.size ≤ 4
  · rw [if_pos h4, if_pos h4]
    go_enter Tryd.func28, Tryd.ntmps28
    go_wp2
    go_loop [4, 5] (fun t i => ∃ j : Int, -1 ≤ j ∧ j < s.size ∧ i = .int .i64 j ∧ t = .int .u32 (joinN (s.data.toList.drop (j + 1).toNat) : Nat)) (fun _ i => (intOf i + 1).toNat)
    case atStart => exact ⟨_, by omega, by omega, rfl, by rw [List.drop_eq_nil_of_le (by have : s.data.toList.length = s.size := rfl; omega)]; rfl⟩
    case round =>
      obtain ⟨j, h1, h2, rfl, rfl⟩ := hrel
      by_cases hj : 0 ≤ j
      · obtain ⟨k, rfl⟩ := Int.eq_ofNat_of_zero_le hj
        have hkn : k < s.size := by omega
        have hll : s.data.toList.length = s.size := rfl
        have hd : s.data.toList.drop k = s[k] :: s.data.toList.drop (k + 1) := by rw [List.drop_eq_getElem_cons (by simpa using hkn)]; rfl
        have hlt := joinN_lt (s.data.toList.drop (k + 1))
        have hlt2 : joinN (s.data.toList.drop (k + 1)) < 2 ^ 24 := Nat.lt_of_lt_of_le hlt (Nat.pow_le_pow_right (n := 2) (by omega) (by rw [List.length_drop]; omega))
        have hb := s[k].toNat_lt
        have H := Lib.hid (show joinN (s.data.toList.drop k) = 256 * joinN (s.data.toList.drop (k + 1)) + s[k].toNat by rw [hd]; rfl)
        rw [show ((k : Int) + 1).toNat = k + 1 by omega]
        generalize hJ : joinN (s.data.toList.drop (k + 1)) = J at *
        clear hlt hd hll hJ
        go_wp2
        go_round
        case rel => exact ⟨k - 1, by omega, by omega, rfl, by rw [show ((k : Int) - 1 + 1).toNat = k by omega, H.out]; congr 1⟩
        case measure => simp [intOf]
      · have hj1 : j = -1 := by omega
        subst hj1
        go_wp2
        go_ret2
        exact ⟨rfl, rfl⟩
  · rw [if_neg h4, if_neg h4]
    go_enter Tryd.func28, Tryd.ntmps28
    go_wp2
    go_ret2
    exact ⟨rfl, rfl⟩

end Go.Proofs.YtaokhegbfaokdaaDoor
