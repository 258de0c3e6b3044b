/-
  THE CONTRACTS of package word and of the bits of package auspexref01, over this seat's translation.
-/
import Derived.Test.YtkamljmopbocnaaDoorChecked
import Derived.Test.YtkamljmopbocnaaDoorMath
import Derived.WalkKit
import Derived.ProofKit
import Derived.Deep.QuietTactic
import Derived.BigQuiet
import Derived.Lib.Hide
namespace Go.Proofs.YtkamljmopbocnaaDoor
open Go.ChangeShapes Go.WideShapes Go.ChangeAt Go.RowKit
set_option maxRecDepth 100000

theorem ret_int {k : IntKind} {a b : Int} (h : a = b) : Ending.returned (.int k a) = .returned (.int k b) := by rw [h]
theorem ret_bool {a b : Bool} (h : a = b) : Ending.returned (.bool a) = .returned (.bool b) := by rw [h]

theorem mask_any (n : Int) (h0 : 0 ≤ n) (h1 : n ≤ 32) (w : World) :
    Calls Tryd.prog 106 #[.int .i64 n] w fun e w' => e = .returned (.int .u32 (msk n : Nat)) ∧ w' = w := by
  go_enter Tryd.func106, Tryd.ntmps106
  go_wp2
  go_ret
  exact ⟨ret_int (mask_form n h0 h1), rfl⟩

theorem mayBe_any (i n : Int) (w : World) :
    Calls Tryd.prog 105 #[.int .i64 i, .int .i64 n] w fun e w' => e = .returned (.bool (fitsB i n)) ∧ w = w' := by
  go_enter Tryd.func105, Tryd.ntmps105
  go_wp2
  all_goals
    go_ret
    exact ⟨ret_bool (by first | (rw [fitsB, decide_eq_decide]; omega) | exact (fitsB_no.2 (by omega)).symm), rfl⟩

theorem fits_any (i n : Int) (w : World) :
    Calls Tryd.prog 91 #[.int .i64 i, .int .i64 n] w fun e w' => e = .returned (.bool (fitsB i n)) ∧ w = w' := by
  go_enter Tryd.func91, Tryd.ntmps91
  go_wp2
  all_goals
    go_ret
    exact ⟨ret_bool (by first | (rw [fitsB, decide_eq_decide]; omega) | exact (fitsB_no.2 (by omega)).symm), rfl⟩

theorem field_any (a i n : Int) (ha : 0 ≤ a) (ha' : a < 4294967296) (w : World) :
    Calls Tryd.prog 81 #[.int .u32 a, .int .i64 i, .int .i64 n] w fun e w' => e = .returned (.int .u32 (fld a i n : Nat)) ∧ ∃ m, w' = w.drewN m := by
  cases hf : fitsB i n
  · have e : fld a i n = 0 := by simp [fld, hf]
    rw [e]
    clear e
    go_enter Tryd.func81, Tryd.ntmps81
    go_wp2_with (go_at_call 105; refine (mayBe_any _ _ _).mono ?_; rintro e w' ⟨rfl, rfl⟩)
    go_ret
    exact ⟨rfl, 0, rfl⟩
  · have h := fitsB_iff.1 hf
    obtain ⟨h0, h1, h2, h3⟩ := h
    have H := Lib.hid (fld_form a i n ha ha' hf)
    go_enter Tryd.func81, Tryd.ntmps81
    go_wp2_with (go_at_call 105; refine (mayBe_any _ _ _).mono ?_; rintro e w' ⟨rfl, rfl⟩)
    go_quiet ((go_at_call 106; exact Calls.quiet_of_same (mask_any _ (by omega) (by omega) _)))
    go_wp2
    go_ret
    exact ⟨ret_int H.out, _, rfl⟩

theorem set_any (a i n v : Int) (ha : 0 ≤ a) (ha' : a < 4294967296) (hv : 0 ≤ v) (hv' : v < 4294967296) (w : World) :
    Calls Tryd.prog 82 #[.int .u32 a, .int .i64 i, .int .i64 n, .int .u32 v] w fun e w' => e = .returned (.int .u32 (stw a i n v : Nat)) ∧ ∃ m, w' = w.drewN m := by
  cases hf : fitsB i n
  · have e : a = (stw a i n v : Nat) := by simp [stw, hf]; omega
    have H := Lib.hid e
    clear e
    go_enter Tryd.func82, Tryd.ntmps82
    go_wp2_with (go_at_call 105; refine (mayBe_any _ _ _).mono ?_; rintro e w' ⟨rfl, rfl⟩)
    go_ret
    exact ⟨ret_int H.out, 0, rfl⟩
  · have h := fitsB_iff.1 hf
    obtain ⟨h0, h1, h2, h3⟩ := h
    have H := Lib.hid (stw_form a i n v ha ha' hv hv' hf)
    go_enter Tryd.func82, Tryd.ntmps82
    go_wp2_with (first | (go_at_call 105; refine (mayBe_any _ _ _).mono ?_; rintro e w' ⟨rfl, rfl⟩) | (go_at_call 106; refine (mask_any _ (by omega) (by omega) _).mono ?_; rintro e w' ⟨rfl, rfl⟩))
    go_ret
    exact ⟨ret_int H.out, 0, rfl⟩

theorem sext_any (a n : Int) (ha : 0 ≤ a) (ha' : a < 4294967296) (w : World) :
    Calls Tryd.prog 80 #[.int .u32 a, .int .i64 n] w fun e w' => e = .returned (.int .u32 (sxt a n : Nat)) ∧ w = w' := by
  by_cases hn : 1 ≤ n
  · by_cases hn2 : n ≤ 32
    · have H := Lib.hid (sxt_form a n ha ha' hn hn2)
      go_enter Tryd.func80, Tryd.ntmps80
      go_wp2
      go_ret
      exact ⟨ret_int H.out, rfl⟩
    · have e : a = (sxt a n : Nat) := by simp [sxt, hn2]; omega
      have H := Lib.hid e
      clear e
      go_enter Tryd.func80, Tryd.ntmps80
      go_wp2
      go_ret
      exact ⟨ret_int H.out, rfl⟩
  · have e : a = (sxt a n : Nat) := by simp [sxt, hn]; omega
    have H := Lib.hid e
    clear e
    go_enter Tryd.func80, Tryd.ntmps80
    go_wp2
    go_ret
    exact ⟨ret_int H.out, rfl⟩

theorem bit_any (a i : Int) (ha : 0 ≤ a) (h0 : 0 ≤ i) (h1 : i ≤ 31) (w : World) :
    Calls Tryd.prog 89 #[.int .u32 a, .int .i64 i] w fun e w' => e = .returned (.int .u32 ((a.toNat.testBit i.toNat).toNat : Nat)) ∧ w = w' := by
  have H := Lib.hid (bit_form a i ha h0)
  go_enter Tryd.func89, Tryd.ntmps89
  go_wp2
  go_ret
  exact ⟨ret_int H.out, rfl⟩

/-- a slice value that owns a row of words: nil or empty, or it leads to the cells -/
theorem row_words {w : World} {base e : Nat} {v : Value} {xs : List Nat} (hown : w.ownsRow base e 1 v xs.length (xs.map fun x => Value.int .u32 (x : Nat))) :
    (xs = [] ∧ ∃ a cap, v = .slice a 0 cap) ∨ ∃ g cap, v = .slice (some ⟨g, 0, none⟩) xs.length cap ∧ ∀ j, j < xs.length → w.cell? ⟨g, j, none⟩ = some (.int .u32 (xs[j]?.getD 0 : Nat)) := by
  rcases hown.2 with ⟨rfl, hn⟩ | ⟨g, cap, cur, rfl, hg, hh, r⟩
  · have : xs = [] := by simpa using hn
    subst this
    exact .inl ⟨rfl, none, 0, rfl⟩
  · refine .inr ⟨g, cap, rfl, fun j h => ?_⟩
    have := hown.cellAt j (by omega)
    rw [this]
    simp [h]

theorem of_any (w : World) (base : Nat) (v : Value) (xs : List Nat) (hx : xs.length ≤ 64) (hown : w.ownsRow base 25 1 v xs.length (xs.map fun x => Value.int .u32 (x : Nat))) :
    Calls Tryd.prog 90 #[v] w fun e w' => e = .returned (.int .u32 (ofL xs : Nat)) ∧ w = w' := by
  rcases row_words hown with ⟨rfl, a, cap, rfl⟩ | ⟨g, cap, rfl, hcell⟩
  · go_enter Tryd.func90, Tryd.ntmps90
    go_wp2
    refine wp_loop_rounds 1 ?_
    rw [rounds_succ]
    go_wp2
    go_ret
    exact ⟨rfl, rfl⟩
  · clear hown
    go_enter Tryd.func90, Tryd.ntmps90
    go_wp2
    go_loop [3, 4] (fun t i => ∃ j : Int, -1 ≤ j ∧ j < xs.length ∧ i = .int .i64 j ∧ t = .int .u32 (ofL (xs.drop (j + 1).toNat) : Nat)) (fun _ i => (intOf i + 1).toNat)
    case atStart => exact ⟨_, by omega, by omega, rfl, by simp [ofL]⟩
    case round =>
      obtain ⟨j, hj1, hj2, rfl, rfl⟩ := hrel
      by_cases h0 : 0 ≤ j
      · obtain ⟨k, rfl⟩ := Int.eq_ofNat_of_zero_le h0
        have hk : k < xs.length := by omega
        have hc := hcell k hk
        have hd : xs.drop k = (xs[k]?.getD 0) :: xs.drop (k + 1) := by rw [List.drop_eq_getElem_cons hk]; simp [hk]
        have HD : Hid (ofL (xs.drop k) = (2 * ofL (xs.drop (k + 1)) % 4294967296 + (xs[k]?.getD 0)) % 4294967296) := by rw [hd]; rfl
        clear hd hcell
        go_wp2
        go_round
        case rel => exact ⟨k - 1, by omega, by omega, rfl, by rw [show ((k : Int) - 1 + 1).toNat = k by omega, HD.out]; simp [hk]⟩
        case measure => simp [intOf]
      · have hj : j = -1 := by omega
        subst hj
        go_wp2
        go_ret
        exact ⟨rfl, rfl⟩

theorem info_u32 : (Tryd.prog.info? 25).map (fun i => (i.zero, i.size, i.bytes)) = some (some (.int .u32 0), 1, 4) := by kernel_rfl

/-- the row of the first k bits -/
def rowB (f : Nat → Bool) (k : Nat) : List Value := (List.range k).map fun j => Value.int .u32 ((f j).toNat : Nat)
theorem rowB_succ (f : Nat → Bool) (k : Nat) : rowB f (k + 1) = rowB f k ++ [Value.int .u32 ((f k).toNat : Nat)] := by simp [rowB, List.range_succ]
theorem rowB_map (f : Nat → Bool) (k : Nat) : rowB f k = (((List.range k).map fun j => (f j).toNat).map fun x => Value.int .u32 (x : Nat)) := by simp [rowB]

theorem below_app {B : Nat} {w wr w1 : World} {e size n : Nat} {v : Value} {xs : List Value} {o : Obj} (hbel : Below B w wr) (hB : B ≤ w.heap.size) (hown : wr.ownsRow B e size v n xs) (hgrow : (wr.alloc o).grownBy w1 v.ownBlock) : Below B w w1 :=
  (hbel.alloc (by have := hbel.size; omega) o).grown hgrow (by have := hbel.size; simp; omega) (fun j hj => (hown.lt j hj).1)

theorem cell_new1 (w : World) (x : Value) (t : TypeId) : ∀ j u, [x][j]? = some u → (w.alloc (.cells #[x] t)).cell? ((⟨w.heap.size, 0, none⟩ : Addr).add j) = some u := by
  intro j u hj
  match j, hj with
  | 0, hj =>
    simp at hj
    subst hj
    show (w.alloc (.cells #[x] t)).cell? ⟨w.heap.size, 0, none⟩ = some x
    rw [World.cell?_alloc_at _ _ _ _ rfl]
    rfl
theorem one_int (k : IntKind) (x : Int) : ∀ u ∈ [Value.int k x], u.oneCell' = true := by
  intro u hu
  simp at hu
  subst hu
  rfl

theorem ofB_any (w : World) (base : Nat) (v : Value) (f : Nat → Bool) (N : Nat) (hN : N ≤ 32) (hown : w.ownsRow base 25 1 v N (rowB f N)) :
    Calls Tryd.prog 90 #[v] w fun e w' => e = .returned (.int .u32 (mk f N : Nat)) ∧ w = w' := by
  have hlen : ((List.range N).map fun j => (f j).toNat).length = N := by simp
  have h := of_any w base v ((List.range N).map fun j => (f j).toNat) (by omega) (by rw [← rowB_map, hlen]; exact hown)
  rw [ofL_mk _ _ hN] at h
  exact h

theorem refField_any (a i n : Int) (ha : 0 ≤ a) (w : World) :
    Calls Tryd.prog 64 #[.int .u32 a, .int .i64 i, .int .i64 n] w fun e w' => e = .returned (.int .u32 (fld a i n : Nat)) ∧ Below w.heap.size w w' := by
  cases hf : fitsB i n
  · have e : fld a i n = 0 := by simp [fld, hf]
    rw [e]
    clear e
    go_enter Tryd.func64, Tryd.ntmps64
    go_wp2_with (go_at_call 91; refine (fits_any _ _ _).mono ?_; rintro e w' ⟨rfl, rfl⟩)
    go_ret
    exact ⟨rfl, Below.refl _ _⟩
  · have h := fitsB_iff.1 hf
    obtain ⟨h0, h1, h2, h3⟩ := h
    obtain ⟨N, rfl⟩ := Int.eq_ofNat_of_zero_le (show 0 ≤ n by omega)
    obtain ⟨i0, hi, hz0, hz1, hz2⟩ := info_parts info_u32
    obtain ⟨f, Hf⟩ : ∃ f : Nat → Bool, Hid (f = fun k => a.toNat.testBit (i.toNat + k)) := ⟨_, Lib.hid rfl⟩
    go_enter Tryd.func64, Tryd.ntmps64
    go_wp2_with (go_at_call 91; refine (fits_any _ _ _).mono ?_; rintro e w' ⟨rfl, rfl⟩)
    go_loopw [7, 8] (fun v i wr => ∃ k : Nat, k ≤ N ∧ i = .int .i64 k ∧ wr.ownsRow w.heap.size 25 1 v k (rowB f k) ∧ Below w.heap.size w wr) (fun _ i _ => N - (intOf i).toNat)
    case atStart => exact ⟨0, Nat.zero_le _, rfl, World.ownsRow_made _ _ _ (Nat.le_refl _) (by simp [maxLen]) rfl, (Below.refl _ _).alloc (Nat.le_refl _) _⟩
    case round =>
      obtain ⟨k, hk, rfl, hown, hbel⟩ := hrel
      by_cases hkn : k < N
      · go_wp2_with (first | (go_at_call 89; refine (bit_any _ _ ha (by omega) (by omega) _).mono ?_; rintro e w' ⟨rfl, rfl⟩) | (at_builtin; refine (wpList_append_own _ rfl (.tmp 19) (.tmp 25) 22 rfl w.heap.size 25 i0 (.int .u32 0) 1 4 Tryd.underlying22 hi hz0 hz1 hz2 rfl (by decide) _ _ _ rfl (hown.alloc _) ⟨wr.heap.size, 0, none⟩ 1 1 [_] rfl rfl (cell_new1 _ _ _) (one_int _ _) ?c3 ?c4 ?c5 ?_)))
        case c3 => unfold maxLen; omega
        case c4 => omega
        case c5 => have := hbel.size; simp; omega
        intro v' w1 hown' hgrow _
        have hbel1 := below_app hbel (Nat.le_refl _) hown hgrow
        have hown1 : w1.ownsRow w.heap.size 25 1 v' (k + 1) (rowB f (k + 1)) := by
          rw [rowB_succ, Hf.out]
          rw [show (i + (k : Int)).toNat = i.toNat + k by omega] at hown'
          rw [Hf.out] at hown'
          exact hown'
        clear hown' hgrow hown hbel
        go_wp2
        go_roundw
        case rel => exact ⟨k + 1, by omega, by go_num, hown1, hbel1⟩
        case measure => simp [intOf]; omega
      · have hkN : k = N := by omega
        subst hkN
        have HF : Hid (mk f k = fld a i k) := by
          show _ = _
          rw [Hf.out]
          simp [fld, hf]
        go_wp2_with (go_at_call 90; refine (ofB_any _ _ _ f k (by omega) hown).mono ?_; rintro e w' ⟨rfl, rfl⟩)
        go_ret
        exact ⟨ret_int (by rw [HF.out]), hbel⟩

/-- one bit more in the row -/
theorem row_step {w wr w1 : World} {v v' : Value} {f : Nat → Bool} {k : Nat} {o : Obj} {b : Bool} (hbel : Below w.heap.size w wr) (hown : wr.ownsRow w.heap.size 25 1 v k (rowB f k))
    (hgrow : (wr.alloc o).grownBy w1 v.ownBlock) (hown' : w1.ownsRow w.heap.size 25 1 v' (k + 1) (rowB f k ++ [Value.int .u32 (b.toNat : Nat)])) (hb : b = f k) :
    w1.ownsRow w.heap.size 25 1 v' (k + 1) (rowB f (k + 1)) ∧ Below w.heap.size w w1 :=
  ⟨by rw [rowB_succ, ← hb]; exact hown', below_app hbel (Nat.le_refl _) hown hgrow⟩

theorem refSext_any (a n : Int) (ha : 0 ≤ a) (w : World) :
    Calls Tryd.prog 63 #[.int .u32 a, .int .i64 n] w fun e w' => e = .returned (.int .u32 (sxt a n : Nat)) ∧ Below w.heap.size w w' := by
  by_cases hn : 1 ≤ n
  · by_cases hn2 : n ≤ 32
    · obtain ⟨N, rfl⟩ := Int.eq_ofNat_of_zero_le (show 0 ≤ n by omega)
      obtain ⟨i0, hi, hz0, hz1, hz2⟩ := info_parts info_u32
      obtain ⟨f, Hf⟩ : ∃ f : Nat → Bool, Hid (f = sxb N a.toNat) := ⟨_, Lib.hid rfl⟩
      go_enter Tryd.func63, Tryd.ntmps63
      go_wp2
      go_loopw [5, 6] (fun v i wr => ∃ k : Nat, k ≤ 32 ∧ i = .int .i64 k ∧ wr.ownsRow w.heap.size 25 1 v k (rowB f k) ∧ Below w.heap.size w wr) (fun _ i _ => 32 - (intOf i).toNat)
      case atStart => exact ⟨0, Nat.zero_le _, rfl, World.ownsRow_made _ _ _ (Nat.le_refl _) (by simp [maxLen]) rfl, (Below.refl _ _).alloc (Nat.le_refl _) _⟩
      case round =>
        obtain ⟨k, hk, rfl, hown, hbel⟩ := hrel
        by_cases hkn : k < 32
        · by_cases c1 : k < N
          · go_wp2_with (first | (go_at_call 89; refine (bit_any _ _ ha (by omega) (by omega) _).mono ?_; rintro e w' ⟨rfl, rfl⟩) | (at_builtin; refine wpList_append_own _ rfl (.tmp 22) (.tmp 26) 22 rfl w.heap.size 25 i0 (.int .u32 0) 1 4 Tryd.underlying22 hi hz0 hz1 hz2 rfl (by decide) _ _ _ rfl (hown.alloc _) ⟨wr.heap.size, 0, none⟩ 1 1 [_] rfl rfl (cell_new1 _ _ _) (one_int _ _) ?_ ?_ ?_ ?_))
            · unfold maxLen; omega
            · omega
            · have := hbel.size; simp; omega
            intro v' w1 hown' hgrow _
            have R := row_step hbel hown hgrow hown' (by rw [Hf.out]; simp [sxb, c1])
            clear hown' hgrow hown hbel
            go_wp2
            go_roundw
            case rel => exact ⟨k + 1, by omega, by go_num, R.1, R.2⟩
            case measure => simp [intOf]; omega
          · go_wp2_with (first | (go_at_call 89; refine (bit_any _ _ ha (by omega) (by omega) _).mono ?_; rintro e w' ⟨rfl, rfl⟩) | (at_builtin; refine wpList_append_own _ rfl (.tmp 28) (.tmp 33) 22 rfl w.heap.size 25 i0 (.int .u32 0) 1 4 Tryd.underlying22 hi hz0 hz1 hz2 rfl (by decide) _ _ _ rfl (hown.alloc _) ⟨wr.heap.size, 0, none⟩ 1 1 [_] rfl rfl (cell_new1 _ _ _) (one_int _ _) ?_ ?_ ?_ ?_))
            · unfold maxLen; omega
            · omega
            · have := hbel.size; simp; omega
            intro v' w1 hown' hgrow _
            have R := row_step hbel hown hgrow hown' (by rw [Hf.out]; simp [sxb, c1])
            clear hown' hgrow hown hbel
            go_wp2
            go_roundw
            case rel => exact ⟨k + 1, by omega, by go_num, R.1, R.2⟩
            case measure => simp [intOf]; omega
        · have hkN : k = 32 := by omega
          subst hkN
          have HF : Hid (mk f 32 = sxt a N) := by
            show _ = _
            rw [Hf.out]
            have hd : decide (1 ≤ (N : Int) ∧ (N : Int) ≤ 32) = true := by simp; omega
            unfold sxt
            rw [hd]
            rfl
          go_wp2_with (go_at_call 90; refine (ofB_any _ _ _ f 32 (by omega) hown).mono ?_; rintro e w' ⟨rfl, rfl⟩)
          go_ret
          exact ⟨ret_int (by rw [HF.out]), hbel⟩
    · have e : a = (sxt a n : Nat) := by simp [sxt, hn2]; omega
      have H := Lib.hid e
      clear e
      go_enter Tryd.func63, Tryd.ntmps63
      go_wp2
      go_ret
      exact ⟨ret_int H.out, Below.refl _ _⟩
  · have e : a = (sxt a n : Nat) := by simp [sxt, hn]; omega
    have H := Lib.hid e
    clear e
    go_enter Tryd.func63, Tryd.ntmps63
    go_wp2
    go_ret
    exact ⟨ret_int H.out, Below.refl _ _⟩

end Go.Proofs.YtkamljmopbocnaaDoor
