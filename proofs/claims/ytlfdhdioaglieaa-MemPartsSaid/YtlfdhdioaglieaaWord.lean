/-
  THE CONTRACTS of package word and of the bits of package auspexref01, over this seat's translation.
-/
import Derived.Test.YtlfdhdioaglieaaChecked
import Derived.Test.YtlfdhdioaglieaaMath
import Derived.WalkKit
import Derived.ProofKit
import Derived.Deep.QuietTactic
import Derived.BigQuiet
import Derived.Lib.Hide
namespace Go.Proofs.Ytlfdhdioaglieaa
open Go.ChangeShapes Go.WideShapes Go.ChangeAt Go.RowKit

theorem ret_int {k : IntKind} {a b : Int} (h : a = b) : Ending.returned (.int k a) = .returned (.int k b) := by rw [h]
theorem ret_bool {a b : Bool} (h : a = b) : Ending.returned (.bool a) = .returned (.bool b) := by rw [h]

theorem mask_any (n : Int) (h0 : 0 ≤ n) (h1 : n ≤ 32) (w : World) :
    Calls Try.prog 25 #[.int .i64 n] w fun e w' => e = .returned (.int .u32 (msk n : Nat)) ∧ w' = w := by
  go_enter Try.func25, Try.ntmps25
  go_wp2
  go_ret
  exact ⟨ret_int (mask_form n h0 h1), rfl⟩

theorem mayBe_any (i n : Int) (w : World) :
    Calls Try.prog 24 #[.int .i64 i, .int .i64 n] w fun e w' => e = .returned (.bool (fitsB i n)) ∧ w = w' := by
  go_enter Try.func24, Try.ntmps24
  go_wp2
  all_goals
    go_ret
    exact ⟨ret_bool (by first | (rw [fitsB, decide_eq_decide]; omega) | exact (fitsB_no.2 (by omega)).symm), rfl⟩

theorem set_any (a i n v : Int) (ha : 0 ≤ a) (ha' : a < 4294967296) (hv : 0 ≤ v) (hv' : v < 4294967296) (w : World) :
    Calls Try.prog 23 #[.int .u32 a, .int .i64 i, .int .i64 n, .int .u32 v] w fun e w' => e = .returned (.int .u32 (stw a i n v : Nat)) ∧ ∃ m, w' = w.drewN m := by
  cases hf : fitsB i n
  · have e : a = (stw a i n v : Nat) := by simp [stw, hf]; omega
    have H := Lib.hid e
    clear e
    go_enter Try.func23, Try.ntmps23
    go_wp2_with (go_at_call 24; refine (mayBe_any _ _ _).mono ?_; rintro e w' ⟨rfl, rfl⟩)
    go_ret
    exact ⟨ret_int H.out, 0, rfl⟩
  · have h := fitsB_iff.1 hf
    obtain ⟨h0, h1, h2, h3⟩ := h
    have H := Lib.hid (stw_form a i n v ha ha' hv hv' hf)
    go_enter Try.func23, Try.ntmps23
    go_wp2_with (first | (go_at_call 24; refine (mayBe_any _ _ _).mono ?_; rintro e w' ⟨rfl, rfl⟩) | (go_at_call 25; refine (mask_any _ (by omega) (by omega) _).mono ?_; rintro e w' ⟨rfl, rfl⟩))
    go_ret
    exact ⟨ret_int H.out, 0, rfl⟩

theorem sext_any (a n : Int) (ha : 0 ≤ a) (ha' : a < 4294967296) (w : World) :
    Calls Try.prog 22 #[.int .u32 a, .int .i64 n] w fun e w' => e = .returned (.int .u32 (sxt a n : Nat)) ∧ w = w' := by
  by_cases hn : 1 ≤ n
  · by_cases hn2 : n ≤ 32
    · have H := Lib.hid (sxt_form a n ha ha' hn hn2)
      go_enter Try.func22, Try.ntmps22
      go_wp2
      go_ret
      exact ⟨ret_int H.out, rfl⟩
    · have e : a = (sxt a n : Nat) := by simp [sxt, hn2]; omega
      have H := Lib.hid e
      clear e
      go_enter Try.func22, Try.ntmps22
      go_wp2
      go_ret
      exact ⟨ret_int H.out, rfl⟩
  · have e : a = (sxt a n : Nat) := by simp [sxt, hn]; omega
    have H := Lib.hid e
    clear e
    go_enter Try.func22, Try.ntmps22
    go_wp2
    go_ret
    exact ⟨ret_int H.out, rfl⟩

/-- a slice value that owns a row of words: nil or empty, or it leads to the cells -/
theorem row_words {w : World} {base e : Nat} {v : Value} {xs : List Nat} (hown : w.ownsRow base e 1 v xs.length (xs.map fun x => Value.int .u32 (x : Nat))) :
    (xs = [] ∧ ∃ a cap, v = .slice a 0 cap) ∨ ∃ g cap, v = .slice (some ⟨g, 0, none⟩) xs.length cap ∧ ∀ j, j < xs.length → w.cell? ⟨g, j, none⟩ = some (.int .u32 (xs[j]?.getD 0 : Nat)) := by
  rcases hown.2 with ⟨rfl, hn⟩ | ⟨g, cap, cur, rfl, hg, hh, r⟩
  · have : xs = [] := by simpa using hn
    subst this
    exact .inl ⟨rfl, none, 0, rfl⟩
  · refine .inr ⟨g, cap, rfl, fun j h => ?_⟩
    have := hown.cellAt j (by omega)
    rw [this]
    simp [h]

theorem info_u32 : (Try.prog.info? 22).map (fun i => (i.zero, i.size, i.bytes)) = some (some (.int .u32 0), 1, 4) := by kernel_rfl

/-- the row of the first k bits -/
def rowB (f : Nat → Bool) (k : Nat) : List Value := (List.range k).map fun j => Value.int .u32 ((f j).toNat : Nat)
theorem rowB_succ (f : Nat → Bool) (k : Nat) : rowB f (k + 1) = rowB f k ++ [Value.int .u32 ((f k).toNat : Nat)] := by simp [rowB, List.range_succ]
theorem rowB_map (f : Nat → Bool) (k : Nat) : rowB f k = (((List.range k).map fun j => (f j).toNat).map fun x => Value.int .u32 (x : Nat)) := by simp [rowB]

theorem below_app {B : Nat} {w wr w1 : World} {e size n : Nat} {v : Value} {xs : List Value} {o : Obj} (hbel : Below B w wr) (hB : B ≤ w.heap.size) (hown : wr.ownsRow B e size v n xs) (hgrow : (wr.alloc o).grownBy w1 v.ownBlock) : Below B w w1 :=
  (hbel.alloc (by have := hbel.size; omega) o).grown hgrow (by have := hbel.size; simp; omega) (fun j hj => (hown.lt j hj).1)

theorem cell_new1 (w : World) (x : Value) (t : TypeId) : ∀ j u, [x][j]? = some u → (w.alloc (.cells #[x] t)).cell? ((⟨w.heap.size, 0, none⟩ : Addr).add j) = some u := by
  intro j u hj
  match j, hj with
  | 0, hj =>
    simp at hj
    subst hj
    show (w.alloc (.cells #[x] t)).cell? ⟨w.heap.size, 0, none⟩ = some x
    rw [World.cell?_alloc_at _ _ _ _ rfl]
    rfl
theorem one_int (k : IntKind) (x : Int) : ∀ u ∈ [Value.int k x], u.oneCell' = true := by
  intro u hu
  simp at hu
  subst hu
  rfl

/-- one bit more in the row -/
theorem row_step {w wr w1 : World} {v v' : Value} {f : Nat → Bool} {k : Nat} {o : Obj} {b : Bool} (hbel : Below w.heap.size w wr) (hown : wr.ownsRow w.heap.size 22 1 v k (rowB f k))
    (hgrow : (wr.alloc o).grownBy w1 v.ownBlock) (hown' : w1.ownsRow w.heap.size 22 1 v' (k + 1) (rowB f k ++ [Value.int .u32 (b.toNat : Nat)])) (hb : b = f k) :
    w1.ownsRow w.heap.size 22 1 v' (k + 1) (rowB f (k + 1)) ∧ Below w.heap.size w w1 :=
  ⟨by rw [rowB_succ, ← hb]; exact hown', below_app hbel (Nat.le_refl _) hown hgrow⟩

end Go.Proofs.Ytlfdhdioaglieaa
