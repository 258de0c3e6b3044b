import Derived.Test.YtkamljmopbocnaaChecked
import Derived.Test.YtkamljmopbocnaaMathB
import Derived.WalkKit
import Derived.ProofKit
import Derived.Deep.QuietTactic
import Derived.BigQuiet
import Derived.Lib.Hide
import Derived.Laws.BytesArg
import Derived.WalkLawsBesides
/-
  THE CONTRACTS of package word and of the bits of package auspexref01, over this seat's translation.
-/
namespace Go.Proofs.Ytkamljmopbocnaa
open Go.ChangeShapes Go.WideShapes Go.ChangeAt Go.RowKit
set_option maxRecDepth 100000

theorem ret_int {k : IntKind} {a b : Int} (h : a = b) : Ending.returned (.int k a) = .returned (.int k b) := by rw [h]
theorem ret_bool {a b : Bool} (h : a = b) : Ending.returned (.bool a) = .returned (.bool b) := by rw [h]

/-- a slice value that owns a row of words: nil or empty, or it leads to the cells -/
theorem row_words {w : World} {base e : Nat} {v : Value} {xs : List Nat} (hown : w.ownsRow base e 1 v xs.length (xs.map fun x => Value.int .u32 (x : Nat))) :
    (xs = [] ∧ ∃ a cap, v = .slice a 0 cap) ∨ ∃ g cap, v = .slice (some ⟨g, 0, none⟩) xs.length cap ∧ ∀ j, j < xs.length → w.cell? ⟨g, j, none⟩ = some (.int .u32 (xs[j]?.getD 0 : Nat)) := by
  rcases hown.2 with ⟨rfl, hn⟩ | ⟨g, cap, cur, rfl, hg, hh, r⟩
  · have : xs = [] := by simpa using hn
    subst this
    exact .inl ⟨rfl, none, 0, rfl⟩
  · refine .inr ⟨g, cap, rfl, fun j h => ?_⟩
    have := hown.cellAt j (by omega)
    rw [this]
    simp [h]

theorem info_u32 : (Try.prog.info? 24).map (fun i => (i.zero, i.size, i.bytes)) = some (some (.int .u32 0), 1, 4) := by kernel_rfl

/-- the row of the first k bits -/
def rowB (f : Nat → Bool) (k : Nat) : List Value := (List.range k).map fun j => Value.int .u32 ((f j).toNat : Nat)
theorem rowB_succ (f : Nat → Bool) (k : Nat) : rowB f (k + 1) = rowB f k ++ [Value.int .u32 ((f k).toNat : Nat)] := by simp [rowB, List.range_succ]
theorem rowB_map (f : Nat → Bool) (k : Nat) : rowB f k = (((List.range k).map fun j => (f j).toNat).map fun x => Value.int .u32 (x : Nat)) := by simp [rowB]

theorem below_app {B : Nat} {w wr w1 : World} {e size n : Nat} {v : Value} {xs : List Value} {o : Obj} (hbel : Below B w wr) (hB : B ≤ w.heap.size) (hown : wr.ownsRow B e size v n xs) (hgrow : (wr.alloc o).grownBy w1 v.ownBlock) : Below B w w1 :=
  (hbel.alloc (by have := hbel.size; omega) o).grown hgrow (by have := hbel.size; simp; omega) (fun j hj => (hown.lt j hj).1)

theorem cell_new1 (w : World) (x : Value) (t : TypeId) : ∀ j u, [x][j]? = some u → (w.alloc (.cells #[x] t)).cell? ((⟨w.heap.size, 0, none⟩ : Addr).add j) = some u := by
  intro j u hj
  match j, hj with
  | 0, hj =>
    simp at hj
    subst hj
    show (w.alloc (.cells #[x] t)).cell? ⟨w.heap.size, 0, none⟩ = some x
    rw [World.cell?_alloc_at _ _ _ _ rfl]
    rfl
theorem one_int (k : IntKind) (x : Int) : ∀ u ∈ [Value.int k x], u.oneCell' = true := by
  intro u hu
  simp at hu
  subst hu
  rfl

/-- one bit more in the row -/
theorem row_step {w wr w1 : World} {v v' : Value} {f : Nat → Bool} {k : Nat} {o : Obj} {b : Bool} (hbel : Below w.heap.size w wr) (hown : wr.ownsRow w.heap.size 24 1 v k (rowB f k))
    (hgrow : (wr.alloc o).grownBy w1 v.ownBlock) (hown' : w1.ownsRow w.heap.size 24 1 v' (k + 1) (rowB f k ++ [Value.int .u32 (b.toNat : Nat)])) (hb : b = f k) :
    w1.ownsRow w.heap.size 24 1 v' (k + 1) (rowB f (k + 1)) ∧ Below w.heap.size w w1 :=
  ⟨by rw [rowB_succ, ← hb]; exact hown', below_app hbel (Nat.le_refl _) hown hgrow⟩

end Go.Proofs.Ytkamljmopbocnaa

/- What the laws of layer 1 have in common: that the program is alive; that new blocks alone come to be. -/
namespace Go.Proofs.Ytkamljmopbocnaa
open Go.ChangeShapes Go.WideShapes Go.ChangeAt Go.RowKit
set_option maxRecDepth 100000

theorem bthen {a b c : World} (h : Below a.heap.size a b) (k : Below b.heap.size b c) : Below a.heap.size a c := h.trans (k.mono h.size)
theorem bdrewN {B : Nat} {a w : World} (h : Below B a w) (n : Nat) : Below B a (w.drewN n) := ⟨h.os, h.tape, h.output, h.size, h.block⟩
theorem bthenN {a b c : World} {n : Nat} (h : Below a.heap.size a b) (k : Below b.heap.size (b.drewN n) c) : Below a.heap.size a c := h.trans ⟨k.os, k.tape, k.output, k.size, fun i hi => k.block i (Nat.lt_of_lt_of_le hi h.size)⟩

/-- what is owned from block B on, in a world whose old blocks stay -/
theorem own_below {w w2 : World} {B e size n : Nat} {v : Value} {xs : List Value} (h : w.ownsRow B e size v n xs) (hb : Below w.heap.size w w2) : w2.ownsRow B e size v n xs := by
  refine ⟨h.1, ?_⟩
  rcases h.2 with h0 | ⟨g, cap, cur, hv, hg, hh, r⟩
  · exact .inl h0
  · have hlt : g < w.heap.size := by
      rcases Nat.lt_or_ge g w.heap.size with h' | h'
      · exact h'
      · rw [Array.getElem?_eq_none (by omega)] at hh; cases hh
    exact .inr ⟨g, cap, cur, hv, hg, by rw [hb.block g hlt]; exact hh, r⟩

end Go.Proofs.Ytkamljmopbocnaa

/- THE CONTRACTS of Bytes and Join, of package word and of auspexref01. -/
namespace Go.Proofs.Ytkamljmopbocnaa
open Go.ChangeShapes Go.WideShapes Go.ChangeAt Go.RowKit
set_option maxRecDepth 100000

theorem info_u8 : (Try.prog.info? 5).map (fun i => (i.zero, i.size, i.bytes)) = some (some (.int .u8 0), 1, 1) := by kernel_rfl

/-- byte k of a word -/
def byt (a : Int) (k : Nat) : Nat := fld a (8 * (k : Int)) 8
def bytL (a : Int) (n : Nat) : List Int := (List.range n).map fun k => (byt a k : Int)
theorem byt_lt (a : Int) (k : Nat) : byt a k < 256 := by
  unfold byt fld
  cases fitsB (8 * (k : Int)) 8
  · simp
  · rw [cond_true]; exact Nat.lt_of_lt_of_le (mk_lt _ _) (by decide)
theorem bytL_succ (a : Int) (k : Nat) : bytL a (k + 1) = bytL a k ++ [(byt a k : Int)] := by simp [bytL, List.range_succ]
theorem bytL_len (a : Int) (n : Nat) : (bytL a n).length = n := by simp [bytL]

theorem stored_byte {w : World} {base g N k : Nat} {a : Int} (hk : k < N)
    (h : w.ownsRow base 5 1 (.slice (some ⟨g, 0, none⟩) N N) N ((bytL a k ++ List.replicate (N - k) 0).map (Value.int .u8))) :
    (w.setCell ⟨g, k, none⟩ (.int .u8 (byt a k : Nat))).ownsRow base 5 1 (.slice (some ⟨g, 0, none⟩) N N) N ((bytL a (k + 1) ++ List.replicate (N - (k + 1)) 0).map (Value.int .u8)) := by
  have := h.stored k (.int .u8 (byt a k : Nat))
  have e : ((bytL a k ++ List.replicate (N - k) 0).map (Value.int .u8)).set k (.int .u8 (byt a k : Nat)) = (bytL a (k + 1) ++ List.replicate (N - (k + 1)) 0).map (Value.int .u8) := by
    rw [← List.map_set, bytL_succ]
    congr 1
    have hl := bytL_len a k
    rw [show N - k = (N - (k + 1)) + 1 by omega, List.replicate_succ, List.set_append_right _ _ (by omega), hl]
    simp
  rw [e] at this
  exact this.1

/-- the word that bytes make -/
def joinN : List UInt8 → Nat
  | [] => 0
  | b :: r => 256 * joinN r + b.toNat
theorem joinN_lt : ∀ l, joinN l < 2 ^ (8 * l.length)
  | [] => by simp [joinN]
  | b :: r => by
    have h := joinN_lt r
    have hb := b.toNat_lt
    simp only [joinN, List.length_cons]
    rw [show 8 * (r.length + 1) = 8 * r.length + 8 by omega, Nat.pow_add]
    generalize 2 ^ (8 * r.length) = P at *
    omega
theorem joinN_lt32 {l : List UInt8} (h : l.length ≤ 4) : joinN l < 4294967296 :=
  Nat.lt_of_lt_of_le (joinN_lt l) (Nat.pow_le_pow_right (n := 2) (by omega) (show 8 * l.length ≤ 32 by omega))
theorem joinN_snoc : ∀ (l : List UInt8) (b : UInt8), joinN (l ++ [b]) = joinN l + 2 ^ (8 * l.length) * b.toNat
  | [], b => by simp [joinN]
  | c :: r, b => by
    simp only [List.cons_append, joinN, joinN_snoc r b, List.length_cons]
    rw [show 8 * (r.length + 1) = 8 * r.length + 8 by omega, Nat.pow_add, Nat.mul_add, Nat.add_right_comm]
    congr 1
    rw [Nat.mul_comm (2 ^ (8 * r.length)) (2 ^ 8), Nat.mul_assoc]

/-- a byte set behind the others -/
theorem stw_join (l : List UInt8) (b : UInt8) (h : l.length < 4) : stw (joinN l : Nat) (8 * (l.length : Int)) 8 (b.toNat : Nat) = joinN (l ++ [b]) := by
  have hf : fitsB (8 * (l.length : Int)) 8 = true := fitsB_iff.2 (by omega)
  have hlt := joinN_lt l
  have hlt32 := joinN_lt32 (l := l) (by omega)
  have hb := b.toNat_lt
  rw [joinN_snoc]
  refine Nat.eq_of_testBit_eq fun k => ?_
  rw [testBit_stw _ _ _ _ _ hf, Nat.add_comm, Nat.testBit_two_pow_mul_add _ hlt]
  unfold stb
  simp only [Int.toNat_natCast]
  rw [show (8 * (l.length : Int)).toNat = 8 * l.length by omega, show (8 : Int).toNat = 8 from rfl]
  by_cases h1 : k < 8 * l.length
  · simp [h1, show ¬ 8 * l.length ≤ k by omega, show k < 32 by omega]
  · by_cases h2 : k < 8 * l.length + 8
    · simp [h1, h2, show 8 * l.length ≤ k by omega, show k < 32 by omega]
    · have e1 : b.toNat.testBit (k - 8 * l.length) = false := Nat.testBit_lt_two_pow (Nat.lt_of_lt_of_le hb (Nat.pow_le_pow_right (n := 2) (by omega) (show 8 ≤ k - 8 * l.length by omega)))
      have e2 : (joinN l).testBit k = false := Nat.testBit_lt_two_pow (Nat.lt_of_lt_of_le hlt (Nat.pow_le_pow_right (n := 2) (by omega) (show 8 * l.length ≤ k by omega)))
      simp [h1, h2, e1, e2]

end Go.Proofs.Ytkamljmopbocnaa
