/- WHAT THE ROWS' LIST GIVES: the world holds the powers of ten; a world for the witness; arguments (floats, slices). -/
import Derived.Test.YtebeelphilfjhaaDoorCards
import Derived.Test.YtebeelphilfjhaaDoorGaugeU
import Derived.OpenShut
import Derived.Deep.DeepHandedRow
import Derived.Lib.LaidTab
import Derived.Deep.Slices
import Derived.ChangeSame
namespace Go.Proofs.YtebeelphilfjhaaDoor
open Go.ChangeShapes Go.WideShapes Go.ChangeAt Go.RowKit Go.Deep

theorem laidMet_tail {P : Program} {x : String × DataW Unit} {rest : List (String × DataW Unit)} {W : World} (h : laidMet P (x :: rest) W) : laidMet P rest W := by
  obtain ⟨ps, hv, hnd, hc⟩ := h
  obtain ⟨g, t, cs, fuel, p, q, _, _, _, _, hr, rfl⟩ := hv
  exact ⟨q, hr, (List.nodup_append.1 hnd).2.1, fun b off hm => hc b off (List.mem_append_right _ hm)⟩

theorem gTab : Tryd.prog.globalNamed "internal/strconv.uint64pow10" = some 1 := by kernel_rfl
theorem gTabType : (Tryd.prog.globals[1]?).map (·.type) = some 82 := by kernel_rfl
theorem cellsTab : Tryd.prog.cellsOf 82 = 20 := by kernel_rfl
theorem cellsU64 : Tryd.prog.cellsOf 67 = 1 := by kernel_rfl
theorem dataTab : (Rows.laid_internal_strconv_uint64pow10 : DataW Unit) = Lib.tabData .u64 Lib.pow10Tab := by kernel_rfl
theorem table {W : World} (h : laidMetH Tryd.prog Rows.gaugeOrderRow.laid W) : Tab W := by
  have h1 : laidMet Tryd.prog [("math/bits.deBruijn32tab", Rows.laid_math_bits_deBruijn32tab), ("math/bits.deBruijn64tab", Rows.laid_math_bits_deBruijn64tab), ("internal/strconv.uint64pow10", Rows.laid_internal_strconv_uint64pow10)] W := h
  have h2 := laidMet_tail (laidMet_tail h1)
  rw [dataTab] at h2
  exact Lib.tabIs_of_head gTab gTabType Tryd.underlying82 Tryd.underlying67 cellsU64 cellsTab h2

/-- the cells of a listed table -/
def litCells : DataW Unit → Array Value
  | .agg l => (l.map fun | .lit (.int k n) => Value.int k n | _ => .bool false).toArray
  | _ => #[]
noncomputable def layAt (w : World) (g : Nat) (d : DataW Unit) : World :=
  { w with heap := w.heap.modify g fun
      | .cells _ t frozen => .cells (litCells d) t frozen
      | o => o }
noncomputable def laidWorld (os : Os) : World :=
  layAt (layAt (layAt (World.holding Tryd.prog os ⟨#[], #[], []⟩) 2 Rows.laid_math_bits_deBruijn32tab) 3 Rows.laid_math_bits_deBruijn64tab) 1 Rows.laid_internal_strconv_uint64pow10

/-- the slice A, of n elements, holds these floats -/
def FltsAt (w : World) (A : Option Addr) (n : Nat) (l : List Nat) : Prop :=
  l.length = n ∧ ∀ j z, l[j]? = some z → z < 18446744073709551616 ∧ ∃ a, A = some a ∧ a.block < w.heap.size ∧ w.cell? (a.add j) = some (.float .f64 z)
theorem blk_add (a : Addr) (n : Nat) : (a.add n).block = a.block := by unfold Addr.add; split <;> rfl
theorem FltsAt.below {w w' : World} {A : Option Addr} {n : Nat} {l : List Nat} (h : FltsAt w A n l) (hb : Below w.heap.size w w') : FltsAt w' A n l :=
  ⟨h.1, fun j z hz => by
    obtain ⟨hl2, a, e, hl, hc⟩ := h.2 j z hz
    exact ⟨hl2, a, e, Nat.lt_of_lt_of_le hl hb.size, (hb.cell (p := a.add j) (by rw [blk_add]; exact hl)).trans hc⟩⟩
theorem FltsAt.at_ {w : World} {A : Option Addr} {n : Nat} {l : List Nat} (h : FltsAt w A n l) {j : Nat} (hj : j < n) : l.getD j 0 < 18446744073709551616 ∧ ∃ a, A = some a ∧ w.cell? (a.add j) = some (.float .f64 (l.getD j 0)) := by
  have hl : j < l.length := by rw [h.1]; exact hj
  obtain ⟨h2, a, e, _, hc⟩ := h.2 j l[j] (List.getElem?_eq_getElem hl)
  have e2 : l.getD j 0 = l[j] := by rw [List.getD_eq_getElem?_getD, List.getElem?_eq_getElem hl]; rfl
  rw [e2]
  exact ⟨h2, a, e, hc⟩
theorem FltsAt.take {w : World} {A : Option Addr} {n m : Nat} {l : List Nat} (h : FltsAt w A n l) (hm : m ≤ n) : FltsAt w A m (l.take m) :=
  ⟨by rw [List.length_take, h.1]; omega, fun j z hz => by
    rw [List.getElem?_take] at hz
    by_cases hj : j < m
    · rw [if_pos hj] at hz; exact h.2 j z hz
    · rw [if_neg hj] at hz; exact absurd hz (by simp)⟩

theorem trod_float {H : Type} {enc : TypeId × Value → H} {P : Program} {w : World} {base : Nat} {sp : Nat → Bool} {held : Bool} {m : Nat} {t : TypeId} {k : FloatKind} {v : Value} {x : DataW H × List MemPlace}
    (ht : P.underlying t = some (.float k)) (h : DataW.trod enc P w base sp held m t [v] = some x) : ∃ b, v = .float k b ∧ (Lit.float k b).wf = true := by
  cases m with
  | zero => simp [DataW.trod] at h
  | succ m =>
    simp only [DataW.trod, ht] at h
    cases v <;> simp_all

theorem arg_floats {H : Type} {enc : TypeId × Value → H} {P : Program} {w : World} {base : Nat} {held : Bool} {r : Reach} {b0 : Nat} {t e : TypeId} {v : Value} {d : DataW H} {p : List MemPlace}
    (ht : P.underlying t = some (.slice e)) (he : P.underlying e = some (.float .f64)) (hc : P.cellsOf e = 1) (hv : Value.okWide P w r b0 t v) (h : DataW.Trod enc P w base (fun _ => true) held t v d p) :
    ∃ (A : Option Addr) (n cap : Nat) (l : List Nat), v = .slice A n cap ∧ n ≤ cap ∧ cap ≤ maxLen ∧ FltsAt w A n l := by
  obtain ⟨A, n, cap, rfl⟩ := okWide_slice ht hv
  obtain ⟨fuel, hf⟩ := h
  rcases open_slice1 ht hc hf with ⟨hcs, _⟩ | ⟨a, len, cap', m, n', V, D, Pl, hcs, _, hl, hm, hmm, _, hx⟩
  · have e1 : Value.slice A n cap = .slice none 0 0 := by simpa [Value.cells] using hcs
    injection e1 with e1 e2 e3
    subst e1 e2 e3
    exact ⟨none, 0, 0, [], rfl, Nat.le_refl _, Nat.zero_le _, ⟨rfl, fun j z hz => by simp at hz⟩⟩
  · have e1 : Value.slice A n cap = .slice (some a) len cap' := by simpa [Value.cells] using hcs
    injection e1 with e1 e2 e3
    subst e1 e2 e3
    simp only [if_true] at hmm
    subst hmm
    obtain ⟨B, hB⟩ := choose_lt (α := Nat) (p := fun i b => V i = .float .f64 b ∧ (Lit.float .f64 b).wf = true) (fun i hi => trod_float he (hx i hi).2)
    refine ⟨some a, n, m, (List.range n).map B, rfl, hl, hm, ⟨by simp, fun j z hj => ?_⟩⟩
    have hjn : j < n := by
      have := (List.getElem?_eq_some_iff.1 hj).1
      simpa using this
    have hz : z = B j := by
      rw [List.getElem?_map, List.getElem?_range hjn] at hj
      simpa using hj.symm
    subst hz
    have hc' := (hx j (by omega)).1
    rw [(hB j (by omega)).1] at hc'
    refine ⟨by simpa [Lit.wf] using (hB j (by omega)).2, a, rfl, ?_, hc'⟩
    have := World.block_lt_of_cell? w (a.add j) hc'
    rwa [blk_add] at this

/-- a slice of whatever: its length and capacity -/
theorem arg_any_slice {H : Type} {enc : TypeId × Value → H} {P : Program} {w : World} {base : Nat} {held : Bool} {r : Reach} {b0 : Nat} {t e : TypeId} {v : Value} {d : DataW H} {p : List MemPlace}
    (ht : P.underlying t = some (.slice e)) (hv : Value.okWide P w r b0 t v) (h : DataW.Trod enc P w base (fun _ => true) held t v d p) :
    ∃ (A : Option Addr) (n cap : Nat), v = .slice A n cap ∧ n ≤ cap ∧ cap ≤ maxLen := by
  obtain ⟨A, n, cap, rfl⟩ := okWide_slice ht hv
  obtain ⟨fuel, hf⟩ := h
  rcases open_slice ht hf with ⟨hcs, _⟩ | ⟨a, len, cap', m, n', D, Pl, hcs, _, hl, hm, hmm, _, hx⟩
  · have e1 : Value.slice A n cap = .slice none 0 0 := by simpa [Value.cells] using hcs
    injection e1 with e1 e2 e3
    subst e1 e2 e3
    exact ⟨none, 0, 0, rfl, Nat.le_refl _, Nat.zero_le _⟩
  · have e1 : Value.slice A n cap = .slice (some a) len cap' := by simpa [Value.cells] using hcs
    injection e1 with e1 e2 e3
    subst e1 e2 e3
    exact ⟨some a, n, cap, rfl, hl, hm⟩

end Go.Proofs.YtebeelphilfjhaaDoor
