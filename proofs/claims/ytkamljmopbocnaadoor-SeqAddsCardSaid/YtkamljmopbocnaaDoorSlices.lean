/- ARGUMENTS: a slice of numbers, as it came in: its numbers, nil let in. -/
import Derived.Test.YtkamljmopbocnaaDoorArgs
import Derived.ChangeSlices
import Derived.Deep.Grids
import Derived.Below
namespace Go.Proofs.YtkamljmopbocnaaDoor
open Go.ChangeShapes Go.WideShapes Go.ChangeAt Go.RowKit
set_option maxRecDepth 100000

/-- the slice A, of n elements, holds these numbers -/
def IntsAt (w : World) (A : Option Addr) (n : Nat) (k : IntKind) (zs : List Int) : Prop :=
  zs.length = n ∧ ∀ j z, zs[j]? = some z → ∃ a, A = some a ∧ a.block < w.heap.size ∧ w.cell? (a.add j) = some (.int k z)
theorem block_add (a : Addr) (n : Nat) : (a.add n).block = a.block := by unfold Addr.add; split <;> rfl
theorem IntsAt.below {w w' : World} {A : Option Addr} {n : Nat} {k : IntKind} {zs : List Int} (h : IntsAt w A n k zs) (hb : Below w.heap.size w w') : IntsAt w' A n k zs :=
  ⟨h.1, fun j z hz => by
    obtain ⟨a, e, hl, hc⟩ := h.2 j z hz
    exact ⟨a, e, Nat.lt_of_lt_of_le hl hb.size, (hb.cell (p := a.add j) (by rw [block_add]; exact hl)).trans hc⟩⟩
theorem IntsAt.belowB {w w' : World} {B : Nat} {A : Option Addr} {n : Nat} {k : IntKind} {zs : List Int} (h : IntsAt w A n k zs) (hB : w.heap.size ≤ B) (hb : Below B w w') : IntsAt w' A n k zs := h.below (hb.mono hB)
/-- an element of it -/
theorem IntsAt.at_ {w : World} {A : Option Addr} {n : Nat} {k : IntKind} {zs : List Int} (h : IntsAt w A n k zs) {j : Nat} (hj : j < n) : ∃ a, A = some a ∧ w.cell? (a.add j) = some (.int k (zs.getD j 0)) := by
  have hl : j < zs.length := by rw [h.1]; exact hj
  obtain ⟨a, e, _, hc⟩ := h.2 j zs[j] (List.getElem?_eq_getElem hl)
  exact ⟨a, e, by rw [List.getD_eq_getElem?_getD, List.getElem?_eq_getElem hl]; exact hc⟩
/-- its beginning -/
theorem IntsAt.take {w : World} {A : Option Addr} {n m : Nat} {k : IntKind} {zs : List Int} (h : IntsAt w A n k zs) (hm : m ≤ n) : IntsAt w A m k (zs.take m) :=
  ⟨by rw [List.length_take, h.1]; omega, fun j z hz => by
    rw [List.getElem?_take] at hz
    by_cases hj : j < m
    · rw [if_pos hj] at hz; exact h.2 j z hz
    · rw [if_neg hj] at hz; exact absurd hz (by simp)⟩

theorem arg_ints {H : Type} {enc : TypeId × Value → H} {P : Program} {w : World} {base : Nat} {held : Bool} {r : Reach} {b0 : Nat} {t e : TypeId} {k : IntKind} {v : Value} {d : DataW H} {p : List MemPlace}
    (ht : P.underlying t = some (.slice e)) (he : P.underlying e = some (.int k)) (hc : P.cellsOf e = 1) (hv : Value.okWide P w r b0 t v) (h : DataW.Trod enc P w base (fun _ => true) held t v d p) :
    ∃ (A : Option Addr) (n cap : Nat) (zs : List Int), v = .slice A n cap ∧ n ≤ cap ∧ cap ≤ maxLen ∧ IntsAt w A n k zs ∧ ∀ z ∈ zs, (Lit.int k z).wf = true := by
  obtain ⟨A, n, cap, rfl⟩ := okWide_slice ht hv
  obtain ⟨fuel, hf⟩ := h
  rcases open_ints ht he hc hf with ⟨hcs, _⟩ | ⟨a, len, cap', zs, hcs, _, hl, hm, hz, _, hcell, hwz⟩
  · have e1 : Value.slice A n cap = .slice none 0 0 := by simpa [Value.cells] using hcs
    injection e1 with e1 e2 e3
    subst e1 e2 e3
    exact ⟨none, 0, 0, [], rfl, Nat.le_refl _, Nat.zero_le _, ⟨rfl, fun j z hz => by simp at hz⟩, fun z hz => by cases hz⟩
  · have e1 : Value.slice A n cap = .slice (some a) len cap' := by simpa [Value.cells] using hcs
    injection e1 with e1 e2 e3
    subst e1 e2 e3
    have hzl : zs.length = cap := by simpa using hz
    refine ⟨some a, n, cap, zs.take n, rfl, hl, hm, ⟨by rw [List.length_take]; omega, fun j z hj => ?_⟩, fun z hzz => hwz z (List.mem_of_mem_take hzz)⟩
    rw [List.getElem?_take] at hj
    by_cases hjn : j < n
    · rw [if_pos hjn] at hj
      have hjl : j < zs.length := by omega
      have hc' := hcell j hjl
      have hzj : zs.getD j 0 = z := by rw [List.getD_eq_getElem?_getD, hj]; rfl
      rw [hzj] at hc'
      refine ⟨a, rfl, ?_, hc'⟩
      have := World.block_lt_of_cell? w (a.add j) hc'
      rwa [block_add] at this
    · rw [if_neg hjn] at hj; exact absurd hj (by simp)

/-- the slice A, of n elements, holds these bools -/
def BoolsAt (w : World) (A : Option Addr) (n : Nat) (cs : List Bool) : Prop :=
  cs.length = n ∧ ∀ j z, cs[j]? = some z → ∃ a, A = some a ∧ a.block < w.heap.size ∧ w.cell? (a.add j) = some (.bool z)
theorem BoolsAt.below {w w' : World} {A : Option Addr} {n : Nat} {cs : List Bool} (h : BoolsAt w A n cs) (hb : Below w.heap.size w w') : BoolsAt w' A n cs :=
  ⟨h.1, fun j z hz => by
    obtain ⟨a, e, hl, hc⟩ := h.2 j z hz
    exact ⟨a, e, Nat.lt_of_lt_of_le hl hb.size, (hb.cell (p := a.add j) (by rw [block_add]; exact hl)).trans hc⟩⟩
theorem BoolsAt.at_ {w : World} {A : Option Addr} {n : Nat} {cs : List Bool} (h : BoolsAt w A n cs) {j : Nat} (hj : j < n) : ∃ a, A = some a ∧ w.cell? (a.add j) = some (.bool (cs.getD j false)) := by
  have hl : j < cs.length := by rw [h.1]; exact hj
  obtain ⟨a, e, _, hc⟩ := h.2 j cs[j] (List.getElem?_eq_getElem hl)
  exact ⟨a, e, by rw [List.getD_eq_getElem?_getD, List.getElem?_eq_getElem hl]; exact hc⟩
theorem BoolsAt.take {w : World} {A : Option Addr} {n m : Nat} {cs : List Bool} (h : BoolsAt w A n cs) (hm : m ≤ n) : BoolsAt w A m (cs.take m) :=
  ⟨by rw [List.length_take, h.1]; omega, fun j z hz => by
    rw [List.getElem?_take] at hz
    by_cases hj : j < m
    · rw [if_pos hj] at hz; exact h.2 j z hz
    · rw [if_neg hj] at hz; exact absurd hz (by simp)⟩
theorem arg_bools {H : Type} {enc : TypeId × Value → H} {P : Program} {w : World} {base : Nat} {held : Bool} {r : Reach} {b0 : Nat} {t e : TypeId} {v : Value} {d : DataW H} {p : List MemPlace}
    (ht : P.underlying t = some (.slice e)) (he : P.underlying e = some .bool) (hc : P.cellsOf e = 1) (hv : Value.okWide P w r b0 t v) (h : DataW.Trod enc P w base (fun _ => true) held t v d p) :
    ∃ (A : Option Addr) (n cap : Nat) (cs : List Bool), v = .slice A n cap ∧ n ≤ cap ∧ cap ≤ maxLen ∧ BoolsAt w A n cs := by
  obtain ⟨A, n, cap, rfl⟩ := okWide_slice ht hv
  obtain ⟨fuel, hf⟩ := h
  rcases Go.Deep.open_bools ht he hc hf with ⟨hcs, _⟩ | ⟨a, len, cap', B, hcs, _, hl, hm, _, hcell⟩
  · have e1 : Value.slice A n cap = .slice none 0 0 := by simpa [Value.cells] using hcs
    injection e1 with e1 e2 e3
    subst e1 e2 e3
    exact ⟨none, 0, 0, [], rfl, Nat.le_refl _, Nat.zero_le _, ⟨rfl, fun j z hz => by simp at hz⟩⟩
  · have e1 : Value.slice A n cap = .slice (some a) len cap' := by simpa [Value.cells] using hcs
    injection e1 with e1 e2 e3
    subst e1 e2 e3
    refine ⟨some a, n, cap, (List.range n).map B, rfl, hl, hm, ⟨by simp, fun j z hj => ?_⟩⟩
    have hjn : j < n := by
      have := (List.getElem?_eq_some_iff.1 hj).1
      simpa using this
    have hz : z = B j := by
      rw [List.getElem?_map, List.getElem?_range hjn] at hj
      simpa using hj.symm
    subst hz
    have hc' := hcell j (by omega)
    refine ⟨a, rfl, ?_, hc'⟩
    have := World.block_lt_of_cell? w (a.add j) hc'
    rwa [block_add] at this

end Go.Proofs.YtkamljmopbocnaaDoor
