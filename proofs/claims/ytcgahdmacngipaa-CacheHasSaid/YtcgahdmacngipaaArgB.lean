import Derived.Test.YtcgahdmacngipaaRows
import Derived.OpenShut
import Derived.Lib.SmallJoins
import Derived.ChangeSlices
import Derived.Deep.Grids
import Derived.Below
import Derived.Lib.Hide
import Derived.WalkKit
import Derived.WalkLawsBesides
import Derived.Deep.QuietTactic
import Derived.BigQuiet
import Derived.OwnWalk
import Derived.Laws.OwnMore
import Derived.DataElems
import Derived.Deep.Fields
import Derived.Laws.AppendOwnNone
/- ARGUMENTS: a struct of one-cell fields, by value, taken field by field; an instruction. -/
namespace Go.Proofs.Ytcgahdmacngipaa
open Go.ChangeShapes Go.WideShapes Go.ChangeAt Go.RowKit Go.Joins Go.Deep
set_option maxRecDepth 100000

theorem arg_fields {H : Type} {enc : TypeId × Value → H} {P : Program} {w : World} {base : Nat} {sp : Nat → Bool} {held : Bool} {r : Reach} {b0 : Nat} {t : TypeId} {fs : Array Field} {v : Value} {d : DataW H} {p : List MemPlace}
    (hs : P.underlying t = some (.struct fs)) (hone : oneCellFields P fs = true) (hC : P.cellsOf t = fs.size) (hv : Value.okWide P w r b0 t v) (h : DataW.Trod enc P w base sp held t v d p) :
    ∃ cs : Array Value, v = .agg cs ∧ cs.size = fs.size ∧ ∀ (j : Nat) (f : Field), fs[j]? = some f → ∃ (c : Value) (y : DataW H × List MemPlace) (n : Nat), cs[j]? = some c ∧ DataW.trod enc P w base sp held n f.type [c] = some y := by
  obtain ⟨cs, rfl, hsz⟩ := okWide_struct hs hv
  obtain ⟨fuel, hf⟩ := h
  obtain ⟨xs, n, _, _, _, hlen, hg⟩ := DataW.trod_struct hs hf
  have hsz' : cs.size = fs.size := hsz.trans hC
  refine ⟨cs, rfl, hsz', fun j f hj => ?_⟩
  obtain ⟨ho, hk⟩ := hone_of hone j f hj
  have hjl : j < fs.size := (Array.getElem?_eq_some_iff.1 hj).1
  have h1 := hg j f hj
  rw [ho, hk] at h1
  have hc : cs[j]? = some (cs[j]'(by omega)) := Array.getElem?_eq_getElem (by omega)
  have ht : ((Value.agg cs).cells.toList.drop j).take 1 = [cs[j]'(by omega)] := by
    show (cs.toList.drop j).take 1 = _
    rw [List.drop_eq_getElem_cons (by simpa using by omega)]
    rfl
  rw [ht] at h1
  exact ⟨_, _, n, hc, h1.trans (List.getElem?_eq_getElem (by omega))⟩

theorem arg_int {H : Type} {enc : TypeId × Value → H} {P : Program} {w : World} {base : Nat} {sp : Nat → Bool} {held : Bool} {n : Nat} {t : TypeId} {k : IntKind} {c : Value} {y : DataW H × List MemPlace}
    (ht : P.underlying t = some (.int k)) (h : DataW.trod enc P w base sp held n t [c] = some y) : ∃ z, c = .int k z ∧ (Lit.int k z).wf = true := by
  obtain ⟨z, hc, _, hw⟩ := DataW.trod_int ht h
  exact ⟨z, by simpa using hc, hw⟩


end Go.Proofs.Ytcgahdmacngipaa

/- ARGUMENTS: a slice of numbers, as it came in: its numbers, nil let in. -/
namespace Go.Proofs.Ytcgahdmacngipaa
open Go.ChangeShapes Go.WideShapes Go.ChangeAt Go.RowKit
set_option maxRecDepth 100000

/-- the slice A, of n elements, holds these numbers -/
def IntsAt (w : World) (A : Option Addr) (n : Nat) (k : IntKind) (zs : List Int) : Prop :=
  zs.length = n ∧ ∀ j z, zs[j]? = some z → ∃ a, A = some a ∧ a.block < w.heap.size ∧ w.cell? (a.add j) = some (.int k z)
theorem block_add (a : Addr) (n : Nat) : (a.add n).block = a.block := by unfold Addr.add; split <;> rfl
theorem IntsAt.below {w w' : World} {A : Option Addr} {n : Nat} {k : IntKind} {zs : List Int} (h : IntsAt w A n k zs) (hb : Below w.heap.size w w') : IntsAt w' A n k zs :=
  ⟨h.1, fun j z hz => by
    obtain ⟨a, e, hl, hc⟩ := h.2 j z hz
    exact ⟨a, e, Nat.lt_of_lt_of_le hl hb.size, (hb.cell (p := a.add j) (by rw [block_add]; exact hl)).trans hc⟩⟩
theorem IntsAt.belowB {w w' : World} {B : Nat} {A : Option Addr} {n : Nat} {k : IntKind} {zs : List Int} (h : IntsAt w A n k zs) (hB : w.heap.size ≤ B) (hb : Below B w w') : IntsAt w' A n k zs := h.below (hb.mono hB)
/-- an element of it -/
theorem IntsAt.at_ {w : World} {A : Option Addr} {n : Nat} {k : IntKind} {zs : List Int} (h : IntsAt w A n k zs) {j : Nat} (hj : j < n) : ∃ a, A = some a ∧ w.cell? (a.add j) = some (.int k (zs.getD j 0)) := by
  have hl : j < zs.length := by rw [h.1]; exact hj
  obtain ⟨a, e, _, hc⟩ := h.2 j zs[j] (List.getElem?_eq_getElem hl)
  exact ⟨a, e, by rw [List.getD_eq_getElem?_getD, List.getElem?_eq_getElem hl]; exact hc⟩
/-- its beginning -/
theorem IntsAt.take {w : World} {A : Option Addr} {n m : Nat} {k : IntKind} {zs : List Int} (h : IntsAt w A n k zs) (hm : m ≤ n) : IntsAt w A m k (zs.take m) :=
  ⟨by rw [List.length_take, h.1]; omega, fun j z hz => by
    rw [List.getElem?_take] at hz
    by_cases hj : j < m
    · rw [if_pos hj] at hz; exact h.2 j z hz
    · rw [if_neg hj] at hz; exact absurd hz (by simp)⟩

theorem arg_ints {H : Type} {enc : TypeId × Value → H} {P : Program} {w : World} {base : Nat} {held : Bool} {r : Reach} {b0 : Nat} {t e : TypeId} {k : IntKind} {v : Value} {d : DataW H} {p : List MemPlace}
    (ht : P.underlying t = some (.slice e)) (he : P.underlying e = some (.int k)) (hc : P.cellsOf e = 1) (hv : Value.okWide P w r b0 t v) (h : DataW.Trod enc P w base (fun _ => true) held t v d p) :
    ∃ (A : Option Addr) (n cap : Nat) (zs : List Int), v = .slice A n cap ∧ n ≤ cap ∧ cap ≤ maxLen ∧ IntsAt w A n k zs ∧ ∀ z ∈ zs, (Lit.int k z).wf = true := by
  obtain ⟨A, n, cap, rfl⟩ := okWide_slice ht hv
  obtain ⟨fuel, hf⟩ := h
  rcases open_ints ht he hc hf with ⟨hcs, _⟩ | ⟨a, len, cap', zs, hcs, _, hl, hm, hz, _, hcell, hwz⟩
  · have e1 : Value.slice A n cap = .slice none 0 0 := by simpa [Value.cells] using hcs
    injection e1 with e1 e2 e3
    subst e1 e2 e3
    exact ⟨none, 0, 0, [], rfl, Nat.le_refl _, Nat.zero_le _, ⟨rfl, fun j z hz => by simp at hz⟩, fun z hz => by cases hz⟩
  · have e1 : Value.slice A n cap = .slice (some a) len cap' := by simpa [Value.cells] using hcs
    injection e1 with e1 e2 e3
    subst e1 e2 e3
    have hzl : zs.length = cap := by simpa using hz
    refine ⟨some a, n, cap, zs.take n, rfl, hl, hm, ⟨by rw [List.length_take]; omega, fun j z hj => ?_⟩, fun z hzz => hwz z (List.mem_of_mem_take hzz)⟩
    rw [List.getElem?_take] at hj
    by_cases hjn : j < n
    · rw [if_pos hjn] at hj
      have hjl : j < zs.length := by omega
      have hc' := hcell j hjl
      have hzj : zs.getD j 0 = z := by rw [List.getD_eq_getElem?_getD, hj]; rfl
      rw [hzj] at hc'
      refine ⟨a, rfl, ?_, hc'⟩
      have := World.block_lt_of_cell? w (a.add j) hc'
      rwa [block_add] at this
    · rw [if_neg hjn] at hj; exact absurd hj (by simp)

/-- the slice A, of n elements, holds these bools -/
def BoolsAt (w : World) (A : Option Addr) (n : Nat) (cs : List Bool) : Prop :=
  cs.length = n ∧ ∀ j z, cs[j]? = some z → ∃ a, A = some a ∧ a.block < w.heap.size ∧ w.cell? (a.add j) = some (.bool z)
theorem BoolsAt.below {w w' : World} {A : Option Addr} {n : Nat} {cs : List Bool} (h : BoolsAt w A n cs) (hb : Below w.heap.size w w') : BoolsAt w' A n cs :=
  ⟨h.1, fun j z hz => by
    obtain ⟨a, e, hl, hc⟩ := h.2 j z hz
    exact ⟨a, e, Nat.lt_of_lt_of_le hl hb.size, (hb.cell (p := a.add j) (by rw [block_add]; exact hl)).trans hc⟩⟩
theorem BoolsAt.at_ {w : World} {A : Option Addr} {n : Nat} {cs : List Bool} (h : BoolsAt w A n cs) {j : Nat} (hj : j < n) : ∃ a, A = some a ∧ w.cell? (a.add j) = some (.bool (cs.getD j false)) := by
  have hl : j < cs.length := by rw [h.1]; exact hj
  obtain ⟨a, e, _, hc⟩ := h.2 j cs[j] (List.getElem?_eq_getElem hl)
  exact ⟨a, e, by rw [List.getD_eq_getElem?_getD, List.getElem?_eq_getElem hl]; exact hc⟩
theorem BoolsAt.take {w : World} {A : Option Addr} {n m : Nat} {cs : List Bool} (h : BoolsAt w A n cs) (hm : m ≤ n) : BoolsAt w A m (cs.take m) :=
  ⟨by rw [List.length_take, h.1]; omega, fun j z hz => by
    rw [List.getElem?_take] at hz
    by_cases hj : j < m
    · rw [if_pos hj] at hz; exact h.2 j z hz
    · rw [if_neg hj] at hz; exact absurd hz (by simp)⟩
theorem arg_bools {H : Type} {enc : TypeId × Value → H} {P : Program} {w : World} {base : Nat} {held : Bool} {r : Reach} {b0 : Nat} {t e : TypeId} {v : Value} {d : DataW H} {p : List MemPlace}
    (ht : P.underlying t = some (.slice e)) (he : P.underlying e = some .bool) (hc : P.cellsOf e = 1) (hv : Value.okWide P w r b0 t v) (h : DataW.Trod enc P w base (fun _ => true) held t v d p) :
    ∃ (A : Option Addr) (n cap : Nat) (cs : List Bool), v = .slice A n cap ∧ n ≤ cap ∧ cap ≤ maxLen ∧ BoolsAt w A n cs := by
  obtain ⟨A, n, cap, rfl⟩ := okWide_slice ht hv
  obtain ⟨fuel, hf⟩ := h
  rcases Go.Deep.open_bools ht he hc hf with ⟨hcs, _⟩ | ⟨a, len, cap', B, hcs, _, hl, hm, _, hcell⟩
  · have e1 : Value.slice A n cap = .slice none 0 0 := by simpa [Value.cells] using hcs
    injection e1 with e1 e2 e3
    subst e1 e2 e3
    exact ⟨none, 0, 0, [], rfl, Nat.le_refl _, Nat.zero_le _, ⟨rfl, fun j z hz => by simp at hz⟩⟩
  · have e1 : Value.slice A n cap = .slice (some a) len cap' := by simpa [Value.cells] using hcs
    injection e1 with e1 e2 e3
    subst e1 e2 e3
    refine ⟨some a, n, cap, (List.range n).map B, rfl, hl, hm, ⟨by simp, fun j z hj => ?_⟩⟩
    have hjn : j < n := by
      have := (List.getElem?_eq_some_iff.1 hj).1
      simpa using this
    have hz : z = B j := by
      rw [List.getElem?_map, List.getElem?_range hjn] at hj
      simpa using hj.symm
    subst hz
    have hc' := hcell j (by omega)
    refine ⟨a, rfl, ?_, hc'⟩
    have := World.block_lt_of_cell? w (a.add j) hc'
    rwa [block_add] at this

end Go.Proofs.Ytcgahdmacngipaa

/- ROWS OF STRUCTS: what a slice of structs holds, cell by cell; as an argument, as a row of the call's own. -/
namespace Go.Proofs.Ytcgahdmacngipaa
open Go.ChangeShapes Go.WideShapes Go.ChangeAt Go.RowKit
set_option maxRecDepth 100000
set_option linter.unusedVariables false
set_option linter.unusedSimpArgs false

/-- the slice A, of n elements of sz cells, holds these rows of cells -/
def RowsAt (w : World) (A : Option Addr) (n sz : Nat) (cs : List (List Value)) : Prop :=
  cs.length = n ∧ ∀ (j : Nat) (c : List Value), cs[j]? = some c → c.length = sz ∧ ∃ a, A = some a ∧ a.block < w.heap.size ∧ ∀ i v, c[i]? = some v → w.cell? (a.add (j * sz + i)) = some v
theorem RowsAt.below {w w' : World} {A : Option Addr} {n sz : Nat} {cs : List (List Value)} (h : RowsAt w A n sz cs) (hb : Below w.heap.size w w') : RowsAt w' A n sz cs :=
  ⟨h.1, fun j c hc => by
    obtain ⟨e, a, ha, hl, hv⟩ := h.2 j c hc
    exact ⟨e, a, ha, Nat.lt_of_lt_of_le hl hb.size, fun i v hi => (hb.cell (by rw [block_add]; exact hl)).trans (hv i v hi)⟩⟩
theorem RowsAt.nil (w : World) (A : Option Addr) (sz : Nat) : RowsAt w A 0 sz [] := ⟨rfl, fun j c hc => by simp at hc⟩
theorem RowsAt.take {w : World} {A : Option Addr} {n sz m : Nat} {cs : List (List Value)} (h : RowsAt w A n sz cs) (hm : m ≤ n) : RowsAt w A m sz (cs.take m) :=
  ⟨by rw [List.length_take, h.1]; omega, fun j c hc => by
    rw [List.getElem?_take] at hc
    by_cases hj : j < m
    · rw [if_pos hj] at hc; exact h.2 j c hc
    · rw [if_neg hj] at hc; cases hc⟩
/-- what stands behind the first k elements, at the address that a slice expression gives -/
theorem RowsAt.drop {w : World} {a : Addr} {n sz k : Nat} {cs : List (List Value)} (h : RowsAt w (some a) n sz cs) (hk : k ≤ n) {A' : Option Addr} (hA : k < n → A' = some (a.add (k * sz))) : RowsAt w A' (n - k) sz (cs.drop k) :=
  ⟨by rw [List.length_drop, h.1], fun j c hc => by
    rw [List.getElem?_drop] at hc
    have hlt : k + j < cs.length := (List.getElem?_eq_some_iff.1 hc).1
    obtain ⟨e, a', ha, hl, hv⟩ := h.2 (k + j) c hc
    obtain rfl : a = a' := by injection ha
    refine ⟨e, a.add (k * sz), hA (by rw [← h.1]; omega), by rw [block_add]; exact hl, fun i v hi => ?_⟩
    rw [Addr.add_add, show k * sz + (j * sz + i) = (k + j) * sz + i by rw [Nat.add_mul]; omega]
    exact hv i v hi⟩
/-- an element's cells, as a walk asks for them -/
theorem RowsAt.at_ {w : World} {A : Option Addr} {n sz : Nat} {cs : List (List Value)} (h : RowsAt w A n sz cs) {j : Nat} {c : List Value} (hj : cs[j]? = some c) :
    ∃ a, A = some a ∧ a.block < w.heap.size ∧ (∀ v, c[0]? = some v → w.cell? (a.add (j * sz)) = some v) ∧ ∀ i v, c[i + 1]? = some v → w.cell? ⟨(a.add (j * sz)).block, (a.add (j * sz)).off + (i + 1), none⟩ = some v := by
  obtain ⟨e, a, ha, hl, hv⟩ := h.2 j c hj
  refine ⟨a, ha, hl, fun v h0 => hv 0 v h0, fun i v hi => ?_⟩
  have := hv (i + 1) v hi
  rw [← Addr.add_add, Addr.add_succ'] at this
  exact this

theorem flat_get {sz : Nat} : ∀ (cs : List (List Value)) (_ : ∀ (j : Nat) (c : List Value), cs[j]? = some c → c.length = sz) (j i : Nat) (_ : i < sz), cs.flatten[j * sz + i]? = (cs[j]?.bind fun c => c[i]?)
  | [], _, j, i, _ => by simp
  | c :: r, h, 0, i, hi => by
    have hc : c.length = sz := h 0 c rfl
    rw [List.flatten_cons, Nat.zero_mul, Nat.zero_add, List.getElem?_append_left (by omega)]
    rfl
  | c :: r, h, j + 1, i, hi => by
    have hc : c.length = sz := h 0 c rfl
    rw [List.flatten_cons, List.getElem?_append_right (by rw [Nat.add_mul]; omega), show (j + 1) * sz + i - c.length = j * sz + i by rw [Nat.add_mul]; omega]
    rw [flat_get r (fun q d hd => h (q + 1) d hd) j i hi]
    rfl
theorem flat_len {sz : Nat} : ∀ (cs : List (List Value)) (_ : ∀ (j : Nat) (c : List Value), cs[j]? = some c → c.length = sz), cs.flatten.length = cs.length * sz
  | [], _ => by simp
  | c :: r, h => by
    have hc : c.length = sz := h 0 c rfl
    rw [List.flatten_cons, List.length_append, flat_len r (fun q d hd => h (q + 1) d hd), hc, List.length_cons, Nat.add_mul]
    omega
/-- the cells of such a slice, one behind the other: what append takes -/
theorem RowsAt.news {w : World} {a : Addr} {n sz : Nat} {cs : List (List Value)} (h : RowsAt w (some a) n sz cs) (hsz : 0 < sz) : cs.flatten.length = n * sz ∧ ∀ j u, cs.flatten[j]? = some u → w.cell? (a.add j) = some u := by
  refine ⟨by rw [flat_len cs (fun j c hc => (h.2 j c hc).1), h.1], fun j u hu => ?_⟩
  have e : j = j / sz * sz + j % sz := by rw [Nat.mul_comm]; exact (Nat.div_add_mod j sz).symm
  rw [e, flat_get cs (fun j c hc => (h.2 j c hc).1) _ _ (Nat.mod_lt _ hsz)] at hu
  obtain ⟨c, hc, hi⟩ := Option.bind_eq_some_iff.1 hu
  obtain ⟨_, a', ha, _, hv⟩ := h.2 _ c hc
  obtain rfl : a = a' := by injection ha
  rw [e]
  exact hv _ u hi
/-- a row of the call's own holds its rows of cells -/
theorem RowsAt.own {w : World} {B e n sz : Nat} {v : Value} {cs : List (List Value)} (h : w.ownsRow B e sz v n cs.flatten) (hn : cs.length = n) (hc : ∀ (j : Nat) (c : List Value), cs[j]? = some c → c.length = sz) :
    ∃ A cap, v = .slice A n cap ∧ n ≤ cap ∧ cap ≤ maxLen ∧ RowsAt w A n sz cs := by
  rcases h.2 with ⟨rfl, h0⟩ | ⟨g, cap, cur, rfl, hg, hh, h1, h2, h3, h4⟩
  · subst h0
    obtain rfl : cs = [] := List.length_eq_zero_iff.1 hn
    exact ⟨none, 0, rfl, Nat.le_refl _, Nat.zero_le _, RowsAt.nil _ _ _⟩
  · refine ⟨some ⟨g, 0, none⟩, cap, rfl, h1, h2, hn, fun j c hj => ⟨hc j c hj, _, rfl, ?_, fun i u hi => ?_⟩⟩
    · rcases Nat.lt_or_ge g w.heap.size with h' | h'
      · exact h'
      · rw [Array.getElem?_eq_none h'] at hh; cases hh
    · have hil : i < sz := by have := (List.getElem?_eq_some_iff.1 hi).1; have := hc j c hj; omega
      have hjl : j < n := by have := (List.getElem?_eq_some_iff.1 hj).1; omega
      have hjs : j * sz + i < n * sz := by
        have h1 : (j + 1) * sz ≤ n * sz := Nat.mul_le_mul_right sz hjl
        rw [Nat.add_mul] at h1
        omega
      rw [Addr.add_lit, Nat.zero_add, h.cellAt _ hjs, flat_get cs hc j i hil, hj]
      exact hi

theorem list_of {α β : Type} {f : β → α} {W : β → Prop} : ∀ (l : List α), (∀ x ∈ l, ∃ y, x = f y ∧ W y) → ∃ m : List β, l = m.map f ∧ ∀ y ∈ m, W y
  | [], _ => ⟨[], rfl, fun y hy => by cases hy⟩
  | x :: l, h => by
    obtain ⟨y, rfl, hy⟩ := h x (List.mem_cons_self ..)
    obtain ⟨m, rfl, hm⟩ := list_of l (fun z hz => h z (List.mem_cons_of_mem _ hz))
    exact ⟨y :: m, rfl, fun z hz => by rcases List.mem_cons.1 hz with rfl | hz; exact hy; exact hm z hz⟩
/-- a slice of structs of one-cell fields, as it came in -/
theorem arg_rows {H : Type} {enc : TypeId × Value → H} {P : Program} {w : World} {base : Nat} {held : Bool} {r : Reach} {b0 : Nat} {t e : TypeId} {fs : Array Field} {v : Value} {d : DataW H} {p : List MemPlace}
    (ht : P.underlying t = some (.slice e)) (he : P.underlying e = some (.struct fs)) (hone : Go.Deep.oneCellFields P fs = true) (hC : P.cellsOf e = fs.size) (hpos : 0 < fs.size)
    (hv : Value.okWide P w r b0 t v) (h : DataW.Trod enc P w base (fun _ => true) held t v d p) :
    ∃ (A : Option Addr) (n cap : Nat) (cs : List (List Value)), v = .slice A n cap ∧ n ≤ cap ∧ cap ≤ maxLen ∧ (A = none → cap = 0) ∧ RowsAt w A n fs.size cs ∧
      ∀ c ∈ cs, c.length = fs.size ∧ ∀ (j : Nat) (f : Field), fs[j]? = some f → ∃ (x : Value) (y : DataW H × List MemPlace) (m : Nat), c[j]? = some x ∧ DataW.trod enc P w base (fun _ => true) held m f.type [x] = some y := by
  obtain ⟨A, n, cap, rfl⟩ := okWide_slice ht hv
  obtain ⟨fuel, hf⟩ := h
  rcases Go.Deep.open_slice ht hf with ⟨hcs, _⟩ | ⟨a, len, cap', m, q, D, Pl, hcs, _, hl, hm, hmm, _, hi⟩
  · have e1 : Value.slice A n cap = .slice none 0 0 := by simpa [Value.cells] using hcs
    injection e1 with e1 e2 e3
    subst e1 e2 e3
    exact ⟨none, 0, 0, [], rfl, Nat.le_refl _, Nat.zero_le _, fun _ => rfl, RowsAt.nil _ _ _, fun c hc => by cases hc⟩
  · have e1 : Value.slice A n cap = .slice (some a) len cap' := by simpa [Value.cells] using hcs
    injection e1 with e1 e2 e3
    subst e1 e2 e3
    have hmc : m = cap := by simpa using hmm
    have hall : ∀ i : Nat, ∃ c : List Value, i < n → w.cells? base (a.add (i * P.cellsOf e)) (P.cellsOf e) = some c ∧ DataW.trod enc P w base (fun _ => true) held q e c = some (D i, Pl i) := fun i => by
      by_cases hin : i < n
      · obtain ⟨c, hc⟩ := hi i (by omega)
        exact ⟨c, fun _ => hc⟩
      · exact ⟨[], fun h => absurd h hin⟩
    obtain ⟨g, hg⟩ := Classical.axiomOfChoice hall
    have hfact : ∀ i, i < n → (g i).length = fs.size ∧ (∀ j, j < fs.size → w.cell? (a.add (i * fs.size + j)) = (g i)[j]?) ∧ ∀ (j : Nat) (f : Field), fs[j]? = some f → ∃ (x : Value) (y : DataW H × List MemPlace) (m : Nat), (g i)[j]? = some x ∧ DataW.trod enc P w base (fun _ => true) held m f.type [x] = some y := fun i hin => by
      obtain ⟨h1, h2⟩ := hg i hin
      obtain ⟨_, hcl, hat⟩ := World.cells?_some h1
      rw [hC] at hcl hat
      refine ⟨hcl, fun j hj => ?_, fun j f hj => ?_⟩
      · have := hat j hj
        rw [Addr.add_add] at this
        exact this
      · obtain ⟨xs, k, _, _, _, hlen, hgf⟩ := DataW.trod_struct he h2
        obtain ⟨ho, hk⟩ := Go.Deep.hone_of hone j f hj
        have hjl : j < fs.size := (Array.getElem?_eq_some_iff.1 hj).1
        have h3 := hgf j f hj
        rw [ho, hk] at h3
        have hd : ((g i).drop j).take 1 = [(g i)[j]'(by omega)] := by
          rw [List.drop_eq_getElem_cons (by omega)]
          rfl
        rw [hd] at h3
        exact ⟨_, _, k, List.getElem?_eq_getElem (by omega), h3.trans (List.getElem?_eq_getElem (by omega))⟩
    refine ⟨some a, n, cap, (List.range n).map g, rfl, hl, hm, (fun h => by cases h), ⟨by simp, fun j c hj => ?_⟩, fun c hc => ?_⟩
    · have hjn : j < n := by
        have := (List.getElem?_eq_some_iff.1 hj).1
        simpa using this
      obtain rfl : c = g j := by
        rw [List.getElem?_map, List.getElem?_range hjn] at hj
        simpa using hj.symm
      obtain ⟨h1, h2, h3⟩ := hfact j hjn
      refine ⟨h1, a, rfl, ?_, fun i u hu => ?_⟩
      · have h0 := h2 0 hpos
        have hs : ∃ u, (g j)[0]? = some u := ⟨_, List.getElem?_eq_getElem (by omega)⟩
        obtain ⟨u, hu⟩ := hs
        have := World.block_lt_of_cell? w _ (h0.trans hu)
        rwa [block_add] at this
      · have hil : i < fs.size := by have := (List.getElem?_eq_some_iff.1 hu).1; omega
        exact (h2 i hil).trans hu
    · obtain ⟨i, hi', rfl⟩ := List.mem_map.1 hc
      have hin := List.mem_range.1 hi'
      exact ⟨(hfact i hin).1, (hfact i hin).2.2⟩

end Go.Proofs.Ytcgahdmacngipaa

/- STEPS AND EVENTS: as values, as rows of cells, as arguments. -/
namespace Go.Proofs.Ytcgahdmacngipaa
open Go.ChangeShapes Go.WideShapes Go.ChangeAt Go.RowKit
set_option maxRecDepth 100000
set_option linter.unusedVariables false
set_option linter.unusedSimpArgs false

/-- a step -/
structure St where
  pc : Int
  next : Int
  rd : Int
  value : Int
  addr : Int
  size : Int
  store : Bool
  halt : Int
  took : Int
def stC (s : St) : List Value := [.int .u32 s.pc, .int .u32 s.next, .int .i64 s.rd, .int .u32 s.value, .int .u32 s.addr, .int .i64 s.size, .bool s.store, .int .i64 s.halt, .int .i64 s.took]
def stV (s : St) : Value := .agg #[.int .u32 s.pc, .int .u32 s.next, .int .i64 s.rd, .int .u32 s.value, .int .u32 s.addr, .int .i64 s.size, .bool s.store, .int .i64 s.halt, .int .i64 s.took]
def stOK (s : St) : Prop := (Lit.int .u32 s.pc).wf = true ∧ (Lit.int .u32 s.next).wf = true ∧ (Lit.int .i64 s.rd).wf = true ∧ (Lit.int .u32 s.value).wf = true ∧ (Lit.int .u32 s.addr).wf = true ∧ (Lit.int .i64 s.size).wf = true ∧ (Lit.int .i64 s.halt).wf = true ∧ (Lit.int .i64 s.took).wf = true
theorem arg_bool {H : Type} {enc : TypeId × Value → H} {P : Program} {w : World} {base : Nat} {sp : Nat → Bool} {held : Bool} {n : Nat} {t : TypeId} {c : Value} {y : DataW H × List MemPlace}
    (ht : P.underlying t = some .bool) (h : DataW.trod enc P w base sp held n t [c] = some y) : ∃ z, c = .bool z := by
  obtain ⟨z, hc, _⟩ := DataW.trod_bool ht h
  exact ⟨z, by simpa using hc⟩

def StepsAt (w : World) (A : Option Addr) (n : Nat) (ss : List St) : Prop := RowsAt w A n 9 (ss.map stC)
theorem StepsAt.len {w : World} {A : Option Addr} {n : Nat} {ss : List St} (h : StepsAt w A n ss) : ss.length = n := by have := h.1; simpa using this
theorem StepsAt.below {w w' : World} {A : Option Addr} {n : Nat} {ss : List St} (h : StepsAt w A n ss) (hb : Below w.heap.size w w') : StepsAt w' A n ss := RowsAt.below h hb
theorem StepsAt.take {w : World} {A : Option Addr} {n m : Nat} {ss : List St} (h : StepsAt w A n ss) (hm : m ≤ n) : StepsAt w A m (ss.take m) := by
  have := RowsAt.take h hm
  rw [← List.map_take] at this
  exact this
/-- the cells of element j, all nine -/
def Nine (w : World) (p : Addr) (s : St) : Prop := w.cell? p = some (.int .u32 s.pc) ∧ w.cell? ⟨p.block, p.off + 1, none⟩ = some (.int .u32 s.next) ∧ w.cell? ⟨p.block, p.off + 2, none⟩ = some (.int .i64 s.rd) ∧ w.cell? ⟨p.block, p.off + 3, none⟩ = some (.int .u32 s.value) ∧
  w.cell? ⟨p.block, p.off + 4, none⟩ = some (.int .u32 s.addr) ∧ w.cell? ⟨p.block, p.off + 5, none⟩ = some (.int .i64 s.size) ∧ w.cell? ⟨p.block, p.off + 6, none⟩ = some (.bool s.store) ∧ w.cell? ⟨p.block, p.off + 7, none⟩ = some (.int .i64 s.halt) ∧ w.cell? ⟨p.block, p.off + 8, none⟩ = some (.int .i64 s.took)
theorem StepsAt.at_ {w : World} {A : Option Addr} {n : Nat} {ss : List St} (h : StepsAt w A n ss) {j : Nat} {s : St} (hj : ss[j]? = some s) : ∃ a, A = some a ∧ a.block < w.heap.size ∧ Nine w (a.add (j * 9)) s := by
  obtain ⟨a, ha, hl, h0, h1⟩ := RowsAt.at_ h (j := j) (c := stC s) (by rw [List.getElem?_map, hj]; rfl)
  exact ⟨a, ha, hl, h0 _ rfl, h1 0 _ rfl, h1 1 _ rfl, h1 2 _ rfl, h1 3 _ rfl, h1 4 _ rfl, h1 5 _ rfl, h1 6 _ rfl, h1 7 _ rfl⟩
/-- an event -/
structure Ev where
  pc : Int
  addr : Int
  size : Int
  took : Int
  loaded : Int
  halt : Int
  deriving DecidableEq
def evC (s : Ev) : List Value := [.int .u32 s.pc, .int .u32 s.addr, .int .i64 s.size, .int .i64 s.took, .int .u32 s.loaded, .int .i64 s.halt]
def evV (s : Ev) : Value := .agg #[.int .u32 s.pc, .int .u32 s.addr, .int .i64 s.size, .int .i64 s.took, .int .u32 s.loaded, .int .i64 s.halt]
def EvsAt (w : World) (A : Option Addr) (n : Nat) (es : List Ev) : Prop := RowsAt w A n 6 (es.map evC)
theorem EvsAt.len {w : World} {A : Option Addr} {n : Nat} {ss : List Ev} (h : EvsAt w A n ss) : ss.length = n := by have := h.1; simpa using this
theorem EvsAt.below {w w' : World} {A : Option Addr} {n : Nat} {ss : List Ev} (h : EvsAt w A n ss) (hb : Below w.heap.size w w') : EvsAt w' A n ss := RowsAt.below h hb
def Six (w : World) (p : Addr) (s : Ev) : Prop := w.cell? p = some (.int .u32 s.pc) ∧ w.cell? ⟨p.block, p.off + 1, none⟩ = some (.int .u32 s.addr) ∧ w.cell? ⟨p.block, p.off + 2, none⟩ = some (.int .i64 s.size) ∧ w.cell? ⟨p.block, p.off + 3, none⟩ = some (.int .i64 s.took) ∧
  w.cell? ⟨p.block, p.off + 4, none⟩ = some (.int .u32 s.loaded) ∧ w.cell? ⟨p.block, p.off + 5, none⟩ = some (.int .i64 s.halt)
theorem EvsAt.at_ {w : World} {A : Option Addr} {n : Nat} {ss : List Ev} (h : EvsAt w A n ss) {j : Nat} {s : Ev} (hj : ss[j]? = some s) : ∃ a, A = some a ∧ a.block < w.heap.size ∧ Six w (a.add (j * 6)) s := by
  obtain ⟨a, ha, hl, h0, h1⟩ := RowsAt.at_ h (j := j) (c := evC s) (by rw [List.getElem?_map, hj]; rfl)
  exact ⟨a, ha, hl, h0 _ rfl, h1 0 _ rfl, h1 1 _ rfl, h1 2 _ rfl, h1 3 _ rfl, h1 4 _ rfl⟩
theorem evC_len (es : List Ev) : ∀ (j : Nat) (c : List Value), (es.map evC)[j]? = some c → c.length = 6 := by
  intro j c hc
  rw [List.getElem?_map] at hc
  obtain ⟨r, _, rfl⟩ := Option.map_eq_some_iff.1 hc
  rfl
theorem EvsAt.own {w : World} {B n e : Nat} {v : Value} {es : List Ev} (h : w.ownsRow B e 6 v n (es.map evC).flatten) (hn : es.length = n) :
    ∃ A cap, v = .slice A n cap ∧ n ≤ cap ∧ cap ≤ maxLen ∧ EvsAt w A n es := RowsAt.own h (by simpa using hn) (evC_len es)

end Go.Proofs.Ytcgahdmacngipaa

/- THE REGISTERS, by value: 32 numbers. -/
namespace Go.Proofs.Ytcgahdmacngipaa
open Go.ChangeShapes Go.WideShapes Go.ChangeAt Go.RowKit
set_option maxRecDepth 100000
set_option linter.unusedVariables false
set_option linter.unusedSimpArgs false

theorem okWide_arr {P : Program} {w : World} {r : Reach} {base n : Nat} {t e : TypeId} {v : Value} (ht : P.underlying t = some (.array n e)) (h : Value.okWide P w r base t v) : ∃ cs, v = .agg cs ∧ cs.size = P.cellsOf t := by
  simp only [Value.okWide, ht] at h
  obtain ⟨cs, h1, h2, _⟩ := h
  exact ⟨cs, h1, h2⟩
def regL (zs : List Int) : List Value := zs.map (Value.int .u32)
def regV (zs : List Int) : Value := .agg (regL zs).toArray
def regOK (zs : List Int) : Prop := zs.length = 32 ∧ ∀ z ∈ zs, (Lit.int .u32 z).wf = true
end Go.Proofs.Ytcgahdmacngipaa
