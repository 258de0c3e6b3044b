/- STEPS AND EVENTS: as values, as rows of cells, as arguments. -/
import Derived.Test.YtjhkebabbldfcaaDoorStructs
namespace Go.Proofs.YtjhkebabbldfcaaDoor
open Go.ChangeShapes Go.WideShapes Go.ChangeAt Go.RowKit
set_option maxRecDepth 100000
set_option linter.unusedVariables false
set_option linter.unusedSimpArgs false

/-- a step -/
structure St where
  pc : Int
  next : Int
  rd : Int
  value : Int
  addr : Int
  size : Int
  store : Bool
  halt : Int
  took : Int
def stC (s : St) : List Value := [.int .u32 s.pc, .int .u32 s.next, .int .i64 s.rd, .int .u32 s.value, .int .u32 s.addr, .int .i64 s.size, .bool s.store, .int .i64 s.halt, .int .i64 s.took]
def stV (s : St) : Value := .agg #[.int .u32 s.pc, .int .u32 s.next, .int .i64 s.rd, .int .u32 s.value, .int .u32 s.addr, .int .i64 s.size, .bool s.store, .int .i64 s.halt, .int .i64 s.took]
def stOK (s : St) : Prop := (Lit.int .u32 s.pc).wf = true ∧ (Lit.int .u32 s.next).wf = true ∧ (Lit.int .i64 s.rd).wf = true ∧ (Lit.int .u32 s.value).wf = true ∧ (Lit.int .u32 s.addr).wf = true ∧ (Lit.int .i64 s.size).wf = true ∧ (Lit.int .i64 s.halt).wf = true ∧ (Lit.int .i64 s.took).wf = true
theorem arg_bool {H : Type} {enc : TypeId × Value → H} {P : Program} {w : World} {base : Nat} {sp : Nat → Bool} {held : Bool} {n : Nat} {t : TypeId} {c : Value} {y : DataW H × List MemPlace}
    (ht : P.underlying t = some .bool) (h : DataW.trod enc P w base sp held n t [c] = some y) : ∃ z, c = .bool z := by
  obtain ⟨z, hc, _⟩ := DataW.trod_bool ht h
  exact ⟨z, by simpa using hc⟩

def StepsAt (w : World) (A : Option Addr) (n : Nat) (ss : List St) : Prop := RowsAt w A n 9 (ss.map stC)
theorem StepsAt.len {w : World} {A : Option Addr} {n : Nat} {ss : List St} (h : StepsAt w A n ss) : ss.length = n := by have := h.1; simpa using this
theorem StepsAt.below {w w' : World} {A : Option Addr} {n : Nat} {ss : List St} (h : StepsAt w A n ss) (hb : Below w.heap.size w w') : StepsAt w' A n ss := RowsAt.below h hb
theorem StepsAt.take {w : World} {A : Option Addr} {n m : Nat} {ss : List St} (h : StepsAt w A n ss) (hm : m ≤ n) : StepsAt w A m (ss.take m) := by
  have := RowsAt.take h hm
  rw [← List.map_take] at this
  exact this
/-- the cells of element j, all nine -/
def Nine (w : World) (p : Addr) (s : St) : Prop := w.cell? p = some (.int .u32 s.pc) ∧ w.cell? ⟨p.block, p.off + 1, none⟩ = some (.int .u32 s.next) ∧ w.cell? ⟨p.block, p.off + 2, none⟩ = some (.int .i64 s.rd) ∧ w.cell? ⟨p.block, p.off + 3, none⟩ = some (.int .u32 s.value) ∧
  w.cell? ⟨p.block, p.off + 4, none⟩ = some (.int .u32 s.addr) ∧ w.cell? ⟨p.block, p.off + 5, none⟩ = some (.int .i64 s.size) ∧ w.cell? ⟨p.block, p.off + 6, none⟩ = some (.bool s.store) ∧ w.cell? ⟨p.block, p.off + 7, none⟩ = some (.int .i64 s.halt) ∧ w.cell? ⟨p.block, p.off + 8, none⟩ = some (.int .i64 s.took)
theorem StepsAt.at_ {w : World} {A : Option Addr} {n : Nat} {ss : List St} (h : StepsAt w A n ss) {j : Nat} {s : St} (hj : ss[j]? = some s) : ∃ a, A = some a ∧ a.block < w.heap.size ∧ Nine w (a.add (j * 9)) s := by
  obtain ⟨a, ha, hl, h0, h1⟩ := RowsAt.at_ h (j := j) (c := stC s) (by rw [List.getElem?_map, hj]; rfl)
  exact ⟨a, ha, hl, h0 _ rfl, h1 0 _ rfl, h1 1 _ rfl, h1 2 _ rfl, h1 3 _ rfl, h1 4 _ rfl, h1 5 _ rfl, h1 6 _ rfl, h1 7 _ rfl⟩
/-- an event -/
structure Ev where
  pc : Int
  addr : Int
  size : Int
  took : Int
  loaded : Int
  halt : Int
  deriving DecidableEq
def evC (s : Ev) : List Value := [.int .u32 s.pc, .int .u32 s.addr, .int .i64 s.size, .int .i64 s.took, .int .u32 s.loaded, .int .i64 s.halt]
def evV (s : Ev) : Value := .agg #[.int .u32 s.pc, .int .u32 s.addr, .int .i64 s.size, .int .i64 s.took, .int .u32 s.loaded, .int .i64 s.halt]
def EvsAt (w : World) (A : Option Addr) (n : Nat) (es : List Ev) : Prop := RowsAt w A n 6 (es.map evC)
theorem EvsAt.len {w : World} {A : Option Addr} {n : Nat} {ss : List Ev} (h : EvsAt w A n ss) : ss.length = n := by have := h.1; simpa using this
theorem EvsAt.below {w w' : World} {A : Option Addr} {n : Nat} {ss : List Ev} (h : EvsAt w A n ss) (hb : Below w.heap.size w w') : EvsAt w' A n ss := RowsAt.below h hb
def Six (w : World) (p : Addr) (s : Ev) : Prop := w.cell? p = some (.int .u32 s.pc) ∧ w.cell? ⟨p.block, p.off + 1, none⟩ = some (.int .u32 s.addr) ∧ w.cell? ⟨p.block, p.off + 2, none⟩ = some (.int .i64 s.size) ∧ w.cell? ⟨p.block, p.off + 3, none⟩ = some (.int .i64 s.took) ∧
  w.cell? ⟨p.block, p.off + 4, none⟩ = some (.int .u32 s.loaded) ∧ w.cell? ⟨p.block, p.off + 5, none⟩ = some (.int .i64 s.halt)
theorem EvsAt.at_ {w : World} {A : Option Addr} {n : Nat} {ss : List Ev} (h : EvsAt w A n ss) {j : Nat} {s : Ev} (hj : ss[j]? = some s) : ∃ a, A = some a ∧ a.block < w.heap.size ∧ Six w (a.add (j * 6)) s := by
  obtain ⟨a, ha, hl, h0, h1⟩ := RowsAt.at_ h (j := j) (c := evC s) (by rw [List.getElem?_map, hj]; rfl)
  exact ⟨a, ha, hl, h0 _ rfl, h1 0 _ rfl, h1 1 _ rfl, h1 2 _ rfl, h1 3 _ rfl, h1 4 _ rfl⟩
theorem evC_len (es : List Ev) : ∀ (j : Nat) (c : List Value), (es.map evC)[j]? = some c → c.length = 6 := by
  intro j c hc
  rw [List.getElem?_map] at hc
  obtain ⟨r, _, rfl⟩ := Option.map_eq_some_iff.1 hc
  rfl
theorem EvsAt.own {w : World} {B n e : Nat} {v : Value} {es : List Ev} (h : w.ownsRow B e 6 v n (es.map evC).flatten) (hn : es.length = n) :
    ∃ A cap, v = .slice A n cap ∧ n ≤ cap ∧ cap ≤ maxLen ∧ EvsAt w A n es := RowsAt.own h (by simpa using hn) (evC_len es)

end Go.Proofs.YtjhkebabbldfcaaDoor
