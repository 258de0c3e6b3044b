/- STEPS AND EVENTS: as values, as rows of cells, as arguments. -/
import Derived.Test.YtkamljmopbocnaaDoorStructs
namespace Go.Proofs.YtkamljmopbocnaaDoor
open Go.ChangeShapes Go.WideShapes Go.ChangeAt Go.RowKit
set_option maxRecDepth 100000
set_option linter.unusedVariables false
set_option linter.unusedSimpArgs false

/-- a step -/
structure St where
  pc : Int
  next : Int
  rd : Int
  value : Int
  addr : Int
  size : Int
  store : Bool
  halt : Int
  took : Int
def stC (s : St) : List Value := [.int .u32 s.pc, .int .u32 s.next, .int .i64 s.rd, .int .u32 s.value, .int .u32 s.addr, .int .i64 s.size, .bool s.store, .int .i64 s.halt, .int .i64 s.took]
def stV (s : St) : Value := .agg #[.int .u32 s.pc, .int .u32 s.next, .int .i64 s.rd, .int .u32 s.value, .int .u32 s.addr, .int .i64 s.size, .bool s.store, .int .i64 s.halt, .int .i64 s.took]
def stOK (s : St) : Prop := (Lit.int .u32 s.pc).wf = true ∧ (Lit.int .u32 s.next).wf = true ∧ (Lit.int .i64 s.rd).wf = true ∧ (Lit.int .u32 s.value).wf = true ∧ (Lit.int .u32 s.addr).wf = true ∧ (Lit.int .i64 s.size).wf = true ∧ (Lit.int .i64 s.halt).wf = true ∧ (Lit.int .i64 s.took).wf = true
theorem arg_bool {H : Type} {enc : TypeId × Value → H} {P : Program} {w : World} {base : Nat} {sp : Nat → Bool} {held : Bool} {n : Nat} {t : TypeId} {c : Value} {y : DataW H × List MemPlace}
    (ht : P.underlying t = some .bool) (h : DataW.trod enc P w base sp held n t [c] = some y) : ∃ z, c = .bool z := by
  obtain ⟨z, hc, _⟩ := DataW.trod_bool ht h
  exact ⟨z, by simpa using hc⟩

set_option maxRecDepth 100000 in
theorem arg_step {H : Type} {enc : TypeId × Value → H} {w : World} {base : Nat} {sp : Nat → Bool} {held : Bool} {r : Reach} {b0 : Nat} {v : Value} {d : DataW H} {p : List MemPlace}
    (hv : Value.okWide Tryd.prog w r b0 33 v) (h : DataW.Trod enc Tryd.prog w base sp held 33 v d p) : ∃ s : St, v = stV s ∧ stOK s := by
  obtain ⟨cs, rfl, hsz, hf⟩ := arg_fields Tryd.underlying33 (by kernel_rfl) (by kernel_rfl) hv h
  obtain ⟨c0, y0, n0, g0, t0⟩ := hf 0 _ rfl
  obtain ⟨c1, y1, n1, g1, t1⟩ := hf 1 _ rfl
  obtain ⟨c2, y2, n2, g2, t2⟩ := hf 2 _ rfl
  obtain ⟨c3, y3, n3, g3, t3⟩ := hf 3 _ rfl
  obtain ⟨c4, y4, n4, g4, t4⟩ := hf 4 _ rfl
  obtain ⟨c5, y5, n5, g5, t5⟩ := hf 5 _ rfl
  obtain ⟨c6, y6, n6, g6, t6⟩ := hf 6 _ rfl
  obtain ⟨c7, y7, n7, g7, t7⟩ := hf 7 _ rfl
  obtain ⟨c8, y8, n8, g8, t8⟩ := hf 8 _ rfl
  obtain ⟨pc, rfl, w0⟩ := arg_int Tryd.underlying25 t0
  obtain ⟨nx, rfl, w1⟩ := arg_int Tryd.underlying25 t1
  obtain ⟨rd, rfl, w2⟩ := arg_int Tryd.underlying3 t2
  obtain ⟨va, rfl, w3⟩ := arg_int Tryd.underlying25 t3
  obtain ⟨ad, rfl, w4⟩ := arg_int Tryd.underlying25 t4
  obtain ⟨si, rfl, w5⟩ := arg_int Tryd.underlying3 t5
  obtain ⟨so, rfl⟩ := arg_bool Tryd.underlying4 t6
  obtain ⟨ha, rfl, w7⟩ := arg_int Tryd.underlying3 t7
  obtain ⟨tk, rfl, w8⟩ := arg_int Tryd.underlying3 t8
  refine ⟨⟨pc, nx, rd, va, ad, si, so, ha, tk⟩, ?_, w0, w1, w2, w3, w4, w5, w7, w8⟩
  unfold stV
  congr 1
  apply Array.ext_getElem?
  intro i
  have hsz9 : cs.size = 9 := hsz
  rcases i with _ | _ | _ | _ | _ | _ | _ | _ | _ | i
  · exact g0
  · exact g1
  · exact g2
  · exact g3
  · exact g4
  · exact g5
  · exact g6
  · exact g7
  · exact g8
  · rw [Array.getElem?_eq_none (by omega), Array.getElem?_eq_none (by simp)]

def StepsAt (w : World) (A : Option Addr) (n : Nat) (ss : List St) : Prop := RowsAt w A n 9 (ss.map stC)
theorem StepsAt.len {w : World} {A : Option Addr} {n : Nat} {ss : List St} (h : StepsAt w A n ss) : ss.length = n := by have := h.1; simpa using this
theorem StepsAt.below {w w' : World} {A : Option Addr} {n : Nat} {ss : List St} (h : StepsAt w A n ss) (hb : Below w.heap.size w w') : StepsAt w' A n ss := RowsAt.below h hb
theorem StepsAt.take {w : World} {A : Option Addr} {n m : Nat} {ss : List St} (h : StepsAt w A n ss) (hm : m ≤ n) : StepsAt w A m (ss.take m) := by
  have := RowsAt.take h hm
  rw [← List.map_take] at this
  exact this
/-- the cells of element j, all nine -/
def Nine (w : World) (p : Addr) (s : St) : Prop := w.cell? p = some (.int .u32 s.pc) ∧ w.cell? ⟨p.block, p.off + 1, none⟩ = some (.int .u32 s.next) ∧ w.cell? ⟨p.block, p.off + 2, none⟩ = some (.int .i64 s.rd) ∧ w.cell? ⟨p.block, p.off + 3, none⟩ = some (.int .u32 s.value) ∧
  w.cell? ⟨p.block, p.off + 4, none⟩ = some (.int .u32 s.addr) ∧ w.cell? ⟨p.block, p.off + 5, none⟩ = some (.int .i64 s.size) ∧ w.cell? ⟨p.block, p.off + 6, none⟩ = some (.bool s.store) ∧ w.cell? ⟨p.block, p.off + 7, none⟩ = some (.int .i64 s.halt) ∧ w.cell? ⟨p.block, p.off + 8, none⟩ = some (.int .i64 s.took)
theorem StepsAt.at_ {w : World} {A : Option Addr} {n : Nat} {ss : List St} (h : StepsAt w A n ss) {j : Nat} {s : St} (hj : ss[j]? = some s) : ∃ a, A = some a ∧ a.block < w.heap.size ∧ Nine w (a.add (j * 9)) s := by
  obtain ⟨a, ha, hl, h0, h1⟩ := RowsAt.at_ h (j := j) (c := stC s) (by rw [List.getElem?_map, hj]; rfl)
  exact ⟨a, ha, hl, h0 _ rfl, h1 0 _ rfl, h1 1 _ rfl, h1 2 _ rfl, h1 3 _ rfl, h1 4 _ rfl, h1 5 _ rfl, h1 6 _ rfl, h1 7 _ rfl⟩
set_option maxRecDepth 100000 in
theorem arg_steps {H : Type} {enc : TypeId × Value → H} {w : World} {base : Nat} {held : Bool} {r : Reach} {b0 : Nat} {v : Value} {d : DataW H} {p : List MemPlace}
    (hv : Value.okWide Tryd.prog w r b0 29 v) (h : DataW.Trod enc Tryd.prog w base (fun _ => true) held 29 v d p) :
    ∃ (A : Option Addr) (n cap : Nat) (ss : List St), v = .slice A n cap ∧ n ≤ cap ∧ cap ≤ maxLen ∧ (A = none → cap = 0) ∧ StepsAt w A n ss ∧ ∀ s ∈ ss, stOK s := by
  obtain ⟨A, n, cap, cs, rfl, h1, h2, h3, h4, h5⟩ := arg_rows Tryd.underlying29 Tryd.underlying33 (by kernel_rfl) (by kernel_rfl) (by decide) hv h
  obtain ⟨rs, rfl, hw⟩ := list_of (f := stC) (W := stOK) cs (fun c hc => by
    obtain ⟨hl, hf⟩ := h5 c hc
    obtain ⟨c0, y0, n0, g0, t0⟩ := hf 0 _ rfl
    obtain ⟨c1, y1, n1, g1, t1⟩ := hf 1 _ rfl
    obtain ⟨c2, y2, n2, g2, t2⟩ := hf 2 _ rfl
    obtain ⟨c3, y3, n3, g3, t3⟩ := hf 3 _ rfl
    obtain ⟨c4, y4, n4, g4, t4⟩ := hf 4 _ rfl
    obtain ⟨c5, y5, n5, g5, t5⟩ := hf 5 _ rfl
    obtain ⟨c6, y6, n6, g6, t6⟩ := hf 6 _ rfl
    obtain ⟨c7, y7, n7, g7, t7⟩ := hf 7 _ rfl
    obtain ⟨c8, y8, n8, g8, t8⟩ := hf 8 _ rfl
    obtain ⟨pc, rfl, w0⟩ := arg_int Tryd.underlying25 t0
    obtain ⟨nx, rfl, w1⟩ := arg_int Tryd.underlying25 t1
    obtain ⟨rd, rfl, w2⟩ := arg_int Tryd.underlying3 t2
    obtain ⟨va, rfl, w3⟩ := arg_int Tryd.underlying25 t3
    obtain ⟨ad, rfl, w4⟩ := arg_int Tryd.underlying25 t4
    obtain ⟨si, rfl, w5⟩ := arg_int Tryd.underlying3 t5
    obtain ⟨so, rfl⟩ := arg_bool Tryd.underlying4 t6
    obtain ⟨ha, rfl, w7⟩ := arg_int Tryd.underlying3 t7
    obtain ⟨tk, rfl, w8⟩ := arg_int Tryd.underlying3 t8
    refine ⟨⟨pc, nx, rd, va, ad, si, so, ha, tk⟩, ?_, w0, w1, w2, w3, w4, w5, w7, w8⟩
    have hl4 : c.length = 9 := hl
    match c, hl4, g0, g1, g2, g3, g4, g5, g6, g7, g8 with
    | [x0, x1, x2, x3, x4, x5, x6, x7, x8], _, g0, g1, g2, g3, g4, g5, g6, g7, g8 =>
      simp at g0 g1 g2 g3 g4 g5 g6 g7 g8
      subst g0 g1 g2 g3 g4 g5 g6 g7 g8
      rfl)
  exact ⟨A, n, cap, rs, rfl, h1, h2, h3, h4, hw⟩

/-- an event -/
structure Ev where
  pc : Int
  addr : Int
  size : Int
  took : Int
  loaded : Int
  halt : Int
  deriving DecidableEq
def evC (s : Ev) : List Value := [.int .u32 s.pc, .int .u32 s.addr, .int .i64 s.size, .int .i64 s.took, .int .u32 s.loaded, .int .i64 s.halt]
def evV (s : Ev) : Value := .agg #[.int .u32 s.pc, .int .u32 s.addr, .int .i64 s.size, .int .i64 s.took, .int .u32 s.loaded, .int .i64 s.halt]
def EvsAt (w : World) (A : Option Addr) (n : Nat) (es : List Ev) : Prop := RowsAt w A n 6 (es.map evC)
theorem EvsAt.len {w : World} {A : Option Addr} {n : Nat} {ss : List Ev} (h : EvsAt w A n ss) : ss.length = n := by have := h.1; simpa using this
theorem EvsAt.below {w w' : World} {A : Option Addr} {n : Nat} {ss : List Ev} (h : EvsAt w A n ss) (hb : Below w.heap.size w w') : EvsAt w' A n ss := RowsAt.below h hb
def Six (w : World) (p : Addr) (s : Ev) : Prop := w.cell? p = some (.int .u32 s.pc) ∧ w.cell? ⟨p.block, p.off + 1, none⟩ = some (.int .u32 s.addr) ∧ w.cell? ⟨p.block, p.off + 2, none⟩ = some (.int .i64 s.size) ∧ w.cell? ⟨p.block, p.off + 3, none⟩ = some (.int .i64 s.took) ∧
  w.cell? ⟨p.block, p.off + 4, none⟩ = some (.int .u32 s.loaded) ∧ w.cell? ⟨p.block, p.off + 5, none⟩ = some (.int .i64 s.halt)
theorem EvsAt.at_ {w : World} {A : Option Addr} {n : Nat} {ss : List Ev} (h : EvsAt w A n ss) {j : Nat} {s : Ev} (hj : ss[j]? = some s) : ∃ a, A = some a ∧ a.block < w.heap.size ∧ Six w (a.add (j * 6)) s := by
  obtain ⟨a, ha, hl, h0, h1⟩ := RowsAt.at_ h (j := j) (c := evC s) (by rw [List.getElem?_map, hj]; rfl)
  exact ⟨a, ha, hl, h0 _ rfl, h1 0 _ rfl, h1 1 _ rfl, h1 2 _ rfl, h1 3 _ rfl, h1 4 _ rfl⟩
theorem evC_len (es : List Ev) : ∀ (j : Nat) (c : List Value), (es.map evC)[j]? = some c → c.length = 6 := by
  intro j c hc
  rw [List.getElem?_map] at hc
  obtain ⟨r, _, rfl⟩ := Option.map_eq_some_iff.1 hc
  rfl
theorem EvsAt.own {w : World} {B n e : Nat} {v : Value} {es : List Ev} (h : w.ownsRow B e 6 v n (es.map evC).flatten) (hn : es.length = n) :
    ∃ A cap, v = .slice A n cap ∧ n ≤ cap ∧ cap ≤ maxLen ∧ EvsAt w A n es := RowsAt.own h (by simpa using hn) (evC_len es)

end Go.Proofs.YtkamljmopbocnaaDoor
