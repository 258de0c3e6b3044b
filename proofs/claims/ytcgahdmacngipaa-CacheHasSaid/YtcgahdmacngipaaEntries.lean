/- ENTRIES: as values, as rows of cells, as arguments; structs of any fields read whole from a row. -/
import Derived.Test.YtcgahdmacngipaaArgB
import Derived.Test.YtcgahdmacngipaaOwnB
import Derived.Deep.MidRow
import Derived.BigFrame
import Derived.Lib.QuietBelow
namespace Go.Proofs.Ytcgahdmacngipaa
open Go.ChangeShapes Go.WideShapes Go.ChangeAt Go.RowKit Go.Sort
set_option maxRecDepth 100000
set_option linter.unusedVariables false
set_option linter.unusedSimpArgs false

/-- a struct's parts, each by its place -/
theorem struct_parts {H : Type} {enc : TypeId × Value → H} {P : Program} {w : World} {base : Nat} {sp : Nat → Bool} {held : Bool} {k : Nat} {e : TypeId} {fs : Array Field} {c : List Value} {D : DataW H × List MemPlace} {L : List (Nat × Nat × TypeId)}
    (he : P.underlying e = some (.struct fs)) (hL : (P.fieldsOf e).toList.map (fun f => (f.offset, P.cellsOf f.type, f.type)) = L) (h : DataW.trod enc P w base sp held k e c = some D) :
    c.length = P.cellsOf e ∧ ∃ m, ∀ (j o s : Nat) (t : TypeId), L[j]? = some (o, s, t) → ∃ y, DataW.trod enc P w base sp held m t ((c.drop o).take s) = some y := by
  obtain ⟨xs, m, _, _, hl, hlen, hg⟩ := DataW.trod_struct he h
  refine ⟨hl, m, fun j o s t hj => ?_⟩
  subst hL
  rw [show P.fieldsOf e = fs by simp [Program.fieldsOf, he]] at hj
  rw [List.getElem?_map] at hj
  obtain ⟨f, hf, he⟩ := Option.map_eq_some_iff.1 hj
  injection he with h1 h2
  injection h2 with h2 h3
  subst h1 h2 h3
  have hf' : fs[j]? = some f := by simpa using hf
  have hjl : j < fs.size := (Array.getElem?_eq_some_iff.1 hf').1
  have h3 := hg j f hf'
  exact ⟨_, h3.trans (List.getElem?_eq_getElem (by omega))⟩
/-- a slice of structs, as it came in: each element's cells, and that they are one -/
theorem arg_rows_any {H : Type} {enc : TypeId × Value → H} {P : Program} {w : World} {base : Nat} {held : Bool} {r : Reach} {b0 : Nat} {t e : TypeId} {sz : Nat} {v : Value} {d : DataW H} {p : List MemPlace}
    (ht : P.underlying t = some (.slice e)) (hC : P.cellsOf e = sz) (hpos : 0 < sz)
    (hv : Value.okWide P w r b0 t v) (h : DataW.Trod enc P w base (fun _ => true) held t v d p) :
    ∃ (A : Option Addr) (n cap : Nat) (cs : List (List Value)), v = .slice A n cap ∧ n ≤ cap ∧ cap ≤ maxLen ∧ (A = none → cap = 0) ∧ RowsAt w A n sz cs ∧
      ∀ c ∈ cs, c.length = sz ∧ ∃ (m : Nat) (D : DataW H × List MemPlace), DataW.trod enc P w base (fun _ => true) held m e c = some D := by
  obtain ⟨A, n, cap, rfl⟩ := okWide_slice ht hv
  obtain ⟨fuel, hf⟩ := h
  rcases Go.Deep.open_slice ht hf with ⟨hcs, _⟩ | ⟨a, len, cap', m, q, D, Pl, hcs, _, hl, hm, hmm, _, hi⟩
  · have e1 : Value.slice A n cap = .slice none 0 0 := by simpa [Value.cells] using hcs
    injection e1 with e1 e2 e3
    subst e1 e2 e3
    exact ⟨none, 0, 0, [], rfl, Nat.le_refl _, Nat.zero_le _, fun _ => rfl, RowsAt.nil _ _ _, fun c hc => by cases hc⟩
  · have e1 : Value.slice A n cap = .slice (some a) len cap' := by simpa [Value.cells] using hcs
    injection e1 with e1 e2 e3
    subst e1 e2 e3
    have hmc : m = cap := by simpa using hmm
    have hall : ∀ i : Nat, ∃ c : List Value, i < n → w.cells? base (a.add (i * P.cellsOf e)) (P.cellsOf e) = some c ∧ DataW.trod enc P w base (fun _ => true) held q e c = some (D i, Pl i) := fun i => by
      by_cases hin : i < n
      · obtain ⟨c, hc⟩ := hi i (by omega)
        exact ⟨c, fun _ => hc⟩
      · exact ⟨[], fun h => absurd h hin⟩
    obtain ⟨g, hg⟩ := Classical.axiomOfChoice hall
    have hfact : ∀ i, i < n → (g i).length = sz ∧ (∀ j, j < sz → w.cell? (a.add (i * sz + j)) = (g i)[j]?) ∧ ∃ (m : Nat) (D : DataW H × List MemPlace), DataW.trod enc P w base (fun _ => true) held m e (g i) = some D := fun i hin => by
      obtain ⟨h1, h2⟩ := hg i hin
      obtain ⟨_, hcl, hat⟩ := World.cells?_some h1
      rw [hC] at hcl hat
      refine ⟨hcl, fun j hj => ?_, q, _, h2⟩
      have := hat j hj
      rw [Addr.add_add] at this
      exact this
    refine ⟨some a, n, cap, (List.range n).map g, rfl, hl, hm, (fun h => by cases h), ⟨by simp, fun j c hj => ?_⟩, fun c hc => ?_⟩
    · have hjn : j < n := by
        have := (List.getElem?_eq_some_iff.1 hj).1
        simpa using this
      obtain rfl : c = g j := by
        rw [List.getElem?_map, List.getElem?_range hjn] at hj
        simpa using hj.symm
      obtain ⟨h1, h2, h3⟩ := hfact j hjn
      refine ⟨h1, a, rfl, ?_, fun i u hu => ?_⟩
      · have h0 := h2 0 hpos
        have hs : ∃ u, (g j)[0]? = some u := ⟨_, List.getElem?_eq_getElem (by omega)⟩
        obtain ⟨u, hu⟩ := hs
        have := World.block_lt_of_cell? w _ (h0.trans hu)
        rwa [block_add] at this
      · have hil : i < sz := by have := (List.getElem?_eq_some_iff.1 hu).1; omega
        exact (h2 i hil).trans hu
    · obtain ⟨i, hi', rfl⟩ := List.mem_map.1 hc
      have hin := List.mem_range.1 hi'
      exact ⟨(hfact i hin).1, (hfact i hin).2.2⟩

/-- an entry -/
structure En where
  no : Int
  pc : Int
  op : Int
  rd : Int
  rs1 : Int
  rs2 : Int
  imm : Int
  guess : Int
  is : Int
  left : Int
  value : Int
  next : Int
  addr : Int
  halt : Int
  took : Int
  known : Bool
  filled : Bool
def enC (e : En) : List Value := [.int .i64 e.no, .int .u32 e.pc, .int .i64 e.op, .int .i64 e.rd, .int .i64 e.rs1, .int .i64 e.rs2, .int .u32 e.imm, .int .u32 e.guess, .int .i64 e.is, .int .i64 e.left, .int .u32 e.value, .int .u32 e.next, .int .u32 e.addr, .int .i64 e.halt, .int .i64 e.took, .bool e.known, .bool e.filled]
def enV (e : En) : Value := .agg (enC e).toArray
def enOK (e : En) : Prop := (Lit.int .i64 e.no).wf = true ∧ (Lit.int .u32 e.pc).wf = true ∧ (Lit.int .i64 e.op).wf = true ∧ (Lit.int .i64 e.rd).wf = true ∧ (Lit.int .i64 e.rs1).wf = true ∧ (Lit.int .i64 e.rs2).wf = true ∧ (Lit.int .u32 e.imm).wf = true ∧ (Lit.int .u32 e.guess).wf = true ∧ (Lit.int .i64 e.is).wf = true ∧ (Lit.int .i64 e.left).wf = true ∧ (Lit.int .u32 e.value).wf = true ∧ (Lit.int .u32 e.next).wf = true ∧ (Lit.int .u32 e.addr).wf = true ∧ (Lit.int .i64 e.halt).wf = true ∧ (Lit.int .i64 e.took).wf = true
def EntsAt (w : World) (A : Option Addr) (n : Nat) (es : List En) : Prop := RowsAt w A n 17 (es.map enC)
theorem EntsAt.len {w : World} {A : Option Addr} {n : Nat} {es : List En} (h : EntsAt w A n es) : es.length = n := by have := h.1; simpa using this
theorem EntsAt.below {w w' : World} {A : Option Addr} {n : Nat} {es : List En} (h : EntsAt w A n es) (hb : Below w.heap.size w w') : EntsAt w' A n es := RowsAt.below h hb
theorem EntsAt.take {w : World} {A : Option Addr} {n m : Nat} {es : List En} (h : EntsAt w A n es) (hm : m ≤ n) : EntsAt w A m (es.take m) := by
  have := RowsAt.take h hm
  rw [← List.map_take] at this
  exact this
theorem EntsAt.at_ {w : World} {A : Option Addr} {n : Nat} {es : List En} (h : EntsAt w A n es) {j : Nat} {e : En} (hj : es[j]? = some e) :
    ∃ a, A = some a ∧ a.block < w.heap.size ∧ ∀ i v, (enC e)[i]? = some v → w.cell? ((a.add (j * 17)).add i) = some v := by
  obtain ⟨_, a, ha, hl, hv⟩ := h.2 j (enC e) (by rw [List.getElem?_map, hj]; rfl)
  exact ⟨a, ha, hl, fun i v hi => by rw [Addr.add_add]; exact hv i v hi⟩
/-- a struct read whole, wherever it lies -/
theorem run_loadVar_row {P : Program} (w : World) (p : Addr) (ty : TypeId) (cs : List Value) (d : TypeDesc) (hc : ∀ j v, cs[j]? = some v → w.cell? (p.add j) = some v)
    (hu : P.underlying ty = some d) (hd : d.isRow = true) (hi : (P.info? ty).map (·.size) = some cs.length) : (loadVar ty p).run P w = .ok (.agg cs.toArray) w := by
  have hl := run_loadCells_list (P := P) w p cs hc
  obtain ⟨i, hq, hs⟩ := Option.map_eq_some_iff.1 hi
  have hagg : (isAgg ty).run P w = .ok true w := by
    unfold isAgg
    rw [Sem.run_bind, run_underlying hu w]
    cases d <;> simp_all
  simp [loadVar, Sem.run_bind, hagg, sizeOf, typeInfo, hq, hs, hl]
theorem wpList_load_row {P : Program} {ops : Array Oper} {rest : List Oper} {op : Oper} {a : Act} {w : World} {Q : Exit → Act → World → Prop} (hgd : op.guard = none) (ty : TypeId) (x : Operand) (ho : op.op = .load ty x)
    (p : Addr) (hx : a.eval x = .pointer (some p)) (cs : List Value) (d : TypeDesc) (hc : ∀ j v, cs[j]? = some v → w.cell? (p.add j) = some v)
    (hu : P.underlying ty = some d) (hd : d.isRow = true) (hi : (P.info? ty).map (·.size) = some cs.length)
    (h : wpList P ops Q rest (a.put op.dst (.agg cs.toArray)) w) : wpList P ops Q (op :: rest) a w := by
  refine BigFrame.wpList_want (by unfold Region.wanted; rw [hgd]) fun _ hK => ?_
  unfold Oper.wp execOp
  simp only [ho, hx, Instr.loadAt, Instr.sureAddr, Sem.run_bind, Sem.run_pure, Result.andThen_ok, run_loadVar_row w p ty cs d hc hu hd hi]
  exact hK _ _ h
theorem wpList_load_row_want {P : Program} {ops : Array Oper} {rest : List Oper} {op : Oper} {a : Act} {w : World} {Q : Exit → Act → World → Prop} (ty : TypeId) (x : Operand) (ho : op.op = .load ty x) (hw : Region.wanted op (yielded ops a.tmps) = true)
    (p : Addr) (hx : a.eval x = .pointer (some p)) (cs : List Value) (d : TypeDesc) (hc : ∀ j v, cs[j]? = some v → w.cell? (p.add j) = some v)
    (hu : P.underlying ty = some d) (hd : d.isRow = true) (hi : (P.info? ty).map (·.size) = some cs.length)
    (h : wpList P ops Q rest (a.put op.dst (.agg cs.toArray)) w) : wpList P ops Q (op :: rest) a w := by
  refine BigFrame.wpList_want hw fun _ hK => ?_
  unfold Oper.wp execOp
  simp only [ho, hx, Instr.loadAt, Instr.sureAddr, Sem.run_bind, Sem.run_pure, Result.andThen_ok, run_loadVar_row w p ty cs d hc hu hd hi]
  exact hK _ _ h
theorem quiet_load_row {P : Program} {op : Oper} {a : Act} {K : Act → Prop} {w : World} (ty : TypeId) (x : Operand) (ho : op.op = .load ty x)
    (p : Addr) (hx : a.eval x = .pointer (some p)) (cs : List Value) (d : TypeDesc) (hp : p.block < w.heap.size) (hc : ∀ j v, cs[j]? = some v → w.cell? (p.add j) = some v)
    (hu : P.underlying ty = some d) (hd : d.isRow = true) (hi : (P.info? ty).map (·.size) = some cs.length)
    (hk : K (a.put op.dst (.agg cs.toArray))) : op.quiet P a (fun w' => ∃ p : Regrown, w' = grow (redrawn w p.d) p.os) K := by
  refine ⟨_, ?_, hk⟩
  rintro w' ⟨q, rfl⟩
  have hr := run_loadVar_row (P := P) (grow (redrawn w q.d) q.os) p ty cs d (fun j v hv => ((below_regrown w q.d q.os).cell (by rw [block_add]; exact hp)).trans (hc j v hv)) hu hd hi
  unfold Oper.quietAt execOp
  simp only [ho, hx, Instr.loadAt, Instr.sureAddr, Sem.run_bind, Sem.run_pure, Result.andThen_ok, hr]
  exact ⟨rfl, rfl⟩

theorem enC_len (e : En) : (enC e).length = 17 := rfl
theorem enC_one (e : En) : (enC e).toArray.all (·.oneCell') = true := by simp [enC, Value.oneCell']
def zeroE : En := ⟨0, 0, 0, 0, 0, 0, 0, 0, 0, 0, 0, 0, 0, 0, 0, false, false⟩
end Go.Proofs.Ytcgahdmacngipaa
