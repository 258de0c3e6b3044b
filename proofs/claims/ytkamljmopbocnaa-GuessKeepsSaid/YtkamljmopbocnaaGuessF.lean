/- A GUESS AS AN ARGUMENT; the contract of few (auspexlaw12): a guess of few slots and returns. -/
import Derived.Test.YtkamljmopbocnaaGuessX
import Derived.Test.YtkamljmopbocnaaEntries
import Derived.Test.YtkamljmopbocnaaStoB
import Derived.Deep.QuietTactic
import Derived.BigQuiet
namespace Go.Proofs.Ytkamljmopbocnaa
open Go.ChangeShapes Go.WideShapes Go.ChangeAt Go.RowKit Go.Sort
set_option linter.unusedVariables false
set_option linter.unusedSimpArgs false
set_option maxHeartbeats 4000000
set_option maxRecDepth 100000

section
variable {P : Program} {ops : Array Oper}
/-- pure operations, in their order, that may come ahead of a store or behind it -/
theorem wpAnyK_free2 {md : Region.Mode} {C : Nat → World → Prop} {early loud : Nat → Bool} {Q : Nat → Act → Prop} {L : Act → Prop} {rest : List Nat} (hsel : ∀ (j : Nat) (o : Oper) cs b, ops[j]? = some o → o.op ≠ .select cs b)
    (hL : ∀ listed a, ClosedB md ops listed → planB md ops rest listed = true → L a → wpAnyK P md ops C early loud Q rest.length listed 0 a) :
    ∀ (hd : List (Nat × Value)) (listed : Array Bool) (a : Act), (∀ i ∈ hd.map (·.1), early i = false ∧ loud i = false) → ClosedB md ops listed → planB md ops (hd.map (·.1) ++ rest) listed = true → firstT P ops hd a L →
      wpAnyK P md ops C early loud Q (hd.length + rest.length) listed 0 a
  | [], listed, a, _, inv, hB, h => by rw [List.length_nil, Nat.zero_add]; exact hL listed a inv (by simpa using hB) h
  | (i, v) :: r, listed, a, hd, inv, hB, h => by
    obtain ⟨he, hl⟩ := hd i (by simp)
    obtain ⟨o, ho, hy, hK⟩ := h
    simp only [List.map_cons, List.cons_append, planB, Bool.and_eq_true] at hB
    obtain ⟨⟨hr, hf⟩, hB'⟩ := hB
    have hr' : i ∈ Region.ready md ops listed := by simpa using hr
    rw [List.length_cons, show r.length + 1 + rest.length = r.length + rest.length + 1 by omega]
    refine wpAnyK_quiet ho hsel hl (fun h => by rw [he] at h; cases h) _ listed 0 a inv (fun _ => rfl) (Region.free_spec ho hf) hr' (fun k hk => ?_)
      (wpAnyK_free2 hsel hL r _ _ (fun x hx => hd x (by simp only [List.map_cons, List.mem_cons]; exact .inr hx)) (inv.set hr') hB' hK)
    rcases hy with ⟨hwt, hq⟩ | hy
    · exact .inl ⟨hwt, fun w hw => by unfold Oper.quietAt; rw [hq w]; exact ⟨rfl, rfl⟩⟩
    · exact .inr hy
def stagesB2 (ops : Array Oper) (er fr : List Nat) (t0 : Nat) (r : List Nat) : Bool :=
  Region.noSelect ops && sinkE .any ops er t0 && chainT .any ops (t0 :: r) && decide (t0 :: r).Nodup && er.all (fun i => !(t0 :: r).contains i && (ops[i]?).isSome) &&
  fr.all (fun i => !(t0 :: r).contains i && !er.contains i) && planB .any ops (er ++ (fr ++ (t0 :: r))) (Array.replicate ops.size false)
theorem wp_region_stages2 {C : Nat → World → Prop} {id : Nat} {Q : Exit → Act → World → Prop} {a : Act} {w : World} {l : List Oper} (er : List Nat) (fr : List (Nat × Value)) (t0 : Nat) (r : List Nat) (hm : P.follows .mixedOrders = true) (hB : stagesB2 l.toArray er (fr.map (·.1)) t0 r = true) (hlen : l.length = er.length + (fr.length + (r.length + 1)))
    (hC : C 0 { w with drawn := w.drawn + 1 })
    (h : wpQuiet P l.toArray (C 0) (fun a => firstT P l.toArray fr a (fun a => wpLouds P l.toArray C (fun k a => ∀ w', C k w' → Q .normal a w') (t0 :: r) 0 a)) (opsAt l.toArray er) a) :
    (Code.region id l.toArray true).wp P Q a w := by
  simp only [stagesB2, Bool.and_eq_true, decide_eq_true_eq] at hB
  obtain ⟨⟨⟨⟨⟨⟨hsel, hs⟩, hc⟩, hnd⟩, her⟩, hfr⟩, hplan⟩ := hB
  have hsel' := Region.noSelect_spec hsel
  have hE : ∀ i, er.contains i = true → ∀ listed, ClosedB .any l.toArray listed → listed.getD i true = false → ∀ t, (t0 :: r).contains t = true → t ∉ Region.ready .any l.toArray listed := fun i hi listed inv hun t ht =>
    sink_un hs hc inv _ i rfl (by simpa using hi) hun t (by simpa using ht)
  have inv0 : ClosedB .any l.toArray (Array.replicate l.toArray.size false) := ⟨by simp, fun j oj hj hl => by
    exfalso
    by_cases h : j < l.length
    · simp [h] at hl
    · simp [h] at hl⟩
  refine wp_region_any hm ?_
  have := wpAnyK_early (P := P) (md := .any) (C := C) (early := er.contains) (loud := (t0 :: r).contains) (Q := fun k a => ∀ w', C k w' → Q .normal a w') (rest := fr.map (·.1) ++ (t0 :: r)) hsel' hE
    (fun listed a inv hpl hL => by
      rw [List.length_append, List.length_map]
      exact wpAnyK_free2 hsel' (rest := t0 :: r) (fun listed a inv hpl hL => wpAnyK_louds hsel' (t0 :: r) [] listed 0 a inv (fun t => by simp) (by simp) hnd hc (by simp) hpl hL) fr listed a (fun i hi => by
        have := List.all_eq_true.1 hfr i hi
        simp only [Bool.and_eq_true, Bool.not_eq_true'] at this
        exact ⟨this.2, this.1⟩) inv hpl hL)
    er (Array.replicate l.toArray.size false) a (fun i hi => by
      have := List.all_eq_true.1 her i hi
      simp only [Bool.and_eq_true, Bool.not_eq_true'] at this
      exact ⟨by simpa using hi, this.1, this.2⟩) inv0 hplan h
  have h2 := wpAny_of_K (P := P) (md := .any) (C := C) (Q' := Q) (fun k a w hw h => h w hw) _ _ 0 a { w with drawn := w.drawn + 1 } hC this
  rw [List.length_append, List.length_cons, List.length_map, ← hlen] at h2
  simpa using h2
/-- one cell is stored: one stage on -/
theorem loud_cell {C : Nat → World → Prop} {k : Nat} {o : Oper} {a : Act} (hgd : o.guard = none) (v : Value) (hC : ∀ w, C k w → ∃ w', (execOp a.eval o).run P w = .ok (.value v) w' ∧ C (k + 1) w') : LoudAt P ops C k o v a := by
  refine ⟨by simp [Region.wanted, hgd], fun w hw => ?_⟩
  obtain ⟨w', h1, h2⟩ := hC w hw
  rw [h1]
  exact ⟨rfl, h2⟩
/-- one cell of a known world is stored, among the worlds by stages -/
theorem loud_store1 {F : Nat → World} {k : Nat} {o : Oper} {a : Act} (hgd : o.guard = none) (ty : TypeId) (x y : Operand) (ho : o.op = .store ty x y) (p : Addr) (v : Value)
    (hx : a.eval x = .pointer (some p)) (hy : a.eval y = v) (hs : ∀ (w : World) u, w.cell? p = some u → w.frozen? p = false → (Instr.storeAt ty (.pointer (some p)) v).run P w = .ok () (w.setCell p v))
    {u : Value} (hc : (F k).cell? p = some u) (hf : (F k).frozen? p = false) (hl : p.block < (F k).heap.size) (hn : F (k + 1) = (F k).setCell p v) :
    LoudAt P ops (fun k w' => ∃ q : Regrown, w' = grow (redrawn (F k) q.d) q.os) k o undef a := by
  refine ⟨by simp [Region.wanted, hgd], fun w hw => ?_⟩
  obtain ⟨q, rfl⟩ := hw
  have := hs (grow (redrawn (F k) q.d) q.os) u (cell_regrown hc q.d q.os) (((below_regrown (F k) q.d q.os).frozen hl).trans hf)
  unfold execOp
  simp only [ho, hx, hy, Sem.run_bind, this, Sem.run_pure, Result.andThen_ok]
  refine ⟨rfl, q, ?_⟩
  rw [setCell_grow _ _ _ _ (by exact hl), hn]
  rfl
/-- the worlds by stages: neither cell stored, the first one, both -/
def stage2 (W : World) (p : Addr) (u : Value) (q : Addr) (v : Value) : Nat → World
  | 0 => W
  | 1 => W.setCell p u
  | 2 => W.setCell p u
  | _ => (W.setCell p u).setCell q v
end
/-- a slice of structs in a struct's field, as it came in -/
theorem field_rows {H : Type} {enc : TypeId × Value → H} {P : Program} {w : World} {base : Nat} {held : Bool} {fuel : Nat} {t e : TypeId} {sz : Nat} {c : Value} {y : DataW H × List MemPlace}
    (ht : P.underlying t = some (.slice e)) (hC : P.cellsOf e = sz) (hpos : 0 < sz) (hf : DataW.trod enc P w base (fun _ => true) held fuel t [c] = some y) :
    ∃ (A : Option Addr) (n cap : Nat) (cs : List (List Value)), c = .slice A n cap ∧ n ≤ cap ∧ cap ≤ maxLen ∧ (A = none → cap = 0) ∧ RowsAt w A n sz cs ∧
      ∀ c ∈ cs, c.length = sz ∧ ∃ (m : Nat) (D : DataW H × List MemPlace), DataW.trod enc P w base (fun _ => true) held m e c = some D := by
  rcases Go.Deep.open_slice ht hf with ⟨hcs, _⟩ | ⟨a, len, cap', m, q, D, Pl, hcs, _, hl, hm, hmm, _, hi⟩
  · obtain rfl : c = .slice none 0 0 := by simpa using hcs
    exact ⟨none, 0, 0, [], rfl, Nat.le_refl _, Nat.zero_le _, fun _ => rfl, RowsAt.nil _ _ _, fun c hc => by cases hc⟩
  · obtain rfl : c = .slice (some a) len cap' := by simpa using hcs
    have hmc : m = cap' := by simpa using hmm
    have hall : ∀ i : Nat, ∃ c : List Value, i < len → w.cells? base (a.add (i * P.cellsOf e)) (P.cellsOf e) = some c ∧ DataW.trod enc P w base (fun _ => true) held q e c = some (D i, Pl i) := fun i => by
      by_cases hin : i < len
      · obtain ⟨c, hc⟩ := hi i (by omega)
        exact ⟨c, fun _ => hc⟩
      · exact ⟨[], fun h => absurd h hin⟩
    obtain ⟨g, hg⟩ := Classical.axiomOfChoice hall
    have hfact : ∀ i, i < len → (g i).length = sz ∧ (∀ j, j < sz → w.cell? (a.add (i * sz + j)) = (g i)[j]?) ∧ ∃ (m : Nat) (D : DataW H × List MemPlace), DataW.trod enc P w base (fun _ => true) held m e (g i) = some D := fun i hin => by
      obtain ⟨h1, h2⟩ := hg i hin
      obtain ⟨_, hcl, hat⟩ := World.cells?_some h1
      rw [hC] at hcl hat
      refine ⟨hcl, fun j hj => ?_, q, _, h2⟩
      have := hat j hj
      rw [Addr.add_add] at this
      exact this
    refine ⟨some a, len, cap', (List.range len).map g, rfl, hl, hm, (fun h => by cases h), ⟨by simp, fun j c hj => ?_⟩, fun c hc => ?_⟩
    · have hjn : j < len := by
        have := (List.getElem?_eq_some_iff.1 hj).1
        simpa using this
      obtain rfl : c = g j := by
        rw [List.getElem?_map, List.getElem?_range hjn] at hj
        simpa using hj.symm
      obtain ⟨h1, h2, h3⟩ := hfact j hjn
      refine ⟨h1, a, rfl, ?_, fun i u hu => ?_⟩
      · have h0 := h2 0 hpos
        have hs : ∃ u, (g j)[0]? = some u := ⟨_, List.getElem?_eq_getElem (by omega)⟩
        obtain ⟨u, hu⟩ := hs
        have := World.block_lt_of_cell? w _ (h0.trans hu)
        rwa [block_add] at this
      · have hil : i < sz := by have := (List.getElem?_eq_some_iff.1 hu).1; omega
        exact (h2 i hil).trans hu
    · obtain ⟨i, hi', rfl⟩ := List.mem_map.1 hc
      have hin := List.mem_range.1 hi'
      exact ⟨(hfact i hin).1, (hfact i hin).2.2⟩
theorem arg_guess {H : Type} {enc : TypeId × Value → H} {w : World} {base : Nat} {held : Bool} {r : Reach} {b0 : Nat} {v : Value} {d : DataW H} {p : List MemPlace}
    (hv : Value.okWide Try.prog w r b0 27 v) (h : DataW.Trod enc Try.prog w base (fun _ => true) held 27 v d p) :
    ∃ (A : Option Addr) (na ca : Nat) (hh : Int) (B : Option Addr) (nb cb : Nat) (L : List (Int × Int)) (R : List Int), v = gV A na ca hh B nb cb ∧ (na ≤ ca ∧ ca ≤ maxLen) ∧ (nb ≤ cb ∧ cb ≤ maxLen) ∧ (B = none → cb = 0) ∧ (Lit.int .u32 hh).wf = true ∧ RowsAt w A na 2 (L.map slC) ∧ IntsAt w B nb .u32 R := by
  obtain ⟨cs, rfl, hsz, hf⟩ := arg_fields Try.underlying27 (by kernel_rfl) (by kernel_rfl) hv h
  obtain ⟨c0, y0, n0, g0, t0⟩ := hf 0 _ rfl
  obtain ⟨c1, y1, n1, g1, t1⟩ := hf 1 _ rfl
  obtain ⟨c2, y2, n2, g2, t2⟩ := hf 2 _ rfl
  obtain ⟨A, na, ca, rows, rfl, a1, a2, a3, a4, a5⟩ := field_rows (sz := 2) Try.underlying25 (by kernel_rfl) (by decide) t0
  obtain ⟨hh, rfl, w1⟩ := arg_int Try.underlying24 t1
  obtain ⟨B, nb, cb, R', rfl, b1, b2, b3, b4, b5⟩ := field_rows (sz := 1) Try.underlying22 (by kernel_rfl) (by decide) t2
  obtain ⟨L, rfl⟩ : ∃ L : List (Int × Int), rows = L.map slC := by
    have : ∀ (rows : List (List Value)), (∀ c ∈ rows, ∃ x : Int × Int, c = slC x) → ∃ L : List (Int × Int), rows = L.map slC := by
      intro rows
      induction rows with
      | nil => exact fun _ => ⟨[], rfl⟩
      | cons c r ih =>
        intro hc
        obtain ⟨x, rfl⟩ := hc c (by simp)
        obtain ⟨L, rfl⟩ := ih fun c h => hc c (by simp [h])
        exact ⟨x :: L, rfl⟩
    refine this rows fun c hc => ?_
    obtain ⟨hl, m, D, hD⟩ := a5 c hc
    obtain ⟨_, m', hp⟩ := struct_parts (L := [(0, 1, 24), (1, 1, 24)]) Try.underlying41 (by kernel_rfl) hD
    obtain ⟨u0, q0⟩ := hp 0 _ _ _ rfl
    obtain ⟨u1, q1⟩ := hp 1 _ _ _ rfl
    match c, hl, q0, q1 with
    | [x0, x1], _, q0, q1 =>
      obtain ⟨z0, rfl, _⟩ := arg_int Try.underlying24 (show DataW.trod enc Try.prog w base (fun _ => true) held m' 24 [x0] = some u0 by simpa using q0)
      obtain ⟨z1, rfl, _⟩ := arg_int Try.underlying24 (show DataW.trod enc Try.prog w base (fun _ => true) held m' 24 [x1] = some u1 by simpa using q1)
      exact ⟨(z0, z1), rfl⟩
  obtain ⟨R, hR⟩ : ∃ R : List Int, R' = R.map fun z => [Value.int .u32 z] := by
    have : ∀ (rows : List (List Value)), (∀ c ∈ rows, ∃ x : Int, c = [Value.int .u32 x]) → ∃ L : List Int, rows = L.map fun z => [Value.int .u32 z] := by
      intro rows
      induction rows with
      | nil => exact fun _ => ⟨[], rfl⟩
      | cons c r ih =>
        intro hc
        obtain ⟨x, rfl⟩ := hc c (by simp)
        obtain ⟨L, rfl⟩ := ih fun c h => hc c (by simp [h])
        exact ⟨x :: L, rfl⟩
    refine this R' fun c hc => ?_
    obtain ⟨hl, m, D, hD⟩ := b5 c hc
    match c, hl, hD with
    | [x0], _, hD =>
      obtain ⟨z0, rfl, _⟩ := arg_int Try.underlying24 hD
      exact ⟨z0, rfl⟩
  refine ⟨A, na, ca, hh, B, nb, cb, L, R, ?_, ⟨a1, a2⟩, ⟨b1, b2⟩, b3, w1, a4, ?_⟩
  · unfold gV
    congr 1
    apply Array.ext_getElem?
    intro i
    have hsz5 : cs.size = 3 := hsz
    rcases i with _ | _ | _ | i
    · exact g0
    · exact g1
    · exact g2
    · rw [Array.getElem?_eq_none (by omega), Array.getElem?_eq_none (by simp)]
  · subst hR
    refine ⟨by have := b4.1; simpa using this, fun j z hj => ?_⟩
    obtain ⟨_, a, ha, hlt, hcl⟩ := b4.2 j [Value.int .u32 z] (by rw [List.getElem?_map, hj]; rfl)
    refine ⟨a, ha, hlt, ?_⟩
    have := hcl 0 _ rfl
    simpa using this
def zG : List Value := [.slice none 0 0, .int .u32 0, .slice none 0 0]
theorem few12_any (A : Option Addr) (na ca : Nat) (h : Int) (B : Option Addr) (nb cb : Nat) (a1 : na ≤ ca) (a2 : ca ≤ maxLen) (b1 : nb ≤ cb) (b2 : cb ≤ maxLen) (w : World) :
    Calls Try.prog 11 #[gV A na ca h B nb cb] w fun r w' => r = .returned (gV A (min na 20) ca h B (min nb 20) cb) ∧ Below w.heap.size w w' := by
  unfold maxLen at a2 b2
  obtain ⟨n', hn'⟩ : ∃ k, min na 20 = k := ⟨_, rfl⟩
  obtain ⟨m', hm'⟩ : ∃ k, min nb 20 = k := ⟨_, rfl⟩
  rw [hn', hm']
  have e1 : (if (20 : Int) < (na : Int) then (20 : Int) else (na : Int)) = (n' : Int) := by split <;> omega
  have e2 : (if (20 : Int) < (nb : Int) then (20 : Int) else (nb : Int)) = (m' : Int) := by split <;> omega
  have k1 : (n' : Int) ≤ ca := by omega
  have k2 : (m' : Int) ≤ cb := by omega
  have k3 : n' ≤ 20 := by omega
  have k4 : m' ≤ 20 := by omega
  clear hn' hm'
  obtain ⟨f1, f2, f3, f4⟩ := two_new w [.slice A na ca, .int .u32 h, .slice B nb cb] [.slice none 0 0, .int .u32 0, .slice none 0 0] 27 27
  unfold gV
  go_enter Try.func11, Try.ntmps11
  go_upto_region 1 with fail
  generalize (w.alloc (.cells #[.slice A na ca, .int .u32 h, .slice B nb cb] 27)).alloc (.cells #[.slice none 0 0, .int .u32 0, .slice none 0 0] 27) = W0 at *
  have X1 := Lib.hid f1
  have X2 := Lib.hid f2
  have KB := Lib.hid f3
  clear f1 f2 f3 f4
  have c0 := X1.out.2.1 0 _ rfl
  have c2 := X1.out.2.1 2 _ rfl
  have q0 := fun d os => cell_regrown c0 d os
  have q2 := fun d os => cell_regrown c2 d os
  refine wp_region_stages2 (C := fun k w' => ∃ p : Regrown, w' = grow (redrawn (stage2 W0 ⟨w.heap.size, 0, none⟩ (.slice A n' ca) ⟨w.heap.size, 2, none⟩ (.slice B m' cb) k) p.d) p.os)
    [0, 1, 2, 3, 4, 5, 6, 7, 8, 9, 10] [(11, .int .i64 (nb : Int)), (12, .int .i64 (m' : Int)), (13, .slice B m' cb), (14, .pointer (some ⟨w.heap.size, 0, none⟩))] 15 [16, 17] (by kernel_rfl) (by kernel_rfl) rfl ⟨⟨W0.drawn + 1, #[]⟩, by rw [grow_empty]; rfl⟩ ?_
  show wpQuiet _ _ (fun w' => ∃ p : Regrown, w' = grow (redrawn W0 p.d) p.os) _ _ _
  simp only [opsAt, List.getElem?_toArray, List.getElem?_cons_zero, List.getElem?_cons_succ, Option.toList_some, List.cons_append, List.nil_append]
  repeat (go_big_quiet_step (fail))
  refine wpQuiet_nil ?_
  refine ⟨_, rfl, .inl ⟨rfl, fun w => by go_simp⟩, ?_⟩
  simp only [firstT, List.getElem_toArray, List.getElem_cons_succ, List.getElem_cons_zero, Act.put, List.setIfInBounds_toArray, List.set_cons_succ, List.set_cons_zero]
  refine ⟨_, rfl, .inl ⟨rfl, fun w => by go_simp⟩, ?_⟩
  simp only [firstT, List.getElem_toArray, List.getElem_cons_succ, List.getElem_cons_zero, Act.put, List.setIfInBounds_toArray, List.set_cons_succ, List.set_cons_zero]
  refine ⟨_, rfl, .inl ⟨rfl, fun w => by go_simp⟩, ?_⟩
  simp only [firstT, List.getElem_toArray, List.getElem_cons_succ, List.getElem_cons_zero, Act.put, List.setIfInBounds_toArray, List.set_cons_succ, List.set_cons_zero]
  refine ⟨_, rfl, .inl ⟨rfl, fun w => by go_simp⟩, ?_⟩
  simp only [firstT, List.getElem_toArray, List.getElem_cons_succ, List.getElem_cons_zero, Act.put, List.setIfInBounds_toArray, List.set_cons_succ, List.set_cons_zero]
  have e1 := X1.out.2.2 0 (by simp)
  have e2 := X1.out.2.2 2 (by simp)
  have hlt := X1.out.1
  refine ⟨_, undef, rfl, loud_store1 rfl 25 (.tmp 17) (.tmp 9) rfl ⟨w.heap.size, 0, none⟩ (.slice A n' ca) rfl rfl (fun w u h1 h2 => by go_simp) c0 e1 hlt rfl, ?_⟩
  simp only [firstT, List.getElem_toArray, List.getElem_cons_succ, List.getElem_cons_zero, Act.put, List.setIfInBounds_toArray, List.set_cons_succ, List.set_cons_zero]
  refine ⟨_, _, rfl, loud_cell rfl (.pointer (some ⟨w.heap.size, 2, none⟩)) (fun w' hw' => ⟨w', by go_simp, hw'⟩), ?_⟩
  simp only [firstT, List.getElem_toArray, List.getElem_cons_succ, List.getElem_cons_zero, Act.put, List.setIfInBounds_toArray, List.set_cons_succ, List.set_cons_zero]
  refine ⟨_, undef, rfl, loud_store1 rfl 22 (.tmp 18) (.tmp 16) rfl ⟨w.heap.size, 2, none⟩ (.slice B m' cb) rfl rfl (fun w u h1 h2 => by go_simp) (u := .slice B nb cb) (by show (W0.setCell _ _).cell? _ = _; rw [World.cell?_setCell_other _ _ _ _ (by simp)]; exact c2) (by show (W0.setCell _ _).frozen? _ = _; rw [World.frozen?_setCell]; exact e2) (by show _ < (W0.setCell _ _).heap.size; simpa using hlt) rfl, ?_⟩
  simp only [firstT, List.getElem_toArray, List.getElem_cons_succ, List.getElem_cons_zero, Act.put, List.setIfInBounds_toArray, List.set_cons_succ, List.set_cons_zero]
  rintro w' ⟨p, rfl⟩
  have z1 := (X1.out.set (i := 0) (v := .slice A n' ca) (by simp)).set (i := 2) (v := .slice B m' cb) (by simp)
  have z2 := (X2.out.other (p := ⟨w.heap.size, 0, none⟩) (v := .slice A n' ca) (by simp)).other (p := ⟨w.heap.size, 2, none⟩) (v := .slice B m' cb) (by simp)
  have z3 := (KB.out.setCell (p := ⟨w.heap.size, 0, none⟩) (Nat.le_refl _) (.slice A n' ca)).setCell (p := ⟨w.heap.size, 2, none⟩) (Nat.le_refl _) (.slice B m' cb)
  simp only [List.set_cons_succ, List.set_cons_zero] at z1
  have hW3 : stage2 W0 ⟨w.heap.size, 0, none⟩ (.slice A n' ca) ⟨w.heap.size, 2, none⟩ (.slice B m' cb) (0 + 1 + 1 + 1) = (W0.setCell ⟨w.heap.size, 0, none⟩ (.slice A n' ca)).setCell ⟨w.heap.size, 2, none⟩ (.slice B m' cb) := rfl
  rw [hW3]
  generalize (W0.setCell ⟨w.heap.size, 0, none⟩ (.slice A n' ca)).setCell ⟨w.heap.size, 2, none⟩ (.slice B m' cb) = W1 at *
  have bq := below_regrown W1 p.d p.os
  have y1 := z1.below bq z1.1
  have y2 := z2.below bq z2.1
  have y3 := z3.trans (bq.mono z3.size)
  generalize grow (redrawn W1 p.d) p.os = W2 at *
  clear c0 c2 q0 q2 e1 e2 hlt X1 X2 KB z1 z2 z3 bq hW3
  have HY1 := Lib.hid y1
  have HY2 := Lib.hid y2
  have HY3 := Lib.hid y3
  have HZI := Lib.hid (show (Try.prog.info? 27).map (·.size) = some (#[.slice A n' ca, .int .u32 h, .slice B m' cb] : Array Value).size by kernel_rfl)
  have HZO := Lib.hid (show (#[.slice A n' ca, .int .u32 h, .slice B m' cb] : Array Value).all (·.oneCell') = true by simp [Value.oneCell'])
  clear y1 y2 y3
  go_wp2_with (first
    | (refine wpList_load_mid rfl 27 (.tmp 1) rfl w.heap.size 0 rfl [.slice A n' ca, .int .u32 h, .slice B m' cb] _ HY1.out.range Try.underlying27 rfl (by kernel_rfl) ?_)
    | (refine wpList_store_blk rfl 27 (.tmp 2) (.tmp 19) rfl (w.heap.size + 1) _ #[.slice A n' ca, .int .u32 h, .slice B m' cb] HY2.out rfl rfl rfl HZI.out HZO.out ?_
       intro W3 g1 g2 g3 g4
       have G1 := Lib.hid g1
       have G3 := Lib.hid (g3 w.heap.size (by omega))
       clear g1 g2 g3 g4))
  exact bodyPost_ret (v := .agg #[.slice A n' ca, .int .u32 h, .slice B m' cb]) (results_cell_blk Try.results11 _ W3 (w.heap.size + 1) [.slice A n' ca, .int .u32 h, .slice B m' cb] _ rfl G1.out Try.underlying27 rfl (by kernel_rfl)) rfl ⟨rfl, HY3.out.trans G3.out⟩
end Go.Proofs.Ytkamljmopbocnaa
