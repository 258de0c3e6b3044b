/- STEPS of a region that draws its order, over rows of ways: an empty row made, a way read, a row of one built, ways appended. -/
import Derived.Test.YtcgahdmacngipaaCacheG
import Derived.RegionTactic
import Derived.Orders
import Derived.Great.BuildSlice
import Derived.Laws.MakeOwn
namespace Go.Proofs.Ytcgahdmacngipaa
open Go.ChangeShapes Go.WideShapes Go.ChangeAt Go.RowKit Go.Sort
set_option linter.unusedVariables false
set_option linter.unusedSimpArgs false
set_option maxHeartbeats 4000000
set_option maxRecDepth 100000

theorem step_make_way {w : World} {ops : Array Oper} {o : Oper} {a : Act} {K : Act → World → Prop} {Q : Exit → Act → World → Prop} {E : Prop} (hgd : o.guard = none) (c : Nat) (hc : c ≤ 1000) (x : Operand)
    (ho : o.op = .makeSlice 53 (.const (.int .i64 0)) x) (hx : a.eval x = .int .i64 (c : Int))
    (h : ∀ w', w'.ownsRow w.heap.size 37 3 (.slice (some ⟨w.heap.size, 0, none⟩) 0 c) 0 [] → Below w.heap.size w w' → K (a.put o.dst (.slice (some ⟨w.heap.size, 0, none⟩) 0 c)) w') :
    if Region.wanted o (yielded ops a.tmps) = true then Oper.wp Try.prog o a w K Q else E := by
  have hw : Region.wanted o (yielded ops a.tmps) = true := by simp [Region.wanted, hgd]
  rw [if_pos hw]
  obtain ⟨i0, hi, hz0, hz1, hz2⟩ := info_parts info_way
  obtain ⟨w', hr, h1, h2⟩ := run_makeSlice_owned (P := Try.prog) w w.heap.size 53 37 i0 _ 3 Try.underlying53 hi hz0 hz1 .i64 .i64 c (by omega) (by rw [hz2]; omega) (by unfold maxLen; omega) (Nat.le_refl _)
  have hb : Below w.heap.size w w' := (Below.refl _ _).grown h2 (Nat.le_refl _) (fun k hk => by cases hk)
  unfold Oper.wp execOp
  simp only [ho, hx, show a.eval (.const (.int .i64 0)) = .int .i64 0 from rfl, Sem.run_bind, Sem.run_pure, hr, Result.andThen_ok]
  exact h w' h1 hb
theorem step_load_row {w : World} {ops : Array Oper} {o : Oper} {a : Act} {K : Act → World → Prop} {Q : Exit → Act → World → Prop} {E : Prop} (hgd : o.guard = none) (ty : TypeId) (x : Operand) (ho : o.op = .load ty x) (p : Addr) (hx : a.eval x = .pointer (some p)) (cs : List Value) (d : TypeDesc)
    (hc : ∀ j v, cs[j]? = some v → w.cell? (p.add j) = some v) (hu : Try.prog.underlying ty = some d) (hd : d.isRow = true) (hi : (Try.prog.info? ty).map (·.size) = some cs.length) (h : K (a.put o.dst (.agg cs.toArray)) w) :
    if Region.wanted o (yielded ops a.tmps) = true then Oper.wp Try.prog o a w K Q else E := by
  have hw : Region.wanted o (yielded ops a.tmps) = true := by simp [Region.wanted, hgd]
  rw [if_pos hw]
  unfold Oper.wp execOp
  simp only [ho, hx, Instr.loadAt, Instr.sureAddr, Sem.run_bind, Sem.run_pure, Result.andThen_ok, run_loadVar_row w p ty cs d hc hu hd hi]
  exact h
theorem one_way (w : World) (r : Wy) : WaysAt (w.alloc (.cells (wyC r).toArray 37)) (some ⟨w.heap.size, 0, none⟩) 1 [r] :=
  ⟨rfl, fun j c hj => by
    have hj0 : j = 0 := by
      have := (List.getElem?_eq_some_iff.1 hj).1
      simp at this
      exact this
    subst hj0
    have hc : wyC r = c := by simpa using hj
    subst hc
    exact ⟨rfl, _, rfl, by simp, fun i v hi => by rw [Addr.add_lit, World.cell?_alloc_at _ _ _ _ rfl]; simpa using hi⟩⟩
theorem step_build_way {w : World} {ops : Array Oper} {o : Oper} {a : Act} {K : Act → World → Prop} {Q : Exit → Act → World → Prop} {E : Prop} (hgd : o.guard = none) (parts : Array (Nat × Operand)) (e : Wy) (ho : o.op = .buildSlice 53 1 parts)
    (hp : (parts.map fun (i, x) => (i, a.eval x)).toList = [(0, .agg (wyC e).toArray)])
    (h : ∀ W2, WaysAt W2 (some ⟨w.heap.size, 0, none⟩) 1 [e] → Below w.heap.size w W2 → W2.heap.size = w.heap.size + 1 → K (a.put o.dst (.slice (some ⟨w.heap.size, 0, none⟩) 1 1)) W2) :
    if Region.wanted o (yielded ops a.tmps) = true then Oper.wp Try.prog o a w K Q else E := by
  have hw : Region.wanted o (yielded ops a.tmps) = true := by simp [Region.wanted, hgd]
  rw [if_pos hw]
  obtain ⟨ie, hie, hz0, hs, _⟩ := info_parts info_way
  refine wp_buildSlice 53 37 1 parts ho (wyC e).toArray ie _ Try.underlying53 hie hz0 (by rw [hs]; omega) (by rw [hs]; omega) ?_ ?_
  · rw [hp, hs, show [(0, Value.agg (wyC e).toArray)] = ([wyV e].zipIdx 0).map (fun x => (x.2, x.1)) from rfl]
    refine (Great.fill_whole (by decide) [wyV e] _ (fun v hv => by simp at hv; subst hv; rfl) (by simp)).trans ?_
    simp [wyV, wyC, Value.cells]
  · exact h _ (one_way _ e) ((Below.refl _ _).alloc (Nat.le_refl _) _) (by simp)
theorem step_append_way {w : World} {ops : Array Oper} {o : Oper} {a : Act} {K : Act → World → Prop} {Q : Exit → Act → World → Prop} {E : Prop} (hgd : o.guard = none) (s x : Operand)
    (ho : o.op = .call { callee := .builtin .append, args := #[s, x], argTypes := #[53, 53] }) (base : Nat)
    (v : Value) (n : Nat) (xs : List Value) (hs : a.eval s = v) (hown : w.ownsRow base 37 3 v n xs) (b : Addr) (m c : Nat) (es : List Wy) (hx : a.eval x = .slice (some b) m c) (hr : WaysAt w (some b) m es)
    (hnm : n + m ≤ 100000) (hbase : base ≤ w.heap.size)
    (h : ∀ v' w', w'.ownsRow base 37 3 v' (n + m) (xs ++ (es.map wyC).flatten) → w.grownBy w' v.ownBlock → K (a.put o.dst v') w') : if Region.wanted o (yielded ops a.tmps) = true then Oper.wp Try.prog o a w K Q else E := by
  obtain ⟨i0, hi, hz0, hz1, hz2⟩ := info_parts info_way
  have hnews := RowsAt.news hr (by decide)
  exact step_append_own hgd s x 53 ho base 37 i0 _ 3 24 Try.underlying53 hi hz0 hz1 hz2 rfl (by decide) v n xs hs hown b m c _ hx hnews.1 hnews.2 (wyC_ones es) (by unfold maxLen; omega) (by omega) hbase (fun v' w' h1 h2 _ => h v' w' h1 h2)
end Go.Proofs.Ytcgahdmacngipaa
