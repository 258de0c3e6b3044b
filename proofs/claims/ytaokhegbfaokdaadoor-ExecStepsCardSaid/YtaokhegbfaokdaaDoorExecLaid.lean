/- WHAT THE ROW's LIST GIVES (of layer 18's laws): the world holds the table of package inst; a world for the witness. -/
import Derived.Test.YtaokhegbfaokdaaDoorCards
import Derived.Test.YtaokhegbfaokdaaDoorInstRow
import Derived.OpenShut
import Derived.Deep.DeepHandedRow
import Derived.Lib.LaidTab
import Derived.ChangeSame
namespace Go.Proofs.YtaokhegbfaokdaaDoor
open Go.ChangeShapes Go.WideShapes Go.ChangeAt Go.RowKit

theorem gTab : Tryd.prog.globalNamed "auspex/inst.rows" = some 0 := by kernel_rfl
theorem gTabType : (Tryd.prog.globals[0]?).map (·.type) = some 100 := by kernel_rfl

theorem int_at {H : Type} {enc : TypeId × Value → H} {w : World} {base : Nat} {sp : Nat → Bool} {held : Bool} {m : Nat} {t : TypeId} {k : IntKind} {z : Int} {cs : List Value} {p : List MemPlace} {i : Nat}
    (ht : Tryd.prog.underlying t = some (.int k)) (h : DataW.trod enc Tryd.prog w base sp held m t ((cs.drop i).take 1) = some (.lit (.int k z), p)) : cs[i]? = some (.int k z) := by
  obtain ⟨z', hc, he, _⟩ := DataW.trod_int ht h
  have hz : z = z' := by simpa using congrArg Prod.fst he
  subst hz
  have := congrArg (·[0]?) hc
  simpa [List.getElem?_take, List.getElem?_drop] using this

theorem flat5 {α β : Type} (f : α → List β) (hf : ∀ a, (f a).length = 5) : ∀ (l : List α) (j : Nat), (l.flatMap f)[j]? = (l[j / 5]?).bind fun a => (f a)[j % 5]?
  | [], j => by simp
  | a :: l, j => by
    rw [List.flatMap_cons, List.getElem?_append]
    by_cases h : j < 5
    · rw [if_pos (by rw [hf]; exact h), Nat.div_eq_of_lt h, Nat.mod_eq_of_lt h]
      rfl
    · rw [if_neg (by rw [hf]; exact h), hf, flat5 f hf l (j - 5), show j / 5 = (j - 5) / 5 + 1 by omega, show (j - 5) % 5 = j % 5 by omega]
      rfl
def rowD {H : Type} (r : Row) : DataW H := .agg [.lit (.int .i64 r.1), .lit (.int .i64 r.2.1), .lit (.int .u32 r.2.2.1), .lit (.int .u32 r.2.2.2.1), .lit (.int .u32 r.2.2.2.2)]
theorem laid_rows : (Rows.laid_auspex_inst_rows : DataW Unit) = .agg (rowsL.map rowD) := rfl

set_option maxRecDepth 100000
set_option linter.unusedSimpArgs false in
theorem table {W : World} (h : laidMetH Tryd.prog [("auspex/inst.rows", Rows.laid_auspex_inst_rows)] W) : TabIs W ∧ 0 < W.heap.size := by
  obtain ⟨ps, ⟨g', t', cs, fuel, p, q, hg', ht', hvar, hd, _, _⟩, _⟩ := (show laidMet Tryd.prog [("auspex/inst.rows", Rows.laid_auspex_inst_rows)] W from h)
  obtain rfl := Option.some.inj (gTab.symm.trans hg')
  obtain rfl := Option.some.inj (gTabType.symm.trans ht')
  obtain ⟨xs, m, _, hx, hlen, hxl, hxs⟩ := DataW.trod_array Tryd.underlying100 hd
  rw [laid_rows] at hx
  have hmap : xs.map (·.1) = rowsL.map rowD := by
    have := congrArg Prod.fst hx
    simpa using this.symm
  have hcs : ∀ (k : Nat) (r : Row), rowsL[k]? = some r → ∀ i, i < 5 → cs.toList[k * 5 + i]? = (rowC r)[i]? := by
    intro k r hr i hi
    have hk : k < 45 := by
      have := (List.getElem?_eq_some_iff.1 hr).1
      rwa [rowsL_len] at this
    have hy : (xs.map (·.1))[k]? = some (rowD r) := by rw [hmap, List.getElem?_map, hr]; rfl
    rw [List.getElem?_map, Option.map_eq_some_iff] at hy
    obtain ⟨y, hy, hyr⟩ := hy
    have ht := hxs k hk
    rw [hy] at ht
    obtain ⟨ys, n, _, hyy, _, hyl, hf⟩ := DataW.trod_struct Tryd.underlying83 ht
    have c40 : Tryd.prog.cellsOf 83 = 5 := by kernel_rfl
    have ci : Tryd.prog.cellsOf 3 = 1 := by kernel_rfl
    have cu : Tryd.prog.cellsOf 22 = 1 := by kernel_rfl
    rw [c40] at hf
    have h5 : ys.length = 5 := hyl
    match ys, h5 with
    | [y0, y1, y2, y3, y4], _ =>
      have hd5 : (DataW.agg [y0.1, y1.1, y2.1, y3.1, y4.1] : DataW Unit) = rowD r := by rw [← hyr, hyy]; rfl
      unfold rowD at hd5
      simp only [DataW.agg.injEq, List.cons.injEq, and_true] at hd5
      obtain ⟨e0, e1, e2, e3, e4⟩ := hd5
      have h0 := hf 0 _ rfl
      have h1 := hf 1 _ rfl
      have h2 := hf 2 _ rfl
      have h3 := hf 3 _ rfl
      have h4 := hf 4 _ rfl
      simp only [ci, cu, List.getElem?_cons_zero, List.getElem?_cons_succ] at h0 h1 h2 h3 h4
      have g0 := int_at (z := r.1) (p := y0.2) Tryd.underlying3 (h0.trans (by rw [← e0]))
      have g1 := int_at (z := r.2.1) (p := y1.2) Tryd.underlying3 (h1.trans (by rw [← e1]))
      have g2 := int_at (z := r.2.2.1) (p := y2.2) Tryd.underlying22 (h2.trans (by rw [← e2]))
      have g3 := int_at (z := r.2.2.2.1) (p := y3.2) Tryd.underlying22 (h3.trans (by rw [← e3]))
      have g4 := int_at (z := r.2.2.2.2) (p := y4.2) Tryd.underlying22 (h4.trans (by rw [← e4]))
      simp only [List.getElem?_take, List.getElem?_drop] at g0 g1 g2 g3 g4
      rcases i with _ | _ | _ | _ | _ | i
      · simpa [rowC] using g0
      · simpa [rowC] using g1
      · simpa [rowC] using g2
      · simpa [rowC] using g3
      · simpa [rowC] using g4
      · omega
  have ht : TabIs W := by
    intro j v hj
    rw [show tabL = rowsL.flatMap rowC from rfl, flat5 rowC (fun _ => rfl), Option.bind_eq_some_iff] at hj
    obtain ⟨r, hr, hv⟩ := hj
    have := hcs _ r hr (j % 5) (by omega)
    rw [show j / 5 * 5 + j % 5 = j by omega, hv] at this
    rw [World.var?_cell gTab hvar j]
    simpa using this
  exact ⟨ht, World.block_lt_of_cell? W _ (ht 0 _ rfl)⟩

noncomputable def laidWorld (os : Os) : World :=
  { World.holding Tryd.prog os ⟨#[], #[], []⟩ with heap := (World.holding Tryd.prog os ⟨#[], #[], []⟩).heap.modify 0 fun
      | .cells _ t frozen => .cells tabL.toArray t frozen
      | o => o }

end Go.Proofs.YtaokhegbfaokdaaDoor
