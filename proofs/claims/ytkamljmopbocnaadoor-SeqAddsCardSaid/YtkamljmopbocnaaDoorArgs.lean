/- ARGUMENTS: a struct of one-cell fields, by value, taken field by field; an instruction. -/
import Derived.Test.YtkamljmopbocnaaDoorRows
import Derived.OpenShut
import Derived.Lib.SmallJoins
namespace Go.Proofs.YtkamljmopbocnaaDoor
open Go.ChangeShapes Go.WideShapes Go.ChangeAt Go.RowKit Go.Joins Go.Deep
set_option maxRecDepth 100000

theorem arg_fields {H : Type} {enc : TypeId × Value → H} {P : Program} {w : World} {base : Nat} {sp : Nat → Bool} {held : Bool} {r : Reach} {b0 : Nat} {t : TypeId} {fs : Array Field} {v : Value} {d : DataW H} {p : List MemPlace}
    (hs : P.underlying t = some (.struct fs)) (hone : oneCellFields P fs = true) (hC : P.cellsOf t = fs.size) (hv : Value.okWide P w r b0 t v) (h : DataW.Trod enc P w base sp held t v d p) :
    ∃ cs : Array Value, v = .agg cs ∧ cs.size = fs.size ∧ ∀ (j : Nat) (f : Field), fs[j]? = some f → ∃ (c : Value) (y : DataW H × List MemPlace) (n : Nat), cs[j]? = some c ∧ DataW.trod enc P w base sp held n f.type [c] = some y := by
  obtain ⟨cs, rfl, hsz⟩ := okWide_struct hs hv
  obtain ⟨fuel, hf⟩ := h
  obtain ⟨xs, n, _, _, _, hlen, hg⟩ := DataW.trod_struct hs hf
  have hsz' : cs.size = fs.size := hsz.trans hC
  refine ⟨cs, rfl, hsz', fun j f hj => ?_⟩
  obtain ⟨ho, hk⟩ := hone_of hone j f hj
  have hjl : j < fs.size := (Array.getElem?_eq_some_iff.1 hj).1
  have h1 := hg j f hj
  rw [ho, hk] at h1
  have hc : cs[j]? = some (cs[j]'(by omega)) := Array.getElem?_eq_getElem (by omega)
  have ht : ((Value.agg cs).cells.toList.drop j).take 1 = [cs[j]'(by omega)] := by
    show (cs.toList.drop j).take 1 = _
    rw [List.drop_eq_getElem_cons (by simpa using by omega)]
    rfl
  rw [ht] at h1
  exact ⟨_, _, n, hc, h1.trans (List.getElem?_eq_getElem (by omega))⟩

theorem arg_int {H : Type} {enc : TypeId × Value → H} {P : Program} {w : World} {base : Nat} {sp : Nat → Bool} {held : Bool} {n : Nat} {t : TypeId} {k : IntKind} {c : Value} {y : DataW H × List MemPlace}
    (ht : P.underlying t = some (.int k)) (h : DataW.trod enc P w base sp held n t [c] = some y) : ∃ z, c = .int k z ∧ (Lit.int k z).wf = true := by
  obtain ⟨z, hc, _, hw⟩ := DataW.trod_int ht h
  exact ⟨z, by simpa using hc, hw⟩

theorem arg_inst {H : Type} {enc : TypeId × Value → H} {w : World} {base : Nat} {sp : Nat → Bool} {held : Bool} {r : Reach} {b0 : Nat} {v : Value} {d : DataW H} {p : List MemPlace}
    (hv : Value.okWide Tryd.prog w r b0 46 v) (h : DataW.Trod enc Tryd.prog w base sp held 46 v d p) :
    ∃ op rd rs1 rs2 imm : Int, v = .agg #[.int .i64 op, .int .i64 rd, .int .i64 rs1, .int .i64 rs2, .int .u32 imm] ∧ (Lit.int .i64 op).wf = true ∧ (Lit.int .i64 rd).wf = true ∧ (Lit.int .i64 rs1).wf = true ∧ (Lit.int .i64 rs2).wf = true ∧ (Lit.int .u32 imm).wf = true := by
  obtain ⟨cs, rfl, hsz, hf⟩ := arg_fields Tryd.underlying46 (by kernel_rfl) (by kernel_rfl) hv h
  obtain ⟨c0, y0, n0, g0, t0⟩ := hf 0 _ rfl
  obtain ⟨c1, y1, n1, g1, t1⟩ := hf 1 _ rfl
  obtain ⟨c2, y2, n2, g2, t2⟩ := hf 2 _ rfl
  obtain ⟨c3, y3, n3, g3, t3⟩ := hf 3 _ rfl
  obtain ⟨c4, y4, n4, g4, t4⟩ := hf 4 _ rfl
  obtain ⟨op, rfl, w0⟩ := arg_int Tryd.underlying3 t0
  obtain ⟨rd, rfl, w1⟩ := arg_int Tryd.underlying3 t1
  obtain ⟨rs1, rfl, w2⟩ := arg_int Tryd.underlying3 t2
  obtain ⟨rs2, rfl, w3⟩ := arg_int Tryd.underlying3 t3
  obtain ⟨imm, rfl, w4⟩ := arg_int Tryd.underlying25 t4
  refine ⟨op, rd, rs1, rs2, imm, ?_, w0, w1, w2, w3, w4⟩
  congr 1
  apply Array.ext_getElem?
  intro i
  have hsz5 : cs.size = 5 := hsz
  rcases i with _ | _ | _ | _ | _ | i
  · exact g0
  · exact g1
  · exact g2
  · exact g3
  · exact g4
  · rw [Array.getElem?_eq_none (by omega), Array.getElem?_eq_none (by simp)]

end Go.Proofs.YtkamljmopbocnaaDoor
