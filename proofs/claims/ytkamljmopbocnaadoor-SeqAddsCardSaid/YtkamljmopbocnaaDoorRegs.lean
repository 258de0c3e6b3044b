/- THE REGISTERS, by value: 32 numbers. -/
import Derived.Test.YtkamljmopbocnaaDoorArgs
import Derived.OpenShut
import Derived.DataElems
namespace Go.Proofs.YtkamljmopbocnaaDoor
open Go.ChangeShapes Go.WideShapes Go.ChangeAt Go.RowKit
set_option maxRecDepth 100000
set_option linter.unusedVariables false
set_option linter.unusedSimpArgs false

theorem okWide_arr {P : Program} {w : World} {r : Reach} {base n : Nat} {t e : TypeId} {v : Value} (ht : P.underlying t = some (.array n e)) (h : Value.okWide P w r base t v) : ∃ cs, v = .agg cs ∧ cs.size = P.cellsOf t := by
  simp only [Value.okWide, ht] at h
  obtain ⟨cs, h1, h2, _⟩ := h
  exact ⟨cs, h1, h2⟩
def regL (zs : List Int) : List Value := zs.map (Value.int .u32)
def regV (zs : List Int) : Value := .agg (regL zs).toArray
def regOK (zs : List Int) : Prop := zs.length = 32 ∧ ∀ z ∈ zs, (Lit.int .u32 z).wf = true
set_option maxRecDepth 100000 in
theorem arg_regs {H : Type} {enc : TypeId × Value → H} {w : World} {base : Nat} {sp : Nat → Bool} {held : Bool} {r : Reach} {b0 : Nat} {v : Value} {d : DataW H} {p : List MemPlace}
    (hv : Value.okWide Tryd.prog w r b0 26 v) (h : DataW.Trod enc Tryd.prog w base sp held 26 v d p) : ∃ zs : List Int, v = regV zs ∧ regOK zs := by
  obtain ⟨cs, rfl, hsz⟩ := okWide_arr Tryd.underlying26 hv
  have c32 : Tryd.prog.cellsOf 26 = 32 := by kernel_rfl
  have c1 : Tryd.prog.cellsOf 25 = 1 := by kernel_rfl
  rw [c32] at hsz
  obtain ⟨fuel, hf⟩ := h
  obtain ⟨xs, m, _, _, _, hxl, hxs⟩ := DataW.trod_array Tryd.underlying26 hf
  rw [c1] at hxs
  have hcl : (Value.agg cs).cells = cs := rfl
  rw [hcl] at hxs
  have hall : ∀ i : Nat, ∃ z : Int, i < 32 → cs.toList[i]? = some (.int .u32 z) ∧ (Lit.int .u32 z).wf = true := fun i => by
    by_cases hi : i < 32
    · have h1 := hxs i hi
      rw [Nat.mul_one] at h1
      have hil : i < cs.toList.length := by simpa [hsz] using hi
      rw [List.drop_eq_getElem_cons hil] at h1
      have h2 : xs[i]? = some (xs[i]'(by omega)) := List.getElem?_eq_getElem (by omega)
      rw [h2] at h1
      obtain ⟨z, hz, hw⟩ := arg_int Tryd.underlying25 (c := cs.toList[i]) (by simpa using h1)
      exact ⟨z, fun _ => ⟨by rw [List.getElem?_eq_getElem hil, hz], hw⟩⟩
    · exact ⟨0, fun h => absurd h hi⟩
  obtain ⟨g, hg⟩ := Classical.axiomOfChoice hall
  refine ⟨(List.range 32).map g, ?_, by simp, fun z hz => ?_⟩
  · unfold regV
    congr 1
    apply Array.ext'
    apply List.ext_getElem?
    intro i
    unfold regL
    by_cases hi : i < 32
    · rw [(hg i hi).1]
      simp [List.getElem?_map, List.getElem?_range hi]
    · rw [List.getElem?_eq_none (by simp [hsz]; omega), List.getElem?_eq_none (by simp; omega)]
  · obtain ⟨i, hi, rfl⟩ := List.mem_map.1 hz
    exact (hg i (List.mem_range.1 hi)).2

end Go.Proofs.YtkamljmopbocnaaDoor
