/- A shape as an argument. -/
import Derived.Test.YtebeelphilfjhaaConfC
import Derived.Test.YtebeelphilfjhaaArgs
namespace Go.Proofs.Ytebeelphilfjhaa
open Go.ChangeShapes Go.WideShapes Go.ChangeAt Go.RowKit Go.Joins Go.Deep
set_option linter.unusedVariables false

theorem field_ints {H : Type} {enc : TypeId × Value → H} {P : Program} {w : World} {base : Nat} {held : Bool} {fuel : Nat} {t e : TypeId} {k : IntKind} {c : Value} {y : DataW H × List MemPlace}
    (ht : P.underlying t = some (.slice e)) (he : P.underlying e = some (.int k)) (hc : P.cellsOf e = 1) (hf : DataW.trod enc P w base (fun _ => true) held fuel t [c] = some y) :
    ∃ (A : Option Addr) (n cap : Nat) (zs : List Int), c = .slice A n cap ∧ n ≤ cap ∧ cap ≤ maxLen ∧ IntsAt w A n k zs ∧ ∀ z ∈ zs, (Lit.int k z).wf = true := by
  rcases open_ints ht he hc hf with ⟨hcs, _⟩ | ⟨a, len, cap', zs, hcs, _, hl, hm, hz, _, hcell, hwz⟩
  · obtain rfl : c = .slice none 0 0 := by simpa using hcs
    exact ⟨none, 0, 0, [], rfl, Nat.le_refl _, Nat.zero_le _, ⟨rfl, fun j z hz => by simp at hz⟩, fun z hz => by cases hz⟩
  · obtain rfl : c = .slice (some a) len cap' := by simpa using hcs
    have hzl : zs.length = cap' := by simpa using hz
    refine ⟨some a, len, cap', zs.take len, rfl, hl, hm, ⟨by rw [List.length_take]; omega, fun j z hj => ?_⟩, fun z hzz => hwz z (List.mem_of_mem_take hzz)⟩
    rw [List.getElem?_take] at hj
    by_cases hjn : j < len
    · rw [if_pos hjn] at hj
      have hjl : j < zs.length := by omega
      have hc' := hcell j hjl
      have hzj : zs.getD j 0 = z := by rw [List.getD_eq_getElem?_getD, hj]; rfl
      rw [hzj] at hc'
      refine ⟨a, rfl, ?_, hc'⟩
      have := World.block_lt_of_cell? w (a.add j) hc'
      rwa [block_add] at this
    · rw [if_neg hjn] at hj; exact absurd hj (by simp)
def cfOK (c : Cf) : Prop := (Lit.int .i64 c.mode).wf = true ∧ (Lit.int .i64 c.width).wf = true ∧ (Lit.int .i64 c.rob).wf = true ∧ (Lit.int .i64 c.queue).wf = true ∧ (Lit.int .i64 c.stores).wf = true ∧ (Lit.int .i64 c.slots).wf = true ∧ (Lit.int .i64 c.sets).wf = true ∧ (Lit.int .i64 c.ways).wf = true
set_option maxRecDepth 100000 in
theorem arg_conf {H : Type} {enc : TypeId × Value → H} {w : World} {base : Nat} {held : Bool} {r : Reach} {b0 : Nat} {v : Value} {d : DataW H} {p : List MemPlace}
    (hv : Value.okWide Try.prog w r b0 25 v) (h : DataW.Trod enc Try.prog w base (fun _ => true) held 25 v d p) :
    ∃ (c : Cf) (lat tape : List Int), v = cfV c ∧ CfAt w c lat tape ∧ cfOK c ∧ (∀ z ∈ lat, (Lit.int .i64 z).wf = true) ∧ (∀ z ∈ tape, (Lit.int .u32 z).wf = true) := by
  obtain ⟨cs, rfl, hsz, hf⟩ := arg_fields Try.underlying25 (by kernel_rfl) (by kernel_rfl) hv h
  obtain ⟨c0, y0, n0, g0, t0⟩ := hf 0 _ rfl
  obtain ⟨c1, y1, n1, g1, t1⟩ := hf 1 _ rfl
  obtain ⟨c2, y2, n2, g2, t2⟩ := hf 2 _ rfl
  obtain ⟨c3, y3, n3, g3, t3⟩ := hf 3 _ rfl
  obtain ⟨c4, y4, n4, g4, t4⟩ := hf 4 _ rfl
  obtain ⟨c5, y5, n5, g5, t5⟩ := hf 5 _ rfl
  obtain ⟨c6, y6, n6, g6, t6⟩ := hf 6 _ rfl
  obtain ⟨c7, y7, n7, g7, t7⟩ := hf 7 _ rfl
  obtain ⟨c8, y8, n8, g8, t8⟩ := hf 8 _ rfl
  obtain ⟨c9, y9, n9, g9, t9⟩ := hf 9 _ rfl
  obtain ⟨c10, y10, n10, g10, t10⟩ := hf 10 _ rfl
  obtain ⟨z0, rfl, w0⟩ := arg_int Try.underlying3 t0
  obtain ⟨z1, rfl, w1⟩ := arg_int Try.underlying3 t1
  obtain ⟨z2, rfl, w2⟩ := arg_int Try.underlying3 t2
  obtain ⟨z3, rfl, w3⟩ := arg_int Try.underlying3 t3
  obtain ⟨z4, rfl, w4⟩ := arg_int Try.underlying3 t4
  obtain ⟨z5, rfl, w5⟩ := arg_int Try.underlying3 t5
  obtain ⟨z6, rfl, w6⟩ := arg_int Try.underlying3 t6
  obtain ⟨z7, rfl, w7⟩ := arg_int Try.underlying3 t7
  obtain ⟨la, ln, lc, lat, rfl, a1, a2, a3, a4⟩ := field_ints Try.underlying22 Try.underlying3 (by kernel_rfl) t8
  obtain ⟨b9, e9, -⟩ := DataW.trod_bool Try.underlying4 t9
  obtain rfl : c9 = .bool b9 := by simpa using e9
  obtain ⟨ta, tn, tc, tape, rfl, b1, b2, b3, b4⟩ := field_ints Try.underlying23 Try.underlying30 (by kernel_rfl) t10
  refine ⟨⟨z0, z1, z2, z3, z4, z5, z6, z7, la, ln, lc, b9, ta, tn, tc⟩, lat, tape, ?_, ⟨a3, b3, a1, a2, b1, b2⟩, ⟨w0, w1, w2, w3, w4, w5, w6, w7⟩, a4, b4⟩
  unfold cfV
  congr 1
  apply Array.ext_getElem?
  intro i
  have hsz5 : cs.size = 11 := hsz
  rcases i with _ | _ | _ | _ | _ | _ | _ | _ | _ | _ | _ | i
  · exact g0
  · exact g1
  · exact g2
  · exact g3
  · exact g4
  · exact g5
  · exact g6
  · exact g7
  · exact g8
  · exact g9
  · exact g10
  · rw [Array.getElem?_eq_none (by omega), Array.getElem?_eq_none (by simp)]

end Go.Proofs.Ytebeelphilfjhaa
