/- SLOTS OF THE CALL'S OWN: made, copied into, stored into (for guess.Train). -/
import Derived.Test.YtkamljmopbocnaaGuessR
import Derived.Laws.IdiomCopy
namespace Go.Proofs.Ytkamljmopbocnaa
open Go.ChangeShapes Go.WideShapes Go.ChangeAt Go.RowKit
set_option linter.unusedVariables false
set_option linter.unusedSimpArgs false
set_option maxHeartbeats 2000000
set_option maxRecDepth 100000

theorem info_slot : (Try.prog.info? 41).map (fun i => (i.zero.map (·.cells.size), i.size, i.bytes)) = some (some 2, 2, 8) := by kernel_rfl
/-- a slot's cells -/
def slC (x : Int × Int) : List Value := [.int .u32 x.1, .int .u32 x.2]
theorem slC_lens (L : List (Int × Int)) : ∀ (j : Nat) (c : List Value), (L.map slC)[j]? = some c → c.length = 2 := by
  intro j c hc
  rw [List.getElem?_map] at hc
  obtain ⟨r, _, rfl⟩ := Option.map_eq_some_iff.1 hc
  rfl
theorem slC_ones (L : List (Int × Int)) : ∀ u ∈ (L.map slC).flatten, u.oneCell' = true := by
  intro u hu
  obtain ⟨c, hc, hu⟩ := List.mem_flatten.1 hu
  obtain ⟨e, _, rfl⟩ := List.mem_map.1 hc
  simp [slC] at hu
  rcases hu with rfl | rfl <;> rfl
/-- eight slots of the call's own -/
def SlotsOwn (w : World) (g : Nat) (L : List (Int × Int)) : Prop := RowsAt w (some ⟨g, 0, none⟩) 8 2 (L.map slC) ∧ w.there g 0 16
theorem SlotsOwn.below {w w' : World} {g : Nat} {L : List (Int × Int)} (h : SlotsOwn w g L) (hb : Below w.heap.size w w') : SlotsOwn w' g L := by
  have hlt : g < w.heap.size := by
    obtain ⟨_, a, ha, hl, _⟩ := h.1.2 0 _ (List.getElem?_eq_getElem (by rw [h.1.1]; decide))
    cases ha
    exact hl
  refine ⟨h.1.below hb, fun j hj => ?_⟩
  obtain ⟨h1, h2⟩ := h.2 j hj
  exact ⟨by rw [hb.cell (p := ⟨g, 0 + j, none⟩) hlt]; exact h1, by rw [hb.frozen (p := ⟨g, 0 + j, none⟩) hlt]; exact h2⟩
/-- eight slots are made -/
theorem wpList_make_slots {w : World} {ops : Array Oper} {rest : List Oper} {o : Oper} {a : Act} {Q : Exit → Act → World → Prop} (hgd : o.guard = none)
    (ho : o.op = .makeSlice 25 (.const (.int .i64 8)) (.const (.int .i64 8)))
    (h : ∀ w', w'.there w.heap.size 0 16 → w.heap.size < w'.heap.size → Below w.heap.size w w' → wpList Try.prog ops Q rest (a.put o.dst (.slice (some ⟨w.heap.size, 0, none⟩) 8 8)) w') : wpList Try.prog ops Q (o :: rest) a w := by
  obtain ⟨i0, hi, h3⟩ := Option.map_eq_some_iff.1 info_slot
  injection h3 with hz0 h3
  injection h3 with hz1 hz2
  obtain ⟨z, hz, hzs⟩ := Option.map_eq_some_iff.1 hz0
  refine wpList_plain hgd fun K hK => ?_
  obtain ⟨w', hr, h1, h2⟩ := run_makeSlice_full (P := Try.prog) w w.heap.size 25 41 i0 z 2 Try.underlying25 hi hz hz1 .i64 .i64 8 (by omega) (by rw [hz2]; omega) (by unfold maxLen; omega) (Nat.le_refl _)
  unfold Oper.wp execOp
  simp only [ho, Act.eval, Sem.run_bind, Sem.run_pure, show ((8 : Int)) = ((8 : Nat) : Int) from rfl, hr, Result.andThen_ok]
  refine hK _ _ (h w' ?_ ?_ ((Below.refl _ _).grown h2 (Nat.le_refl _) (fun k hk => by cases hk)))
  · intro j hj
    rcases h1.2 with ⟨h0, h8⟩ | ⟨g, cap, cur, hv, hg, hh, g1, g2, g3, g4⟩
    · omega
    · injection hv with hv hv2 hv3
      injection hv with hv
      injection hv with hv
      subst hv hv3
      refine ⟨?_, by simp [World.frozen?, hh]⟩
      have : j < cur.size := by rw [g3]; omega
      simp [World.cell?, hh, this]
  · exact (h1.lt _ rfl).2
theorem run_copy_slots (w : World) (ty : TypeId) (g : Nat) (a : Addr) (ca : Nat) (cs : List Value) (hn : cs.length = 16)
    (hsrc : ∀ j v, cs[j]? = some v → w.cell? (a.add j) = some v) (ht : w.there g 0 16) (h1 : ∀ v ∈ cs, v.oneCell' = true) :
    (Builtin.copy_ #[25, 25] ty #[.slice (some ⟨g, 0, none⟩) 8 8, .slice (some a) 8 ca]).run Try.prog w = .ok (goInt 8) (w.setCells g 0 cs) := by
  have hl := run_loadCells_list (P := Try.prog) w a cs hsrc
  have hst := run_storeCells_cells (P := Try.prog) g 0 cs 0 w (fun j hj => by have := (ht j (by omega)).1; simpa using this) (fun j hj => by have := (ht j (by omega)).2; simpa using this) h1
  obtain ⟨i0, hi, h3⟩ := Option.map_eq_some_iff.1 info_slot
  injection h3 with hz0 h3
  injection h3 with hz1 hz2
  rw [hn] at hl
  simp [Builtin.copy_, run_underlying Try.underlying25, Builtin.lenOf, Builtin.firstCells, sizeOf, typeInfo, hi, hz1, hl, hst]
theorem slots_set {w : World} {g : Nat} {L : List (Int × Int)} (hL : L.length = 8) (ht : w.there g 0 16) (hg : g < w.heap.size) : SlotsOwn (w.setCells g 0 (L.map slC).flatten) g L := by
  have hlen : (L.map slC).flatten.length = 16 := by rw [flat_len _ (slC_lens L), List.length_map, hL]
  refine ⟨⟨by rw [List.length_map, hL], fun j c hj => ⟨slC_lens L j c hj, _, rfl, by rw [setCells_size]; exact hg, fun i v hi => ?_⟩⟩, fun j hj => ?_⟩
  · have hil : i < 2 := by have := (List.getElem?_eq_some_iff.1 hi).1; rw [slC_lens L j c hj] at this; exact this
    have hr := World.rangeAt_setCells_same w g 0 (L.map slC).flatten (by rw [hlen]; exact ht) (j * 2 + i) v (by rw [flat_get _ (slC_lens L) j i hil, hj]; exact hi)
    rw [Addr.add_lit]
    exact hr
  · rw [setCells_frozen]
    refine ⟨?_, (ht j hj).2⟩
    obtain ⟨v, hv⟩ : ∃ v, (L.map slC).flatten[j]? = some v := ⟨_, List.getElem?_eq_getElem (by omega)⟩
    have hr := World.rangeAt_setCells_same w g 0 (L.map slC).flatten (by rw [hlen]; exact ht) j v hv
    rw [hr]
    rfl
/-- eight slots are copied into those just made -/
theorem wpList_copy_slots {w : World} {ops : Array Oper} {rest : List Oper} {o : Oper} {ac : Act} {Q : Exit → Act → World → Prop} (hgd : o.guard = none) (d s : Operand)
    (ho : o.op = .call { callee := .builtin .copy, args := #[d, s], argTypes := #[25, 25] }) (g : Nat) (A : Option Addr) (ca : Nat) (L : List (Int × Int))
    (hd : ac.eval d = .slice (some ⟨g, 0, none⟩) 8 8) (hs : ac.eval s = .slice A 8 ca) (hr : RowsAt w A 8 2 (L.map slC)) (ht : w.there g 0 16) (hg : g < w.heap.size)
    (h : ∀ w', SlotsOwn w' g L → Below g w w' → w'.heap.size = w.heap.size → wpList Try.prog ops Q rest (ac.put o.dst (goInt 8)) w') : wpList Try.prog ops Q (o :: rest) ac w := by
  have hL : L.length = 8 := by have := hr.1; simpa using this
  obtain ⟨_, a, rfl, _⟩ := hr.2 0 _ (List.getElem?_eq_getElem (by rw [hr.1]; decide))
  have hn := RowsAt.news hr (by decide)
  have hrun := run_copy_slots w o.type g a ca _ (by simpa using hn.1) hn.2 ht (slC_ones L)
  refine wpList_plain hgd fun K hK => ?_
  unfold Oper.wp
  simp [execOp, ho, resolve, invoke, builtin, hd, hs, hrun, Result.andThen]
  exact hK _ _ (h _ (slots_set hL ht hg) (setCells_below g (Nat.le_refl _) _ 0 w) (setCells_size _ _ _ _))
/-- a slot is stored into those of the call's own -/
theorem SlotsOwn.set {w : World} {g k : Nat} {L : List (Int × Int)} (h : SlotsOwn w g L) (hk : k < 8) (x : Int × Int) : SlotsOwn (w.setCells g (k * 2) (slC x)) g (L.set k x) := by
  have hL : L.length = 8 := by have := h.1.1; simpa using this
  have hth : w.there g (k * 2) 2 := fun j hj => by have := h.2 (k * 2 + j) (by omega); rwa [Nat.zero_add] at this
  have hlt : g < w.heap.size := by
    obtain ⟨_, a, ha, hl, _⟩ := h.1.2 0 _ (List.getElem?_eq_getElem (by rw [h.1.1]; decide))
    cases ha
    exact hl
  have hrow : RowsAt (w.setCells g (k * 2) (slC x)) (some ⟨g, 0, none⟩) 8 2 ((L.set k x).map slC) := by
    refine ⟨by simp [hL], fun j c hj => ⟨slC_lens _ j c hj, _, rfl, by rw [setCells_size]; exact hlt, fun i v hi => ?_⟩⟩
    rw [List.getElem?_map] at hj
    obtain ⟨y, hy, rfl⟩ := Option.map_eq_some_iff.1 hj
    rw [Addr.add_lit, Nat.zero_add]
    by_cases hjk : j = k
    · subst hjk
      rw [List.getElem?_set_self (by omega)] at hy
      have hy' := Option.some.inj hy
      subst hy'
      exact World.rangeAt_setCells_same w g (j * 2) (slC x) hth i v hi
    · rw [List.getElem?_set_ne (fun h' => hjk h'.symm)] at hy
      obtain ⟨_, a, ha, _, hv⟩ := h.1.2 j (slC y) (by rw [List.getElem?_map, hy]; rfl)
      cases ha
      have hr : w.rangeAt g (j * 2) (slC y) := fun i v hi => by
        have h0 := hv i v hi
        rw [Addr.add_lit, Nat.zero_add] at h0
        exact h0
      exact World.rangeAt_setCells_apart hr g (k * 2) (slC x) (.inr (by simp [slC]; omega)) i v hi
  refine ⟨hrow, fun j hj => ?_⟩
  rw [setCells_frozen]
  refine ⟨?_, (h.2 j hj).2⟩
  obtain ⟨c, hc⟩ : ∃ c, ((L.set k x).map slC)[j / 2]? = some c := ⟨_, List.getElem?_eq_getElem (by simp [hL]; omega)⟩
  obtain ⟨hcl, a, ha, _, hv⟩ := hrow.2 (j / 2) c hc
  cases ha
  have h0 := hv (j % 2) _ (List.getElem?_eq_getElem (by rw [hcl]; omega))
  rw [Addr.add_lit, show 0 + (j / 2 * 2 + j % 2) = 0 + j by omega] at h0
  rw [h0]
  rfl
end Go.Proofs.Ytkamljmopbocnaa
