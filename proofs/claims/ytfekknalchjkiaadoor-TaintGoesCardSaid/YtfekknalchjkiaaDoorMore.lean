/- A ROW OF ENTRIES OF THE CALL'S OWN, appended to; one of which is made known. -/
import Derived.Test.YtfekknalchjkiaaDoorTaintN
import Derived.Laws.AppendOwnNone
namespace Go.Proofs.YtfekknalchjkiaaDoor
open Go.ChangeShapes Go.WideShapes Go.ChangeAt Go.RowKit Go.Sort
set_option linter.unusedVariables false
set_option linter.unusedSimpArgs false
set_option maxHeartbeats 2000000
set_option maxRecDepth 100000

theorem info_entE : (Tryd.prog.info? 60).map (fun i => (i.zero.map (·.cells.size), i.size, i.bytes)) = some (some 17, 17, 120) := by kernel_rfl
theorem enC_ones (es : List En) : ∀ u ∈ (es.map enC).flatten, u.oneCell' = true := by
  intro u hu
  obtain ⟨c, hc, hu⟩ := List.mem_flatten.1 hu
  obtain ⟨e, _, rfl⟩ := List.mem_map.1 hc
  have := Array.all_eq_true_iff_forall_mem.1 (enC_one e) u (by simpa using hu)
  exact this
theorem enC_lens (es : List En) : ∀ (j : Nat) (c : List Value), (es.map enC)[j]? = some c → c.length = 17 := by
  intro j c hc
  rw [List.getElem?_map] at hc
  obtain ⟨r, _, rfl⟩ := Option.map_eq_some_iff.1 hc
  rfl
theorem wpList_append_ents {w : World} {ops : Array Oper} {rest : List Oper} {o : Oper} {a : Act} {Q : Exit → Act → World → Prop} (hgd : o.guard = none) (s x : Operand)
    (ho : o.op = .call { callee := .builtin .append, args := #[s, x], argTypes := #[52, 52] }) (base : Nat)
    (v : Value) (n : Nat) (xs : List Value) (hs : a.eval s = v) (hown : w.ownsRow base 60 17 v n xs) (A : Option Addr) (m c : Nat) (es : List En) (hx : a.eval x = .slice A m c) (hr : EntsAt w A m es) (hA : A = none → c = 0)
    (hnm : n + m ≤ 100000) (hbase : base ≤ w.heap.size)
    (h : ∀ v' w', w'.ownsRow base 60 17 v' (n + m) (xs ++ (es.map enC).flatten) → w.grownBy w' v.ownBlock → wpList Tryd.prog ops Q rest (a.put o.dst v') w') : wpList Tryd.prog ops Q (o :: rest) a w := by
  obtain ⟨i0, hi, h3⟩ := Option.map_eq_some_iff.1 info_entE
  injection h3 with hz0 h3
  injection h3 with hz1 hz2
  obtain ⟨z, hz, hzs⟩ := Option.map_eq_some_iff.1 hz0
  cases A with
  | none =>
    obtain rfl : m = 0 := by
      rcases Nat.eq_zero_or_pos m with e | e
      · exact e
      · obtain ⟨r, hr'⟩ : ∃ r, es[0]? = some r := ⟨_, List.getElem?_eq_getElem (by rw [hr.len]; exact e)⟩
        obtain ⟨a, ha, _⟩ := hr.at_ hr'
        cases ha
    obtain rfl : es = [] := List.length_eq_zero_iff.1 hr.len
    obtain rfl : c = 0 := hA rfl
    exact wpList_append_own_none hgd s x 52 ho base 60 i0 17 Tryd.underlying52 hi v n xs hs hown hx (h v w (by simpa using hown) (World.grownBy.refl _ _))
  | some b =>
    have hnews := RowsAt.news hr (by decide)
    exact wpList_append_own w hgd s x 52 ho base 60 i0 z 17 120 Tryd.underlying52 hi hz hz1 hz2 hzs (by decide) v n xs hs hown b m c _ hx hnews.1 hnews.2 (enC_ones es) (by unfold maxLen; omega) (by omega) hbase (fun v' w' h1 h2 _ => h v' w' h1 h2)

/-- a row of the call's own, that may be stored into -/
def MoreAt (W : World) (base : Nat) (A : Option Addr) (m : Nat) (es : List En) : Prop :=
  EntsAt W A m es ∧ (0 < m → ∃ g, A = some ⟨g, 0, none⟩ ∧ base ≤ g ∧ g < W.heap.size ∧ ∀ j, W.frozen? ⟨g, j, none⟩ = false)
theorem more_own {w : World} {base m : Nat} {v : Value} {es : List En} (h : w.ownsRow base 60 17 v m (es.map enC).flatten) (hm : es.length = m) :
    ∃ A c, v = .slice A m c ∧ m ≤ c ∧ c ≤ maxLen ∧ MoreAt w base A m es := by
  obtain ⟨A, c, rfl, g1, g2, g3⟩ := RowsAt.own h (by simpa using hm) (enC_lens es)
  refine ⟨A, c, rfl, g1, g2, g3, fun h0 => ?_⟩
  rcases h.2 with ⟨_, h1⟩ | ⟨g, cap, cur, hv, hg, hh, _⟩
  · omega
  · injection hv with hv
    refine ⟨g, hv, hg, ?_, fun j => ?_⟩
    · rcases Nat.lt_or_ge g w.heap.size with h' | h'
      · exact h'
      · rw [Array.getElem?_eq_none h'] at hh; cases hh
    · simp [World.frozen?, hh]
theorem MoreAt.below {w w' : World} {base m : Nat} {A : Option Addr} {es : List En} (h : MoreAt w base A m es) (hb : Below w.heap.size w w') : MoreAt w' base A m es :=
  ⟨h.1.below hb, fun h0 => by
    obtain ⟨g, hA, hg, hl, hf⟩ := h.2 h0
    exact ⟨g, hA, hg, Nat.lt_of_lt_of_le hl hb.size, fun j => (hb.frozen (p := ⟨g, j, none⟩) hl).trans (hf j)⟩⟩
theorem MoreAt.set {w : World} {base m g k : Nat} {es : List En} {e : En} (h : MoreAt w base (some ⟨g, 0, none⟩) m es) (hk : es[k]? = some e) : MoreAt (w.setCell ⟨g, k * 17 + 15, none⟩ (.bool true)) base (some ⟨g, 0, none⟩) m (es.set k { e with known := true }) := by
  have hkm : k < m := by rw [← h.1.len]; exact (List.getElem?_eq_some_iff.1 hk).1
  obtain ⟨g', hA, hg, hl, hf⟩ := h.2 (by omega)
  cases hA
  refine ⟨⟨by simp [h.1.len], fun j c hj => ?_⟩, fun h0 => ⟨g, rfl, hg, by simpa using hl, fun j => by rw [World.frozen?_setCell]; exact hf j⟩⟩
  refine ⟨enC_lens _ j c hj, _, rfl, by simpa using hl, fun i v hi => ?_⟩
  rw [List.getElem?_map] at hj
  obtain ⟨e1, he1, rfl⟩ := Option.map_eq_some_iff.1 hj
  have hil : i < 17 := (List.getElem?_eq_some_iff.1 hi).1
  rw [Addr.add_lit, Nat.zero_add]
  by_cases hjk : j = k
  · subst hjk
    have hkl := (List.getElem?_eq_some_iff.1 hk).1
    rw [List.getElem?_set_self hkl] at he1
    have he1' := Option.some.inj he1
    subst he1'
    obtain ⟨_, a, ha, _, hv⟩ := h.1.2 j (enC e) (by rw [List.getElem?_map, hk]; rfl)
    cases ha
    by_cases hi15 : i = 15
    · subst hi15
      have h0 := hv 15 (.bool e.known) rfl
      rw [Addr.add_lit, Nat.zero_add] at h0
      rw [World.cell?_setCell_same' _ _ _ (by rw [h0]; rfl)]
      simpa [enC] using hi
    · rw [World.cell?_setCell_other _ _ _ _ (fun h' => hi15 (by injection h' with _ h'; omega))]
      have h0 := hv i v (by
        rw [← hi]
        unfold enC
        simp only
        rcases i with _ | _ | _ | _ | _ | _ | _ | _ | _ | _ | _ | _ | _ | _ | _ | _ | _ | i
        all_goals first | rfl | (exfalso; exact hi15 rfl) | (exfalso; omega))
      rw [Addr.add_lit, Nat.zero_add] at h0
      exact h0
  · rw [List.getElem?_set_ne (fun h' => hjk h'.symm)] at he1
    obtain ⟨_, a, ha, _, hv⟩ := h.1.2 j (enC e1) (by rw [List.getElem?_map, he1]; rfl)
    cases ha
    rw [World.cell?_setCell_other _ _ _ _ (fun h' => hjk (by injection h' with _ h'; omega))]
    have h0 := hv i v hi
    rw [Addr.add_lit, Nat.zero_add] at h0
    exact h0
theorem MoreAt.known {w : World} {base m g k : Nat} {es : List En} {e : En} (h : MoreAt w base (some ⟨g, 0, none⟩) m es) (hk : es[k]? = some e) : w.cell? ⟨g, k * 17 + 15, none⟩ = some (.bool e.known) ∧ w.frozen? ⟨g, k * 17 + 15, none⟩ = false ∧ base ≤ g := by
  have hkm : k < m := by rw [← h.1.len]; exact (List.getElem?_eq_some_iff.1 hk).1
  obtain ⟨g', hA, hg, hl, hf⟩ := h.2 (by omega)
  cases hA
  obtain ⟨_, a, ha, _, hv⟩ := h.1.2 k (enC e) (by rw [List.getElem?_map, hk]; rfl)
  cases ha
  have h0 := hv 15 _ rfl
  rw [Addr.add_lit, Nat.zero_add] at h0
  exact ⟨h0, hf _, hg⟩
end Go.Proofs.YtfekknalchjkiaaDoor
