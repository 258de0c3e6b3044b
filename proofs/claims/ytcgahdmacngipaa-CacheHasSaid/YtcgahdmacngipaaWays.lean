/- CACHES: a way as a value, rows of ways, rows of sets, a cache as an argument. -/
import Derived.Test.YtcgahdmacngipaaArgB
import Derived.Test.YtcgahdmacngipaaEntries
import Derived.Test.YtcgahdmacngipaaOwnB
namespace Go.Proofs.Ytcgahdmacngipaa
open Go.ChangeShapes Go.WideShapes Go.ChangeAt Go.RowKit
set_option maxRecDepth 100000
set_option linter.unusedVariables false
set_option linter.unusedSimpArgs false

/-- a slice of any elements, within a struct or a row: each element's cells, and that they are one -/
theorem field_rows_any {H : Type} {enc : TypeId × Value → H} {P : Program} {w : World} {base : Nat} {held : Bool} {fuel : Nat} {t e : TypeId} {sz : Nat} {v : Value} {y : DataW H × List MemPlace}
    (ht : P.underlying t = some (.slice e)) (hC : P.cellsOf e = sz) (hpos : 0 < sz) (hf : DataW.trod enc P w base (fun _ => true) held fuel t [v] = some y) :
    ∃ (A : Option Addr) (n cap : Nat) (cs : List (List Value)), v = .slice A n cap ∧ n ≤ cap ∧ cap ≤ maxLen ∧ (A = none → cap = 0) ∧ RowsAt w A n sz cs ∧
      ∀ c ∈ cs, c.length = sz ∧ ∃ (m : Nat) (D : DataW H × List MemPlace), DataW.trod enc P w base (fun _ => true) held m e c = some D := by
  rcases Go.Deep.open_slice ht hf with ⟨hcs, _⟩ | ⟨a, n, cap, m, q, D, Pl, hcs, _, hl, hm, hmm, _, hi⟩
  · obtain rfl : v = .slice none 0 0 := by simpa using hcs
    exact ⟨none, 0, 0, [], rfl, Nat.le_refl _, Nat.zero_le _, fun _ => rfl, RowsAt.nil _ _ _, fun c hc => by cases hc⟩
  · obtain rfl : v = .slice (some a) n cap := by simpa using hcs
    have hmc : m = cap := by simpa using hmm
    have hall : ∀ i : Nat, ∃ c : List Value, i < n → w.cells? base (a.add (i * P.cellsOf e)) (P.cellsOf e) = some c ∧ DataW.trod enc P w base (fun _ => true) held q e c = some (D i, Pl i) := fun i => by
      by_cases hin : i < n
      · obtain ⟨c, hc⟩ := hi i (by omega)
        exact ⟨c, fun _ => hc⟩
      · exact ⟨[], fun h => absurd h hin⟩
    obtain ⟨g, hg⟩ := Classical.axiomOfChoice hall
    have hfact : ∀ i, i < n → (g i).length = sz ∧ (∀ j, j < sz → w.cell? (a.add (i * sz + j)) = (g i)[j]?) ∧ ∃ (m : Nat) (D : DataW H × List MemPlace), DataW.trod enc P w base (fun _ => true) held m e (g i) = some D := fun i hin => by
      obtain ⟨h1, h2⟩ := hg i hin
      obtain ⟨_, hcl, hat⟩ := World.cells?_some h1
      rw [hC] at hcl hat
      refine ⟨hcl, fun j hj => ?_, q, _, h2⟩
      have := hat j hj
      rw [Addr.add_add] at this
      exact this
    refine ⟨some a, n, cap, (List.range n).map g, rfl, hl, hm, (fun h => by cases h), ⟨by simp, fun j c hj => ?_⟩, fun c hc => ?_⟩
    · have hjn : j < n := by
        have := (List.getElem?_eq_some_iff.1 hj).1
        simpa using this
      obtain rfl : c = g j := by
        rw [List.getElem?_map, List.getElem?_range hjn] at hj
        simpa using hj.symm
      obtain ⟨h1, h2, h3⟩ := hfact j hjn
      refine ⟨h1, a, rfl, ?_, fun i u hu => ?_⟩
      · have h0 := h2 0 hpos
        have hs : ∃ u, (g j)[0]? = some u := ⟨_, List.getElem?_eq_getElem (by omega)⟩
        obtain ⟨u, hu⟩ := hs
        have := World.block_lt_of_cell? w _ (h0.trans hu)
        rwa [block_add] at this
      · have hil : i < sz := by have := (List.getElem?_eq_some_iff.1 hu).1; omega
        exact (h2 i hil).trans hu
    · obtain ⟨i, hi', rfl⟩ := List.mem_map.1 hc
      have hin := List.mem_range.1 hi'
      exact ⟨(hfact i hin).1, (hfact i hin).2.2⟩

/-- a way -/
structure Wy where
  line : Int
  dirty : Bool
  data : ByteArray
def wyC (r : Wy) : List Value := [.int .u32 r.line, .bool r.dirty, .string r.data]
def wyV (r : Wy) : Value := .agg #[.int .u32 r.line, .bool r.dirty, .string r.data]
def wyOK (r : Wy) : Prop := (Lit.int .u32 r.line).wf = true ∧ r.data.size ≤ maxLen
theorem wyC_one (r : Wy) : (wyC r).toArray.all (·.oneCell') = true := by simp [wyC, Value.oneCell']
theorem wyC_len (rs : List Wy) : ∀ (j : Nat) (c : List Value), (rs.map wyC)[j]? = some c → c.length = 3 := by
  intro j c hc
  rw [List.getElem?_map] at hc
  obtain ⟨r, _, rfl⟩ := Option.map_eq_some_iff.1 hc
  rfl
theorem wyC_ones (rs : List Wy) : ∀ u ∈ (rs.map wyC).flatten, u.oneCell' = true := by
  intro u hu
  obtain ⟨c, hc, hu⟩ := List.mem_flatten.1 hu
  obtain ⟨r, _, rfl⟩ := List.mem_map.1 hc
  simp only [wyC, List.mem_cons, List.not_mem_nil, or_false] at hu
  rcases hu with rfl | rfl | rfl <;> rfl
/-- the slice A, of n elements, holds these ways -/
def WaysAt (w : World) (A : Option Addr) (n : Nat) (rs : List Wy) : Prop := RowsAt w A n 3 (rs.map wyC)
theorem WaysAt.len {w : World} {A : Option Addr} {n : Nat} {rs : List Wy} (h : WaysAt w A n rs) : rs.length = n := by have := h.1; simpa using this
theorem WaysAt.below {w w' : World} {A : Option Addr} {n : Nat} {rs : List Wy} (h : WaysAt w A n rs) (hb : Below w.heap.size w w') : WaysAt w' A n rs := RowsAt.below h hb
theorem WaysAt.take {w : World} {A : Option Addr} {n m : Nat} {rs : List Wy} (h : WaysAt w A n rs) (hm : m ≤ n) : WaysAt w A m (rs.take m) := by
  have := RowsAt.take h hm
  rw [← List.map_take] at this
  exact this
theorem WaysAt.drop {w : World} {a : Addr} {n k : Nat} {rs : List Wy} (h : WaysAt w (some a) n rs) (hk : k ≤ n) {A' : Option Addr} (hA : k < n → A' = some (a.add (k * 3))) : WaysAt w A' (n - k) (rs.drop k) := by
  have := RowsAt.drop h hk hA
  rw [← List.map_drop] at this
  exact this
theorem WaysAt.at_ {w : World} {A : Option Addr} {n : Nat} {rs : List Wy} (h : WaysAt w A n rs) {j : Nat} {r : Wy} (hj : rs[j]? = some r) :
    ∃ a, A = some a ∧ a.block < w.heap.size ∧ w.cell? (a.add (j * 3)) = some (.int .u32 r.line) ∧ w.cell? ⟨(a.add (j * 3)).block, (a.add (j * 3)).off + 1, none⟩ = some (.bool r.dirty) ∧
      w.cell? ⟨(a.add (j * 3)).block, (a.add (j * 3)).off + 2, none⟩ = some (.string r.data) := by
  obtain ⟨a, ha, hl, h0, h1⟩ := RowsAt.at_ h (j := j) (c := wyC r) (by rw [List.getElem?_map, hj]; rfl)
  exact ⟨a, ha, hl, h0 _ rfl, h1 0 _ rfl, h1 1 _ rfl⟩
theorem WaysAt.own {w : World} {B n : Nat} {v : Value} {rs : List Wy} (h : w.ownsRow B 37 3 v n (rs.map wyC).flatten) (hn : rs.length = n) :
    ∃ A cap, v = .slice A n cap ∧ n ≤ cap ∧ cap ≤ maxLen ∧ WaysAt w A n rs := RowsAt.own h (by simpa using hn) (wyC_len rs)

/-- a slice's header -/
structure Hd where
  at_ : Option Addr
  n : Nat
  cap : Nat
def hdC (h : Hd) : List Value := [.slice h.at_ h.n h.cap]
theorem hdC_len (rs : List Hd) : ∀ (j : Nat) (c : List Value), (rs.map hdC)[j]? = some c → c.length = 1 := by
  intro j c hc
  rw [List.getElem?_map] at hc
  obtain ⟨r, _, rfl⟩ := Option.map_eq_some_iff.1 hc
  rfl
theorem hdC_ones (rs : List Hd) : ∀ u ∈ (rs.map hdC).flatten, u.oneCell' = true := by
  intro u hu
  obtain ⟨c, hc, hu⟩ := List.mem_flatten.1 hu
  obtain ⟨r, _, rfl⟩ := List.mem_map.1 hc
  simp only [hdC, List.mem_cons, List.not_mem_nil, or_false] at hu
  rcases hu with rfl; rfl
/-- a header's ways -/
def HdAt (w : World) (h : Hd) (s : List Wy) : Prop := h.n ≤ h.cap ∧ h.cap ≤ maxLen ∧ (h.at_ = none → h.cap = 0) ∧ WaysAt w h.at_ h.n s
theorem HdAt.below {w w' : World} {h : Hd} {s : List Wy} (q : HdAt w h s) (hb : Below w.heap.size w w') : HdAt w' h s := ⟨q.1, q.2.1, q.2.2.1, q.2.2.2.below hb⟩
/-- these headers' ways -/
def HdsAt (w : World) (hs : List Hd) (ss : List (List Wy)) : Prop := hs.length = ss.length ∧ ∀ (k : Nat) (h : Hd) (s : List Wy), hs[k]? = some h → ss[k]? = some s → HdAt w h s
theorem HdsAt.below {w w' : World} {hs : List Hd} {ss : List (List Wy)} (q : HdsAt w hs ss) (hb : Below w.heap.size w w') : HdsAt w' hs ss := ⟨q.1, fun k h s h1 h2 => (q.2 k h s h1 h2).below hb⟩
theorem HdsAt.take {w : World} {hs : List Hd} {ss : List (List Wy)} (q : HdsAt w hs ss) (m : Nat) : HdsAt w (hs.take m) (ss.take m) :=
  ⟨by rw [List.length_take, List.length_take, q.1], fun k h s h1 h2 => by
    rw [List.getElem?_take] at h1 h2
    by_cases hk : k < m
    · rw [if_pos hk] at h1 h2; exact q.2 k h s h1 h2
    · rw [if_neg hk] at h1; cases h1⟩
theorem HdsAt.set {w : World} {hs : List Hd} {ss : List (List Wy)} (q : HdsAt w hs ss) (k : Nat) (h : Hd) (s : List Wy) (q1 : HdAt w h s) : HdsAt w (hs.set k h) (ss.set k s) :=
  ⟨by rw [List.length_set, List.length_set, q.1], fun j h' s' h1 h2 => by
    by_cases hjk : k = j
    · subst hjk
      rw [List.getElem?_set_self (by have := (List.getElem?_eq_some_iff.1 h1).1; rwa [List.length_set] at this)] at h1
      rw [List.getElem?_set_self (by have := (List.getElem?_eq_some_iff.1 h2).1; rwa [List.length_set] at this)] at h2
      cases h1
      cases h2
      exact q1
    · rw [List.getElem?_set_ne hjk] at h1 h2
      exact q.2 j h' s' h1 h2⟩
theorem HdsAt.get {w : World} {hs : List Hd} {ss : List (List Wy)} (q : HdsAt w hs ss) {k : Nat} {s : List Wy} (hk : ss[k]? = some s) : ∃ h, hs[k]? = some h ∧ HdAt w h s := by
  have hl : k < hs.length := by rw [q.1]; exact (List.getElem?_eq_some_iff.1 hk).1
  exact ⟨_, List.getElem?_eq_getElem hl, q.2 k _ s (List.getElem?_eq_getElem hl) hk⟩
/-- the slice A, of n elements, holds these headers, and these hold these ways -/
def SetsAt (w : World) (A : Option Addr) (n : Nat) (hs : List Hd) (ss : List (List Wy)) : Prop := RowsAt w A n 1 (hs.map hdC) ∧ HdsAt w hs ss
theorem SetsAt.hlen {w : World} {A : Option Addr} {n : Nat} {hs : List Hd} {ss : List (List Wy)} (h : SetsAt w A n hs ss) : hs.length = n := by have := h.1.1; simpa using this
theorem SetsAt.len {w : World} {A : Option Addr} {n : Nat} {hs : List Hd} {ss : List (List Wy)} (h : SetsAt w A n hs ss) : ss.length = n := by rw [← h.2.1]; exact h.hlen
theorem SetsAt.below {w w' : World} {A : Option Addr} {n : Nat} {hs : List Hd} {ss : List (List Wy)} (h : SetsAt w A n hs ss) (hb : Below w.heap.size w w') : SetsAt w' A n hs ss := ⟨RowsAt.below h.1 hb, h.2.below hb⟩
theorem SetsAt.take {w : World} {A : Option Addr} {n m : Nat} {hs : List Hd} {ss : List (List Wy)} (h : SetsAt w A n hs ss) (hm : m ≤ n) : SetsAt w A m (hs.take m) (ss.take m) := by
  have := RowsAt.take h.1 hm
  rw [← List.map_take] at this
  exact ⟨this, h.2.take m⟩
/-- a set's header, and its ways -/
theorem SetsAt.at_ {w : World} {A : Option Addr} {n : Nat} {hs : List Hd} {ss : List (List Wy)} (h : SetsAt w A n hs ss) {k : Nat} {s : List Wy} (hk : ss[k]? = some s) :
    ∃ a q, A = some a ∧ a.block < w.heap.size ∧ hs[k]? = some q ∧ w.cell? (a.add k) = some (.slice q.at_ s.length q.cap) ∧ q.n = s.length ∧ HdAt w q s := by
  obtain ⟨q, hq, hh⟩ := h.2.get hk
  obtain ⟨a, ha, hl, h0, _⟩ := RowsAt.at_ h.1 (j := k) (c := hdC q) (by rw [List.getElem?_map, hq]; rfl)
  have hn := hh.2.2.2.len
  have := h0 _ rfl
  rw [Nat.mul_one] at this
  exact ⟨a, q, ha, hl, hq, by rw [this, hn], hn.symm, hh⟩

/-- a cache -/
def caV (ways : Int) (A : Option Addr) (n c : Nat) : Value := .agg #[.int .i64 ways, .slice A n c]
theorem ca_info : (Try.prog.info? 24).map (·.size) = some 2 := by kernel_rfl
theorem wy_info : (Try.prog.info? 37).map (·.size) = some 3 := by kernel_rfl
set_option maxRecDepth 100000 in
theorem arg_cache {H : Type} {enc : TypeId × Value → H} {w : World} {base : Nat} {held : Bool} {r : Reach} {b0 : Nat} {v : Value} {d : DataW H} {p : List MemPlace}
    (hv : Value.okWide Try.prog w r b0 24 v) (h : DataW.Trod enc Try.prog w base (fun _ => true) held 24 v d p) :
    ∃ (ways : Int) (A : Option Addr) (n cap : Nat) (hs : List Hd) (ss : List (List Wy)), v = caV ways A n cap ∧ (Lit.int .i64 ways).wf = true ∧ n ≤ cap ∧ cap ≤ maxLen ∧ (A = none → cap = 0) ∧ SetsAt w A n hs ss ∧ ∀ s ∈ ss, ∀ r ∈ s, wyOK r := by
  obtain ⟨cs, rfl, hsz, hf⟩ := arg_fields Try.underlying24 (by kernel_rfl) (by kernel_rfl) hv h
  obtain ⟨c0, y0, n0, g0, t0⟩ := hf 0 _ rfl
  obtain ⟨c1, y1, n1, g1, t1⟩ := hf 1 _ rfl
  obtain ⟨z0, rfl, w0⟩ := arg_int Try.underlying3 t0
  obtain ⟨A, n, cap, rows, rfl, a1, a2, a3, a4, a5⟩ := field_rows_any Try.underlying22 (sz := 1) (by kernel_rfl) (by decide) t1
  have hrow : ∀ c ∈ rows, ∃ q : Hd × List Wy, c = hdC q.1 ∧ (HdAt w q.1 q.2 ∧ ∀ r ∈ q.2, wyOK r) := fun c hc => by
    obtain ⟨hl, m, D, hD⟩ := a5 c hc
    match c, hl, hD with
    | [x], _, hD =>
      obtain ⟨B, k, cp, ws, rfl, b1, b2, b3, b4, b5⟩ := field_rows_any Try.underlying53 (sz := 3) (by kernel_rfl) (by decide) hD
      obtain ⟨rs, rfl, hw⟩ := list_of (f := wyC) (W := wyOK) ws (fun c hc => by
        obtain ⟨hl, m, D, hD⟩ := b5 c hc
        obtain ⟨_, m2, hp⟩ := struct_parts (L := [(0, 1, 25), (1, 1, 4), (2, 1, 9)]) Try.underlying37 (by kernel_rfl) hD
        match c, hl, hp with
        | [x0, x1, x2], _, hp =>
          obtain ⟨y0, t0⟩ := hp 0 _ _ _ rfl
          obtain ⟨y1, t1⟩ := hp 1 _ _ _ rfl
          obtain ⟨y2, t2⟩ := hp 2 _ _ _ rfl
          obtain ⟨ln, e0, w0⟩ := arg_int Try.underlying25 t0
          obtain ⟨z, e1⟩ := arg_bool Try.underlying4 t1
          obtain ⟨s, e2, -, w2⟩ := DataW.trod_string Try.underlying9 t2
          simp at e0 e1 e2
          exact ⟨⟨ln, z, s⟩, by simp [wyC, e0, e1, e2], w0, w2⟩)
      exact ⟨(⟨B, k, cp⟩, rs), rfl, ⟨b1, b2, b3, b4⟩, hw⟩
  obtain ⟨qs, rfl, hq⟩ := list_of (f := fun q : Hd × List Wy => hdC q.1) (W := fun q => HdAt w q.1 q.2 ∧ ∀ r ∈ q.2, wyOK r) rows hrow
  refine ⟨z0, A, n, cap, qs.map (·.1), qs.map (·.2), ?_, w0, a1, a2, a3, ⟨by rw [List.map_map]; exact a4, by simp, fun k h s h1 h2 => ?_⟩, fun s hs r hr => ?_⟩
  · unfold caV
    congr 1
    apply Array.ext_getElem?
    intro i
    have hsz5 : cs.size = 2 := hsz
    rcases i with _ | _ | i
    · exact g0
    · exact g1
    · rw [Array.getElem?_eq_none (by omega), Array.getElem?_eq_none (by simp)]
  · rw [List.getElem?_map] at h1 h2
    obtain ⟨q, hq1, rfl⟩ := Option.map_eq_some_iff.1 h1
    rw [hq1] at h2
    cases h2
    exact (hq q (List.mem_of_getElem? hq1)).1
  · obtain ⟨q, hq1, rfl⟩ := List.mem_map.1 hs
    exact (hq q hq1).2 r hr
end Go.Proofs.Ytcgahdmacngipaa
