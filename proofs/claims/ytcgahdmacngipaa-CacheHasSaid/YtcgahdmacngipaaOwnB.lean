import Derived.WalkKit
import Derived.ChangeSlices
import Derived.ChangeAt
import Derived.OwnWalk
import Derived.Below
import Derived.Lib.Hide
import Derived.Laws.NewBlocks
import Derived.Laws.OwnMore
import Derived.Deep.MidRow
import Derived.WalkLawsBesides
import Derived.BigFrame
/- A BLOCK OF THE CALL'S OWN, cell by cell (as in Conf). -/
namespace Go.Proofs.Ytcgahdmacngipaa
open Go.ChangeShapes Go.WideShapes Go.ChangeAt Go.RowKit
set_option maxRecDepth 100000
set_option linter.unusedVariables false
set_option linter.unusedSimpArgs false

/-- a block of the call's own, cell by cell -/
def Blk (w : World) (b : Nat) (cs : List Value) : Prop := b < w.heap.size ∧ (∀ (i : Nat) v, cs[i]? = some v → w.cell? ⟨b, i, none⟩ = some v) ∧ ∀ (i : Nat), i < cs.length → w.frozen? ⟨b, i, none⟩ = false
theorem Blk.new (w : World) (t : TypeId) (cs : List Value) : Blk (w.alloc (.cells cs.toArray t)) w.heap.size cs :=
  ⟨by simp, fun i v hv => by rw [World.cell?_alloc_at _ _ _ _ rfl]; simpa using hv, fun i hi => World.frozen?_alloc_at _ _ _ _ rfl⟩
theorem Blk.below {w w' : World} {b B : Nat} {cs : List Value} (h : Blk w b cs) (hb : Below B w w') (hB : b < B) : Blk w' b cs :=
  ⟨Nat.lt_of_lt_of_le h.1 hb.size, fun i v hv => (hb.cell hB).trans (h.2.1 i v hv), fun i hi => (hb.frozen hB).trans (h.2.2 i hi)⟩
theorem Blk.set {w : World} {b : Nat} {cs : List Value} (h : Blk w b cs) {i : Nat} {v : Value} (hi : i < cs.length) : Blk (w.setCell ⟨b, i, none⟩ v) b (cs.set i v) := by
  refine ⟨by simpa using h.1, fun j u hu => ?_, fun j hj => ?_⟩
  · by_cases e : i = j
    · subst e
      rw [List.getElem?_set_self hi] at hu
      have hc := h.2.1 i cs[i] (List.getElem?_eq_getElem hi)
      rw [World.cell?_setCell_same w _ _ hc]
      exact hu
    · rw [List.getElem?_set_ne e] at hu
      rw [World.cell?_setCell_other _ _ _ _ (fun h' => e (by injection h'))]
      exact h.2.1 j u hu
  · rw [World.frozen?_setCell]
    exact h.2.2 j (by simpa using hj)
theorem Blk.other {w : World} {b : Nat} {cs : List Value} (h : Blk w b cs) {p : Addr} {v : Value} (hp : p.block ≠ b) : Blk (w.setCell p v) b cs :=
  ⟨by simpa using h.1, fun j u hu => by rw [World.cell?_setCell_other _ _ _ _ (fun e => hp (by rw [e]))]; exact h.2.1 j u hu, fun j hj => by rw [World.frozen?_setCell]; exact h.2.2 j hj⟩

theorem retb {a b : Bool} (h : a = b) : Ending.returned (.bool a) = .returned (.bool b) := by rw [h]
end Go.Proofs.Ytcgahdmacngipaa

/- ROWS OF THE CALL'S OWN: small facts on them; a store of a whole struct into a block just made; structs read whole. -/
namespace Go.Proofs.Ytcgahdmacngipaa
open Go.ChangeShapes Go.WideShapes Go.ChangeAt Go.RowKit
set_option maxRecDepth 100000
set_option linter.unusedVariables false
set_option linter.unusedSimpArgs false

theorem own_form {w : World} {base e size n : Nat} {v : Value} {xs : List Value} (h : w.ownsRow base e size v n xs) : ∃ A c, v = .slice A n c ∧ n ≤ c ∧ c ≤ maxLen ∧ ∀ a, A = some a → base ≤ a.block ∧ a.block < w.heap.size := by
  rcases h.2 with ⟨rfl, h0⟩ | ⟨g, cap, cur, rfl, hg, hh, h1, h2, _⟩
  · subst h0
    exact ⟨none, 0, rfl, Nat.le_refl _, Nat.zero_le _, fun a ha => by cases ha⟩
  · refine ⟨_, cap, rfl, h1, h2, fun a ha => ?_⟩
    cases ha
    refine ⟨hg, ?_⟩
    rcases Nat.lt_or_ge g w.heap.size with h' | h'
    · exact h'
    · rw [Array.getElem?_eq_none h'] at hh; cases hh
theorem own_head {w : World} {base e size n c : Nat} {A : Option Addr} {xs : List Value} (h : w.ownsRow base e size (.slice A n c) n xs) (hn : 0 < n) : ∃ g, A = some ⟨g, 0, none⟩ ∧ base ≤ g := by
  rcases h.2 with ⟨h0, h1⟩ | ⟨g, cap, cur, hv, hg, _⟩
  · omega
  · injection hv with hv
    exact ⟨g, hv, hg⟩
theorem own_below {w w2 : World} {B e size n : Nat} {v : Value} {xs : List Value} (h : w.ownsRow B e size v n xs) (hb : Below w.heap.size w w2) : w2.ownsRow B e size v n xs := by
  refine ⟨h.1, ?_⟩
  rcases h.2 with h0 | ⟨g, cap, cur, hv, hg, hh, r⟩
  · exact .inl h0
  · have hlt : g < w.heap.size := by
      rcases Nat.lt_or_ge g w.heap.size with h' | h'
      · exact h'
      · rw [Array.getElem?_eq_none (by omega)] at hh; cases hh
    exact .inr ⟨g, cap, cur, hv, hg, by rw [hb.block g hlt]; exact hh, r⟩
theorem below_app {B : Nat} {w wr w1 : World} {e size n : Nat} {v : Value} {xs : List Value} {o : Obj} (hbel : Below B w wr) (hB : B ≤ w.heap.size) (hown : wr.ownsRow B e size v n xs) (hgrow : (wr.alloc o).grownBy w1 v.ownBlock) : Below B w w1 :=
  (hbel.alloc (by have := hbel.size; omega) o).grown hgrow (by have := hbel.size; simp; omega) (fun j hj => (hown.lt j hj).1)
theorem own_new1 (w : World) (x : Value) (t : TypeId) : ∀ j u, [x][j]? = some u → (w.alloc (.cells #[x] t)).cell? ((⟨w.heap.size, 0, none⟩ : Addr).add j) = some u := by
  intro j u hj
  match j, hj with
  | 0, hj =>
    simp at hj
    subst hj
    show (w.alloc (.cells #[x] t)).cell? ⟨w.heap.size, 0, none⟩ = some x
    rw [World.cell?_alloc_at _ _ _ _ rfl]
    rfl

theorem rangeAt_below {w w' : World} {b o B : Nat} {cs : List Value} (h : w.rangeAt b o cs) (hb : Below B w w') (hlt : b < B) : w'.rangeAt b o cs :=
  fun j v hv => (hb.cell hlt).trans (h j v hv)
theorem there_fresh (w : World) (cs : Array Value) (t : TypeId) (n : Nat) (hn : n = cs.size) : (w.alloc (.cells cs t)).there w.heap.size 0 n := fun j hj => by
  rw [World.cell?_alloc_at _ _ _ _ rfl, World.frozen?_alloc_at _ _ _ _ rfl, Nat.zero_add, Array.getElem?_eq_getElem (by omega)]
  exact ⟨rfl, rfl⟩
theorem setCells_below {B : Nat} (b : Nat) (hB : B ≤ b) : ∀ (vs : List Value) (o : Nat) (w : World), Below B w (w.setCells b o vs)
  | [], _, w => Below.refl _ _
  | v :: vs, o, w => ((Below.refl B w).setCell (p := ⟨b, o, none⟩) hB v).trans (setCells_below b hB vs (o + 1) _)
theorem setCells_size (b : Nat) : ∀ (vs : List Value) (o : Nat) (w : World), (w.setCells b o vs).heap.size = w.heap.size
  | [], _, w => rfl
  | v :: vs, o, w => (setCells_size b vs (o + 1) _).trans (by simp)
theorem setCells_frozen (b : Nat) (p : Addr) : ∀ (vs : List Value) (o : Nat) (w : World), (w.setCells b o vs).frozen? p = w.frozen? p
  | [], _, w => rfl
  | v :: vs, o, w => (setCells_frozen b p vs (o + 1) _).trans (World.frozen?_setCell _ _ _ _)

/-- A STRUCT IS STORED WHOLE INTO THE BLOCK JUST MADE: the world behind it is a letter, told by the block's cells -/
theorem wpList_store_fresh {P : Program} {ops : Array Oper} {rest : List Oper} {op : Oper} {a : Act} {w : World} {Q : Exit → Act → World → Prop} (hgd : op.guard = none) (ty : TypeId) (x y : Operand) (ho : op.op = .store ty x y)
    (zs cells : Array Value) (t : TypeId) (hx : a.eval x = .pointer (some ⟨w.heap.size, 0, none⟩)) (hy : a.eval y = .agg cells) (hz : zs.size = cells.size)
    (hi : (P.info? ty).map (·.size) = some cells.size) (h1 : cells.all (·.oneCell') = true)
    (h : ∀ W2, Below w.heap.size w W2 → Blk W2 w.heap.size cells.toList → W2.heap.size = w.heap.size + 1 → wpList P ops Q rest (a.put op.dst undef) W2) :
    wpList P ops Q (op :: rest) a (w.alloc (.cells zs t)) := by
  refine wpList_store_mid hgd ty x y ho w.heap.size 0 cells hx hy (there_fresh w zs t _ hz.symm) hi h1 (h _ ?_ ?_ ?_)
  · exact ((Below.refl _ _).alloc (Nat.le_refl _) _).trans (setCells_below _ (Nat.le_refl _) _ _ _)
  · refine ⟨by rw [setCells_size]; simp, fun i v hv => ?_, fun i hi => ?_⟩
    · have := World.rangeAt_setCells_same (w.alloc (.cells zs t)) w.heap.size 0 cells.toList (there_fresh w zs t _ (by simp [hz])) i v hv
      rwa [Nat.zero_add] at this
    · rw [setCells_frozen]
      exact World.frozen?_alloc_at _ _ _ _ rfl
  · rw [setCells_size]; simp
/-- a struct is read whole, where a guard says yes -/
theorem wpList_load_want {P : Program} {ops : Array Oper} {rest : List Oper} {op : Oper} {a : Act} {w : World} {Q : Exit → Act → World → Prop} (ty : TypeId) (x : Operand) (ho : op.op = .load ty x) (hw : Region.wanted op (yielded ops a.tmps) = true)
    (b o : Nat) (hx : a.eval x = .pointer (some ⟨b, o, none⟩)) (cs : List Value) (d : TypeDesc) (hc : w.rangeAt b o cs)
    (hu : P.underlying ty = some d) (hd : d.isRow = true) (hi : (P.info? ty).map (·.size) = some cs.length)
    (h : wpList P ops Q rest (a.put op.dst (.agg cs.toArray)) w) : wpList P ops Q (op :: rest) a w :=
  BigFrame.wpList_want hw fun _ hK => wp_load_mid ty x ho b o hx cs d hc hu hd hi (hK _ _ h)
theorem Blk.range {w : World} {b : Nat} {cs : List Value} (h : Blk w b cs) : w.rangeAt b 0 cs := fun j v hv => by rw [Nat.zero_add]; exact h.2.1 j v hv


/-- append at a step of a region that draws, whatever it appends (nothing let in) -/
theorem step_append_own {P : Program} {ops : Array Oper} {o : Oper} {a : Act} {w : World} {K : Act → World → Prop} {Q : Exit → Act → World → Prop} {E : Prop} (hgd : o.guard = none) (s x : Operand) (t : TypeId)
    (ho : o.op = .call { callee := .builtin .append, args := #[s, x], argTypes := #[t, t] })
    (base : Nat) (e : TypeId) (i : TypeInfo) (z : Value) (size bytes : Nat) (ht : P.underlying t = some (.slice e)) (hi : P.info? e = some i) (hz : i.zero = some z)
    (hsize : i.size = size) (hby : i.bytes = bytes) (hzs : z.cells.size = size) (hsz : 0 < size)
    (v : Value) (n : Nat) (xs : List Value) (hs : a.eval s = v) (hown : w.ownsRow base e size v n xs)
    (ad : Addr) (m c : Nat) (news : List Value) (hx : a.eval x = .slice (some ad) m c) (hl : news.length = m * size) (hnews : ∀ j u, news[j]? = some u → w.cell? (ad.add j) = some u) (h1 : ∀ u ∈ news, u.oneCell' = true)
    (h63 : n + m ≤ maxLen) (hbytes : (n + m) * bytes ≤ 140737488355328) (hbase : base ≤ w.heap.size)
    (h : ∀ v' w', w'.ownsRow base e size v' (n + m) (xs ++ news) → w.grownBy w' v.ownBlock → (v' = .slice none 0 0 ↔ v = .slice none 0 0 ∧ m = 0) → K (a.put o.dst v') w') :
    if Region.wanted o (yielded ops a.tmps) = true then Oper.wp P o a w K Q else E := by
  have hw : Region.wanted o (yielded ops a.tmps) = true := by simp [Region.wanted, hgd]
  rw [if_pos hw]
  exact wp_append_own w s x t ho base e i z size bytes ht hi hz hsize hby hzs hsz v n xs hs hown ad m c news hx hl hnews h1 h63 hbytes hbase h

/-- a struct is stored whole into the block just made -/
theorem wpList_store_new {P : Program} {ops : Array Oper} {rest : List Oper} {op : Oper} {a : Act} {w : World} {Q : Exit → Act → World → Prop} (hgd : op.guard = none) (ty : TypeId) (x y : Operand) (ho : op.op = .store ty x y) (b : Nat) (hbs : w.heap.size = b)
    (zs : Array Value) (cells : List Value) (t : TypeId) (hx : a.eval x = .pointer (some ⟨b, 0, none⟩)) (hy : a.eval y = .agg cells.toArray) (hz : zs.size = cells.length)
    (hi : (P.info? ty).map (·.size) = some cells.length) (h1 : cells.toArray.all (·.oneCell') = true)
    (h : ∀ W2, Below b w W2 → Blk W2 b cells → W2.heap.size = b + 1 → wpList P ops Q rest (a.put op.dst undef) W2) :
    wpList P ops Q (op :: rest) a (w.alloc (.cells zs t)) := by
  subst hbs
  refine wpList_store_fresh hgd ty x y ho zs cells.toArray t hx hy (by simpa using hz) (by simpa using hi) h1 ?_
  simpa using h
end Go.Proofs.Ytcgahdmacngipaa

/- STORES OVER A BLOCK THAT IS KNOWN; results that lie in a block; two blocks made (as in RetireA, for other seats). -/
namespace Go.Proofs.Ytcgahdmacngipaa
open Go.ChangeShapes Go.WideShapes Go.ChangeAt Go.RowKit
set_option linter.unusedVariables false
set_option linter.unusedSimpArgs false
set_option maxHeartbeats 2000000
set_option maxRecDepth 100000

/-- a whole value is stored over a block that is known -/
theorem wpList_store_blk {P : Program} {ops : Array Oper} {rest : List Oper} {op : Oper} {a : Act} {w : World} {Q : Exit → Act → World → Prop} (hgd : op.guard = none) (ty : TypeId) (x y : Operand) (ho : op.op = .store ty x y)
    (b : Nat) (zs : List Value) (cells : Array Value) (hB : Blk w b zs) (hz : zs.length = cells.size) (hx : a.eval x = .pointer (some ⟨b, 0, none⟩)) (hy : a.eval y = .agg cells)
    (hi : (P.info? ty).map (·.size) = some cells.size) (h1 : cells.all (·.oneCell') = true)
    (h : ∀ W2, Blk W2 b cells.toList → (∀ b' cs, b' ≠ b → Blk w b' cs → Blk W2 b' cs) → (∀ B, B ≤ b → Below B w W2) → W2.heap.size = w.heap.size → wpList P ops Q rest (a.put op.dst undef) W2) :
    wpList P ops Q (op :: rest) a w := by
  have hth : w.there b 0 cells.size := fun j hj => by
    rw [Nat.zero_add, hB.2.1 j (zs[j]'(by omega)) (List.getElem?_eq_getElem (by omega)), hB.2.2 j (by omega)]
    exact ⟨rfl, rfl⟩
  refine wpList_store_mid hgd ty x y ho b 0 cells hx hy hth hi h1 (h _ ?_ ?_ ?_ ?_)
  · refine ⟨by rw [setCells_size]; exact hB.1, fun i v hv => ?_, fun i hi => ?_⟩
    · have := World.rangeAt_setCells_same w b 0 cells.toList (by simpa using hth) i v hv
      rwa [Nat.zero_add] at this
    · rw [setCells_frozen]
      exact hB.2.2 i (by simp at hi; omega)
  · intro b' cs hne hb'
    refine ⟨by rw [setCells_size]; exact hb'.1, fun i v hv => ?_, fun i hi => ?_⟩
    · have := World.rangeAt_setCells_apart hb'.range b 0 cells.toList (.inl hne) i v hv
      rwa [Nat.zero_add] at this
    · rw [setCells_frozen]
      exact hb'.2.2 i hi
  · exact fun B hBb => setCells_below _ hBb _ _ _
  · exact setCells_size _ _ _ _

/-- a result that lies in a block, read whole -/
theorem results_cell_blk {P : Program} {fn : Func} {p : Tmp} {ty : TypeId} (h : fn.results = #[.cell p ty]) (tmps : Array Value) (w : World) (b : Nat) (cs : List Value) (d : TypeDesc)
    (hp : tmps.getD p undef = .pointer (some ⟨b, 0, none⟩)) (hB : Blk w b cs) (hu : P.underlying ty = some d) (hd : d.isRow = true) (hi : (P.info? ty).map (·.size) = some cs.length) :
    (results fn tmps).run P w = .ok (.agg cs.toArray) w := by
  have hp' : tmps[p]?.getD undef = .pointer (some ⟨b, 0, none⟩) := by simpa using hp
  simp [results, h, hp', asAddr, run_loadVar_mid w b 0 ty cs d hB.range hu hd hi]

theorem two_new (w : World) (X Y : List Value) (t u : TypeId) :
    Blk ((w.alloc (.cells X.toArray t)).alloc (.cells Y.toArray u)) w.heap.size X ∧ Blk ((w.alloc (.cells X.toArray t)).alloc (.cells Y.toArray u)) (w.heap.size + 1) Y ∧ Below w.heap.size w ((w.alloc (.cells X.toArray t)).alloc (.cells Y.toArray u)) ∧
    ((w.alloc (.cells X.toArray t)).alloc (.cells Y.toArray u)).heap.size = w.heap.size + 1 + 1 := by
  have s1 : (w.alloc (.cells X.toArray t)).heap.size = w.heap.size + 1 := by simp
  have b1 : Below (w.heap.size + 1) (w.alloc (.cells X.toArray t)) ((w.alloc (.cells X.toArray t)).alloc (.cells Y.toArray u)) := (Below.refl _ _).alloc (by rw [s1]; exact Nat.le_refl _) _
  refine ⟨(Blk.new w t X).below b1 (Nat.lt_succ_self _), ?_, ?_, by simp⟩
  · have := Blk.new (w.alloc (.cells X.toArray t)) u Y
    rwa [s1] at this
  · exact ((Below.refl _ _).alloc (Nat.le_refl _) _).alloc (by rw [s1]; omega) _

end Go.Proofs.Ytcgahdmacngipaa
