/- ROWS OF WAYS AND OF SETS: appended to rows of the call's own, cloned; an own row that may be stored into. -/
import Derived.Test.YtcgahdmacngipaaCacheM
import Derived.Laws.AppendOwnNone
import Derived.Lib.LazyBuf
namespace Go.Proofs.Ytcgahdmacngipaa
open Go.ChangeShapes Go.WideShapes Go.ChangeAt Go.RowKit
set_option linter.unusedVariables false
set_option linter.unusedSimpArgs false
set_option maxHeartbeats 2000000
set_option maxRecDepth 100000

theorem info_way : (Try.prog.info? 37).map (fun i => (i.zero, i.size, i.bytes)) = some (some (.agg #[.int .u32 0, .bool false, .string ByteArray.empty]), 3, 24) := by kernel_rfl
theorem info_hdr : (Try.prog.info? 53).map (fun i => (i.zero, i.size, i.bytes)) = some (some (.slice none 0 0), 1, 24) := by kernel_rfl
/-- a row of the call's own that may be stored into -/
def OwnAt (w : World) (base : Nat) (A : Option Addr) (n sz : Nat) (cs : List (List Value)) : Prop :=
  RowsAt w A n sz cs ∧ (0 < n → ∃ g, A = some ⟨g, 0, none⟩ ∧ base ≤ g ∧ g < w.heap.size ∧ ∀ j, j < n * sz → w.frozen? ⟨g, j, none⟩ = false)
theorem wpList_append_way {w : World} {ops : Array Oper} {rest : List Oper} {o : Oper} {a : Act} {Q : Exit → Act → World → Prop} (hgd : o.guard = none) (s x : Operand)
    (ho : o.op = .call { callee := .builtin .append, args := #[s, x], argTypes := #[53, 53] }) (base : Nat)
    (v : Value) (n : Nat) (xs : List Value) (hs : a.eval s = v) (hown : w.ownsRow base 37 3 v n xs) (A : Option Addr) (m c : Nat) (es : List Wy) (hx : a.eval x = .slice A m c) (hr : RowsAt w A m 3 (es.map wyC)) (hA : A = none → c = 0)
    (hnm : n + m ≤ 100000) (hbase : base ≤ w.heap.size)
    (h : ∀ v' w', w'.ownsRow base 37 3 v' (n + m) (xs ++ (es.map wyC).flatten) → w.grownBy w' v.ownBlock → wpList Try.prog ops Q rest (a.put o.dst v') w') : wpList Try.prog ops Q (o :: rest) a w := by
  obtain ⟨i0, hi, hz0, hz1, hz2⟩ := info_parts info_way
  cases A with
  | none =>
    obtain rfl : m = 0 := by
      rcases Nat.eq_zero_or_pos m with e | e
      · exact e
      · obtain ⟨r, hr'⟩ : ∃ r, (es.map wyC)[0]? = some r := ⟨_, List.getElem?_eq_getElem (by rw [hr.1]; exact e)⟩
        obtain ⟨_, a, ha, _⟩ := hr.2 0 _ hr'
        cases ha
    obtain rfl : es = [] := by have := hr.1; simpa using this
    obtain rfl : c = 0 := hA rfl
    exact wpList_append_own_none hgd s x 53 ho base 37 i0 3 Try.underlying53 hi v n xs hs hown hx (h v w (by simpa using hown) (World.grownBy.refl _ _))
  | some b =>
    have hnews := RowsAt.news hr (by decide)
    exact wpList_append_own w hgd s x 53 ho base 37 i0 _ 3 24 Try.underlying53 hi hz0 hz1 hz2 rfl (by decide) v n xs hs hown b m c _ hx hnews.1 hnews.2 (wyC_ones es) (by unfold maxLen; omega) (by omega) hbase (fun v' w' h1 h2 _ => h v' w' h1 h2)
theorem clone_way (A : Option Addr) (n cap : Nat) (rs : List Wy) (hn : n ≤ 200) (w : World) (h : RowsAt w A n 3 (rs.map wyC)) :
    Calls Try.prog 40 #[.slice A n cap] w fun e w' => ∃ v, e = .returned v ∧ w'.ownsRow w.heap.size 37 3 v n (rs.map wyC).flatten ∧ Below w.heap.size w w' := by
  obtain ⟨i0, hi, hz0, hz1, hz2⟩ := info_parts info_way
  have hnil := run_eql_slice_nil (P := Try.prog) w 53 37 A n cap Try.underlying53
  have hl := Lib.hid (show rs.length = n by have := h.1; simpa using this)
  cases A with
  | none =>
    obtain rfl : n = 0 := by
      rcases Nat.eq_zero_or_pos n with e | e
      · exact e
      · obtain ⟨r, hr⟩ : ∃ r, (rs.map wyC)[0]? = some r := ⟨_, List.getElem?_eq_getElem (by rw [h.1]; exact e)⟩
        obtain ⟨_, a, ha, _⟩ := h.2 0 _ hr
        cases ha
    obtain rfl : rs = [] := List.length_eq_zero_iff.1 hl.out
    go_enter Try.func40, Try.ntmps40
    go_wp2
    go_ret
    exact ⟨_, rfl, World.ownsRow_nil _ _ _ _, Below.refl _ _⟩
  | some a =>
    have hnews := RowsAt.news h (by decide)
    have hown := World.ownsRow_made w (base := w.heap.size) (e := 37) (size := 3) #[] 0 (Nat.le_refl _) (Nat.zero_le _) rfl
    have hbel := (Below.refl w.heap.size w).alloc (Nat.le_refl _) (.cells #[] 37)
    have HN1 := Lib.hid hnews.1
    have HN2 := Lib.hid (RowsAt.news (RowsAt.below h hbel) (by decide)).2
    clear hnews
    go_enter Try.func40, Try.ntmps40
    go_wp2_with (at_builtin; refine wpList_append_own _ rfl (.tmp 5) (.tmp 6) 53 rfl w.heap.size 37 i0 _ 3 24 Try.underlying53 hi hz0 hz1 hz2 rfl (by decide) _ _ _ rfl hown a _ _ _ rfl HN1.out HN2.out (wyC_ones rs) (by unfold maxLen; omega) (by omega) (by simp) ?_; intro v' w' hown' hgrow hfr)
    have hb1 := hbel.grown hgrow (by simp) (fun k hk => (hown.lt k hk).1)
    clear hgrow hown
    rw [Nat.zero_add, List.nil_append] at hown'
    go_ret
    exact ⟨_, rfl, hown', hb1⟩
/-- a row of the call's own, as a slice -/
theorem own_way {w : World} {base n : Nat} {v : Value} {es : List Wy} (h : w.ownsRow base 37 3 v n (es.map wyC).flatten) (hm : es.length = n) :
    ∃ A c, v = .slice A n c ∧ n ≤ c ∧ c ≤ maxLen ∧ (A = none → c = 0) ∧ OwnAt w base A n 3 (es.map wyC) := by
  obtain ⟨A, c, rfl, g1, g2, g3⟩ := RowsAt.own h (by simpa using hm) (wyC_len es)
  rcases h.2 with ⟨hv, h1⟩ | ⟨g, cap, cur, hv, hg, hh, h1, h2, h3, h4⟩
  · injection hv with hv1 hv2 hv3
    subst hv1 hv3
    exact ⟨none, 0, rfl, g1, g2, fun _ => rfl, g3, fun h0 => by omega⟩
  · injection hv with hv1 hv2 hv3
    subst hv1 hv3
    refine ⟨_, _, rfl, g1, g2, (fun h => by cases h), g3, fun h0 => ⟨g, rfl, hg, (Array.getElem?_eq_some_iff.1 hh).1, fun j hj => by simp [World.frozen?, hh]⟩⟩
theorem wpList_append_hdr {w : World} {ops : Array Oper} {rest : List Oper} {o : Oper} {a : Act} {Q : Exit → Act → World → Prop} (hgd : o.guard = none) (s x : Operand)
    (ho : o.op = .call { callee := .builtin .append, args := #[s, x], argTypes := #[22, 22] }) (base : Nat)
    (v : Value) (n : Nat) (xs : List Value) (hs : a.eval s = v) (hown : w.ownsRow base 53 1 v n xs) (A : Option Addr) (m c : Nat) (es : List Hd) (hx : a.eval x = .slice A m c) (hr : RowsAt w A m 1 (es.map hdC)) (hA : A = none → c = 0)
    (hnm : n + m ≤ 100000) (hbase : base ≤ w.heap.size)
    (h : ∀ v' w', w'.ownsRow base 53 1 v' (n + m) (xs ++ (es.map hdC).flatten) → w.grownBy w' v.ownBlock → wpList Try.prog ops Q rest (a.put o.dst v') w') : wpList Try.prog ops Q (o :: rest) a w := by
  obtain ⟨i0, hi, hz0, hz1, hz2⟩ := info_parts info_hdr
  cases A with
  | none =>
    obtain rfl : m = 0 := by
      rcases Nat.eq_zero_or_pos m with e | e
      · exact e
      · obtain ⟨r, hr'⟩ : ∃ r, (es.map hdC)[0]? = some r := ⟨_, List.getElem?_eq_getElem (by rw [hr.1]; exact e)⟩
        obtain ⟨_, a, ha, _⟩ := hr.2 0 _ hr'
        cases ha
    obtain rfl : es = [] := by have := hr.1; simpa using this
    obtain rfl : c = 0 := hA rfl
    exact wpList_append_own_none hgd s x 22 ho base 53 i0 1 Try.underlying22 hi v n xs hs hown hx (h v w (by simpa using hown) (World.grownBy.refl _ _))
  | some b =>
    have hnews := RowsAt.news hr (by decide)
    exact wpList_append_own w hgd s x 22 ho base 53 i0 _ 1 24 Try.underlying22 hi hz0 hz1 hz2 rfl (by decide) v n xs hs hown b m c _ hx hnews.1 hnews.2 (hdC_ones es) (by unfold maxLen; omega) (by omega) hbase (fun v' w' h1 h2 _ => h v' w' h1 h2)
theorem clone_hdr (A : Option Addr) (n cap : Nat) (rs : List Hd) (hn : n ≤ 200) (w : World) (h : RowsAt w A n 1 (rs.map hdC)) :
    Calls Try.prog 46 #[.slice A n cap] w fun e w' => ∃ v, e = .returned v ∧ w'.ownsRow w.heap.size 53 1 v n (rs.map hdC).flatten ∧ Below w.heap.size w w' := by
  obtain ⟨i0, hi, hz0, hz1, hz2⟩ := info_parts info_hdr
  have hnil := run_eql_slice_nil (P := Try.prog) w 22 53 A n cap Try.underlying22
  have hl := Lib.hid (show rs.length = n by have := h.1; simpa using this)
  cases A with
  | none =>
    obtain rfl : n = 0 := by
      rcases Nat.eq_zero_or_pos n with e | e
      · exact e
      · obtain ⟨r, hr⟩ : ∃ r, (rs.map hdC)[0]? = some r := ⟨_, List.getElem?_eq_getElem (by rw [h.1]; exact e)⟩
        obtain ⟨_, a, ha, _⟩ := h.2 0 _ hr
        cases ha
    obtain rfl : rs = [] := List.length_eq_zero_iff.1 hl.out
    go_enter Try.func46, Try.ntmps46
    go_wp2
    go_ret
    exact ⟨_, rfl, World.ownsRow_nil _ _ _ _, Below.refl _ _⟩
  | some a =>
    have hnews := RowsAt.news h (by decide)
    have hown := World.ownsRow_made w (base := w.heap.size) (e := 53) (size := 1) #[] 0 (Nat.le_refl _) (Nat.zero_le _) rfl
    have hbel := (Below.refl w.heap.size w).alloc (Nat.le_refl _) (.cells #[] 53)
    have HN1 := Lib.hid hnews.1
    have HN2 := Lib.hid (RowsAt.news (RowsAt.below h hbel) (by decide)).2
    clear hnews
    go_enter Try.func46, Try.ntmps46
    go_wp2_with (at_builtin; refine wpList_append_own _ rfl (.tmp 5) (.tmp 6) 22 rfl w.heap.size 53 i0 _ 1 24 Try.underlying22 hi hz0 hz1 hz2 rfl (by decide) _ _ _ rfl hown a _ _ _ rfl HN1.out HN2.out (hdC_ones rs) (by unfold maxLen; omega) (by omega) (by simp) ?_; intro v' w' hown' hgrow hfr)
    have hb1 := hbel.grown hgrow (by simp) (fun k hk => (hown.lt k hk).1)
    clear hgrow hown
    rw [Nat.zero_add, List.nil_append] at hown'
    go_ret
    exact ⟨_, rfl, hown', hb1⟩
/-- a row of the call's own, as a slice -/
theorem own_hdr {w : World} {base n : Nat} {v : Value} {es : List Hd} (h : w.ownsRow base 53 1 v n (es.map hdC).flatten) (hm : es.length = n) :
    ∃ A c, v = .slice A n c ∧ n ≤ c ∧ c ≤ maxLen ∧ (A = none → c = 0) ∧ OwnAt w base A n 1 (es.map hdC) := by
  obtain ⟨A, c, rfl, g1, g2, g3⟩ := RowsAt.own h (by simpa using hm) (hdC_len es)
  rcases h.2 with ⟨hv, h1⟩ | ⟨g, cap, cur, hv, hg, hh, h1, h2, h3, h4⟩
  · injection hv with hv1 hv2 hv3
    subst hv1 hv3
    exact ⟨none, 0, rfl, g1, g2, fun _ => rfl, g3, fun h0 => by omega⟩
  · injection hv with hv1 hv2 hv3
    subst hv1 hv3
    refine ⟨_, _, rfl, g1, g2, (fun h => by cases h), g3, fun h0 => ⟨g, rfl, hg, (Array.getElem?_eq_some_iff.1 hh).1, fun j hj => by simp [World.frozen?, hh]⟩⟩
theorem OwnAt.below {w w' : World} {base : Nat} {A : Option Addr} {n sz : Nat} {cs : List (List Value)} (h : OwnAt w base A n sz cs) (hb : Below w.heap.size w w') : OwnAt w' base A n sz cs :=
  ⟨RowsAt.below h.1 hb, fun h0 => by
    obtain ⟨g, rfl, h1, h2, h3⟩ := h.2 h0
    exact ⟨g, rfl, h1, Nat.lt_of_lt_of_le h2 hb.size, fun j hj => (hb.frozen (p := ⟨g, j, none⟩) h2).trans (h3 j hj)⟩⟩
/-- an element's block and cells -/
theorem OwnAt.at_ {w : World} {base : Nat} {A : Option Addr} {n sz : Nat} {cs : List (List Value)} (h : OwnAt w base A n sz cs) {j : Nat} {c : List Value} (hj : cs[j]? = some c) :
    ∃ g, A = some ⟨g, 0, none⟩ ∧ base ≤ g ∧ g < w.heap.size ∧ (∀ i v, c[i]? = some v → w.cell? ⟨g, j * sz + i, none⟩ = some v) ∧ ∀ i, i < sz → w.frozen? ⟨g, j * sz + i, none⟩ = false := by
  have hjl := (List.getElem?_eq_some_iff.1 hj).1
  rw [h.1.1] at hjl
  obtain ⟨g, rfl, h1, h2, h3⟩ := h.2 (by omega)
  obtain ⟨_, a, ha, _, hv⟩ := h.1.2 j c hj
  cases ha
  refine ⟨g, rfl, h1, h2, fun i v hi => ?_, fun i hi => h3 _ ?_⟩
  · have := hv i v hi
    rwa [Addr.add_lit, Nat.zero_add] at this
  · have h4 : (j + 1) * sz ≤ n * sz := Nat.mul_le_mul_right sz hjl
    rw [Nat.add_mul] at h4
    omega
/-- a cell elsewhere is stored into -/
theorem OwnAt.far {w : World} {base : Nat} {A : Option Addr} {n sz : Nat} {cs : List (List Value)} (h : OwnAt w base A n sz cs) {p : Addr} (hp : p.block < base) (v : Value) : OwnAt (w.setCell p v) base A n sz cs :=
  ⟨⟨h.1.1, fun j c hj => by
    obtain ⟨e, a, ha, hl, hv⟩ := h.1.2 j c hj
    have hjl := (List.getElem?_eq_some_iff.1 hj).1
    rw [h.1.1] at hjl
    obtain ⟨g, hg, h1, h2, h3⟩ := h.2 (by omega)
    rw [ha] at hg
    cases hg
    refine ⟨e, _, ha, by simpa using hl, fun i u hu => ?_⟩
    rw [World.cell?_setCell_other _ _ _ _ (by
      intro he
      have := congrArg Addr.block he
      rw [block_add] at this
      simp only at this
      omega)]
    exact hv i u hu⟩, fun h0 => by
    obtain ⟨g, hg, h1, h2, h3⟩ := h.2 h0
    exact ⟨g, hg, h1, by simpa using h2, fun j hj => by rw [World.frozen?_setCell]; exact h3 j hj⟩⟩
/-- a cell of it is stored into -/
theorem OwnAt.set {w : World} {base : Nat} {g n sz : Nat} {cs : List (List Value)} (h : OwnAt w base (some ⟨g, 0, none⟩) n sz cs) {j i : Nat} {c : List Value} (hj : cs[j]? = some c) (hi : i < sz) (v : Value) :
    OwnAt (w.setCell ⟨g, j * sz + i, none⟩ v) base (some ⟨g, 0, none⟩) n sz (cs.set j (c.set i v)) := by
  have hjl := (List.getElem?_eq_some_iff.1 hj).1
  have hcl := (h.1.2 j c hj).1
  refine ⟨⟨by rw [List.length_set]; exact h.1.1, fun q d hd => ?_⟩, fun h0 => ?_⟩
  · by_cases hq : j = q
    · subst hq
      rw [List.getElem?_set_self hjl] at hd
      cases hd
      obtain ⟨_, a, ha, hl, hv⟩ := h.1.2 j c hj
      cases ha
      refine ⟨by rw [List.length_set]; exact hcl, _, rfl, by simpa using hl, fun k u hk => ?_⟩
      rw [Addr.add_lit, Nat.zero_add]
      by_cases hki : i = k
      · subst hki
        rw [List.getElem?_set_self (by omega)] at hk
        cases hk
        have hu : ∃ u, c[i]? = some u := ⟨_, List.getElem?_eq_getElem (by omega)⟩
        obtain ⟨u, hu⟩ := hu
        have h1 := hv i u hu
        rw [Addr.add_lit, Nat.zero_add] at h1
        exact World.cell?_setCell_same _ _ _ h1
      · rw [List.getElem?_set_ne hki] at hk
        have h1 := hv k u hk
        rw [Addr.add_lit, Nat.zero_add] at h1
        rw [World.cell?_setCell_other _ _ _ _ (by intro he; injection he with _ he; omega)]
        exact h1
    · rw [List.getElem?_set_ne hq] at hd
      obtain ⟨h5, a, ha, hl, hv⟩ := h.1.2 q d hd
      cases ha
      refine ⟨h5, _, rfl, by simpa using hl, fun k u hk => ?_⟩
      have hks : k < sz := by have := (List.getElem?_eq_some_iff.1 hk).1; omega
      have h1 := hv k u hk
      rw [Addr.add_lit, Nat.zero_add] at h1 ⊢
      rw [World.cell?_setCell_other _ _ _ _ ?_]
      · exact h1
      · intro he
        injection he with _ he
        rcases Nat.lt_or_gt_of_ne hq with h6 | h6
        · have : (j + 1) * sz ≤ q * sz := Nat.mul_le_mul_right sz h6
          rw [Nat.add_mul] at this
          omega
        · have : (q + 1) * sz ≤ j * sz := Nat.mul_le_mul_right sz h6
          rw [Nat.add_mul] at this
          omega
  · obtain ⟨g', hg, h1, h2, h3⟩ := h.2 h0
    cases hg
    exact ⟨g, rfl, h1, by simpa using h2, fun k hk => by rw [World.frozen?_setCell]; exact h3 k hk⟩
/-- a struct stored whole: what else is told -/
theorem wpList_store_blk3 {P : Program} {ops : Array Oper} {rest : List Oper} {op : Oper} {a : Act} {w : World} {Q : Exit → Act → World → Prop} (hgd : op.guard = none) (ty : TypeId) (x y : Operand) (ho : op.op = .store ty x y)
    (b : Nat) (zs : List Value) (cells : Array Value) (hB : Blk w b zs) (hz : zs.length = cells.size) (hx : a.eval x = .pointer (some ⟨b, 0, none⟩)) (hy : a.eval y = .agg cells)
    (hi : (P.info? ty).map (·.size) = some cells.size) (h1 : cells.all (·.oneCell') = true)
    (h : ∀ W2, Blk W2 b cells.toList → (∀ p : Addr, p.block ≠ b → W2.cell? p = w.cell? p) → (∀ p : Addr, W2.frozen? p = w.frozen? p) → (∀ B, B ≤ b → Below B w W2) → W2.heap.size = w.heap.size → wpList P ops Q rest (a.put op.dst undef) W2) :
    wpList P ops Q (op :: rest) a w := by
  have hth : w.there b 0 cells.size := fun j hj => by
    rw [Nat.zero_add, hB.2.1 j (zs[j]'(by omega)) (List.getElem?_eq_getElem (by omega)), hB.2.2 j (by omega)]
    exact ⟨rfl, rfl⟩
  refine wpList_store_mid hgd ty x y ho b 0 cells hx hy hth hi h1 (h _ ?_ ?_ ?_ ?_ ?_)
  · refine ⟨by rw [setCells_size]; exact hB.1, fun i v hv => ?_, fun i hi => ?_⟩
    · have := World.rangeAt_setCells_same w b 0 cells.toList (by simpa using hth) i v hv
      rwa [Nat.zero_add] at this
    · rw [setCells_frozen]
      exact hB.2.2 i (by simp at hi; omega)
  · exact fun p hne => World.cell?_setCells_out b cells.toList 0 w p (fun hb _ => absurd hb hne)
  · exact fun p => setCells_frozen _ _ _ _ _
  · exact fun B hBb => setCells_below _ hBb _ _ _
  · exact setCells_size _ _ _ _
theorem OwnAt.same {w W : World} {base b : Nat} {A : Option Addr} {n sz : Nat} {cs : List (List Value)} (h : OwnAt w base A n sz cs) (hb : b < base) (hc : ∀ p : Addr, p.block ≠ b → W.cell? p = w.cell? p) (hf : ∀ p : Addr, W.frozen? p = w.frozen? p) (hs : W.heap.size = w.heap.size) : OwnAt W base A n sz cs :=
  ⟨⟨h.1.1, fun j c hj => by
    obtain ⟨e, a, ha, hl, hv⟩ := h.1.2 j c hj
    have hjl := (List.getElem?_eq_some_iff.1 hj).1
    rw [h.1.1] at hjl
    obtain ⟨g, hg, h1, h2, h3⟩ := h.2 (by omega)
    rw [ha] at hg
    cases hg
    refine ⟨e, _, ha, by rw [hs]; exact hl, fun i u hu => ?_⟩
    rw [hc _ (by rw [block_add]; show g ≠ b; omega)]
    exact hv i u hu⟩, fun h0 => by
    obtain ⟨g, hg, h1, h2, h3⟩ := h.2 h0
    exact ⟨g, hg, h1, by omega, fun j hj => by rw [hf]; exact h3 j hj⟩⟩
end Go.Proofs.Ytcgahdmacngipaa
