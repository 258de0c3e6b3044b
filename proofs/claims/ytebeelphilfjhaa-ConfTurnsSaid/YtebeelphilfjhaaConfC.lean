/- THE CONTRACT of Clean, of package conf. -/
import Derived.Test.YtebeelphilfjhaaConf
namespace Go.Proofs.Ytebeelphilfjhaa
open Go.ChangeShapes Go.WideShapes Go.ChangeAt Go.RowKit
set_option linter.unusedVariables false
set_option linter.unusedSimpArgs false

/-- a shape: its numbers, and where its two tapes stand -/
structure Cf where
  mode : Int
  width : Int
  rob : Int
  queue : Int
  stores : Int
  slots : Int
  sets : Int
  ways : Int
  la : Option Addr
  ln : Nat
  lc : Nat
  tb : Bool
  ta : Option Addr
  tn : Nat
  tc : Nat

def cfL (c : Cf) : List Value := [.int .i64 c.mode, .int .i64 c.width, .int .i64 c.rob, .int .i64 c.queue, .int .i64 c.stores, .int .i64 c.slots, .int .i64 c.sets, .int .i64 c.ways, .slice c.la c.ln c.lc, .bool c.tb, .slice c.ta c.tn c.tc]
def cfV (c : Cf) : Value := .agg #[.int .i64 c.mode, .int .i64 c.width, .int .i64 c.rob, .int .i64 c.queue, .int .i64 c.stores, .int .i64 c.slots, .int .i64 c.sets, .int .i64 c.ways, .slice c.la c.ln c.lc, .bool c.tb, .slice c.ta c.tn c.tc]
/-- its tapes hold these numbers -/
def CfAt (w : World) (c : Cf) (lat tape : List Int) : Prop := IntsAt w c.la c.ln .i64 lat ∧ IntsAt w c.ta c.tn .u32 tape ∧ c.ln ≤ c.lc ∧ c.lc ≤ maxLen ∧ c.tn ≤ c.tc ∧ c.tc ≤ maxLen
theorem CfAt.below {w w' : World} {c : Cf} {lat tape : List Int} (h : CfAt w c lat tape) (hb : Below w.heap.size w w') : CfAt w' c lat tape := ⟨h.1.below hb, h.2.1.below hb, h.2.2⟩
def setsOf (z : Int) : Int := if lim z 1 4 = 3 then 2 else lim z 1 4
def latOf (lat : List Int) : List Int := (lat.take 64).map fun z => lim z 1 8
/-- what a shape becomes, but for where its tapes stand -/
def cfClean (c : Cf) (la : Option Addr) (lc : Nat) (ta : Option Addr) (tc : Nat) : Cf :=
  { mode := lim c.mode 0 2, width := lim c.width 1 2, rob := lim c.rob 2 8, queue := lim c.queue 1 4, stores := lim c.stores 1 4, slots := lim c.slots 2 6, sets := setsOf c.sets, ways := lim c.ways 1 2,
    la := la, ln := min c.ln 64, lc := lc, tb := c.tb, ta := ta, tn := min c.tn 64, tc := tc }

theorem Blk.c11 {w : World} {b : Nat} {v0 v1 v2 v3 v4 v5 v6 v7 v8 v9 v10 : Value} (h : Blk w b [v0, v1, v2, v3, v4, v5, v6, v7, v8, v9, v10]) : (w.cell? ⟨b, 0, none⟩ = some v0 ∧ w.cell? ⟨b, 1, none⟩ = some v1 ∧ w.cell? ⟨b, 2, none⟩ = some v2 ∧ w.cell? ⟨b, 3, none⟩ = some v3 ∧ w.cell? ⟨b, 4, none⟩ = some v4 ∧ w.cell? ⟨b, 5, none⟩ = some v5 ∧ w.cell? ⟨b, 6, none⟩ = some v6 ∧ w.cell? ⟨b, 7, none⟩ = some v7 ∧ w.cell? ⟨b, 8, none⟩ = some v8 ∧ w.cell? ⟨b, 9, none⟩ = some v9 ∧ w.cell? ⟨b, 10, none⟩ = some v10) ∧ (w.frozen? ⟨b, 0, none⟩ = false ∧ w.frozen? ⟨b, 1, none⟩ = false ∧ w.frozen? ⟨b, 2, none⟩ = false ∧ w.frozen? ⟨b, 3, none⟩ = false ∧ w.frozen? ⟨b, 4, none⟩ = false ∧ w.frozen? ⟨b, 5, none⟩ = false ∧ w.frozen? ⟨b, 6, none⟩ = false ∧ w.frozen? ⟨b, 7, none⟩ = false ∧ w.frozen? ⟨b, 8, none⟩ = false ∧ w.frozen? ⟨b, 9, none⟩ = false ∧ w.frozen? ⟨b, 10, none⟩ = false) :=
  ⟨⟨h.2.1 0 _ rfl, h.2.1 1 _ rfl, h.2.1 2 _ rfl, h.2.1 3 _ rfl, h.2.1 4 _ rfl, h.2.1 5 _ rfl, h.2.1 6 _ rfl, h.2.1 7 _ rfl, h.2.1 8 _ rfl, h.2.1 9 _ rfl, h.2.1 10 _ rfl⟩, ⟨h.2.2 0 (by simp), h.2.2 1 (by simp), h.2.2 2 (by simp), h.2.2 3 (by simp), h.2.2 4 (by simp), h.2.2 5 (by simp), h.2.2 6 (by simp), h.2.2 7 (by simp), h.2.2 8 (by simp), h.2.2 9 (by simp), h.2.2 10 (by simp)⟩⟩
theorem ints11 {w : World} {A : Option Addr} {n : Nat} {k : IntKind} {zs : List Int} {r : Nat} {v0 v1 v2 v3 v4 v5 v6 v7 v8 v9 v10 : Value} (h : IntsAt w A n k zs) (hp : ∀ a, A = some a → r ≠ a.block) : IntsAt (((((((((((w.setCell ⟨r, 0, none⟩ v0).setCell ⟨r, 1, none⟩ v1).setCell ⟨r, 2, none⟩ v2).setCell ⟨r, 3, none⟩ v3).setCell ⟨r, 4, none⟩ v4).setCell ⟨r, 5, none⟩ v5).setCell ⟨r, 6, none⟩ v6).setCell ⟨r, 7, none⟩ v7).setCell ⟨r, 8, none⟩ v8).setCell ⟨r, 9, none⟩ v9).setCell ⟨r, 10, none⟩ v10) A n k zs := by
  have hq : ∀ (i : Nat) (a : Addr), A = some a → (⟨r, i, none⟩ : Addr).block ≠ a.block := fun i a ha => hp a ha
  exact (IntsAt.setCell (IntsAt.setCell (IntsAt.setCell (IntsAt.setCell (IntsAt.setCell (IntsAt.setCell (IntsAt.setCell (IntsAt.setCell (IntsAt.setCell (IntsAt.setCell (IntsAt.setCell h (hq 0)) (hq 1)) (hq 2)) (hq 3)) (hq 4)) (hq 5)) (hq 6)) (hq 7)) (hq 8)) (hq 9)) (hq 10))
theorem below11 {w w' : World} {B r : Nat} {v0 v1 v2 v3 v4 v5 v6 v7 v8 v9 v10 : Value} (h : Below B w w') (hr : B ≤ r) : Below B w (((((((((((w'.setCell ⟨r, 0, none⟩ v0).setCell ⟨r, 1, none⟩ v1).setCell ⟨r, 2, none⟩ v2).setCell ⟨r, 3, none⟩ v3).setCell ⟨r, 4, none⟩ v4).setCell ⟨r, 5, none⟩ v5).setCell ⟨r, 6, none⟩ v6).setCell ⟨r, 7, none⟩ v7).setCell ⟨r, 8, none⟩ v8).setCell ⟨r, 9, none⟩ v9).setCell ⟨r, 10, none⟩ v10) :=
  (((((((((((h.setCell (p := ⟨r, 0, none⟩) hr v0).setCell (p := ⟨r, 1, none⟩) hr v1).setCell (p := ⟨r, 2, none⟩) hr v2).setCell (p := ⟨r, 3, none⟩) hr v3).setCell (p := ⟨r, 4, none⟩) hr v4).setCell (p := ⟨r, 5, none⟩) hr v5).setCell (p := ⟨r, 6, none⟩) hr v6).setCell (p := ⟨r, 7, none⟩) hr v7).setCell (p := ⟨r, 8, none⟩) hr v8).setCell (p := ⟨r, 9, none⟩) hr v9).setCell (p := ⟨r, 10, none⟩) hr v10)
theorem take_len {l : List Int} {n : Nat} (h : l.length = n) : l.take (min n 64) = l.take 64 := by
  rcases Nat.le_total n 64 with c | c
  · rw [Nat.min_eq_left c, List.take_of_length_le (by omega), List.take_of_length_le (by omega)]
  · rw [Nat.min_eq_right c]
theorem own_form {w : World} {base e size n : Nat} {v : Value} {xs : List Value} (h : w.ownsRow base e size v n xs) : ∃ A c, v = .slice A n c ∧ n ≤ c ∧ c ≤ maxLen ∧ ∀ a, A = some a → base ≤ a.block ∧ a.block < w.heap.size := by
  rcases h.2 with ⟨rfl, h0⟩ | ⟨g, cap, cur, rfl, hg, hh, h1, h2, _⟩
  · subst h0
    exact ⟨none, 0, rfl, Nat.le_refl _, Nat.zero_le _, fun a ha => by cases ha⟩
  · refine ⟨_, cap, rfl, h1, h2, fun a ha => ?_⟩
    cases ha
    refine ⟨hg, ?_⟩
    rcases Nat.lt_or_ge g w.heap.size with h' | h'
    · exact h'
    · rw [Array.getElem?_eq_none h'] at hh; cases hh
theorem own_head {w : World} {base e size n c : Nat} {A : Option Addr} {xs : List Value} (h : w.ownsRow base e size (.slice A n c) n xs) (hn : 0 < n) : ∃ g, A = some ⟨g, 0, none⟩ ∧ base ≤ g := by
  rcases h.2 with ⟨h0, h1⟩ | ⟨g, cap, cur, hv, hg, _⟩
  · omega
  · injection hv with hv
    exact ⟨g, hv, hg⟩
theorem own_ints {w : World} {base e n c : Nat} {A : Option Addr} {k : IntKind} {zs : List Int} (h : w.ownsRow base e 1 (.slice A n c) n (zs.map (Value.int k))) (hn : zs.length = n) : IntsAt w A n k zs :=
  ⟨hn, fun j z hj => by
    have hjl : j < n := by have := (List.getElem?_eq_some_iff.1 hj).1; omega
    obtain ⟨g, rfl, hg⟩ := own_head h (by omega)
    refine ⟨_, rfl, (h.lt g rfl).2, ?_⟩
    rw [Addr.add_lit, Nat.zero_add, h.cellAt _ (by omega), List.getElem?_map, hj]
    rfl⟩
theorem own_below {w w2 : World} {B e size n : Nat} {v : Value} {xs : List Value} (h : w.ownsRow B e size v n xs) (hb : Below w.heap.size w w2) : w2.ownsRow B e size v n xs := by
  refine ⟨h.1, ?_⟩
  rcases h.2 with h0 | ⟨g, cap, cur, hv, hg, hh, r⟩
  · exact .inl h0
  · have hlt : g < w.heap.size := by
      rcases Nat.lt_or_ge g w.heap.size with h' | h'
      · exact h'
      · rw [Array.getElem?_eq_none (by omega)] at hh; cases hh
    exact .inr ⟨g, cap, cur, hv, hg, by rw [hb.block g hlt]; exact hh, r⟩
theorem own_cell {w : World} {base e size n : Nat} {v : Value} {xs : List Value} {p : Addr} {u : Value} (h : w.ownsRow base e size v n xs) (hp : p.block < base) : (w.setCell p u).ownsRow base e size v n xs := by
  refine ⟨h.1, ?_⟩
  rcases h.2 with h0 | ⟨g, cap, cur, hv, hg, hh, r⟩
  · exact .inl h0
  · exact .inr ⟨g, cap, cur, hv, hg, by rw [heap_setCell_other _ _ _ _ (by omega)]; exact hh, r⟩

theorem map_step (f : Int → Int) (l : List Int) (k : Nat) (h : k < l.length) : (((l.take k).map f) ++ l.drop k).set k (f l[k]) = ((l.take (k + 1)).map f) ++ l.drop (k + 1) := by
  have hl : ((l.take k).map f).length = k := by simp; omega
  rw [List.set_append_right _ _ (by omega), hl, Nat.sub_self, List.drop_eq_getElem_cons h, List.set_cons_zero, List.take_succ_eq_append_getElem h, List.map_append]
  simp
set_option maxHeartbeats 2000000
set_option maxRecDepth 100000
theorem clean_new (c : Cf) (lat tape : List Int) (hl : c.ln ≤ 200) (ht : c.tn ≤ 200) (w : World) (h : CfAt w c lat tape) :
    Calls Try.prog 24 #[cfV c] w fun e w' => ∃ la lc ta tc, e = .returned (cfV (cfClean c la lc ta tc)) ∧ CfAt w' (cfClean c la lc ta tc) (latOf lat) (tape.take 64) ∧ ((∀ a, la = some a → w.heap.size ≤ a.block) ∧ (∀ a, ta = some a → w.heap.size ≤ a.block)) ∧ Below w.heap.size w w' := by
  obtain ⟨mode, width, rob, queue, stores, slots, sets, ways, la, ln, lc, tb, ta, tn, tc⟩ := c
  simp only [cfV]
  have hB0 := Blk.new w 25 (cfL ⟨mode, width, rob, queue, stores, slots, sets, ways, la, ln, lc, tb, ta, tn, tc⟩)
  have hb0 := (Below.refl w.heap.size w).alloc (Nat.le_refl _) (.cells (cfL ⟨mode, width, rob, queue, stores, slots, sets, ways, la, ln, lc, tb, ta, tn, tc⟩).toArray 25)
  have hR := Blk.new (w.alloc (.cells (cfL ⟨mode, width, rob, queue, stores, slots, sets, ways, la, ln, lc, tb, ta, tn, tc⟩).toArray 25)) 25 (cfL ⟨0, 0, 0, 0, 0, 0, 0, 0, none, 0, 0, false, none, 0, 0⟩)
  have hB := hB0.below ((Below.refl _ _).alloc (Nat.le_refl _) (.cells (cfL ⟨0, 0, 0, 0, 0, 0, 0, 0, none, 0, 0, false, none, 0, 0⟩).toArray 25)) (by simp)
  have hb := hb0.alloc hb0.size (.cells (cfL ⟨0, 0, 0, 0, 0, 0, 0, 0, none, 0, 0, false, none, 0, 0⟩).toArray 25)
  rw [show (w.alloc (.cells (cfL ⟨mode, width, rob, queue, stores, slots, sets, ways, la, ln, lc, tb, ta, tn, tc⟩).toArray 25)).heap.size = w.heap.size + 1 by simp] at hR
  clear hB0 hb0
  go_enter Try.func24, Try.ntmps24
  go_wp2_with fail
  refine (within_any ⟨w.heap.size, 0, none⟩ _ 0 2 _ (hB.2.1 0 _ rfl) (hB.2.2 0 (by simp [cfL])) (by decide)).mono ?_
  rintro e w0 ⟨rfl, hw0⟩
  have hB' := hB.set (i := 0) (v := .int .i64 (lim mode 0 2)) (by simp [cfL])
  have hR' := hR.other (p := ⟨w.heap.size, 0, none⟩) (v := .int .i64 (lim mode 0 2)) (fun e => absurd e (by simp))
  have hb' := hb.setCell (p := ⟨w.heap.size, 0, none⟩) (Nat.le_refl _) (.int .i64 (lim mode 0 2))
  rw [← hw0] at hB' hR' hb'
  clear hB hb hR hw0
  have hB := hB'
  have hR := hR'
  have hb := hb'
  clear hB' hR' hb'
  simp only [cfL, List.set] at hB
  go_wp2_with fail
  refine (within_any ⟨w.heap.size, 1, none⟩ _ 1 2 _ (hB.2.1 1 _ rfl) (hB.2.2 1 (by simp [cfL])) (by decide)).mono ?_
  rintro e w0 ⟨rfl, hw0⟩
  have hB' := hB.set (i := 1) (v := .int .i64 (lim width 1 2)) (by simp [cfL])
  have hR' := hR.other (p := ⟨w.heap.size, 1, none⟩) (v := .int .i64 (lim width 1 2)) (fun e => absurd e (by simp))
  have hb' := hb.setCell (p := ⟨w.heap.size, 1, none⟩) (Nat.le_refl _) (.int .i64 (lim width 1 2))
  rw [← hw0] at hB' hR' hb'
  clear hB hb hR hw0
  have hB := hB'
  have hR := hR'
  have hb := hb'
  clear hB' hR' hb'
  simp only [cfL, List.set] at hB
  go_wp2_with fail
  refine (within_any ⟨w.heap.size, 2, none⟩ _ 2 8 _ (hB.2.1 2 _ rfl) (hB.2.2 2 (by simp [cfL])) (by decide)).mono ?_
  rintro e w0 ⟨rfl, hw0⟩
  have hB' := hB.set (i := 2) (v := .int .i64 (lim rob 2 8)) (by simp [cfL])
  have hR' := hR.other (p := ⟨w.heap.size, 2, none⟩) (v := .int .i64 (lim rob 2 8)) (fun e => absurd e (by simp))
  have hb' := hb.setCell (p := ⟨w.heap.size, 2, none⟩) (Nat.le_refl _) (.int .i64 (lim rob 2 8))
  rw [← hw0] at hB' hR' hb'
  clear hB hb hR hw0
  have hB := hB'
  have hR := hR'
  have hb := hb'
  clear hB' hR' hb'
  simp only [cfL, List.set] at hB
  go_wp2_with fail
  refine (within_any ⟨w.heap.size, 3, none⟩ _ 1 4 _ (hB.2.1 3 _ rfl) (hB.2.2 3 (by simp [cfL])) (by decide)).mono ?_
  rintro e w0 ⟨rfl, hw0⟩
  have hB' := hB.set (i := 3) (v := .int .i64 (lim queue 1 4)) (by simp [cfL])
  have hR' := hR.other (p := ⟨w.heap.size, 3, none⟩) (v := .int .i64 (lim queue 1 4)) (fun e => absurd e (by simp))
  have hb' := hb.setCell (p := ⟨w.heap.size, 3, none⟩) (Nat.le_refl _) (.int .i64 (lim queue 1 4))
  rw [← hw0] at hB' hR' hb'
  clear hB hb hR hw0
  have hB := hB'
  have hR := hR'
  have hb := hb'
  clear hB' hR' hb'
  simp only [cfL, List.set] at hB
  go_wp2_with fail
  refine (within_any ⟨w.heap.size, 4, none⟩ _ 1 4 _ (hB.2.1 4 _ rfl) (hB.2.2 4 (by simp [cfL])) (by decide)).mono ?_
  rintro e w0 ⟨rfl, hw0⟩
  have hB' := hB.set (i := 4) (v := .int .i64 (lim stores 1 4)) (by simp [cfL])
  have hR' := hR.other (p := ⟨w.heap.size, 4, none⟩) (v := .int .i64 (lim stores 1 4)) (fun e => absurd e (by simp))
  have hb' := hb.setCell (p := ⟨w.heap.size, 4, none⟩) (Nat.le_refl _) (.int .i64 (lim stores 1 4))
  rw [← hw0] at hB' hR' hb'
  clear hB hb hR hw0
  have hB := hB'
  have hR := hR'
  have hb := hb'
  clear hB' hR' hb'
  simp only [cfL, List.set] at hB
  go_wp2_with fail
  refine (within_any ⟨w.heap.size, 5, none⟩ _ 2 6 _ (hB.2.1 5 _ rfl) (hB.2.2 5 (by simp [cfL])) (by decide)).mono ?_
  rintro e w0 ⟨rfl, hw0⟩
  have hB' := hB.set (i := 5) (v := .int .i64 (lim slots 2 6)) (by simp [cfL])
  have hR' := hR.other (p := ⟨w.heap.size, 5, none⟩) (v := .int .i64 (lim slots 2 6)) (fun e => absurd e (by simp))
  have hb' := hb.setCell (p := ⟨w.heap.size, 5, none⟩) (Nat.le_refl _) (.int .i64 (lim slots 2 6))
  rw [← hw0] at hB' hR' hb'
  clear hB hb hR hw0
  have hB := hB'
  have hR := hR'
  have hb := hb'
  clear hB' hR' hb'
  simp only [cfL, List.set] at hB
  go_wp2_with fail
  refine (within_any ⟨w.heap.size, 6, none⟩ _ 1 4 _ (hB.2.1 6 _ rfl) (hB.2.2 6 (by simp [cfL])) (by decide)).mono ?_
  rintro e w0 ⟨rfl, hw0⟩
  have hB' := hB.set (i := 6) (v := .int .i64 (lim sets 1 4)) (by simp [cfL])
  have hR' := hR.other (p := ⟨w.heap.size, 6, none⟩) (v := .int .i64 (lim sets 1 4)) (fun e => absurd e (by simp))
  have hb' := hb.setCell (p := ⟨w.heap.size, 6, none⟩) (Nat.le_refl _) (.int .i64 (lim sets 1 4))
  rw [← hw0] at hB' hR' hb'
  clear hB hb hR hw0
  have hB := hB'
  have hR := hR'
  have hb := hb'
  clear hB' hR' hb'
  simp only [cfL, List.set] at hB
  go_wp2_with fail
  refine (within_any ⟨w.heap.size, 7, none⟩ _ 1 2 _ (hB.2.1 7 _ rfl) (hB.2.2 7 (by simp [cfL])) (by decide)).mono ?_
  rintro e w0 ⟨rfl, hw0⟩
  have hB' := hB.set (i := 7) (v := .int .i64 (lim ways 1 2)) (by simp [cfL])
  have hR' := hR.other (p := ⟨w.heap.size, 7, none⟩) (v := .int .i64 (lim ways 1 2)) (fun e => absurd e (by simp))
  have hb' := hb.setCell (p := ⟨w.heap.size, 7, none⟩) (Nat.le_refl _) (.int .i64 (lim ways 1 2))
  rw [← hw0] at hB' hR' hb'
  clear hB hb hR hw0
  have hB := hB'
  have hR := hR'
  have hb := hb'
  clear hB' hR' hb'
  simp only [cfL, List.set] at hB
  have hw2 : w.heap.size + 1 < w0.heap.size := hR.1
  have hq1 := h.2.2.1
  have hq2 := h.2.2.2.1
  have hq3 := h.2.2.2.2.1
  have hq4 := h.2.2.2.2.2
  simp only at hq1 hq2 hq3 hq4
  have c6 := hB.2.1 6 _ rfl
  have f6 := hB.2.2 6 (by simp)
  have c8 := hB.2.1 8 _ rfl
  by_cases s3 : lim sets 1 4 = 3
  · have HSO := Lib.hid (show setsOf sets = 2 by unfold setsOf; rw [if_pos s3])
    have e6 : (lim sets 1 4 == 3) = true := by simp [s3]
    have hB' := hB.set (i := 6) (v := .int .i64 2) (by simp)
    have hR' := hR.other (p := ⟨w.heap.size, 6, none⟩) (v := .int .i64 2) (fun e => absurd e (by simp))
    have hb' := hb.setCell (p := ⟨w.heap.size, 6, none⟩) (Nat.le_refl _) (.int .i64 2)
    have hw2' : w.heap.size + 1 < (w0.setCell ⟨w.heap.size, 6, none⟩ (.int .i64 2)).heap.size := hR'.1
    clear s3 hw2
    simp only [List.set] at hB'
    go_wp2_with fail
    clear e6 c6 f6 c8 hB hR hb
    generalize w0.setCell ⟨w.heap.size, 6, none⟩ (.int .i64 2) = wX at *
    refine (first_ints la ln lc hq1 hq2 _).mono ?_
    rintro e w1 ⟨rfl, rfl⟩
    have hI1 := (CfAt.below h hb').1.take (Nat.min_le_left ln 64)
    simp only at hI1
    rw [take_len h.1.1] at hI1
    go_wp2_with fail
    refine (clone_ints la (min ln 64) lc (lat.take 64) (by omega) _ hI1).mono ?_
    rintro e w1 ⟨v, rfl, hown, b1⟩
    obtain ⟨A1, k1, rfl, r1, r2, r3⟩ := own_form hown
    have hB := hB'.below b1 (by omega)
    have hR := hR'.below b1 hw2'
    have hb := hb'.trans (b1.mono hb'.size)
    have hz1 := Lib.hid hI1.1
    obtain ⟨n1, hn1⟩ : ∃ n1, min ln 64 = n1 := ⟨_, rfl⟩
    have hn64 : n1 ≤ 64 := by omega
    rw [hn1] at hown hz1 r1 ⊢
    have HN1 := Lib.hid hn1
    have hB0 : w.heap.size + 1 < wX.heap.size := hw2'
    clear hB' hR' hb' b1 hI1 hn1 hw2'
    obtain ⟨B1, hB1⟩ : ∃ B1, wX.heap.size = B1 := ⟨_, rfl⟩
    rw [hB1] at hown hB0 r3
    clear hB1
    have c8 := hB.2.1 8 _ rfl
    have f8 := hB.2.2 8 (by simp)
    have hBs := hB.set (i := 8) (v := .slice A1 n1 k1) (by simp)
    have hRs := hR.other (p := ⟨w.heap.size, 8, none⟩) (v := .slice A1 n1 k1) (fun e => absurd e (by simp))
    have hbs := hb.setCell (p := ⟨w.heap.size, 8, none⟩) (Nat.le_refl _) (.slice A1 n1 k1)
    have hos := own_cell (p := ⟨w.heap.size, 8, none⟩) (u := .slice A1 n1 k1) hown (show w.heap.size < B1 by omega)
    simp only [List.set] at hBs
    have HR3 := Lib.hid r3
    clear r3
    go_wp2
    clear c8 f8 hB hR hb hown
    generalize w1.setCell ⟨w.heap.size, 8, none⟩ (.slice A1 n1 k1) = w2 at *
    go_loopw [41] (fun i wr => ∃ k : Nat, k ≤ n1 ∧ i = .int .i64 k ∧ Blk wr w.heap.size [.int .i64 (lim mode 0 2), .int .i64 (lim width 1 2), .int .i64 (lim rob 2 8), .int .i64 (lim queue 1 4), .int .i64 (lim stores 1 4), .int .i64 (lim slots 2 6), .int .i64 2, .int .i64 (lim ways 1 2), .slice A1 n1 k1, .bool tb, .slice ta tn tc] ∧ Blk wr (w.heap.size + 1) (cfL ⟨0, 0, 0, 0, 0, 0, 0, 0, none, 0, 0, false, none, 0, 0⟩) ∧ wr.ownsRow B1 3 1 (.slice A1 n1 k1) n1 (((((lat.take 64).take k).map fun z => lim z 1 8) ++ (lat.take 64).drop k).map (Value.int .i64)) ∧ Below w.heap.size w wr) (fun i _ => n1 - (intOf i).toNat)
    case atStart => exact ⟨0, Nat.zero_le _, rfl, hBs, hRs, by simpa using hos, hbs⟩
    case round =>
      clear hBs hRs hbs hos
      obtain ⟨k, hk, rfl, hB, hR, hown, hb⟩ := hrel
      have c8 := hB.2.1 8 _ rfl
      by_cases hkn : k < n1
      · obtain ⟨g, rfl, hg⟩ := own_head hown (by omega)
        have hkl : k < (lat.take 64).length := by rw [hz1.out]; exact hkn
        have hck : wr.cell? ⟨g, k, none⟩ = some (.int .i64 (lat.take 64)[k]) := by
          rw [hown.cellAt k (by omega), List.getElem?_map, List.getElem?_append_right (by simp; omega)]
          simp only [List.length_map, List.length_take, List.getElem?_drop]
          rw [show k + (k - min k (min 64 lat.length)) = k by simp at hkl; omega, List.getElem?_eq_getElem hkl]
          rfl
        have hfk := hown.frozenAt k
        obtain ⟨z, hz⟩ : ∃ z, (lat.take 64)[k] = z := ⟨_, rfl⟩
        rw [hz] at hck
        have hstep := map_step (fun z => lim z 1 8) (lat.take 64) k hkl
        rw [hz] at hstep
        obtain ⟨hst, _⟩ := hown.stored k (.int .i64 (lim z 1 8))
        rw [← List.map_set, hstep] at hst
        have hB2 := hB.other (p := ⟨g, k, none⟩) (v := .int .i64 (lim z 1 8)) (show g ≠ w.heap.size by omega)
        have hR2 := hR.other (p := ⟨g, k, none⟩) (v := .int .i64 (lim z 1 8)) (show g ≠ w.heap.size + 1 by omega)
        have hb2 := hb.setCell (p := ⟨g, k, none⟩) (show w.heap.size ≤ g by omega) (.int .i64 (lim z 1 8))
        have HS := Lib.hid (And.intro hst (And.intro hB2 (And.intro hR2 hb2)))
        clear hstep hst hB2 hR2 hb2 hz hown hB hR hb
        go_wp2_with fail
        refine (within_any ⟨g, k, none⟩ z 1 8 _ hck hfk (by decide)).mono ?_
        rintro e w3 ⟨rfl, rfl⟩
        clear c8 hck hfk
        go_wp2
        go_roundw
        case rel => exact ⟨k + 1, by omega, by go_num, HS.out.2.1, HS.out.2.2.1, HS.out.1, HS.out.2.2.2⟩
        case measure => simp [intOf]; omega
      · obtain rfl : n1 = k := by omega
        rw [List.take_of_length_le (Nat.le_of_eq hz1.out), List.drop_of_length_le (Nat.le_of_eq hz1.out), List.append_nil] at hown
        have c10 := hB.2.1 10 _ rfl
        go_wp2_with fail
        clear c8 c10
        refine (first_words ta tn tc hq3 hq4 _).mono ?_
        rintro e w3 ⟨rfl, rfl⟩
        have hI2 := (CfAt.below h hb).2.1.take (Nat.min_le_left tn 64)
        simp only at hI2
        rw [take_len h.2.1.1] at hI2
        go_wp2_with fail
        refine (clone_words ta (min tn 64) tc (tape.take 64) (by omega) _ hI2).mono ?_
        rintro e w3 ⟨v, rfl, hown2, b2⟩
        obtain ⟨A2, k2, rfl, s1, s2, s3⟩ := own_form hown2
        have hw2 := hR.1
        have hB3 := hB.below b2 (by omega)
        have hR3 := hR.below b2 hw2
        have hb3 := hb.trans (b2.mono hb.size)
        have hown3 := own_below hown b2
        have hz2 := Lib.hid hI2.1
        clear hB hR hb b2 hI2 hown
        have hA1 : ∀ a, A1 = some a → w.heap.size + 1 ≠ a.block := fun a ha => by have := (HR3.out a ha).1; omega
        have hA2 : ∀ a, A2 = some a → w.heap.size + 1 ≠ a.block := fun a ha => by have := (s3 a ha).1; omega
        have hA1' : ∀ a, A1 = some a → w.heap.size ≠ a.block := fun a ha => by have := (HR3.out a ha).1; omega
        have hA2' : ∀ a, A2 = some a → w.heap.size ≠ a.block := fun a ha => by have := (s3 a ha).1; omega
        have c10 := hB3.2.1 10 _ rfl
        have f10 := hB3.2.2 10 (by simp)
        have hB4 := hB3.set (i := 10) (v := .slice A2 (min tn 64) k2) (by simp)
        have hR4 := hR3.other (p := ⟨w.heap.size, 10, none⟩) (v := .slice A2 (min tn 64) k2) (fun e => absurd e (by simp))
        have hb4 := hb3.setCell (p := ⟨w.heap.size, 10, none⟩) (Nat.le_refl _) (.slice A2 (min tn 64) k2)
        have hi1 := (own_ints hown3 (by rw [List.length_map]; exact hz1.out)).setCell (p := ⟨w.heap.size, 10, none⟩) (v := .slice A2 (min tn 64) k2) hA1'
        have hi2 := (own_ints hown2 hz2.out).setCell (p := ⟨w.heap.size, 10, none⟩) (v := .slice A2 (min tn 64) k2) hA2'
        simp only [List.set] at hB4
        obtain ⟨⟨x0, x1, x2, x3, x4, x5, x6, x7, x8, x9, x10⟩, _⟩ := hB4.c11
        simp only [cfL] at hR4
        obtain ⟨⟨y0, y1, y2, y3, y4, y5, y6, y7, y8, y9, y10⟩, ⟨z0, z1, z2, z3, z4, z5, z6, z7, z8, z9, z10⟩⟩ := hR4.c11
        have HF := Lib.hid (And.intro hA1 (And.intro hA2 (And.intro hi1 (And.intro hi2 hb4))))
        have HF2 := Lib.hid s3
        have HW2 := Lib.hid (show w.heap.size ≤ wr.heap.size by omega)
        clear hA1 hA2 hA1' hA2' hi1 hi2 hb4 hB3 hR3 hb3 hown3 hown2 hB4 hR4 s3
        have hne : ¬ w.heap.size = w.heap.size + 1 := by omega
        go_wp2
        obtain ⟨hA1, hA2, hi1, hi2, hb4⟩ := HF.out
        refine bodyPost_ret (v := .agg #[.int .i64 (lim mode 0 2), .int .i64 (lim width 1 2), .int .i64 (lim rob 2 8), .int .i64 (lim queue 1 4), .int .i64 (lim stores 1 4), .int .i64 (lim slots 2 6), .int .i64 2, .int .i64 (lim ways 1 2), .slice A1 n1 k1, .bool tb, .slice A2 (min tn 64) k2]) ?_ rfl ⟨A1, k1, A2, k2, ?_, ?_, ?_, ?_⟩
        · simp [results, Try.results24, go_sem, x0, x1, x2, x3, x4, x5, x6, x7, x8, x9, x10, y0, y1, y2, y3, y4, y5, y6, y7, y8, y9, y10]
        · simp only [cfClean, HSO.out, HN1.out]
        · refine ⟨?_, ?_, ?_, r2, s1, s2⟩
          · simp only [cfClean, HN1.out]
            exact ints11 hi1 hA1
          · exact ints11 hi2 hA2
          · simp only [cfClean, HN1.out]
            exact r1
        · exact ⟨fun a ha => by have := (HR3.out a ha).1; omega, fun a ha => by have := (HF2.out a ha).1; have := HW2.out; omega⟩
        · exact below11 hb4 (by omega)
  · have HSO := Lib.hid (show setsOf sets = lim sets 1 4 by unfold setsOf; rw [if_neg s3])
    have e6 : (lim sets 1 4 == 3) = false := by simp [s3]
    clear s3
    go_wp2_with fail
    clear e6 c6 f6 c8
    have hB' := hB
    have hR' := hR
    have hb' := hb
    have hw2' := hw2
    clear hB hR hb hw2
    generalize w0 = wX at *
    refine (first_ints la ln lc hq1 hq2 _).mono ?_
    rintro e w1 ⟨rfl, rfl⟩
    have hI1 := (CfAt.below h hb').1.take (Nat.min_le_left ln 64)
    simp only at hI1
    rw [take_len h.1.1] at hI1
    go_wp2_with fail
    refine (clone_ints la (min ln 64) lc (lat.take 64) (by omega) _ hI1).mono ?_
    rintro e w1 ⟨v, rfl, hown, b1⟩
    obtain ⟨A1, k1, rfl, r1, r2, r3⟩ := own_form hown
    have hB := hB'.below b1 (by omega)
    have hR := hR'.below b1 hw2'
    have hb := hb'.trans (b1.mono hb'.size)
    have hz1 := Lib.hid hI1.1
    obtain ⟨n1, hn1⟩ : ∃ n1, min ln 64 = n1 := ⟨_, rfl⟩
    have hn64 : n1 ≤ 64 := by omega
    rw [hn1] at hown hz1 r1 ⊢
    have HN1 := Lib.hid hn1
    have hB0 : w.heap.size + 1 < wX.heap.size := hw2'
    clear hB' hR' hb' b1 hI1 hn1 hw2'
    obtain ⟨B1, hB1⟩ : ∃ B1, wX.heap.size = B1 := ⟨_, rfl⟩
    rw [hB1] at hown hB0 r3
    clear hB1
    have c8 := hB.2.1 8 _ rfl
    have f8 := hB.2.2 8 (by simp)
    have hBs := hB.set (i := 8) (v := .slice A1 n1 k1) (by simp)
    have hRs := hR.other (p := ⟨w.heap.size, 8, none⟩) (v := .slice A1 n1 k1) (fun e => absurd e (by simp))
    have hbs := hb.setCell (p := ⟨w.heap.size, 8, none⟩) (Nat.le_refl _) (.slice A1 n1 k1)
    have hos := own_cell (p := ⟨w.heap.size, 8, none⟩) (u := .slice A1 n1 k1) hown (show w.heap.size < B1 by omega)
    simp only [List.set] at hBs
    have HR3 := Lib.hid r3
    clear r3
    go_wp2
    clear c8 f8 hB hR hb hown
    generalize w1.setCell ⟨w.heap.size, 8, none⟩ (.slice A1 n1 k1) = w2 at *
    go_loopw [41] (fun i wr => ∃ k : Nat, k ≤ n1 ∧ i = .int .i64 k ∧ Blk wr w.heap.size [.int .i64 (lim mode 0 2), .int .i64 (lim width 1 2), .int .i64 (lim rob 2 8), .int .i64 (lim queue 1 4), .int .i64 (lim stores 1 4), .int .i64 (lim slots 2 6), .int .i64 (lim sets 1 4), .int .i64 (lim ways 1 2), .slice A1 n1 k1, .bool tb, .slice ta tn tc] ∧ Blk wr (w.heap.size + 1) (cfL ⟨0, 0, 0, 0, 0, 0, 0, 0, none, 0, 0, false, none, 0, 0⟩) ∧ wr.ownsRow B1 3 1 (.slice A1 n1 k1) n1 (((((lat.take 64).take k).map fun z => lim z 1 8) ++ (lat.take 64).drop k).map (Value.int .i64)) ∧ Below w.heap.size w wr) (fun i _ => n1 - (intOf i).toNat)
    case atStart => exact ⟨0, Nat.zero_le _, rfl, hBs, hRs, by simpa using hos, hbs⟩
    case round =>
      clear hBs hRs hbs hos
      obtain ⟨k, hk, rfl, hB, hR, hown, hb⟩ := hrel
      have c8 := hB.2.1 8 _ rfl
      by_cases hkn : k < n1
      · obtain ⟨g, rfl, hg⟩ := own_head hown (by omega)
        have hkl : k < (lat.take 64).length := by rw [hz1.out]; exact hkn
        have hck : wr.cell? ⟨g, k, none⟩ = some (.int .i64 (lat.take 64)[k]) := by
          rw [hown.cellAt k (by omega), List.getElem?_map, List.getElem?_append_right (by simp; omega)]
          simp only [List.length_map, List.length_take, List.getElem?_drop]
          rw [show k + (k - min k (min 64 lat.length)) = k by simp at hkl; omega, List.getElem?_eq_getElem hkl]
          rfl
        have hfk := hown.frozenAt k
        obtain ⟨z, hz⟩ : ∃ z, (lat.take 64)[k] = z := ⟨_, rfl⟩
        rw [hz] at hck
        have hstep := map_step (fun z => lim z 1 8) (lat.take 64) k hkl
        rw [hz] at hstep
        obtain ⟨hst, _⟩ := hown.stored k (.int .i64 (lim z 1 8))
        rw [← List.map_set, hstep] at hst
        have hB2 := hB.other (p := ⟨g, k, none⟩) (v := .int .i64 (lim z 1 8)) (show g ≠ w.heap.size by omega)
        have hR2 := hR.other (p := ⟨g, k, none⟩) (v := .int .i64 (lim z 1 8)) (show g ≠ w.heap.size + 1 by omega)
        have hb2 := hb.setCell (p := ⟨g, k, none⟩) (show w.heap.size ≤ g by omega) (.int .i64 (lim z 1 8))
        have HS := Lib.hid (And.intro hst (And.intro hB2 (And.intro hR2 hb2)))
        clear hstep hst hB2 hR2 hb2 hz hown hB hR hb
        go_wp2_with fail
        refine (within_any ⟨g, k, none⟩ z 1 8 _ hck hfk (by decide)).mono ?_
        rintro e w3 ⟨rfl, rfl⟩
        clear c8 hck hfk
        go_wp2
        go_roundw
        case rel => exact ⟨k + 1, by omega, by go_num, HS.out.2.1, HS.out.2.2.1, HS.out.1, HS.out.2.2.2⟩
        case measure => simp [intOf]; omega
      · obtain rfl : n1 = k := by omega
        rw [List.take_of_length_le (Nat.le_of_eq hz1.out), List.drop_of_length_le (Nat.le_of_eq hz1.out), List.append_nil] at hown
        have c10 := hB.2.1 10 _ rfl
        go_wp2_with fail
        clear c8 c10
        refine (first_words ta tn tc hq3 hq4 _).mono ?_
        rintro e w3 ⟨rfl, rfl⟩
        have hI2 := (CfAt.below h hb).2.1.take (Nat.min_le_left tn 64)
        simp only at hI2
        rw [take_len h.2.1.1] at hI2
        go_wp2_with fail
        refine (clone_words ta (min tn 64) tc (tape.take 64) (by omega) _ hI2).mono ?_
        rintro e w3 ⟨v, rfl, hown2, b2⟩
        obtain ⟨A2, k2, rfl, s1, s2, s3⟩ := own_form hown2
        have hw2 := hR.1
        have hB3 := hB.below b2 (by omega)
        have hR3 := hR.below b2 hw2
        have hb3 := hb.trans (b2.mono hb.size)
        have hown3 := own_below hown b2
        have hz2 := Lib.hid hI2.1
        clear hB hR hb b2 hI2 hown
        have hA1 : ∀ a, A1 = some a → w.heap.size + 1 ≠ a.block := fun a ha => by have := (HR3.out a ha).1; omega
        have hA2 : ∀ a, A2 = some a → w.heap.size + 1 ≠ a.block := fun a ha => by have := (s3 a ha).1; omega
        have hA1' : ∀ a, A1 = some a → w.heap.size ≠ a.block := fun a ha => by have := (HR3.out a ha).1; omega
        have hA2' : ∀ a, A2 = some a → w.heap.size ≠ a.block := fun a ha => by have := (s3 a ha).1; omega
        have c10 := hB3.2.1 10 _ rfl
        have f10 := hB3.2.2 10 (by simp)
        have hB4 := hB3.set (i := 10) (v := .slice A2 (min tn 64) k2) (by simp)
        have hR4 := hR3.other (p := ⟨w.heap.size, 10, none⟩) (v := .slice A2 (min tn 64) k2) (fun e => absurd e (by simp))
        have hb4 := hb3.setCell (p := ⟨w.heap.size, 10, none⟩) (Nat.le_refl _) (.slice A2 (min tn 64) k2)
        have hi1 := (own_ints hown3 (by rw [List.length_map]; exact hz1.out)).setCell (p := ⟨w.heap.size, 10, none⟩) (v := .slice A2 (min tn 64) k2) hA1'
        have hi2 := (own_ints hown2 hz2.out).setCell (p := ⟨w.heap.size, 10, none⟩) (v := .slice A2 (min tn 64) k2) hA2'
        simp only [List.set] at hB4
        obtain ⟨⟨x0, x1, x2, x3, x4, x5, x6, x7, x8, x9, x10⟩, _⟩ := hB4.c11
        simp only [cfL] at hR4
        obtain ⟨⟨y0, y1, y2, y3, y4, y5, y6, y7, y8, y9, y10⟩, ⟨z0, z1, z2, z3, z4, z5, z6, z7, z8, z9, z10⟩⟩ := hR4.c11
        have HF := Lib.hid (And.intro hA1 (And.intro hA2 (And.intro hi1 (And.intro hi2 hb4))))
        have HF2 := Lib.hid s3
        have HW2 := Lib.hid (show w.heap.size ≤ wr.heap.size by omega)
        clear hA1 hA2 hA1' hA2' hi1 hi2 hb4 hB3 hR3 hb3 hown3 hown2 hB4 hR4 s3
        have hne : ¬ w.heap.size = w.heap.size + 1 := by omega
        go_wp2
        obtain ⟨hA1, hA2, hi1, hi2, hb4⟩ := HF.out
        refine bodyPost_ret (v := .agg #[.int .i64 (lim mode 0 2), .int .i64 (lim width 1 2), .int .i64 (lim rob 2 8), .int .i64 (lim queue 1 4), .int .i64 (lim stores 1 4), .int .i64 (lim slots 2 6), .int .i64 (lim sets 1 4), .int .i64 (lim ways 1 2), .slice A1 n1 k1, .bool tb, .slice A2 (min tn 64) k2]) ?_ rfl ⟨A1, k1, A2, k2, ?_, ?_, ?_, ?_⟩
        · simp [results, Try.results24, go_sem, x0, x1, x2, x3, x4, x5, x6, x7, x8, x9, x10, y0, y1, y2, y3, y4, y5, y6, y7, y8, y9, y10]
        · simp only [cfClean, HSO.out, HN1.out]
        · refine ⟨?_, ?_, ?_, r2, s1, s2⟩
          · simp only [cfClean, HN1.out]
            exact ints11 hi1 hA1
          · exact ints11 hi2 hA2
          · simp only [cfClean, HN1.out]
            exact r1
        · exact ⟨fun a ha => by have := (HR3.out a ha).1; omega, fun a ha => by have := (HF2.out a ha).1; have := HW2.out; omega⟩
        · exact below11 hb4 (by omega)

theorem clean_conf (c : Cf) (lat tape : List Int) (hl : c.ln ≤ 200) (ht : c.tn ≤ 200) (w : World) (h : CfAt w c lat tape) :
    Calls Try.prog 24 #[cfV c] w fun e w' => ∃ la lc ta tc, e = .returned (cfV (cfClean c la lc ta tc)) ∧ CfAt w' (cfClean c la lc ta tc) (latOf lat) (tape.take 64) ∧ Below w.heap.size w w' := by
  refine (clean_new c lat tape hl ht w h).mono ?_
  rintro e w' ⟨la, lc, ta, tc, rfl, h1, _, h2⟩
  exact ⟨la, lc, ta, tc, rfl, h1, h2⟩

end Go.Proofs.Ytebeelphilfjhaa
