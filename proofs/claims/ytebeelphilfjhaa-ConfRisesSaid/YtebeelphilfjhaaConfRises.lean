/- Proved: the statement of ConfRises (auspexlaw08): with more stores, slots, sets or ways, or a longer wait, no bound falls; for every input; no condition. -/
import Derived.Test.YtebeelphilfjhaaRows
import Derived.Test.YtebeelphilfjhaaConfF
import Derived.Test.YtebeelphilfjhaaConfV
import Derived.Test.YtebeelphilfjhaaConfA
import Derived.OpenShut
import Derived.Lib.QuietBelow
namespace Go.Proofs.Ytebeelphilfjhaa.confRises
open Go.ChangeShapes Go.WideShapes Go.ChangeAt Go.RowKit
set_option linter.unusedVariables false
set_option linter.unusedSimpArgs false

theorem ints_stored {w w0 : World} {A : Option Addr} {n : Nat} {k : IntKind} {zs : List Int} (h : IntsAt w A n k zs) (h0 : IntsAt w0 A n k zs) {p : Addr} (hp : w0.heap.size ≤ p.block) (v : Value) : IntsAt (w.setCell p v) A n k zs :=
  ⟨h.1, fun j z hz => by
    obtain ⟨a, e, hl, hc⟩ := h.2 j z hz
    obtain ⟨a', e', hl', _⟩ := h0.2 j z hz
    obtain rfl : a = a' := by rw [e] at e'; injection e'
    refine ⟨a, e, by simpa using hl, ?_⟩
    rw [World.cell?_setCell_other _ _ _ _ (fun h => by have := congrArg Addr.block h; rw [block_add] at this; omega)]
    exact hc⟩
theorem ints_grown {w w' w0 : World} {A : Option Addr} {n : Nat} {k : IntKind} {zs : List Int} {row : Option Nat} (h : IntsAt w A n k zs) (h0 : IntsAt w0 A n k zs) (hg : w.grownBy w' row) (hr : ∀ g, row = some g → w0.heap.size ≤ g) : IntsAt w' A n k zs :=
  ⟨h.1, fun j z hz => by
    obtain ⟨a, e, hl, hc⟩ := h.2 j z hz
    obtain ⟨a', e', hl', _⟩ := h0.2 j z hz
    obtain rfl : a = a' := by rw [e] at e'; injection e'
    exact ⟨a, e, Nat.lt_of_lt_of_le hl hg.size, hg.cell hc (fun h => by have := hr _ h.symm; rw [block_add] at this; omega)⟩⟩
theorem row_of {A : Option Addr} {n c B : Nat} (h : ∀ a, A = some a → B ≤ a.block) : ∀ g, (Value.slice A n c).ownBlock = some g → B ≤ g := by
  intro g hg
  cases A with
  | none => cases hg
  | some a => cases hg; exact h a rfl
theorem eight (w : World) (n : Nat) (hn : w.heap.size = n) : IntsAt (w.alloc (.cells #[.int .i64 8] 3)) (some ⟨n, 0, none⟩) 1 .i64 [8] :=
  ⟨rfl, fun j z hz => by
    subst hn
    match j, hz with
    | 0, hz =>
      obtain rfl : 8 = z := by simpa using hz
      exact ⟨_, rfl, by simp, by rw [Addr.add_lit, World.cell?_alloc_at _ _ _ _ rfl]; rfl⟩⟩
theorem which_of (v : Int) (h : ∃ u : Int, 0 ≤ u ∧ v = u.tmod 5) : v = 0 ∨ v = 1 ∨ v = 2 ∨ v = 3 ∨ v = 4 := by
  obtain ⟨u, h0, rfl⟩ := h
  rw [Int.tmod_eq_emod_of_nonneg h0]
  omega
theorem which5 (x : Int) : (wrap64 (x.tmod 5 + 5)).tmod 5 = 0 ∨ (wrap64 (x.tmod 5 + 5)).tmod 5 = 1 ∨ (wrap64 (x.tmod 5 + 5)).tmod 5 = 2 ∨ (wrap64 (x.tmod 5 + 5)).tmod 5 = 3 ∨ (wrap64 (x.tmod 5 + 5)).tmod 5 = 4 := by
  apply which_of
  have h1 : -5 < x.tmod 5 ∧ x.tmod 5 < 5 := by
    have := Int.tmod_lt_of_pos x (show (0 : Int) < 5 by omega)
    have h2 := Int.lt_tmod_of_pos x (show (0 : Int) < 5 by omega)
    omega
  refine ⟨_, ?_, rfl⟩
  unfold wrap64
  omega
set_option maxHeartbeats 4000000
set_option maxRecDepth 100000
theorem walk (c0 : Cf) (which : Int) (lat0 tape0 : List Int) (hok : cfOK c0) (hlw : ∀ z ∈ lat0, (Lit.int .i64 z).wf = true) (htw : ∀ z ∈ tape0, (Lit.int .u32 z).wf = true) (ww : (Lit.int .i64 which).wf = true) (w : World) (h0 : CfAt w c0 lat0 tape0) :
    Calls Try.prog 6 #[cfV c0, .int .i64 which] w fun e W' => e = .returned (.bool true) ∧ Below w.heap.size w W' := by
  have hwr := bounds_i64 ww
  have hF := few08_any c0 lat0 tape0 (w.alloc (.cells (cfL c0).toArray 25)) (h0.below (allocl_below _ _))
  have hc := h0.few
  have hl100 : (cfFew c0).ln ≤ 200 := by simp only [cfFew]; omega
  have ht100 : (cfFew c0).tn ≤ 200 := by simp only [cfFew]; omega
  have hB := Blk.new w 25 (cfL c0)
  clear hok hlw htw h0 ww
  generalize lat0.take (min c0.ln 100) = lat at *
  generalize tape0.take (min c0.tn 100) = tape at *
  generalize cfFew c0 = c at *
  obtain ⟨mode, width, rob, queue, stores, slots, sets, ways, la, ln, lc, tb, ta, tn, tc⟩ := c0
  simp only [cfV, cfL] at hF hB ⊢
  have HF := Lib.hid hF
  have hw1 : w.heap.size < (w.alloc (.cells [.int .i64 mode, .int .i64 width, .int .i64 rob, .int .i64 queue, .int .i64 stores, .int .i64 slots, .int .i64 sets, .int .i64 ways, .slice la ln lc, .bool tb, .slice ta tn tc].toArray 25)).heap.size := hB.1
  obtain ⟨⟨x0, x1, x2, x3, x4, x5, x6, x7, x8, x9, x10⟩, _⟩ := hB.c11
  clear hF
  go_enter Try.func6, Try.ntmps6
  go_wp2_with fail
  refine HF.out.mono ?_
  rintro e w2 ⟨rfl, b⟩
  have hB2 := hB.below b hw1
  have hb2 := allocl_then b
  have hsz2 := Nat.lt_of_lt_of_le hw1 b.size
  clear x0 x1 x2 x3 x4 x5 x6 x7 x8 x9 x10 HF hB b hw1
  have hC := clean_new c lat tape hl100 ht100 w2 (hc.below hb2)
  simp only [cfV] at hC
  go_wp2_with fail
  refine hC.mono ?_
  rintro e w3 ⟨la3, lc3, ta3, tc3, rfl, hat, hfr, b⟩
  have hcl := clean_is c lat la3 lc3 ta3 tc3
  have hB3 := hB2.below b hsz2
  have hb3 := hb2.trans (b.mono hb2.size)
  have hsz3 := Nat.lt_of_lt_of_le hsz2 b.size
  have hA1 : ∀ a, la3 = some a → w.heap.size ≠ a.block := fun a ha => by have := hfr.1 a ha; omega
  have hA2 : ∀ a, ta3 = some a → w.heap.size ≠ a.block := fun a ha => by have := hfr.2 a ha; omega
  have hlk : (cfClean c la3 lc3 ta3 tc3).la = la3 ∧ (cfClean c la3 lc3 ta3 tc3).ta = ta3 := ⟨rfl, rfl⟩
  clear hC hB2 hb2 b hsz2 hfr
  generalize latOf lat = l1 at *
  generalize tape.take 64 = tp at *
  generalize cfClean c la3 lc3 ta3 tc3 = kk at *
  obtain ⟨m1, m2, m3, m4, st, sl, se, wy, la4, n3, lc4, tb3, ta4, t3, tc4⟩ := kk
  simp only at hlk
  obtain ⟨rfl, rfl⟩ := hlk
  obtain ⟨hI, hT, l1c, l2c, t1c, t2c⟩ := hat
  simp only at hI hT l1c l2c t1c t2c
  have hll := hI.1
  have HI3 := Lib.hid hI
  have HT3 := Lib.hid hT
  have hnn : n3 ≤ 64 := by have := hcl.ln; omega
  have hB4 := hB3.put11 (v0 := .int .i64 m1) (v1 := .int .i64 m2) (v2 := .int .i64 m3) (v3 := .int .i64 m4) (v4 := .int .i64 st) (v5 := .int .i64 sl) (v6 := .int .i64 se) (v7 := .int .i64 wy) (v8 := .slice la4 n3 lc4) (v9 := .bool tb3) (v10 := .slice ta4 t3 tc4)
  have hb4 := below11 (r := w.heap.size) (v0 := .int .i64 m1) (v1 := .int .i64 m2) (v2 := .int .i64 m3) (v3 := .int .i64 m4) (v4 := .int .i64 st) (v5 := .int .i64 sl) (v6 := .int .i64 se) (v7 := .int .i64 wy) (v8 := .slice la4 n3 lc4) (v9 := .bool tb3) (v10 := .slice ta4 t3 tc4) hb3 (Nat.le_refl _)
  have hI4 := ints11 (r := w.heap.size) (v0 := .int .i64 m1) (v1 := .int .i64 m2) (v2 := .int .i64 m3) (v3 := .int .i64 m4) (v4 := .int .i64 st) (v5 := .int .i64 sl) (v6 := .int .i64 se) (v7 := .int .i64 wy) (v8 := .slice la4 n3 lc4) (v9 := .bool tb3) (v10 := .slice ta4 t3 tc4) hI hA1
  have hT4 := ints11 (r := w.heap.size) (v0 := .int .i64 m1) (v1 := .int .i64 m2) (v2 := .int .i64 m3) (v3 := .int .i64 m4) (v4 := .int .i64 st) (v5 := .int .i64 sl) (v6 := .int .i64 se) (v7 := .int .i64 wy) (v8 := .slice la4 n3 lc4) (v9 := .bool tb3) (v10 := .slice ta4 t3 tc4) hT hA2
  obtain ⟨⟨x0, x1, x2, x3, x4, x5, x6, x7, x8, x9, x10⟩, ⟨z0, z1, z2, z3, z4, z5, z6, z7, z8, z9, z10⟩⟩ := hB3.c11
  obtain ⟨w4, hw4⟩ : ∃ w4, (((((((((((w3.setCell ⟨w.heap.size, 0, none⟩ (.int .i64 m1)).setCell ⟨w.heap.size, 1, none⟩ (.int .i64 m2)).setCell ⟨w.heap.size, 2, none⟩ (.int .i64 m3)).setCell ⟨w.heap.size, 3, none⟩ (.int .i64 m4)).setCell ⟨w.heap.size, 4, none⟩ (.int .i64 st)).setCell ⟨w.heap.size, 5, none⟩ (.int .i64 sl)).setCell ⟨w.heap.size, 6, none⟩ (.int .i64 se)).setCell ⟨w.heap.size, 7, none⟩ (.int .i64 wy)).setCell ⟨w.heap.size, 8, none⟩ (.slice la4 n3 lc4)).setCell ⟨w.heap.size, 9, none⟩ (.bool tb3)).setCell ⟨w.heap.size, 10, none⟩ (.slice ta4 t3 tc4)) = w4 := ⟨_, rfl⟩
  have hs4 : w4.heap.size = w3.heap.size := by rw [← hw4]; simp
  rw [hw4] at hB4 hb4 hI4 hT4
  have HW4 := Lib.hid hw4
  have hD5 := Blk.new w4 25 [.int .i64 m1, .int .i64 m2, .int .i64 m3, .int .i64 m4, .int .i64 st, .int .i64 sl, .int .i64 se, .int .i64 wy, .slice la4 n3 lc4, .bool tb3, .slice ta4 t3 tc4]
  have hB5 := hB4.below (allocl_below w4 (.cells [.int .i64 m1, .int .i64 m2, .int .i64 m3, .int .i64 m4, .int .i64 st, .int .i64 sl, .int .i64 se, .int .i64 wy, .slice la4 n3 lc4, .bool tb3, .slice ta4 t3 tc4].toArray 25)) (by omega)
  have hb5 := hb4.alloc hb4.size (.cells [.int .i64 m1, .int .i64 m2, .int .i64 m3, .int .i64 m4, .int .i64 st, .int .i64 sl, .int .i64 se, .int .i64 wy, .slice la4 n3 lc4, .bool tb3, .slice ta4 t3 tc4].toArray 25)
  have hI5 := hI4.below (allocl_below w4 (.cells [.int .i64 m1, .int .i64 m2, .int .i64 m3, .int .i64 m4, .int .i64 st, .int .i64 sl, .int .i64 se, .int .i64 wy, .slice la4 n3 lc4, .bool tb3, .slice ta4 t3 tc4].toArray 25))
  have hT5 := hT4.below (allocl_below w4 (.cells [.int .i64 m1, .int .i64 m2, .int .i64 m3, .int .i64 m4, .int .i64 st, .int .i64 sl, .int .i64 se, .int .i64 wy, .slice la4 n3 lc4, .bool tb3, .slice ta4 t3 tc4].toArray 25))
  have hs5 : (w4.alloc (.cells #[.int .i64 m1, .int .i64 m2, .int .i64 m3, .int .i64 m4, .int .i64 st, .int .i64 sl, .int .i64 se, .int .i64 wy, .slice la4 n3 lc4, .bool tb3, .slice ta4 t3 tc4] 25)).heap.size = w3.heap.size + 1 := by simp [hs4]
  rw [hs4] at hD5
  clear hB3 hb3 hI hT hw4 hB4 hb4 hI4 hT4 hA1 hA2
  obtain ⟨w5, hw5⟩ : ∃ w5, w4.alloc (.cells #[.int .i64 m1, .int .i64 m2, .int .i64 m3, .int .i64 m4, .int .i64 st, .int .i64 sl, .int .i64 se, .int .i64 wy, .slice la4 n3 lc4, .bool tb3, .slice ta4 t3 tc4] 25) = w5 := ⟨_, rfl⟩
  rw [hw5] at hD5 hB5 hb5 hI5 hT5 hs5
  have HW5 := Lib.hid hw5
  have hD6 := hD5.below (allocl_below w5 (.cells #[] 3)) (by omega)
  have hB6 := hB5.below (allocl_below w5 (.cells #[] 3)) (by omega)
  have hb6 := hb5.alloc hb5.size (.cells #[] 3)
  have hI6 := hI5.below (allocl_below w5 (.cells #[] 3))
  have hT6 := hT5.below (allocl_below w5 (.cells #[] 3))
  have hown6 := World.ownsRow_made w5 (base := w3.heap.size + 1) (e := 3) (size := 1) #[] 0 (by omega) (Nat.zero_le _) rfl
  rw [hs5] at hown6
  have hs6 : w3.heap.size + 1 ≤ (w5.alloc (.cells #[] 3)).heap.size := by simp [hs5]
  have HFB := Lib.hid hb5
  have HFI := Lib.hid (And.intro hI5 hT5)
  clear hw5 hD5 hB5 hb5 hI5 hT5
  have HF6 := Lib.hid (And.intro hD6 (And.intro hB6 (And.intro hb6 (And.intro hI6 (And.intro hT6 hown6)))))
  clear hD6 hB6 hb6 hI6 hT6 hown6
  have Hs4 := Lib.hid hs4
  have Hs5 := Lib.hid hs5
  have Hcl := Lib.hid hcl
  have hcl0 := hcl
  have Hll := Lib.hid hll
  clear hs4 hs5 hcl hll
  have hnd : ¬ w.heap.size = w3.heap.size := by omega
  have q1 := hcl0.stores
  have q2 := hcl0.slots
  have q3 := hcl0.sets
  have q4 := hcl0.ways
  simp only at q1 q2 q3 q4
  clear hcl0
  rcases which5 which with hwh | hwh | hwh | hwh | hwh
  · by_cases hs : st ≤ 3
    · go_wp2_with (at_builtin; rw [HW4.out, HW5.out]; refine wpList_append_ints rfl (.tmp 10) (.tmp 12) rfl (w3.heap.size + 1) _ 0 [] rfl HF6.out.2.2.2.2.2 la4 n3 lc4 l1 rfl HF6.out.2.2.2.1 (by omega) hs6 ?_; intro v7 w7 hown7 hgrow7; rw [Nat.zero_add, List.nil_append] at hown7; obtain ⟨A7, k7, rfl, p1, p2, p3⟩ := own_form hown7; have hD7 := HF6.out.1.grown hgrow7 (fun h => by injection h with h; exact absurd h (by simp)); have hB7 := HF6.out.2.1.grown hgrow7 (fun h => by injection h with h; simp only at h; omega); obtain ⟨⟨x0, x1, x2, x3, x4, x5, x6, x7, x8, x9, x10⟩, _⟩ := hB7.c11; obtain ⟨⟨u0, u1, u2, u3, u4, u5, u6, u7, u8, u9, u10⟩, ⟨v0, v1, v2, v3, v4, v5, v6, v7, v8, v9, v10⟩⟩ := hD7.c11; clear x0 x1 x2 x3 z0 z1 z2 z3 z4 z5 z6 z7 z8 z9 z10)
      clear x4 x5 x6 x7 x8 x9 x10 u0 u1 u2 u3 u4 u5 u6 u7 u8 u9 u10
      have hcl := Hcl.out
      have hD9 := (hD7.set (i := 8) (v := .slice A7 n3 k7) (by simp)).set (i := 4) (v := .int .i64 (st + 1)) (by simp)
      have hB9 := (hB7.other (p := ⟨w3.heap.size, 8, none⟩) (v := .slice A7 n3 k7) (fun h => hnd h.symm)).other (p := ⟨w3.heap.size, 4, none⟩) (v := .int .i64 (st + 1)) (fun h => hnd h.symm)
      have hb57 := (allocl_below w5 (.cells #[] 3)).grown hgrow7 (by simp) (fun k hk => by injection hk with hk; simp only at hk; have := Hs5.out; omega)
      have hb9 := ((HFB.out.trans (hb57.mono HFB.out.size)).setCell (p := ⟨w3.heap.size, 8, none⟩) (show w.heap.size ≤ w3.heap.size by omega) (.slice A7 n3 k7)).setCell (p := ⟨w3.heap.size, 4, none⟩) (show w.heap.size ≤ w3.heap.size by omega) (.int .i64 (st + 1))
      have hI9 := ints_stored (ints_stored (HFI.out.1.below hb57) HI3.out (p := ⟨w3.heap.size, 8, none⟩) (Nat.le_refl _) (.slice A7 n3 k7)) HI3.out (p := ⟨w3.heap.size, 4, none⟩) (Nat.le_refl _) (.int .i64 (st + 1))
      have hT9 := ints_stored (ints_stored (HFI.out.2.below hb57) HT3.out (p := ⟨w3.heap.size, 8, none⟩) (Nat.le_refl _) (.slice A7 n3 k7)) HT3.out (p := ⟨w3.heap.size, 4, none⟩) (Nat.le_refl _) (.int .i64 (st + 1))
      have hpd : ∀ a, A7 = some a → w3.heap.size ≠ a.block := fun a ha => by have := (p3 a ha).1; omega
      have hJ9 := ((own_ints hown7 Hll.out).setCell (p := ⟨w3.heap.size, 8, none⟩) (v := .slice A7 n3 k7) hpd).setCell (p := ⟨w3.heap.size, 4, none⟩) (v := .int .i64 (st + 1)) hpd
      simp only [List.set] at hD9
      generalize (w7.setCell ⟨w3.heap.size, 8, none⟩ (.slice A7 n3 k7)).setCell ⟨w3.heap.size, 4, none⟩ (.int .i64 (st + 1)) = w9 at *
      have hAtC : CfAt w9 ⟨m1, m2, m3, m4, st, sl, se, wy, la4, n3, lc4, tb3, ta4, t3, tc4⟩ l1 tp := ⟨hI9, hT9, l1c, l2c, t1c, t2c⟩
      have hAtD : CfAt w9 ⟨m1, m2, m3, m4, st + 1, sl, se, wy, A7, n3, k7, tb3, ta4, t3, tc4⟩ l1 tp := ⟨hJ9, hT9, p1, p2, t1c, t2c⟩
      have hcd : CleanCf ⟨m1, m2, m3, m4, st + 1, sl, se, wy, A7, n3, k7, tb3, ta4, t3, tc4⟩ l1 := ⟨hcl.mode, hcl.width, hcl.rob, hcl.queue, by simp only; omega, hcl.slots, hcl.sets, hcl.ways, hcl.ln, hcl.tn, hcl.lat⟩
      have hrise : boundV ⟨m1, m2, m3, m4, st, sl, se, wy, la4, n3, lc4, tb3, ta4, t3, tc4⟩ l1 ≤ boundV ⟨m1, m2, m3, m4, st + 1, sl, se, wy, A7, n3, k7, tb3, ta4, t3, tc4⟩ l1 ∧ drainV ⟨m1, m2, m3, m4, st, sl, se, wy, la4, n3, lc4, tb3, ta4, t3, tc4⟩ l1 ≤ drainV ⟨m1, m2, m3, m4, st + 1, sl, se, wy, A7, n3, k7, tb3, ta4, t3, tc4⟩ l1 := by
        rw [hcl.bound.1, hcl.bound.2, hcd.bound.1, hcd.bound.2]
        simp only
        have e1 := hcl.stores; have e2 := hcl.slots; have e3 := hcl.sets; have e4 := hcl.ways; have e5 := mostL_range l1 hcl.lat
        simp only at e1 e2 e3 e4
        exact bounds_rise _ _ _ _ _ _ _ _ (by omega) (by omega) (Int.mul_nonneg (by omega) (by omega)) (by omega) (by omega) (by omega) (by exact Int.le_refl _) (Int.le_refl _)
      have htn3 := hcl.tn
      simp only at htn3
      clear hcl hI9 hT9 hJ9 hpd hb57 hown7 hgrow7 p1 p2 p3 hD7 hB7 v0 v1 v2 v3 v4 v5 v6 v7 v8 v9 v10
      obtain ⟨b1, hb1⟩ : ∃ b1, boundV ⟨m1, m2, m3, m4, st, sl, se, wy, la4, n3, lc4, tb3, ta4, t3, tc4⟩ l1 = b1 := ⟨_, rfl⟩
      obtain ⟨b2, hb2⟩ : ∃ b2, boundV ⟨m1, m2, m3, m4, st + 1, sl, se, wy, A7, n3, k7, tb3, ta4, t3, tc4⟩ l1 = b2 := ⟨_, rfl⟩
      obtain ⟨d1, hd1⟩ : ∃ d1, drainV ⟨m1, m2, m3, m4, st, sl, se, wy, la4, n3, lc4, tb3, ta4, t3, tc4⟩ l1 = d1 := ⟨_, rfl⟩
      obtain ⟨d2, hd2⟩ : ∃ d2, drainV ⟨m1, m2, m3, m4, st + 1, sl, se, wy, A7, n3, k7, tb3, ta4, t3, tc4⟩ l1 = d2 := ⟨_, rfl⟩
      rw [hb1, hb2, hd1, hd2] at hrise
      have r1 : decide (b2 ≥ b1) = true := by simp; exact hrise.1
      have r2 : decide (d2 ≥ d1) = true := by simp; exact hrise.2
      have QR := fun (d : Nat) (os : Array Obj) => right_conf ⟨m1, m2, m3, m4, st + 1, sl, se, wy, A7, n3, k7, tb3, ta4, t3, tc4⟩ l1 tp (by simp only; omega) (by simp only; omega) _ (CfAt.below hAtD (below_regrown w9 d os))
      have QB := fun (d : Nat) (os : Array Obj) => bound_conf ⟨m1, m2, m3, m4, st + 1, sl, se, wy, A7, n3, k7, tb3, ta4, t3, tc4⟩ l1 tp (by simp only; omega) (by simp only; omega) _ (CfAt.below hAtD (below_regrown w9 d os))
      have QD := fun (d : Nat) (os : Array Obj) => drain_conf ⟨m1, m2, m3, m4, st + 1, sl, se, wy, A7, n3, k7, tb3, ta4, t3, tc4⟩ l1 tp (by simp only; omega) (by simp only; omega) _ (CfAt.below hAtD (below_regrown w9 d os))
      have PB := fun (d : Nat) (os : Array Obj) => bound_conf ⟨m1, m2, m3, m4, st, sl, se, wy, la4, n3, lc4, tb3, ta4, t3, tc4⟩ l1 tp (by simp only; omega) (by simp only; omega) _ (CfAt.below hAtC (below_regrown w9 d os))
      have PD := fun (d : Nat) (os : Array Obj) => drain_conf ⟨m1, m2, m3, m4, st, sl, se, wy, la4, n3, lc4, tb3, ta4, t3, tc4⟩ l1 tp (by simp only; omega) (by simp only; omega) _ (CfAt.below hAtC (below_regrown w9 d os))
      rw [hcd.right] at QR
      rw [hb2] at QB
      rw [hd2] at QD
      rw [hb1] at PB
      rw [hd1] at PD
      simp only [cfV] at QR QB QD PB PD
      have HQR := Lib.hid QR
      have HQB := Lib.hid QB
      have HQD := Lib.hid QD
      have HPB := Lib.hid PB
      have HPD := Lib.hid PD
      have HHD := Lib.hid hD9
      have HHB := Lib.hid hB9
      clear QR QB QD PB PD hrise hcd hAtD hAtC hb1 hb2 hd1 hd2 hD9 hB9 hwr hl100 ht100 hc
      obtain ⟨⟨x0, x1, x2, x3, x4, x5, x6, x7, x8, x9, x10⟩, _⟩ := HHB.out.c11
      obtain ⟨⟨u0, u1, u2, u3, u4, u5, u6, u7, u8, u9, u10⟩, _⟩ := HHD.out.c11
      have g0 := fun d os => cell_regrown x0 d os
      have g1 := fun d os => cell_regrown x1 d os
      have g2 := fun d os => cell_regrown x2 d os
      have g3 := fun d os => cell_regrown x3 d os
      have g4 := fun d os => cell_regrown x4 d os
      have g5 := fun d os => cell_regrown x5 d os
      have g6 := fun d os => cell_regrown x6 d os
      have g7 := fun d os => cell_regrown x7 d os
      have g8 := fun d os => cell_regrown x8 d os
      have g9 := fun d os => cell_regrown x9 d os
      have g10 := fun d os => cell_regrown x10 d os
      have k0 := fun d os => cell_regrown u0 d os
      have k1 := fun d os => cell_regrown u1 d os
      have k2 := fun d os => cell_regrown u2 d os
      have k3 := fun d os => cell_regrown u3 d os
      have k4 := fun d os => cell_regrown u4 d os
      have k5 := fun d os => cell_regrown u5 d os
      have k6 := fun d os => cell_regrown u6 d os
      have k7 := fun d os => cell_regrown u7 d os
      have k8 := fun d os => cell_regrown u8 d os
      have k9 := fun d os => cell_regrown u9 d os
      have k10 := fun d os => cell_regrown u10 d os
      clear x0 x1 x2 x3 x4 x5 x6 x7 x8 x9 x10 u0 u1 u2 u3 u4 u5 u6 u7 u8 u9 u10
      refine wp_region_quiet_below (by kernel_rfl) (by kernel_rfl) ?_
      repeat (go_big_quiet_step (first
        | (go_at_call 22; exact Calls.regrown_of (alive08_any _))
        | (go_at_call 25; exact Calls.regrown_of (HQR.out _ _))
        | (go_at_call 32; first | with_reducible exact Calls.regrown_of (HQB.out _ _) | exact Calls.regrown_of (HPB.out _ _))
        | (go_at_call 34; first | with_reducible exact Calls.regrown_of (HQD.out _ _) | exact Calls.regrown_of (HPD.out _ _))))
      refine wpQuiet_nil ?_
      intro _ hw'
      obtain ⟨⟨nq, osq⟩, hw''⟩ := hw'
      subst hw''
      have hbz := hb9.trans ((below_regrown w9 nq osq).mono hb9.size)
      clear g0 g1 g2 g3 g4 g5 g6 g7 g8 g9 g10 k0 k1 k2 k3 k4 k5 k6 k7 k8 k9 k10
      go_wp2
      go_ret
      exact ⟨rfl, hbz⟩
    · go_wp2_with (at_builtin; rw [HW4.out, HW5.out]; refine wpList_append_ints rfl (.tmp 10) (.tmp 12) rfl (w3.heap.size + 1) _ 0 [] rfl HF6.out.2.2.2.2.2 la4 n3 lc4 l1 rfl HF6.out.2.2.2.1 (by omega) hs6 ?_; intro v7 w7 hown7 hgrow7; rw [Nat.zero_add, List.nil_append] at hown7; obtain ⟨A7, k7, rfl, p1, p2, p3⟩ := own_form hown7; have hD7 := HF6.out.1.grown hgrow7 (fun h => by injection h with h; exact absurd h (by simp)); have hB7 := HF6.out.2.1.grown hgrow7 (fun h => by injection h with h; simp only at h; omega); obtain ⟨⟨x0, x1, x2, x3, x4, x5, x6, x7, x8, x9, x10⟩, _⟩ := hB7.c11; obtain ⟨⟨u0, u1, u2, u3, u4, u5, u6, u7, u8, u9, u10⟩, ⟨v0, v1, v2, v3, v4, v5, v6, v7, v8, v9, v10⟩⟩ := hD7.c11; clear x0 x1 x2 x3 z0 z1 z2 z3 z4 z5 z6 z7 z8 z9 z10)
      clear x4 x5 x6 x7 x8 x9 x10 u0 u1 u2 u3 u4 u5 u6 u7 u8 u9 u10
      have hcl := Hcl.out
      have hD9 := (hD7.set (i := 8) (v := .slice A7 n3 k7) (by simp)).set (i := 4) (v := .int .i64 4) (by simp)
      have hB9 := (hB7.other (p := ⟨w3.heap.size, 8, none⟩) (v := .slice A7 n3 k7) (fun h => hnd h.symm)).other (p := ⟨w3.heap.size, 4, none⟩) (v := .int .i64 4) (fun h => hnd h.symm)
      have hb57 := (allocl_below w5 (.cells #[] 3)).grown hgrow7 (by simp) (fun k hk => by injection hk with hk; simp only at hk; have := Hs5.out; omega)
      have hb9 := ((HFB.out.trans (hb57.mono HFB.out.size)).setCell (p := ⟨w3.heap.size, 8, none⟩) (show w.heap.size ≤ w3.heap.size by omega) (.slice A7 n3 k7)).setCell (p := ⟨w3.heap.size, 4, none⟩) (show w.heap.size ≤ w3.heap.size by omega) (.int .i64 4)
      have hI9 := ints_stored (ints_stored (HFI.out.1.below hb57) HI3.out (p := ⟨w3.heap.size, 8, none⟩) (Nat.le_refl _) (.slice A7 n3 k7)) HI3.out (p := ⟨w3.heap.size, 4, none⟩) (Nat.le_refl _) (.int .i64 4)
      have hT9 := ints_stored (ints_stored (HFI.out.2.below hb57) HT3.out (p := ⟨w3.heap.size, 8, none⟩) (Nat.le_refl _) (.slice A7 n3 k7)) HT3.out (p := ⟨w3.heap.size, 4, none⟩) (Nat.le_refl _) (.int .i64 4)
      have hpd : ∀ a, A7 = some a → w3.heap.size ≠ a.block := fun a ha => by have := (p3 a ha).1; omega
      have hJ9 := ((own_ints hown7 Hll.out).setCell (p := ⟨w3.heap.size, 8, none⟩) (v := .slice A7 n3 k7) hpd).setCell (p := ⟨w3.heap.size, 4, none⟩) (v := .int .i64 4) hpd
      simp only [List.set] at hD9
      generalize (w7.setCell ⟨w3.heap.size, 8, none⟩ (.slice A7 n3 k7)).setCell ⟨w3.heap.size, 4, none⟩ (.int .i64 4) = w9 at *
      have hAtC : CfAt w9 ⟨m1, m2, m3, m4, st, sl, se, wy, la4, n3, lc4, tb3, ta4, t3, tc4⟩ l1 tp := ⟨hI9, hT9, l1c, l2c, t1c, t2c⟩
      have hAtD : CfAt w9 ⟨m1, m2, m3, m4, 4, sl, se, wy, A7, n3, k7, tb3, ta4, t3, tc4⟩ l1 tp := ⟨hJ9, hT9, p1, p2, t1c, t2c⟩
      have hcd : CleanCf ⟨m1, m2, m3, m4, 4, sl, se, wy, A7, n3, k7, tb3, ta4, t3, tc4⟩ l1 := ⟨hcl.mode, hcl.width, hcl.rob, hcl.queue, by simp only; omega, hcl.slots, hcl.sets, hcl.ways, hcl.ln, hcl.tn, hcl.lat⟩
      have hrise : boundV ⟨m1, m2, m3, m4, st, sl, se, wy, la4, n3, lc4, tb3, ta4, t3, tc4⟩ l1 ≤ boundV ⟨m1, m2, m3, m4, 4, sl, se, wy, A7, n3, k7, tb3, ta4, t3, tc4⟩ l1 ∧ drainV ⟨m1, m2, m3, m4, st, sl, se, wy, la4, n3, lc4, tb3, ta4, t3, tc4⟩ l1 ≤ drainV ⟨m1, m2, m3, m4, 4, sl, se, wy, A7, n3, k7, tb3, ta4, t3, tc4⟩ l1 := by
        rw [hcl.bound.1, hcl.bound.2, hcd.bound.1, hcd.bound.2]
        simp only
        have e1 := hcl.stores; have e2 := hcl.slots; have e3 := hcl.sets; have e4 := hcl.ways; have e5 := mostL_range l1 hcl.lat
        simp only at e1 e2 e3 e4
        exact bounds_rise _ _ _ _ _ _ _ _ (by omega) (by omega) (Int.mul_nonneg (by omega) (by omega)) (by omega) (by omega) (by omega) (by exact Int.le_refl _) (Int.le_refl _)
      have htn3 := hcl.tn
      simp only at htn3
      clear hcl hI9 hT9 hJ9 hpd hb57 hown7 hgrow7 p1 p2 p3 hD7 hB7 v0 v1 v2 v3 v4 v5 v6 v7 v8 v9 v10
      obtain ⟨b1, hb1⟩ : ∃ b1, boundV ⟨m1, m2, m3, m4, st, sl, se, wy, la4, n3, lc4, tb3, ta4, t3, tc4⟩ l1 = b1 := ⟨_, rfl⟩
      obtain ⟨b2, hb2⟩ : ∃ b2, boundV ⟨m1, m2, m3, m4, 4, sl, se, wy, A7, n3, k7, tb3, ta4, t3, tc4⟩ l1 = b2 := ⟨_, rfl⟩
      obtain ⟨d1, hd1⟩ : ∃ d1, drainV ⟨m1, m2, m3, m4, st, sl, se, wy, la4, n3, lc4, tb3, ta4, t3, tc4⟩ l1 = d1 := ⟨_, rfl⟩
      obtain ⟨d2, hd2⟩ : ∃ d2, drainV ⟨m1, m2, m3, m4, 4, sl, se, wy, A7, n3, k7, tb3, ta4, t3, tc4⟩ l1 = d2 := ⟨_, rfl⟩
      rw [hb1, hb2, hd1, hd2] at hrise
      have r1 : decide (b2 ≥ b1) = true := by simp; exact hrise.1
      have r2 : decide (d2 ≥ d1) = true := by simp; exact hrise.2
      have QR := fun (d : Nat) (os : Array Obj) => right_conf ⟨m1, m2, m3, m4, 4, sl, se, wy, A7, n3, k7, tb3, ta4, t3, tc4⟩ l1 tp (by simp only; omega) (by simp only; omega) _ (CfAt.below hAtD (below_regrown w9 d os))
      have QB := fun (d : Nat) (os : Array Obj) => bound_conf ⟨m1, m2, m3, m4, 4, sl, se, wy, A7, n3, k7, tb3, ta4, t3, tc4⟩ l1 tp (by simp only; omega) (by simp only; omega) _ (CfAt.below hAtD (below_regrown w9 d os))
      have QD := fun (d : Nat) (os : Array Obj) => drain_conf ⟨m1, m2, m3, m4, 4, sl, se, wy, A7, n3, k7, tb3, ta4, t3, tc4⟩ l1 tp (by simp only; omega) (by simp only; omega) _ (CfAt.below hAtD (below_regrown w9 d os))
      have PB := fun (d : Nat) (os : Array Obj) => bound_conf ⟨m1, m2, m3, m4, st, sl, se, wy, la4, n3, lc4, tb3, ta4, t3, tc4⟩ l1 tp (by simp only; omega) (by simp only; omega) _ (CfAt.below hAtC (below_regrown w9 d os))
      have PD := fun (d : Nat) (os : Array Obj) => drain_conf ⟨m1, m2, m3, m4, st, sl, se, wy, la4, n3, lc4, tb3, ta4, t3, tc4⟩ l1 tp (by simp only; omega) (by simp only; omega) _ (CfAt.below hAtC (below_regrown w9 d os))
      rw [hcd.right] at QR
      rw [hb2] at QB
      rw [hd2] at QD
      rw [hb1] at PB
      rw [hd1] at PD
      simp only [cfV] at QR QB QD PB PD
      have HQR := Lib.hid QR
      have HQB := Lib.hid QB
      have HQD := Lib.hid QD
      have HPB := Lib.hid PB
      have HPD := Lib.hid PD
      have HHD := Lib.hid hD9
      have HHB := Lib.hid hB9
      clear QR QB QD PB PD hrise hcd hAtD hAtC hb1 hb2 hd1 hd2 hD9 hB9 hwr hl100 ht100 hc
      obtain ⟨⟨x0, x1, x2, x3, x4, x5, x6, x7, x8, x9, x10⟩, _⟩ := HHB.out.c11
      obtain ⟨⟨u0, u1, u2, u3, u4, u5, u6, u7, u8, u9, u10⟩, _⟩ := HHD.out.c11
      have g0 := fun d os => cell_regrown x0 d os
      have g1 := fun d os => cell_regrown x1 d os
      have g2 := fun d os => cell_regrown x2 d os
      have g3 := fun d os => cell_regrown x3 d os
      have g4 := fun d os => cell_regrown x4 d os
      have g5 := fun d os => cell_regrown x5 d os
      have g6 := fun d os => cell_regrown x6 d os
      have g7 := fun d os => cell_regrown x7 d os
      have g8 := fun d os => cell_regrown x8 d os
      have g9 := fun d os => cell_regrown x9 d os
      have g10 := fun d os => cell_regrown x10 d os
      have k0 := fun d os => cell_regrown u0 d os
      have k1 := fun d os => cell_regrown u1 d os
      have k2 := fun d os => cell_regrown u2 d os
      have k3 := fun d os => cell_regrown u3 d os
      have k4 := fun d os => cell_regrown u4 d os
      have k5 := fun d os => cell_regrown u5 d os
      have k6 := fun d os => cell_regrown u6 d os
      have k7 := fun d os => cell_regrown u7 d os
      have k8 := fun d os => cell_regrown u8 d os
      have k9 := fun d os => cell_regrown u9 d os
      have k10 := fun d os => cell_regrown u10 d os
      clear x0 x1 x2 x3 x4 x5 x6 x7 x8 x9 x10 u0 u1 u2 u3 u4 u5 u6 u7 u8 u9 u10
      refine wp_region_quiet_below (by kernel_rfl) (by kernel_rfl) ?_
      repeat (go_big_quiet_step (first
        | (go_at_call 22; exact Calls.regrown_of (alive08_any _))
        | (go_at_call 25; exact Calls.regrown_of (HQR.out _ _))
        | (go_at_call 32; first | with_reducible exact Calls.regrown_of (HQB.out _ _) | exact Calls.regrown_of (HPB.out _ _))
        | (go_at_call 34; first | with_reducible exact Calls.regrown_of (HQD.out _ _) | exact Calls.regrown_of (HPD.out _ _))))
      refine wpQuiet_nil ?_
      intro _ hw'
      obtain ⟨⟨nq, osq⟩, hw''⟩ := hw'
      subst hw''
      have hbz := hb9.trans ((below_regrown w9 nq osq).mono hb9.size)
      clear g0 g1 g2 g3 g4 g5 g6 g7 g8 g9 g10 k0 k1 k2 k3 k4 k5 k6 k7 k8 k9 k10
      go_wp2
      go_ret
      exact ⟨rfl, hbz⟩
  · by_cases hs : sl ≤ 5
    · go_wp2_with (at_builtin; rw [HW4.out, HW5.out]; refine wpList_append_ints rfl (.tmp 10) (.tmp 12) rfl (w3.heap.size + 1) _ 0 [] rfl HF6.out.2.2.2.2.2 la4 n3 lc4 l1 rfl HF6.out.2.2.2.1 (by omega) hs6 ?_; intro v7 w7 hown7 hgrow7; rw [Nat.zero_add, List.nil_append] at hown7; obtain ⟨A7, k7, rfl, p1, p2, p3⟩ := own_form hown7; have hD7 := HF6.out.1.grown hgrow7 (fun h => by injection h with h; exact absurd h (by simp)); have hB7 := HF6.out.2.1.grown hgrow7 (fun h => by injection h with h; simp only at h; omega); obtain ⟨⟨x0, x1, x2, x3, x4, x5, x6, x7, x8, x9, x10⟩, _⟩ := hB7.c11; obtain ⟨⟨u0, u1, u2, u3, u4, u5, u6, u7, u8, u9, u10⟩, ⟨v0, v1, v2, v3, v4, v5, v6, v7, v8, v9, v10⟩⟩ := hD7.c11; clear x0 x1 x2 x3 z0 z1 z2 z3 z4 z5 z6 z7 z8 z9 z10)
      clear x4 x5 x6 x7 x8 x9 x10 u0 u1 u2 u3 u4 u5 u6 u7 u8 u9 u10
      have hcl := Hcl.out
      have hD9 := (hD7.set (i := 8) (v := .slice A7 n3 k7) (by simp)).set (i := 5) (v := .int .i64 (sl + 1)) (by simp)
      have hB9 := (hB7.other (p := ⟨w3.heap.size, 8, none⟩) (v := .slice A7 n3 k7) (fun h => hnd h.symm)).other (p := ⟨w3.heap.size, 5, none⟩) (v := .int .i64 (sl + 1)) (fun h => hnd h.symm)
      have hb57 := (allocl_below w5 (.cells #[] 3)).grown hgrow7 (by simp) (fun k hk => by injection hk with hk; simp only at hk; have := Hs5.out; omega)
      have hb9 := ((HFB.out.trans (hb57.mono HFB.out.size)).setCell (p := ⟨w3.heap.size, 8, none⟩) (show w.heap.size ≤ w3.heap.size by omega) (.slice A7 n3 k7)).setCell (p := ⟨w3.heap.size, 5, none⟩) (show w.heap.size ≤ w3.heap.size by omega) (.int .i64 (sl + 1))
      have hI9 := ints_stored (ints_stored (HFI.out.1.below hb57) HI3.out (p := ⟨w3.heap.size, 8, none⟩) (Nat.le_refl _) (.slice A7 n3 k7)) HI3.out (p := ⟨w3.heap.size, 5, none⟩) (Nat.le_refl _) (.int .i64 (sl + 1))
      have hT9 := ints_stored (ints_stored (HFI.out.2.below hb57) HT3.out (p := ⟨w3.heap.size, 8, none⟩) (Nat.le_refl _) (.slice A7 n3 k7)) HT3.out (p := ⟨w3.heap.size, 5, none⟩) (Nat.le_refl _) (.int .i64 (sl + 1))
      have hpd : ∀ a, A7 = some a → w3.heap.size ≠ a.block := fun a ha => by have := (p3 a ha).1; omega
      have hJ9 := ((own_ints hown7 Hll.out).setCell (p := ⟨w3.heap.size, 8, none⟩) (v := .slice A7 n3 k7) hpd).setCell (p := ⟨w3.heap.size, 5, none⟩) (v := .int .i64 (sl + 1)) hpd
      simp only [List.set] at hD9
      generalize (w7.setCell ⟨w3.heap.size, 8, none⟩ (.slice A7 n3 k7)).setCell ⟨w3.heap.size, 5, none⟩ (.int .i64 (sl + 1)) = w9 at *
      have hAtC : CfAt w9 ⟨m1, m2, m3, m4, st, sl, se, wy, la4, n3, lc4, tb3, ta4, t3, tc4⟩ l1 tp := ⟨hI9, hT9, l1c, l2c, t1c, t2c⟩
      have hAtD : CfAt w9 ⟨m1, m2, m3, m4, st, sl + 1, se, wy, A7, n3, k7, tb3, ta4, t3, tc4⟩ l1 tp := ⟨hJ9, hT9, p1, p2, t1c, t2c⟩
      have hcd : CleanCf ⟨m1, m2, m3, m4, st, sl + 1, se, wy, A7, n3, k7, tb3, ta4, t3, tc4⟩ l1 := ⟨hcl.mode, hcl.width, hcl.rob, hcl.queue, hcl.stores, by simp only; omega, hcl.sets, hcl.ways, hcl.ln, hcl.tn, hcl.lat⟩
      have hrise : boundV ⟨m1, m2, m3, m4, st, sl, se, wy, la4, n3, lc4, tb3, ta4, t3, tc4⟩ l1 ≤ boundV ⟨m1, m2, m3, m4, st, sl + 1, se, wy, A7, n3, k7, tb3, ta4, t3, tc4⟩ l1 ∧ drainV ⟨m1, m2, m3, m4, st, sl, se, wy, la4, n3, lc4, tb3, ta4, t3, tc4⟩ l1 ≤ drainV ⟨m1, m2, m3, m4, st, sl + 1, se, wy, A7, n3, k7, tb3, ta4, t3, tc4⟩ l1 := by
        rw [hcl.bound.1, hcl.bound.2, hcd.bound.1, hcd.bound.2]
        simp only
        have e1 := hcl.stores; have e2 := hcl.slots; have e3 := hcl.sets; have e4 := hcl.ways; have e5 := mostL_range l1 hcl.lat
        simp only at e1 e2 e3 e4
        exact bounds_rise _ _ _ _ _ _ _ _ (by omega) (by omega) (Int.mul_nonneg (by omega) (by omega)) (by omega) (by omega) (by omega) (by exact Int.le_refl _) (Int.le_refl _)
      have htn3 := hcl.tn
      simp only at htn3
      clear hcl hI9 hT9 hJ9 hpd hb57 hown7 hgrow7 p1 p2 p3 hD7 hB7 v0 v1 v2 v3 v4 v5 v6 v7 v8 v9 v10
      obtain ⟨b1, hb1⟩ : ∃ b1, boundV ⟨m1, m2, m3, m4, st, sl, se, wy, la4, n3, lc4, tb3, ta4, t3, tc4⟩ l1 = b1 := ⟨_, rfl⟩
      obtain ⟨b2, hb2⟩ : ∃ b2, boundV ⟨m1, m2, m3, m4, st, sl + 1, se, wy, A7, n3, k7, tb3, ta4, t3, tc4⟩ l1 = b2 := ⟨_, rfl⟩
      obtain ⟨d1, hd1⟩ : ∃ d1, drainV ⟨m1, m2, m3, m4, st, sl, se, wy, la4, n3, lc4, tb3, ta4, t3, tc4⟩ l1 = d1 := ⟨_, rfl⟩
      obtain ⟨d2, hd2⟩ : ∃ d2, drainV ⟨m1, m2, m3, m4, st, sl + 1, se, wy, A7, n3, k7, tb3, ta4, t3, tc4⟩ l1 = d2 := ⟨_, rfl⟩
      rw [hb1, hb2, hd1, hd2] at hrise
      have r1 : decide (b2 ≥ b1) = true := by simp; exact hrise.1
      have r2 : decide (d2 ≥ d1) = true := by simp; exact hrise.2
      have QR := fun (d : Nat) (os : Array Obj) => right_conf ⟨m1, m2, m3, m4, st, sl + 1, se, wy, A7, n3, k7, tb3, ta4, t3, tc4⟩ l1 tp (by simp only; omega) (by simp only; omega) _ (CfAt.below hAtD (below_regrown w9 d os))
      have QB := fun (d : Nat) (os : Array Obj) => bound_conf ⟨m1, m2, m3, m4, st, sl + 1, se, wy, A7, n3, k7, tb3, ta4, t3, tc4⟩ l1 tp (by simp only; omega) (by simp only; omega) _ (CfAt.below hAtD (below_regrown w9 d os))
      have QD := fun (d : Nat) (os : Array Obj) => drain_conf ⟨m1, m2, m3, m4, st, sl + 1, se, wy, A7, n3, k7, tb3, ta4, t3, tc4⟩ l1 tp (by simp only; omega) (by simp only; omega) _ (CfAt.below hAtD (below_regrown w9 d os))
      have PB := fun (d : Nat) (os : Array Obj) => bound_conf ⟨m1, m2, m3, m4, st, sl, se, wy, la4, n3, lc4, tb3, ta4, t3, tc4⟩ l1 tp (by simp only; omega) (by simp only; omega) _ (CfAt.below hAtC (below_regrown w9 d os))
      have PD := fun (d : Nat) (os : Array Obj) => drain_conf ⟨m1, m2, m3, m4, st, sl, se, wy, la4, n3, lc4, tb3, ta4, t3, tc4⟩ l1 tp (by simp only; omega) (by simp only; omega) _ (CfAt.below hAtC (below_regrown w9 d os))
      rw [hcd.right] at QR
      rw [hb2] at QB
      rw [hd2] at QD
      rw [hb1] at PB
      rw [hd1] at PD
      simp only [cfV] at QR QB QD PB PD
      have HQR := Lib.hid QR
      have HQB := Lib.hid QB
      have HQD := Lib.hid QD
      have HPB := Lib.hid PB
      have HPD := Lib.hid PD
      have HHD := Lib.hid hD9
      have HHB := Lib.hid hB9
      clear QR QB QD PB PD hrise hcd hAtD hAtC hb1 hb2 hd1 hd2 hD9 hB9 hwr hl100 ht100 hc
      obtain ⟨⟨x0, x1, x2, x3, x4, x5, x6, x7, x8, x9, x10⟩, _⟩ := HHB.out.c11
      obtain ⟨⟨u0, u1, u2, u3, u4, u5, u6, u7, u8, u9, u10⟩, _⟩ := HHD.out.c11
      have g0 := fun d os => cell_regrown x0 d os
      have g1 := fun d os => cell_regrown x1 d os
      have g2 := fun d os => cell_regrown x2 d os
      have g3 := fun d os => cell_regrown x3 d os
      have g4 := fun d os => cell_regrown x4 d os
      have g5 := fun d os => cell_regrown x5 d os
      have g6 := fun d os => cell_regrown x6 d os
      have g7 := fun d os => cell_regrown x7 d os
      have g8 := fun d os => cell_regrown x8 d os
      have g9 := fun d os => cell_regrown x9 d os
      have g10 := fun d os => cell_regrown x10 d os
      have k0 := fun d os => cell_regrown u0 d os
      have k1 := fun d os => cell_regrown u1 d os
      have k2 := fun d os => cell_regrown u2 d os
      have k3 := fun d os => cell_regrown u3 d os
      have k4 := fun d os => cell_regrown u4 d os
      have k5 := fun d os => cell_regrown u5 d os
      have k6 := fun d os => cell_regrown u6 d os
      have k7 := fun d os => cell_regrown u7 d os
      have k8 := fun d os => cell_regrown u8 d os
      have k9 := fun d os => cell_regrown u9 d os
      have k10 := fun d os => cell_regrown u10 d os
      clear x0 x1 x2 x3 x4 x5 x6 x7 x8 x9 x10 u0 u1 u2 u3 u4 u5 u6 u7 u8 u9 u10
      refine wp_region_quiet_below (by kernel_rfl) (by kernel_rfl) ?_
      repeat (go_big_quiet_step (first
        | (go_at_call 22; exact Calls.regrown_of (alive08_any _))
        | (go_at_call 25; exact Calls.regrown_of (HQR.out _ _))
        | (go_at_call 32; first | with_reducible exact Calls.regrown_of (HQB.out _ _) | exact Calls.regrown_of (HPB.out _ _))
        | (go_at_call 34; first | with_reducible exact Calls.regrown_of (HQD.out _ _) | exact Calls.regrown_of (HPD.out _ _))))
      refine wpQuiet_nil ?_
      intro _ hw'
      obtain ⟨⟨nq, osq⟩, hw''⟩ := hw'
      subst hw''
      have hbz := hb9.trans ((below_regrown w9 nq osq).mono hb9.size)
      clear g0 g1 g2 g3 g4 g5 g6 g7 g8 g9 g10 k0 k1 k2 k3 k4 k5 k6 k7 k8 k9 k10
      go_wp2
      go_ret
      exact ⟨rfl, hbz⟩
    · go_wp2_with (at_builtin; rw [HW4.out, HW5.out]; refine wpList_append_ints rfl (.tmp 10) (.tmp 12) rfl (w3.heap.size + 1) _ 0 [] rfl HF6.out.2.2.2.2.2 la4 n3 lc4 l1 rfl HF6.out.2.2.2.1 (by omega) hs6 ?_; intro v7 w7 hown7 hgrow7; rw [Nat.zero_add, List.nil_append] at hown7; obtain ⟨A7, k7, rfl, p1, p2, p3⟩ := own_form hown7; have hD7 := HF6.out.1.grown hgrow7 (fun h => by injection h with h; exact absurd h (by simp)); have hB7 := HF6.out.2.1.grown hgrow7 (fun h => by injection h with h; simp only at h; omega); obtain ⟨⟨x0, x1, x2, x3, x4, x5, x6, x7, x8, x9, x10⟩, _⟩ := hB7.c11; obtain ⟨⟨u0, u1, u2, u3, u4, u5, u6, u7, u8, u9, u10⟩, ⟨v0, v1, v2, v3, v4, v5, v6, v7, v8, v9, v10⟩⟩ := hD7.c11; clear x0 x1 x2 x3 z0 z1 z2 z3 z4 z5 z6 z7 z8 z9 z10)
      clear x4 x5 x6 x7 x8 x9 x10 u0 u1 u2 u3 u4 u5 u6 u7 u8 u9 u10
      have hcl := Hcl.out
      have hD9 := (hD7.set (i := 8) (v := .slice A7 n3 k7) (by simp)).set (i := 5) (v := .int .i64 6) (by simp)
      have hB9 := (hB7.other (p := ⟨w3.heap.size, 8, none⟩) (v := .slice A7 n3 k7) (fun h => hnd h.symm)).other (p := ⟨w3.heap.size, 5, none⟩) (v := .int .i64 6) (fun h => hnd h.symm)
      have hb57 := (allocl_below w5 (.cells #[] 3)).grown hgrow7 (by simp) (fun k hk => by injection hk with hk; simp only at hk; have := Hs5.out; omega)
      have hb9 := ((HFB.out.trans (hb57.mono HFB.out.size)).setCell (p := ⟨w3.heap.size, 8, none⟩) (show w.heap.size ≤ w3.heap.size by omega) (.slice A7 n3 k7)).setCell (p := ⟨w3.heap.size, 5, none⟩) (show w.heap.size ≤ w3.heap.size by omega) (.int .i64 6)
      have hI9 := ints_stored (ints_stored (HFI.out.1.below hb57) HI3.out (p := ⟨w3.heap.size, 8, none⟩) (Nat.le_refl _) (.slice A7 n3 k7)) HI3.out (p := ⟨w3.heap.size, 5, none⟩) (Nat.le_refl _) (.int .i64 6)
      have hT9 := ints_stored (ints_stored (HFI.out.2.below hb57) HT3.out (p := ⟨w3.heap.size, 8, none⟩) (Nat.le_refl _) (.slice A7 n3 k7)) HT3.out (p := ⟨w3.heap.size, 5, none⟩) (Nat.le_refl _) (.int .i64 6)
      have hpd : ∀ a, A7 = some a → w3.heap.size ≠ a.block := fun a ha => by have := (p3 a ha).1; omega
      have hJ9 := ((own_ints hown7 Hll.out).setCell (p := ⟨w3.heap.size, 8, none⟩) (v := .slice A7 n3 k7) hpd).setCell (p := ⟨w3.heap.size, 5, none⟩) (v := .int .i64 6) hpd
      simp only [List.set] at hD9
      generalize (w7.setCell ⟨w3.heap.size, 8, none⟩ (.slice A7 n3 k7)).setCell ⟨w3.heap.size, 5, none⟩ (.int .i64 6) = w9 at *
      have hAtC : CfAt w9 ⟨m1, m2, m3, m4, st, sl, se, wy, la4, n3, lc4, tb3, ta4, t3, tc4⟩ l1 tp := ⟨hI9, hT9, l1c, l2c, t1c, t2c⟩
      have hAtD : CfAt w9 ⟨m1, m2, m3, m4, st, 6, se, wy, A7, n3, k7, tb3, ta4, t3, tc4⟩ l1 tp := ⟨hJ9, hT9, p1, p2, t1c, t2c⟩
      have hcd : CleanCf ⟨m1, m2, m3, m4, st, 6, se, wy, A7, n3, k7, tb3, ta4, t3, tc4⟩ l1 := ⟨hcl.mode, hcl.width, hcl.rob, hcl.queue, hcl.stores, by simp only; omega, hcl.sets, hcl.ways, hcl.ln, hcl.tn, hcl.lat⟩
      have hrise : boundV ⟨m1, m2, m3, m4, st, sl, se, wy, la4, n3, lc4, tb3, ta4, t3, tc4⟩ l1 ≤ boundV ⟨m1, m2, m3, m4, st, 6, se, wy, A7, n3, k7, tb3, ta4, t3, tc4⟩ l1 ∧ drainV ⟨m1, m2, m3, m4, st, sl, se, wy, la4, n3, lc4, tb3, ta4, t3, tc4⟩ l1 ≤ drainV ⟨m1, m2, m3, m4, st, 6, se, wy, A7, n3, k7, tb3, ta4, t3, tc4⟩ l1 := by
        rw [hcl.bound.1, hcl.bound.2, hcd.bound.1, hcd.bound.2]
        simp only
        have e1 := hcl.stores; have e2 := hcl.slots; have e3 := hcl.sets; have e4 := hcl.ways; have e5 := mostL_range l1 hcl.lat
        simp only at e1 e2 e3 e4
        exact bounds_rise _ _ _ _ _ _ _ _ (by omega) (by omega) (Int.mul_nonneg (by omega) (by omega)) (by omega) (by omega) (by omega) (by exact Int.le_refl _) (Int.le_refl _)
      have htn3 := hcl.tn
      simp only at htn3
      clear hcl hI9 hT9 hJ9 hpd hb57 hown7 hgrow7 p1 p2 p3 hD7 hB7 v0 v1 v2 v3 v4 v5 v6 v7 v8 v9 v10
      obtain ⟨b1, hb1⟩ : ∃ b1, boundV ⟨m1, m2, m3, m4, st, sl, se, wy, la4, n3, lc4, tb3, ta4, t3, tc4⟩ l1 = b1 := ⟨_, rfl⟩
      obtain ⟨b2, hb2⟩ : ∃ b2, boundV ⟨m1, m2, m3, m4, st, 6, se, wy, A7, n3, k7, tb3, ta4, t3, tc4⟩ l1 = b2 := ⟨_, rfl⟩
      obtain ⟨d1, hd1⟩ : ∃ d1, drainV ⟨m1, m2, m3, m4, st, sl, se, wy, la4, n3, lc4, tb3, ta4, t3, tc4⟩ l1 = d1 := ⟨_, rfl⟩
      obtain ⟨d2, hd2⟩ : ∃ d2, drainV ⟨m1, m2, m3, m4, st, 6, se, wy, A7, n3, k7, tb3, ta4, t3, tc4⟩ l1 = d2 := ⟨_, rfl⟩
      rw [hb1, hb2, hd1, hd2] at hrise
      have r1 : decide (b2 ≥ b1) = true := by simp; exact hrise.1
      have r2 : decide (d2 ≥ d1) = true := by simp; exact hrise.2
      have QR := fun (d : Nat) (os : Array Obj) => right_conf ⟨m1, m2, m3, m4, st, 6, se, wy, A7, n3, k7, tb3, ta4, t3, tc4⟩ l1 tp (by simp only; omega) (by simp only; omega) _ (CfAt.below hAtD (below_regrown w9 d os))
      have QB := fun (d : Nat) (os : Array Obj) => bound_conf ⟨m1, m2, m3, m4, st, 6, se, wy, A7, n3, k7, tb3, ta4, t3, tc4⟩ l1 tp (by simp only; omega) (by simp only; omega) _ (CfAt.below hAtD (below_regrown w9 d os))
      have QD := fun (d : Nat) (os : Array Obj) => drain_conf ⟨m1, m2, m3, m4, st, 6, se, wy, A7, n3, k7, tb3, ta4, t3, tc4⟩ l1 tp (by simp only; omega) (by simp only; omega) _ (CfAt.below hAtD (below_regrown w9 d os))
      have PB := fun (d : Nat) (os : Array Obj) => bound_conf ⟨m1, m2, m3, m4, st, sl, se, wy, la4, n3, lc4, tb3, ta4, t3, tc4⟩ l1 tp (by simp only; omega) (by simp only; omega) _ (CfAt.below hAtC (below_regrown w9 d os))
      have PD := fun (d : Nat) (os : Array Obj) => drain_conf ⟨m1, m2, m3, m4, st, sl, se, wy, la4, n3, lc4, tb3, ta4, t3, tc4⟩ l1 tp (by simp only; omega) (by simp only; omega) _ (CfAt.below hAtC (below_regrown w9 d os))
      rw [hcd.right] at QR
      rw [hb2] at QB
      rw [hd2] at QD
      rw [hb1] at PB
      rw [hd1] at PD
      simp only [cfV] at QR QB QD PB PD
      have HQR := Lib.hid QR
      have HQB := Lib.hid QB
      have HQD := Lib.hid QD
      have HPB := Lib.hid PB
      have HPD := Lib.hid PD
      have HHD := Lib.hid hD9
      have HHB := Lib.hid hB9
      clear QR QB QD PB PD hrise hcd hAtD hAtC hb1 hb2 hd1 hd2 hD9 hB9 hwr hl100 ht100 hc
      obtain ⟨⟨x0, x1, x2, x3, x4, x5, x6, x7, x8, x9, x10⟩, _⟩ := HHB.out.c11
      obtain ⟨⟨u0, u1, u2, u3, u4, u5, u6, u7, u8, u9, u10⟩, _⟩ := HHD.out.c11
      have g0 := fun d os => cell_regrown x0 d os
      have g1 := fun d os => cell_regrown x1 d os
      have g2 := fun d os => cell_regrown x2 d os
      have g3 := fun d os => cell_regrown x3 d os
      have g4 := fun d os => cell_regrown x4 d os
      have g5 := fun d os => cell_regrown x5 d os
      have g6 := fun d os => cell_regrown x6 d os
      have g7 := fun d os => cell_regrown x7 d os
      have g8 := fun d os => cell_regrown x8 d os
      have g9 := fun d os => cell_regrown x9 d os
      have g10 := fun d os => cell_regrown x10 d os
      have k0 := fun d os => cell_regrown u0 d os
      have k1 := fun d os => cell_regrown u1 d os
      have k2 := fun d os => cell_regrown u2 d os
      have k3 := fun d os => cell_regrown u3 d os
      have k4 := fun d os => cell_regrown u4 d os
      have k5 := fun d os => cell_regrown u5 d os
      have k6 := fun d os => cell_regrown u6 d os
      have k7 := fun d os => cell_regrown u7 d os
      have k8 := fun d os => cell_regrown u8 d os
      have k9 := fun d os => cell_regrown u9 d os
      have k10 := fun d os => cell_regrown u10 d os
      clear x0 x1 x2 x3 x4 x5 x6 x7 x8 x9 x10 u0 u1 u2 u3 u4 u5 u6 u7 u8 u9 u10
      refine wp_region_quiet_below (by kernel_rfl) (by kernel_rfl) ?_
      repeat (go_big_quiet_step (first
        | (go_at_call 22; exact Calls.regrown_of (alive08_any _))
        | (go_at_call 25; exact Calls.regrown_of (HQR.out _ _))
        | (go_at_call 32; first | with_reducible exact Calls.regrown_of (HQB.out _ _) | exact Calls.regrown_of (HPB.out _ _))
        | (go_at_call 34; first | with_reducible exact Calls.regrown_of (HQD.out _ _) | exact Calls.regrown_of (HPD.out _ _))))
      refine wpQuiet_nil ?_
      intro _ hw'
      obtain ⟨⟨nq, osq⟩, hw''⟩ := hw'
      subst hw''
      have hbz := hb9.trans ((below_regrown w9 nq osq).mono hb9.size)
      clear g0 g1 g2 g3 g4 g5 g6 g7 g8 g9 g10 k0 k1 k2 k3 k4 k5 k6 k7 k8 k9 k10
      go_wp2
      go_ret
      exact ⟨rfl, hbz⟩
  · by_cases hs : se ≤ 2
    · have hs2 : 2 * se ≤ 4 := by omega
      have hs1 : 1 ≤ se := by omega
      go_wp2_with (at_builtin; rw [HW4.out, HW5.out]; refine wpList_append_ints rfl (.tmp 10) (.tmp 12) rfl (w3.heap.size + 1) _ 0 [] rfl HF6.out.2.2.2.2.2 la4 n3 lc4 l1 rfl HF6.out.2.2.2.1 (by omega) hs6 ?_; intro v7 w7 hown7 hgrow7; rw [Nat.zero_add, List.nil_append] at hown7; obtain ⟨A7, k7, rfl, p1, p2, p3⟩ := own_form hown7; have hD7 := HF6.out.1.grown hgrow7 (fun h => by injection h with h; exact absurd h (by simp)); have hB7 := HF6.out.2.1.grown hgrow7 (fun h => by injection h with h; simp only at h; omega); obtain ⟨⟨x0, x1, x2, x3, x4, x5, x6, x7, x8, x9, x10⟩, _⟩ := hB7.c11; obtain ⟨⟨u0, u1, u2, u3, u4, u5, u6, u7, u8, u9, u10⟩, ⟨v0, v1, v2, v3, v4, v5, v6, v7, v8, v9, v10⟩⟩ := hD7.c11; clear x0 x1 x2 x3 z0 z1 z2 z3 z4 z5 z6 z7 z8 z9 z10)
      clear x4 x5 x6 x7 x8 x9 x10 u0 u1 u2 u3 u4 u5 u6 u7 u8 u9 u10
      have hcl := Hcl.out
      have hD9 := (hD7.set (i := 8) (v := .slice A7 n3 k7) (by simp)).set (i := 6) (v := .int .i64 (2 * se)) (by simp)
      have hB9 := (hB7.other (p := ⟨w3.heap.size, 8, none⟩) (v := .slice A7 n3 k7) (fun h => hnd h.symm)).other (p := ⟨w3.heap.size, 6, none⟩) (v := .int .i64 (2 * se)) (fun h => hnd h.symm)
      have hb57 := (allocl_below w5 (.cells #[] 3)).grown hgrow7 (by simp) (fun k hk => by injection hk with hk; simp only at hk; have := Hs5.out; omega)
      have hb9 := ((HFB.out.trans (hb57.mono HFB.out.size)).setCell (p := ⟨w3.heap.size, 8, none⟩) (show w.heap.size ≤ w3.heap.size by omega) (.slice A7 n3 k7)).setCell (p := ⟨w3.heap.size, 6, none⟩) (show w.heap.size ≤ w3.heap.size by omega) (.int .i64 (2 * se))
      have hI9 := ints_stored (ints_stored (HFI.out.1.below hb57) HI3.out (p := ⟨w3.heap.size, 8, none⟩) (Nat.le_refl _) (.slice A7 n3 k7)) HI3.out (p := ⟨w3.heap.size, 6, none⟩) (Nat.le_refl _) (.int .i64 (2 * se))
      have hT9 := ints_stored (ints_stored (HFI.out.2.below hb57) HT3.out (p := ⟨w3.heap.size, 8, none⟩) (Nat.le_refl _) (.slice A7 n3 k7)) HT3.out (p := ⟨w3.heap.size, 6, none⟩) (Nat.le_refl _) (.int .i64 (2 * se))
      have hpd : ∀ a, A7 = some a → w3.heap.size ≠ a.block := fun a ha => by have := (p3 a ha).1; omega
      have hJ9 := ((own_ints hown7 Hll.out).setCell (p := ⟨w3.heap.size, 8, none⟩) (v := .slice A7 n3 k7) hpd).setCell (p := ⟨w3.heap.size, 6, none⟩) (v := .int .i64 (2 * se)) hpd
      simp only [List.set] at hD9
      generalize (w7.setCell ⟨w3.heap.size, 8, none⟩ (.slice A7 n3 k7)).setCell ⟨w3.heap.size, 6, none⟩ (.int .i64 (2 * se)) = w9 at *
      have hAtC : CfAt w9 ⟨m1, m2, m3, m4, st, sl, se, wy, la4, n3, lc4, tb3, ta4, t3, tc4⟩ l1 tp := ⟨hI9, hT9, l1c, l2c, t1c, t2c⟩
      have hAtD : CfAt w9 ⟨m1, m2, m3, m4, st, sl, 2 * se, wy, A7, n3, k7, tb3, ta4, t3, tc4⟩ l1 tp := ⟨hJ9, hT9, p1, p2, t1c, t2c⟩
      have hcd : CleanCf ⟨m1, m2, m3, m4, st, sl, 2 * se, wy, A7, n3, k7, tb3, ta4, t3, tc4⟩ l1 := ⟨hcl.mode, hcl.width, hcl.rob, hcl.queue, hcl.stores, hcl.slots, by simp only; omega, hcl.ways, hcl.ln, hcl.tn, hcl.lat⟩
      have hrise : boundV ⟨m1, m2, m3, m4, st, sl, se, wy, la4, n3, lc4, tb3, ta4, t3, tc4⟩ l1 ≤ boundV ⟨m1, m2, m3, m4, st, sl, 2 * se, wy, A7, n3, k7, tb3, ta4, t3, tc4⟩ l1 ∧ drainV ⟨m1, m2, m3, m4, st, sl, se, wy, la4, n3, lc4, tb3, ta4, t3, tc4⟩ l1 ≤ drainV ⟨m1, m2, m3, m4, st, sl, 2 * se, wy, A7, n3, k7, tb3, ta4, t3, tc4⟩ l1 := by
        rw [hcl.bound.1, hcl.bound.2, hcd.bound.1, hcd.bound.2]
        simp only
        have e1 := hcl.stores; have e2 := hcl.slots; have e3 := hcl.sets; have e4 := hcl.ways; have e5 := mostL_range l1 hcl.lat
        simp only at e1 e2 e3 e4
        exact bounds_rise _ _ _ _ _ _ _ _ (by omega) (by omega) (Int.mul_nonneg (by omega) (by omega)) (by omega) (by omega) (by omega) (by exact Int.mul_le_mul_of_nonneg_right (by omega) (by omega)) (Int.le_refl _)
      have htn3 := hcl.tn
      simp only at htn3
      clear hcl hI9 hT9 hJ9 hpd hb57 hown7 hgrow7 p1 p2 p3 hD7 hB7 v0 v1 v2 v3 v4 v5 v6 v7 v8 v9 v10
      obtain ⟨b1, hb1⟩ : ∃ b1, boundV ⟨m1, m2, m3, m4, st, sl, se, wy, la4, n3, lc4, tb3, ta4, t3, tc4⟩ l1 = b1 := ⟨_, rfl⟩
      obtain ⟨b2, hb2⟩ : ∃ b2, boundV ⟨m1, m2, m3, m4, st, sl, 2 * se, wy, A7, n3, k7, tb3, ta4, t3, tc4⟩ l1 = b2 := ⟨_, rfl⟩
      obtain ⟨d1, hd1⟩ : ∃ d1, drainV ⟨m1, m2, m3, m4, st, sl, se, wy, la4, n3, lc4, tb3, ta4, t3, tc4⟩ l1 = d1 := ⟨_, rfl⟩
      obtain ⟨d2, hd2⟩ : ∃ d2, drainV ⟨m1, m2, m3, m4, st, sl, 2 * se, wy, A7, n3, k7, tb3, ta4, t3, tc4⟩ l1 = d2 := ⟨_, rfl⟩
      rw [hb1, hb2, hd1, hd2] at hrise
      have r1 : decide (b2 ≥ b1) = true := by simp; exact hrise.1
      have r2 : decide (d2 ≥ d1) = true := by simp; exact hrise.2
      have QR := fun (d : Nat) (os : Array Obj) => right_conf ⟨m1, m2, m3, m4, st, sl, 2 * se, wy, A7, n3, k7, tb3, ta4, t3, tc4⟩ l1 tp (by simp only; omega) (by simp only; omega) _ (CfAt.below hAtD (below_regrown w9 d os))
      have QB := fun (d : Nat) (os : Array Obj) => bound_conf ⟨m1, m2, m3, m4, st, sl, 2 * se, wy, A7, n3, k7, tb3, ta4, t3, tc4⟩ l1 tp (by simp only; omega) (by simp only; omega) _ (CfAt.below hAtD (below_regrown w9 d os))
      have QD := fun (d : Nat) (os : Array Obj) => drain_conf ⟨m1, m2, m3, m4, st, sl, 2 * se, wy, A7, n3, k7, tb3, ta4, t3, tc4⟩ l1 tp (by simp only; omega) (by simp only; omega) _ (CfAt.below hAtD (below_regrown w9 d os))
      have PB := fun (d : Nat) (os : Array Obj) => bound_conf ⟨m1, m2, m3, m4, st, sl, se, wy, la4, n3, lc4, tb3, ta4, t3, tc4⟩ l1 tp (by simp only; omega) (by simp only; omega) _ (CfAt.below hAtC (below_regrown w9 d os))
      have PD := fun (d : Nat) (os : Array Obj) => drain_conf ⟨m1, m2, m3, m4, st, sl, se, wy, la4, n3, lc4, tb3, ta4, t3, tc4⟩ l1 tp (by simp only; omega) (by simp only; omega) _ (CfAt.below hAtC (below_regrown w9 d os))
      rw [hcd.right] at QR
      rw [hb2] at QB
      rw [hd2] at QD
      rw [hb1] at PB
      rw [hd1] at PD
      simp only [cfV] at QR QB QD PB PD
      have HQR := Lib.hid QR
      have HQB := Lib.hid QB
      have HQD := Lib.hid QD
      have HPB := Lib.hid PB
      have HPD := Lib.hid PD
      have HHD := Lib.hid hD9
      have HHB := Lib.hid hB9
      clear QR QB QD PB PD hrise hcd hAtD hAtC hb1 hb2 hd1 hd2 hD9 hB9 hwr hl100 ht100 hc
      obtain ⟨⟨x0, x1, x2, x3, x4, x5, x6, x7, x8, x9, x10⟩, _⟩ := HHB.out.c11
      obtain ⟨⟨u0, u1, u2, u3, u4, u5, u6, u7, u8, u9, u10⟩, _⟩ := HHD.out.c11
      have g0 := fun d os => cell_regrown x0 d os
      have g1 := fun d os => cell_regrown x1 d os
      have g2 := fun d os => cell_regrown x2 d os
      have g3 := fun d os => cell_regrown x3 d os
      have g4 := fun d os => cell_regrown x4 d os
      have g5 := fun d os => cell_regrown x5 d os
      have g6 := fun d os => cell_regrown x6 d os
      have g7 := fun d os => cell_regrown x7 d os
      have g8 := fun d os => cell_regrown x8 d os
      have g9 := fun d os => cell_regrown x9 d os
      have g10 := fun d os => cell_regrown x10 d os
      have k0 := fun d os => cell_regrown u0 d os
      have k1 := fun d os => cell_regrown u1 d os
      have k2 := fun d os => cell_regrown u2 d os
      have k3 := fun d os => cell_regrown u3 d os
      have k4 := fun d os => cell_regrown u4 d os
      have k5 := fun d os => cell_regrown u5 d os
      have k6 := fun d os => cell_regrown u6 d os
      have k7 := fun d os => cell_regrown u7 d os
      have k8 := fun d os => cell_regrown u8 d os
      have k9 := fun d os => cell_regrown u9 d os
      have k10 := fun d os => cell_regrown u10 d os
      clear x0 x1 x2 x3 x4 x5 x6 x7 x8 x9 x10 u0 u1 u2 u3 u4 u5 u6 u7 u8 u9 u10
      refine wp_region_quiet_below (by kernel_rfl) (by kernel_rfl) ?_
      repeat (go_big_quiet_step (first
        | (go_at_call 22; exact Calls.regrown_of (alive08_any _))
        | (go_at_call 25; exact Calls.regrown_of (HQR.out _ _))
        | (go_at_call 32; first | with_reducible exact Calls.regrown_of (HQB.out _ _) | exact Calls.regrown_of (HPB.out _ _))
        | (go_at_call 34; first | with_reducible exact Calls.regrown_of (HQD.out _ _) | exact Calls.regrown_of (HPD.out _ _))))
      refine wpQuiet_nil ?_
      intro _ hw'
      obtain ⟨⟨nq, osq⟩, hw''⟩ := hw'
      subst hw''
      have hbz := hb9.trans ((below_regrown w9 nq osq).mono hb9.size)
      clear g0 g1 g2 g3 g4 g5 g6 g7 g8 g9 g10 k0 k1 k2 k3 k4 k5 k6 k7 k8 k9 k10
      go_wp2
      go_ret
      exact ⟨rfl, hbz⟩
    · have hs2 : 4 < 2 * se := by omega
      have hs1 : se ≤ 4 := by omega
      go_wp2_with (at_builtin; rw [HW4.out, HW5.out]; refine wpList_append_ints rfl (.tmp 10) (.tmp 12) rfl (w3.heap.size + 1) _ 0 [] rfl HF6.out.2.2.2.2.2 la4 n3 lc4 l1 rfl HF6.out.2.2.2.1 (by omega) hs6 ?_; intro v7 w7 hown7 hgrow7; rw [Nat.zero_add, List.nil_append] at hown7; obtain ⟨A7, k7, rfl, p1, p2, p3⟩ := own_form hown7; have hD7 := HF6.out.1.grown hgrow7 (fun h => by injection h with h; exact absurd h (by simp)); have hB7 := HF6.out.2.1.grown hgrow7 (fun h => by injection h with h; simp only at h; omega); obtain ⟨⟨x0, x1, x2, x3, x4, x5, x6, x7, x8, x9, x10⟩, _⟩ := hB7.c11; obtain ⟨⟨u0, u1, u2, u3, u4, u5, u6, u7, u8, u9, u10⟩, ⟨v0, v1, v2, v3, v4, v5, v6, v7, v8, v9, v10⟩⟩ := hD7.c11; clear x0 x1 x2 x3 z0 z1 z2 z3 z4 z5 z6 z7 z8 z9 z10)
      clear x4 x5 x6 x7 x8 x9 x10 u0 u1 u2 u3 u4 u5 u6 u7 u8 u9 u10
      have hcl := Hcl.out
      have hD9 := (hD7.set (i := 8) (v := .slice A7 n3 k7) (by simp)).set (i := 6) (v := .int .i64 4) (by simp)
      have hB9 := (hB7.other (p := ⟨w3.heap.size, 8, none⟩) (v := .slice A7 n3 k7) (fun h => hnd h.symm)).other (p := ⟨w3.heap.size, 6, none⟩) (v := .int .i64 4) (fun h => hnd h.symm)
      have hb57 := (allocl_below w5 (.cells #[] 3)).grown hgrow7 (by simp) (fun k hk => by injection hk with hk; simp only at hk; have := Hs5.out; omega)
      have hb9 := ((HFB.out.trans (hb57.mono HFB.out.size)).setCell (p := ⟨w3.heap.size, 8, none⟩) (show w.heap.size ≤ w3.heap.size by omega) (.slice A7 n3 k7)).setCell (p := ⟨w3.heap.size, 6, none⟩) (show w.heap.size ≤ w3.heap.size by omega) (.int .i64 4)
      have hI9 := ints_stored (ints_stored (HFI.out.1.below hb57) HI3.out (p := ⟨w3.heap.size, 8, none⟩) (Nat.le_refl _) (.slice A7 n3 k7)) HI3.out (p := ⟨w3.heap.size, 6, none⟩) (Nat.le_refl _) (.int .i64 4)
      have hT9 := ints_stored (ints_stored (HFI.out.2.below hb57) HT3.out (p := ⟨w3.heap.size, 8, none⟩) (Nat.le_refl _) (.slice A7 n3 k7)) HT3.out (p := ⟨w3.heap.size, 6, none⟩) (Nat.le_refl _) (.int .i64 4)
      have hpd : ∀ a, A7 = some a → w3.heap.size ≠ a.block := fun a ha => by have := (p3 a ha).1; omega
      have hJ9 := ((own_ints hown7 Hll.out).setCell (p := ⟨w3.heap.size, 8, none⟩) (v := .slice A7 n3 k7) hpd).setCell (p := ⟨w3.heap.size, 6, none⟩) (v := .int .i64 4) hpd
      simp only [List.set] at hD9
      generalize (w7.setCell ⟨w3.heap.size, 8, none⟩ (.slice A7 n3 k7)).setCell ⟨w3.heap.size, 6, none⟩ (.int .i64 4) = w9 at *
      have hAtC : CfAt w9 ⟨m1, m2, m3, m4, st, sl, se, wy, la4, n3, lc4, tb3, ta4, t3, tc4⟩ l1 tp := ⟨hI9, hT9, l1c, l2c, t1c, t2c⟩
      have hAtD : CfAt w9 ⟨m1, m2, m3, m4, st, sl, 4, wy, A7, n3, k7, tb3, ta4, t3, tc4⟩ l1 tp := ⟨hJ9, hT9, p1, p2, t1c, t2c⟩
      have hcd : CleanCf ⟨m1, m2, m3, m4, st, sl, 4, wy, A7, n3, k7, tb3, ta4, t3, tc4⟩ l1 := ⟨hcl.mode, hcl.width, hcl.rob, hcl.queue, hcl.stores, hcl.slots, by simp, hcl.ways, hcl.ln, hcl.tn, hcl.lat⟩
      have hrise : boundV ⟨m1, m2, m3, m4, st, sl, se, wy, la4, n3, lc4, tb3, ta4, t3, tc4⟩ l1 ≤ boundV ⟨m1, m2, m3, m4, st, sl, 4, wy, A7, n3, k7, tb3, ta4, t3, tc4⟩ l1 ∧ drainV ⟨m1, m2, m3, m4, st, sl, se, wy, la4, n3, lc4, tb3, ta4, t3, tc4⟩ l1 ≤ drainV ⟨m1, m2, m3, m4, st, sl, 4, wy, A7, n3, k7, tb3, ta4, t3, tc4⟩ l1 := by
        rw [hcl.bound.1, hcl.bound.2, hcd.bound.1, hcd.bound.2]
        simp only
        have e1 := hcl.stores; have e2 := hcl.slots; have e3 := hcl.sets; have e4 := hcl.ways; have e5 := mostL_range l1 hcl.lat
        simp only at e1 e2 e3 e4
        exact bounds_rise _ _ _ _ _ _ _ _ (by omega) (by omega) (Int.mul_nonneg (by omega) (by omega)) (by omega) (by omega) (by omega) (by exact Int.mul_le_mul_of_nonneg_right (by omega) (by omega)) (Int.le_refl _)
      have htn3 := hcl.tn
      simp only at htn3
      clear hcl hI9 hT9 hJ9 hpd hb57 hown7 hgrow7 p1 p2 p3 hD7 hB7 v0 v1 v2 v3 v4 v5 v6 v7 v8 v9 v10
      obtain ⟨b1, hb1⟩ : ∃ b1, boundV ⟨m1, m2, m3, m4, st, sl, se, wy, la4, n3, lc4, tb3, ta4, t3, tc4⟩ l1 = b1 := ⟨_, rfl⟩
      obtain ⟨b2, hb2⟩ : ∃ b2, boundV ⟨m1, m2, m3, m4, st, sl, 4, wy, A7, n3, k7, tb3, ta4, t3, tc4⟩ l1 = b2 := ⟨_, rfl⟩
      obtain ⟨d1, hd1⟩ : ∃ d1, drainV ⟨m1, m2, m3, m4, st, sl, se, wy, la4, n3, lc4, tb3, ta4, t3, tc4⟩ l1 = d1 := ⟨_, rfl⟩
      obtain ⟨d2, hd2⟩ : ∃ d2, drainV ⟨m1, m2, m3, m4, st, sl, 4, wy, A7, n3, k7, tb3, ta4, t3, tc4⟩ l1 = d2 := ⟨_, rfl⟩
      rw [hb1, hb2, hd1, hd2] at hrise
      have r1 : decide (b2 ≥ b1) = true := by simp; exact hrise.1
      have r2 : decide (d2 ≥ d1) = true := by simp; exact hrise.2
      have QR := fun (d : Nat) (os : Array Obj) => right_conf ⟨m1, m2, m3, m4, st, sl, 4, wy, A7, n3, k7, tb3, ta4, t3, tc4⟩ l1 tp (by simp only; omega) (by simp only; omega) _ (CfAt.below hAtD (below_regrown w9 d os))
      have QB := fun (d : Nat) (os : Array Obj) => bound_conf ⟨m1, m2, m3, m4, st, sl, 4, wy, A7, n3, k7, tb3, ta4, t3, tc4⟩ l1 tp (by simp only; omega) (by simp only; omega) _ (CfAt.below hAtD (below_regrown w9 d os))
      have QD := fun (d : Nat) (os : Array Obj) => drain_conf ⟨m1, m2, m3, m4, st, sl, 4, wy, A7, n3, k7, tb3, ta4, t3, tc4⟩ l1 tp (by simp only; omega) (by simp only; omega) _ (CfAt.below hAtD (below_regrown w9 d os))
      have PB := fun (d : Nat) (os : Array Obj) => bound_conf ⟨m1, m2, m3, m4, st, sl, se, wy, la4, n3, lc4, tb3, ta4, t3, tc4⟩ l1 tp (by simp only; omega) (by simp only; omega) _ (CfAt.below hAtC (below_regrown w9 d os))
      have PD := fun (d : Nat) (os : Array Obj) => drain_conf ⟨m1, m2, m3, m4, st, sl, se, wy, la4, n3, lc4, tb3, ta4, t3, tc4⟩ l1 tp (by simp only; omega) (by simp only; omega) _ (CfAt.below hAtC (below_regrown w9 d os))
      rw [hcd.right] at QR
      rw [hb2] at QB
      rw [hd2] at QD
      rw [hb1] at PB
      rw [hd1] at PD
      simp only [cfV] at QR QB QD PB PD
      have HQR := Lib.hid QR
      have HQB := Lib.hid QB
      have HQD := Lib.hid QD
      have HPB := Lib.hid PB
      have HPD := Lib.hid PD
      have HHD := Lib.hid hD9
      have HHB := Lib.hid hB9
      clear QR QB QD PB PD hrise hcd hAtD hAtC hb1 hb2 hd1 hd2 hD9 hB9 hwr hl100 ht100 hc
      obtain ⟨⟨x0, x1, x2, x3, x4, x5, x6, x7, x8, x9, x10⟩, _⟩ := HHB.out.c11
      obtain ⟨⟨u0, u1, u2, u3, u4, u5, u6, u7, u8, u9, u10⟩, _⟩ := HHD.out.c11
      have g0 := fun d os => cell_regrown x0 d os
      have g1 := fun d os => cell_regrown x1 d os
      have g2 := fun d os => cell_regrown x2 d os
      have g3 := fun d os => cell_regrown x3 d os
      have g4 := fun d os => cell_regrown x4 d os
      have g5 := fun d os => cell_regrown x5 d os
      have g6 := fun d os => cell_regrown x6 d os
      have g7 := fun d os => cell_regrown x7 d os
      have g8 := fun d os => cell_regrown x8 d os
      have g9 := fun d os => cell_regrown x9 d os
      have g10 := fun d os => cell_regrown x10 d os
      have k0 := fun d os => cell_regrown u0 d os
      have k1 := fun d os => cell_regrown u1 d os
      have k2 := fun d os => cell_regrown u2 d os
      have k3 := fun d os => cell_regrown u3 d os
      have k4 := fun d os => cell_regrown u4 d os
      have k5 := fun d os => cell_regrown u5 d os
      have k6 := fun d os => cell_regrown u6 d os
      have k7 := fun d os => cell_regrown u7 d os
      have k8 := fun d os => cell_regrown u8 d os
      have k9 := fun d os => cell_regrown u9 d os
      have k10 := fun d os => cell_regrown u10 d os
      clear x0 x1 x2 x3 x4 x5 x6 x7 x8 x9 x10 u0 u1 u2 u3 u4 u5 u6 u7 u8 u9 u10
      refine wp_region_quiet_below (by kernel_rfl) (by kernel_rfl) ?_
      repeat (go_big_quiet_step (first
        | (go_at_call 22; exact Calls.regrown_of (alive08_any _))
        | (go_at_call 25; exact Calls.regrown_of (HQR.out _ _))
        | (go_at_call 32; first | with_reducible exact Calls.regrown_of (HQB.out _ _) | exact Calls.regrown_of (HPB.out _ _))
        | (go_at_call 34; first | with_reducible exact Calls.regrown_of (HQD.out _ _) | exact Calls.regrown_of (HPD.out _ _))))
      refine wpQuiet_nil ?_
      intro _ hw'
      obtain ⟨⟨nq, osq⟩, hw''⟩ := hw'
      subst hw''
      have hbz := hb9.trans ((below_regrown w9 nq osq).mono hb9.size)
      clear g0 g1 g2 g3 g4 g5 g6 g7 g8 g9 g10 k0 k1 k2 k3 k4 k5 k6 k7 k8 k9 k10
      go_wp2
      go_ret
      exact ⟨rfl, hbz⟩
  · go_wp2_with (at_builtin; rw [HW4.out, HW5.out]; refine wpList_append_ints rfl (.tmp 10) (.tmp 12) rfl (w3.heap.size + 1) _ 0 [] rfl HF6.out.2.2.2.2.2 la4 n3 lc4 l1 rfl HF6.out.2.2.2.1 (by omega) hs6 ?_; intro v7 w7 hown7 hgrow7; rw [Nat.zero_add, List.nil_append] at hown7; obtain ⟨A7, k7, rfl, p1, p2, p3⟩ := own_form hown7; have hD7 := HF6.out.1.grown hgrow7 (fun h => by injection h with h; exact absurd h (by simp)); have hB7 := HF6.out.2.1.grown hgrow7 (fun h => by injection h with h; simp only at h; omega); obtain ⟨⟨x0, x1, x2, x3, x4, x5, x6, x7, x8, x9, x10⟩, _⟩ := hB7.c11; obtain ⟨⟨u0, u1, u2, u3, u4, u5, u6, u7, u8, u9, u10⟩, ⟨v0, v1, v2, v3, v4, v5, v6, v7, v8, v9, v10⟩⟩ := hD7.c11; clear x0 x1 x2 x3 z0 z1 z2 z3 z4 z5 z6 z7 z8 z9 z10)
    clear x4 x5 x6 x7 x8 x9 x10 u0 u1 u2 u3 u4 u5 u6 u7 u8 u9 u10
    have hcl := Hcl.out
    have hD9 := (hD7.set (i := 8) (v := .slice A7 n3 k7) (by simp)).set (i := 7) (v := .int .i64 2) (by simp)
    have hB9 := (hB7.other (p := ⟨w3.heap.size, 8, none⟩) (v := .slice A7 n3 k7) (fun h => hnd h.symm)).other (p := ⟨w3.heap.size, 7, none⟩) (v := .int .i64 2) (fun h => hnd h.symm)
    have hb57 := (allocl_below w5 (.cells #[] 3)).grown hgrow7 (by simp) (fun k hk => by injection hk with hk; simp only at hk; have := Hs5.out; omega)
    have hb9 := ((HFB.out.trans (hb57.mono HFB.out.size)).setCell (p := ⟨w3.heap.size, 8, none⟩) (show w.heap.size ≤ w3.heap.size by omega) (.slice A7 n3 k7)).setCell (p := ⟨w3.heap.size, 7, none⟩) (show w.heap.size ≤ w3.heap.size by omega) (.int .i64 2)
    have hI9 := ints_stored (ints_stored (HFI.out.1.below hb57) HI3.out (p := ⟨w3.heap.size, 8, none⟩) (Nat.le_refl _) (.slice A7 n3 k7)) HI3.out (p := ⟨w3.heap.size, 7, none⟩) (Nat.le_refl _) (.int .i64 2)
    have hT9 := ints_stored (ints_stored (HFI.out.2.below hb57) HT3.out (p := ⟨w3.heap.size, 8, none⟩) (Nat.le_refl _) (.slice A7 n3 k7)) HT3.out (p := ⟨w3.heap.size, 7, none⟩) (Nat.le_refl _) (.int .i64 2)
    have hpd : ∀ a, A7 = some a → w3.heap.size ≠ a.block := fun a ha => by have := (p3 a ha).1; omega
    have hJ9 := ((own_ints hown7 Hll.out).setCell (p := ⟨w3.heap.size, 8, none⟩) (v := .slice A7 n3 k7) hpd).setCell (p := ⟨w3.heap.size, 7, none⟩) (v := .int .i64 2) hpd
    simp only [List.set] at hD9
    generalize (w7.setCell ⟨w3.heap.size, 8, none⟩ (.slice A7 n3 k7)).setCell ⟨w3.heap.size, 7, none⟩ (.int .i64 2) = w9 at *
    have hAtC : CfAt w9 ⟨m1, m2, m3, m4, st, sl, se, wy, la4, n3, lc4, tb3, ta4, t3, tc4⟩ l1 tp := ⟨hI9, hT9, l1c, l2c, t1c, t2c⟩
    have hAtD : CfAt w9 ⟨m1, m2, m3, m4, st, sl, se, 2, A7, n3, k7, tb3, ta4, t3, tc4⟩ l1 tp := ⟨hJ9, hT9, p1, p2, t1c, t2c⟩
    have hcd : CleanCf ⟨m1, m2, m3, m4, st, sl, se, 2, A7, n3, k7, tb3, ta4, t3, tc4⟩ l1 := ⟨hcl.mode, hcl.width, hcl.rob, hcl.queue, hcl.stores, hcl.slots, hcl.sets, by simp, hcl.ln, hcl.tn, hcl.lat⟩
    have hrise : boundV ⟨m1, m2, m3, m4, st, sl, se, wy, la4, n3, lc4, tb3, ta4, t3, tc4⟩ l1 ≤ boundV ⟨m1, m2, m3, m4, st, sl, se, 2, A7, n3, k7, tb3, ta4, t3, tc4⟩ l1 ∧ drainV ⟨m1, m2, m3, m4, st, sl, se, wy, la4, n3, lc4, tb3, ta4, t3, tc4⟩ l1 ≤ drainV ⟨m1, m2, m3, m4, st, sl, se, 2, A7, n3, k7, tb3, ta4, t3, tc4⟩ l1 := by
      rw [hcl.bound.1, hcl.bound.2, hcd.bound.1, hcd.bound.2]
      simp only
      have e1 := hcl.stores; have e2 := hcl.slots; have e3 := hcl.sets; have e4 := hcl.ways; have e5 := mostL_range l1 hcl.lat
      simp only at e1 e2 e3 e4
      exact bounds_rise _ _ _ _ _ _ _ _ (by omega) (by omega) (Int.mul_nonneg (by omega) (by omega)) (by omega) (by omega) (by omega) (by exact Int.mul_le_mul_of_nonneg_left (by omega) (by omega)) (Int.le_refl _)
    have htn3 := hcl.tn
    simp only at htn3
    clear hcl hI9 hT9 hJ9 hpd hb57 hown7 hgrow7 p1 p2 p3 hD7 hB7 v0 v1 v2 v3 v4 v5 v6 v7 v8 v9 v10
    obtain ⟨b1, hb1⟩ : ∃ b1, boundV ⟨m1, m2, m3, m4, st, sl, se, wy, la4, n3, lc4, tb3, ta4, t3, tc4⟩ l1 = b1 := ⟨_, rfl⟩
    obtain ⟨b2, hb2⟩ : ∃ b2, boundV ⟨m1, m2, m3, m4, st, sl, se, 2, A7, n3, k7, tb3, ta4, t3, tc4⟩ l1 = b2 := ⟨_, rfl⟩
    obtain ⟨d1, hd1⟩ : ∃ d1, drainV ⟨m1, m2, m3, m4, st, sl, se, wy, la4, n3, lc4, tb3, ta4, t3, tc4⟩ l1 = d1 := ⟨_, rfl⟩
    obtain ⟨d2, hd2⟩ : ∃ d2, drainV ⟨m1, m2, m3, m4, st, sl, se, 2, A7, n3, k7, tb3, ta4, t3, tc4⟩ l1 = d2 := ⟨_, rfl⟩
    rw [hb1, hb2, hd1, hd2] at hrise
    have r1 : decide (b2 ≥ b1) = true := by simp; exact hrise.1
    have r2 : decide (d2 ≥ d1) = true := by simp; exact hrise.2
    have QR := fun (d : Nat) (os : Array Obj) => right_conf ⟨m1, m2, m3, m4, st, sl, se, 2, A7, n3, k7, tb3, ta4, t3, tc4⟩ l1 tp (by simp only; omega) (by simp only; omega) _ (CfAt.below hAtD (below_regrown w9 d os))
    have QB := fun (d : Nat) (os : Array Obj) => bound_conf ⟨m1, m2, m3, m4, st, sl, se, 2, A7, n3, k7, tb3, ta4, t3, tc4⟩ l1 tp (by simp only; omega) (by simp only; omega) _ (CfAt.below hAtD (below_regrown w9 d os))
    have QD := fun (d : Nat) (os : Array Obj) => drain_conf ⟨m1, m2, m3, m4, st, sl, se, 2, A7, n3, k7, tb3, ta4, t3, tc4⟩ l1 tp (by simp only; omega) (by simp only; omega) _ (CfAt.below hAtD (below_regrown w9 d os))
    have PB := fun (d : Nat) (os : Array Obj) => bound_conf ⟨m1, m2, m3, m4, st, sl, se, wy, la4, n3, lc4, tb3, ta4, t3, tc4⟩ l1 tp (by simp only; omega) (by simp only; omega) _ (CfAt.below hAtC (below_regrown w9 d os))
    have PD := fun (d : Nat) (os : Array Obj) => drain_conf ⟨m1, m2, m3, m4, st, sl, se, wy, la4, n3, lc4, tb3, ta4, t3, tc4⟩ l1 tp (by simp only; omega) (by simp only; omega) _ (CfAt.below hAtC (below_regrown w9 d os))
    rw [hcd.right] at QR
    rw [hb2] at QB
    rw [hd2] at QD
    rw [hb1] at PB
    rw [hd1] at PD
    simp only [cfV] at QR QB QD PB PD
    have HQR := Lib.hid QR
    have HQB := Lib.hid QB
    have HQD := Lib.hid QD
    have HPB := Lib.hid PB
    have HPD := Lib.hid PD
    have HHD := Lib.hid hD9
    have HHB := Lib.hid hB9
    clear QR QB QD PB PD hrise hcd hAtD hAtC hb1 hb2 hd1 hd2 hD9 hB9 hwr hl100 ht100 hc
    obtain ⟨⟨x0, x1, x2, x3, x4, x5, x6, x7, x8, x9, x10⟩, _⟩ := HHB.out.c11
    obtain ⟨⟨u0, u1, u2, u3, u4, u5, u6, u7, u8, u9, u10⟩, _⟩ := HHD.out.c11
    have g0 := fun d os => cell_regrown x0 d os
    have g1 := fun d os => cell_regrown x1 d os
    have g2 := fun d os => cell_regrown x2 d os
    have g3 := fun d os => cell_regrown x3 d os
    have g4 := fun d os => cell_regrown x4 d os
    have g5 := fun d os => cell_regrown x5 d os
    have g6 := fun d os => cell_regrown x6 d os
    have g7 := fun d os => cell_regrown x7 d os
    have g8 := fun d os => cell_regrown x8 d os
    have g9 := fun d os => cell_regrown x9 d os
    have g10 := fun d os => cell_regrown x10 d os
    have k0 := fun d os => cell_regrown u0 d os
    have k1 := fun d os => cell_regrown u1 d os
    have k2 := fun d os => cell_regrown u2 d os
    have k3 := fun d os => cell_regrown u3 d os
    have k4 := fun d os => cell_regrown u4 d os
    have k5 := fun d os => cell_regrown u5 d os
    have k6 := fun d os => cell_regrown u6 d os
    have k7 := fun d os => cell_regrown u7 d os
    have k8 := fun d os => cell_regrown u8 d os
    have k9 := fun d os => cell_regrown u9 d os
    have k10 := fun d os => cell_regrown u10 d os
    clear x0 x1 x2 x3 x4 x5 x6 x7 x8 x9 x10 u0 u1 u2 u3 u4 u5 u6 u7 u8 u9 u10
    refine wp_region_quiet_below (by kernel_rfl) (by kernel_rfl) ?_
    repeat (go_big_quiet_step (first
      | (go_at_call 22; exact Calls.regrown_of (alive08_any _))
      | (go_at_call 25; exact Calls.regrown_of (HQR.out _ _))
      | (go_at_call 32; first | with_reducible exact Calls.regrown_of (HQB.out _ _) | exact Calls.regrown_of (HPB.out _ _))
      | (go_at_call 34; first | with_reducible exact Calls.regrown_of (HQD.out _ _) | exact Calls.regrown_of (HPD.out _ _))))
    refine wpQuiet_nil ?_
    intro _ hw'
    obtain ⟨⟨nq, osq⟩, hw''⟩ := hw'
    subst hw''
    have hbz := hb9.trans ((below_regrown w9 nq osq).mono hb9.size)
    clear g0 g1 g2 g3 g4 g5 g6 g7 g8 g9 g10 k0 k1 k2 k3 k4 k5 k6 k7 k8 k9 k10
    go_wp2
    go_ret
    exact ⟨rfl, hbz⟩
  · by_cases hn : n3 ≤ 63
    · have hn' : (n3 : Int) ≤ 63 := by omega
      go_wp2_with (first | (at_builtin; rw [HW4.out, HW5.out]; refine wpList_append_ints rfl (.tmp 10) (.tmp 12) rfl (w3.heap.size + 1) _ 0 [] rfl HF6.out.2.2.2.2.2 la4 n3 lc4 l1 rfl HF6.out.2.2.2.1 (by omega) hs6 ?_; intro v7 w7 hown7 hgrow7; rw [Nat.zero_add, List.nil_append] at hown7; obtain ⟨A7, k7, rfl, p1, p2, p3⟩ := own_form hown7; have hD7 := HF6.out.1.grown hgrow7 (fun h => by injection h with h; exact absurd h (by simp)); have hB7 := HF6.out.2.1.grown hgrow7 (fun h => by injection h with h; simp only at h; omega); obtain ⟨⟨u0, u1, u2, u3, u4, u5, u6, u7, u8, u9, u10⟩, ⟨v0, v1, v2, v3, v4, v5, v6, v7, v8, v9, v10⟩⟩ := hD7.c11; clear u0 u1 u2 u3 u4 u5 u6 u7 u9 u10 v0 v1 v2 v3 v4 v5 v6 v7 v9 v10 x0 x1 x2 x3 x4 x5 x6 x7 x8 x9 x10 z0 z1 z2 z3 z4 z5 z6 z7 z8 z9 z10; have hs7 := Nat.le_trans hs6 hgrow7.size; have hown8 := own_cell (p := ⟨w3.heap.size, 8, none⟩) (u := .slice A7 n3 k7) hown7 (Nat.lt_succ_self _)) | (at_builtin; refine wpList_append_ints rfl (.tmp 25) (.tmp 26) rfl (w3.heap.size + 1) _ n3 l1 rfl (hown8.alloc _) (some ⟨_, 0, none⟩) 1 1 [8] rfl (eight _ _ (by simp)) (by omega) (by simp; omega) ?_; intro v9 w9 hown9 hgrow9; obtain ⟨A9, k9, rfl, p4, p5, p6⟩ := own_form hown9; have hD8 := (hD7.set (i := 8) (v := .slice A7 n3 k7) (by simp)).below (allocl_below _ (.cells #[.int .i64 8] 3)) (by simp; omega); have hD9 := hD8.grown hgrow9 (fun h => by have := row_of (fun a ha => (p3 a ha).1) _ h.symm; omega); simp only [List.set] at hD9; obtain ⟨⟨u0, u1, u2, u3, u4, u5, u6, u7, u8, u9, u10⟩, ⟨v0, v1, v2, v3, v4, v5, v6, v7, v8, v9, v10⟩⟩ := hD9.c11; clear u0 u1 u2 u3 u4 u5 u6 u7 u9 u10 v0 v1 v2 v3 v4 v5 v6 v7 v9 v10))
      clear u8 v8
      have hcl := Hcl.out
      have hlw := Hll.out
      have hB8 := (hB7.other (p := ⟨w3.heap.size, 8, none⟩) (v := .slice A7 n3 k7) (fun h => hnd h.symm)).below (allocl_below _ (.cells #[.int .i64 8] 3)) (by simp; omega)
      have hB9 := (hB8.grown hgrow9 (fun h => by have := row_of (fun a ha => (p3 a ha).1) _ h.symm; omega)).other (p := ⟨w3.heap.size, 8, none⟩) (v := .slice A9 (n3 + 1) k9) (fun h => hnd h.symm)
      have hDz := hD9.set (i := 8) (v := .slice A9 (n3 + 1) k9) (by simp)
      have hb57 := (allocl_below w5 (.cells #[] 3)).grown hgrow7 (by simp) (fun k hk => by injection hk with hk; simp only at hk; have := Hs5.out; omega)
      have hb8 := ((HFB.out.trans (hb57.mono HFB.out.size)).setCell (p := ⟨w3.heap.size, 8, none⟩) (show w.heap.size ≤ w3.heap.size by omega) (.slice A7 n3 k7))
      have hb8' := hb8.alloc hb8.size (.cells #[.int .i64 8] 3)
      have hb9 := (hb8'.grown hgrow9 hb8'.size (fun g hg => by have := row_of (fun a ha => (p3 a ha).1) _ hg; omega)).setCell (p := ⟨w3.heap.size, 8, none⟩) (show w.heap.size ≤ w3.heap.size by omega) (.slice A9 (n3 + 1) k9)
      have hI8 := (ints_stored (HFI.out.1.below hb57) HI3.out (p := ⟨w3.heap.size, 8, none⟩) (Nat.le_refl _) (.slice A7 n3 k7)).below (allocl_below _ (.cells #[.int .i64 8] 3))
      have hT8 := (ints_stored (HFI.out.2.below hb57) HT3.out (p := ⟨w3.heap.size, 8, none⟩) (Nat.le_refl _) (.slice A7 n3 k7)).below (allocl_below _ (.cells #[.int .i64 8] 3))
      have hI9 := ints_stored (ints_grown hI8 HI3.out hgrow9 (fun g hg => by have := row_of (fun a ha => (p3 a ha).1) _ hg; omega)) HI3.out (p := ⟨w3.heap.size, 8, none⟩) (Nat.le_refl _) (.slice A9 (n3 + 1) k9)
      have hT9 := ints_stored (ints_grown hT8 HT3.out hgrow9 (fun g hg => by have := row_of (fun a ha => (p3 a ha).1) _ hg; omega)) HT3.out (p := ⟨w3.heap.size, 8, none⟩) (Nat.le_refl _) (.slice A9 (n3 + 1) k9)
      have hpd : ∀ a, A9 = some a → w3.heap.size ≠ a.block := fun a ha => by have := (p6 a ha).1; omega
      have hlen2 : (l1 ++ [8]).length = n3 + 1 := by simp; omega
      have hJ9 := (own_ints hown9 hlen2).setCell (p := ⟨w3.heap.size, 8, none⟩) (v := .slice A9 (n3 + 1) k9) hpd
      simp only [List.set] at hDz
      clear hD9
      have hD9 := hDz
      clear hDz hI8 hT8 hB8 hb8 hb8'
      generalize w9.setCell ⟨w3.heap.size, 8, none⟩ (.slice A9 (n3 + 1) k9) = w9 at *
      have hAtC : CfAt w9 ⟨m1, m2, m3, m4, st, sl, se, wy, la4, n3, lc4, tb3, ta4, t3, tc4⟩ l1 tp := ⟨hI9, hT9, l1c, l2c, t1c, t2c⟩
      have hAtD : CfAt w9 ⟨m1, m2, m3, m4, st, sl, se, wy, A9, n3 + 1, k9, tb3, ta4, t3, tc4⟩ (l1 ++ [8]) tp := ⟨hJ9, hT9, p4, p5, t1c, t2c⟩
      have hsub : ∀ z ∈ l1, 1 ≤ z ∧ z ≤ 8 := fun z hz => hcl.lat z (hz)
      have hcd : CleanCf ⟨m1, m2, m3, m4, st, sl, se, wy, A9, n3 + 1, k9, tb3, ta4, t3, tc4⟩ (l1 ++ [8]) := ⟨hcl.mode, hcl.width, hcl.rob, hcl.queue, hcl.stores, hcl.slots, hcl.sets, hcl.ways, by rw [hlen2]; omega, hcl.tn, fun z hz => by rcases List.mem_append.1 hz with h | h; exact hsub z h; simp at h; omega⟩
      have hrise : boundV ⟨m1, m2, m3, m4, st, sl, se, wy, la4, n3, lc4, tb3, ta4, t3, tc4⟩ l1 ≤ boundV ⟨m1, m2, m3, m4, st, sl, se, wy, A9, n3 + 1, k9, tb3, ta4, t3, tc4⟩ (l1 ++ [8]) ∧ drainV ⟨m1, m2, m3, m4, st, sl, se, wy, la4, n3, lc4, tb3, ta4, t3, tc4⟩ l1 ≤ drainV ⟨m1, m2, m3, m4, st, sl, se, wy, A9, n3 + 1, k9, tb3, ta4, t3, tc4⟩ (l1 ++ [8]) := by
        rw [hcl.bound.1, hcl.bound.2, hcd.bound.1, hcd.bound.2]
        simp only
        have e1 := hcl.stores; have e2 := hcl.slots; have e3 := hcl.sets; have e4 := hcl.ways; have e5 := mostL_range l1 hcl.lat
        have e6 := mostL_eight l1 hsub
        simp only at e1 e2 e3 e4
        exact bounds_rise _ _ _ _ _ _ _ _ (by omega) (by omega) (Int.mul_nonneg (by omega) (by omega)) (by omega) (by omega) (by omega) (Int.le_refl _) (by omega)
      have htn3 := hcl.tn
      simp only at htn3
      clear hcl hI9 hT9 hJ9 hpd hb57 hown7 hgrow7 p1 p2 p3 hD7 hB7 hown8 hown9 hgrow9 p4 p5 p6 hlen2 hsub hlw hs7
      obtain ⟨b1, hb1⟩ : ∃ b1, boundV ⟨m1, m2, m3, m4, st, sl, se, wy, la4, n3, lc4, tb3, ta4, t3, tc4⟩ l1 = b1 := ⟨_, rfl⟩
      obtain ⟨b2, hb2⟩ : ∃ b2, boundV ⟨m1, m2, m3, m4, st, sl, se, wy, A9, n3 + 1, k9, tb3, ta4, t3, tc4⟩ (l1 ++ [8]) = b2 := ⟨_, rfl⟩
      obtain ⟨d1, hd1⟩ : ∃ d1, drainV ⟨m1, m2, m3, m4, st, sl, se, wy, la4, n3, lc4, tb3, ta4, t3, tc4⟩ l1 = d1 := ⟨_, rfl⟩
      obtain ⟨d2, hd2⟩ : ∃ d2, drainV ⟨m1, m2, m3, m4, st, sl, se, wy, A9, n3 + 1, k9, tb3, ta4, t3, tc4⟩ (l1 ++ [8]) = d2 := ⟨_, rfl⟩
      rw [hb1, hb2, hd1, hd2] at hrise
      have r1 : decide (b2 ≥ b1) = true := by simp; exact hrise.1
      have r2 : decide (d2 ≥ d1) = true := by simp; exact hrise.2
      have QR := fun (d : Nat) (os : Array Obj) => right_conf ⟨m1, m2, m3, m4, st, sl, se, wy, A9, n3 + 1, k9, tb3, ta4, t3, tc4⟩ (l1 ++ [8]) tp (by simp only; omega) (by simp only; omega) _ (CfAt.below hAtD (below_regrown w9 d os))
      have QB := fun (d : Nat) (os : Array Obj) => bound_conf ⟨m1, m2, m3, m4, st, sl, se, wy, A9, n3 + 1, k9, tb3, ta4, t3, tc4⟩ (l1 ++ [8]) tp (by simp only; omega) (by simp only; omega) _ (CfAt.below hAtD (below_regrown w9 d os))
      have QD := fun (d : Nat) (os : Array Obj) => drain_conf ⟨m1, m2, m3, m4, st, sl, se, wy, A9, n3 + 1, k9, tb3, ta4, t3, tc4⟩ (l1 ++ [8]) tp (by simp only; omega) (by simp only; omega) _ (CfAt.below hAtD (below_regrown w9 d os))
      have PB := fun (d : Nat) (os : Array Obj) => bound_conf ⟨m1, m2, m3, m4, st, sl, se, wy, la4, n3, lc4, tb3, ta4, t3, tc4⟩ l1 tp (by simp only; omega) (by simp only; omega) _ (CfAt.below hAtC (below_regrown w9 d os))
      have PD := fun (d : Nat) (os : Array Obj) => drain_conf ⟨m1, m2, m3, m4, st, sl, se, wy, la4, n3, lc4, tb3, ta4, t3, tc4⟩ l1 tp (by simp only; omega) (by simp only; omega) _ (CfAt.below hAtC (below_regrown w9 d os))
      rw [hcd.right] at QR
      rw [hb2] at QB
      rw [hd2] at QD
      rw [hb1] at PB
      rw [hd1] at PD
      simp only [cfV] at QR QB QD PB PD
      have HQR := Lib.hid QR
      have HQB := Lib.hid QB
      have HQD := Lib.hid QD
      have HPB := Lib.hid PB
      have HPD := Lib.hid PD
      have HHD := Lib.hid hD9
      have HHB := Lib.hid hB9
      clear QR QB QD PB PD hrise hcd hAtD hAtC hb1 hb2 hd1 hd2 hD9 hB9 hwr hl100 ht100 hc
      obtain ⟨⟨x0, x1, x2, x3, x4, x5, x6, x7, x8, x9, x10⟩, _⟩ := HHB.out.c11
      obtain ⟨⟨u0, u1, u2, u3, u4, u5, u6, u7, u8, u9, u10⟩, _⟩ := HHD.out.c11
      have g0 := fun d os => cell_regrown x0 d os
      have g1 := fun d os => cell_regrown x1 d os
      have g2 := fun d os => cell_regrown x2 d os
      have g3 := fun d os => cell_regrown x3 d os
      have g4 := fun d os => cell_regrown x4 d os
      have g5 := fun d os => cell_regrown x5 d os
      have g6 := fun d os => cell_regrown x6 d os
      have g7 := fun d os => cell_regrown x7 d os
      have g8 := fun d os => cell_regrown x8 d os
      have g9 := fun d os => cell_regrown x9 d os
      have g10 := fun d os => cell_regrown x10 d os
      have k0 := fun d os => cell_regrown u0 d os
      have k1 := fun d os => cell_regrown u1 d os
      have k2 := fun d os => cell_regrown u2 d os
      have k3 := fun d os => cell_regrown u3 d os
      have k4 := fun d os => cell_regrown u4 d os
      have k5 := fun d os => cell_regrown u5 d os
      have k6 := fun d os => cell_regrown u6 d os
      have k7 := fun d os => cell_regrown u7 d os
      have k8 := fun d os => cell_regrown u8 d os
      have k9 := fun d os => cell_regrown u9 d os
      have k10 := fun d os => cell_regrown u10 d os
      clear x0 x1 x2 x3 x4 x5 x6 x7 x8 x9 x10 u0 u1 u2 u3 u4 u5 u6 u7 u8 u9 u10
      refine wp_region_quiet_below (by kernel_rfl) (by kernel_rfl) ?_
      repeat (go_big_quiet_step (first
        | (go_at_call 22; exact Calls.regrown_of (alive08_any _))
        | (go_at_call 25; exact Calls.regrown_of (HQR.out _ _))
        | (go_at_call 32; first | with_reducible exact Calls.regrown_of (HQB.out _ _) | exact Calls.regrown_of (HPB.out _ _))
        | (go_at_call 34; first | with_reducible exact Calls.regrown_of (HQD.out _ _) | exact Calls.regrown_of (HPD.out _ _))))
      refine wpQuiet_nil ?_
      intro _ hw'
      obtain ⟨⟨nq, osq⟩, hw''⟩ := hw'
      subst hw''
      have hbz := hb9.trans ((below_regrown w9 nq osq).mono hb9.size)
      clear g0 g1 g2 g3 g4 g5 g6 g7 g8 g9 g10 k0 k1 k2 k3 k4 k5 k6 k7 k8 k9 k10
      go_wp2
      go_ret
      exact ⟨rfl, hbz⟩
    · have hn' : 63 < (n3 : Int) := by omega
      have hn6 : 63 ≤ n3 := by omega
      have hk63 := Lib.hid hn6
      clear hn
      go_wp2_with (first | (at_builtin; rw [HW4.out, HW5.out]; refine wpList_append_ints rfl (.tmp 10) (.tmp 12) rfl (w3.heap.size + 1) _ 0 [] rfl HF6.out.2.2.2.2.2 la4 n3 lc4 l1 rfl HF6.out.2.2.2.1 (by omega) hs6 ?_; intro v7 w7 hown7 hgrow7; rw [Nat.zero_add, List.nil_append] at hown7; obtain ⟨A7, k7, rfl, p1, p2, p3⟩ := own_form hown7; have hD7 := HF6.out.1.grown hgrow7 (fun h => by injection h with h; exact absurd h (by simp)); have hB7 := HF6.out.2.1.grown hgrow7 (fun h => by injection h with h; simp only at h; omega); obtain ⟨⟨u0, u1, u2, u3, u4, u5, u6, u7, u8, u9, u10⟩, ⟨v0, v1, v2, v3, v4, v5, v6, v7, v8, v9, v10⟩⟩ := hD7.c11; clear u0 u1 u2 u3 u4 u5 u6 u7 u9 u10 v0 v1 v2 v3 v4 v5 v6 v7 v9 v10 x0 x1 x2 x3 x4 x5 x6 x7 x8 x9 x10 z0 z1 z2 z3 z4 z5 z6 z7 z8 z9 z10; have hs7 := Nat.le_trans hs6 hgrow7.size; have hown8 := own_cell (p := ⟨w3.heap.size, 8, none⟩) (u := .slice A7 n3 k7) hown7 (Nat.lt_succ_self _)) | (at_builtin; refine wpList_append_ints rfl (.tmp 25) (.tmp 26) rfl (w3.heap.size + 1) _ 63 (l1.take 63) rfl ((own_cut hown8 hk63.out Hll.out).alloc _) (some ⟨_, 0, none⟩) 1 1 [8] rfl (eight _ _ (by simp)) (by omega) (by simp; omega) ?_; intro v9 w9 hown9 hgrow9; obtain ⟨A9, k9, rfl, p4, p5, p6⟩ := own_form hown9; have hD8 := (hD7.set (i := 8) (v := .slice A7 n3 k7) (by simp)).below (allocl_below _ (.cells #[.int .i64 8] 3)) (by simp; omega); have hD9 := hD8.grown hgrow9 (fun h => by have := row_of (fun a ha => (p3 a ha).1) _ h.symm; omega); simp only [List.set] at hD9; obtain ⟨⟨u0, u1, u2, u3, u4, u5, u6, u7, u8, u9, u10⟩, ⟨v0, v1, v2, v3, v4, v5, v6, v7, v8, v9, v10⟩⟩ := hD9.c11; clear u0 u1 u2 u3 u4 u5 u6 u7 u9 u10 v0 v1 v2 v3 v4 v5 v6 v7 v9 v10))
      clear u8 v8
      have hcl := Hcl.out
      have hlw := Hll.out
      have hB8 := (hB7.other (p := ⟨w3.heap.size, 8, none⟩) (v := .slice A7 n3 k7) (fun h => hnd h.symm)).below (allocl_below _ (.cells #[.int .i64 8] 3)) (by simp; omega)
      have hB9 := (hB8.grown hgrow9 (fun h => by have := row_of (fun a ha => (p3 a ha).1) _ h.symm; omega)).other (p := ⟨w3.heap.size, 8, none⟩) (v := .slice A9 (64) k9) (fun h => hnd h.symm)
      have hDz := hD9.set (i := 8) (v := .slice A9 (64) k9) (by simp)
      have hb57 := (allocl_below w5 (.cells #[] 3)).grown hgrow7 (by simp) (fun k hk => by injection hk with hk; simp only at hk; have := Hs5.out; omega)
      have hb8 := ((HFB.out.trans (hb57.mono HFB.out.size)).setCell (p := ⟨w3.heap.size, 8, none⟩) (show w.heap.size ≤ w3.heap.size by omega) (.slice A7 n3 k7))
      have hb8' := hb8.alloc hb8.size (.cells #[.int .i64 8] 3)
      have hb9 := (hb8'.grown hgrow9 hb8'.size (fun g hg => by have := row_of (fun a ha => (p3 a ha).1) _ hg; omega)).setCell (p := ⟨w3.heap.size, 8, none⟩) (show w.heap.size ≤ w3.heap.size by omega) (.slice A9 (64) k9)
      have hI8 := (ints_stored (HFI.out.1.below hb57) HI3.out (p := ⟨w3.heap.size, 8, none⟩) (Nat.le_refl _) (.slice A7 n3 k7)).below (allocl_below _ (.cells #[.int .i64 8] 3))
      have hT8 := (ints_stored (HFI.out.2.below hb57) HT3.out (p := ⟨w3.heap.size, 8, none⟩) (Nat.le_refl _) (.slice A7 n3 k7)).below (allocl_below _ (.cells #[.int .i64 8] 3))
      have hI9 := ints_stored (ints_grown hI8 HI3.out hgrow9 (fun g hg => by have := row_of (fun a ha => (p3 a ha).1) _ hg; omega)) HI3.out (p := ⟨w3.heap.size, 8, none⟩) (Nat.le_refl _) (.slice A9 (64) k9)
      have hT9 := ints_stored (ints_grown hT8 HT3.out hgrow9 (fun g hg => by have := row_of (fun a ha => (p3 a ha).1) _ hg; omega)) HT3.out (p := ⟨w3.heap.size, 8, none⟩) (Nat.le_refl _) (.slice A9 (64) k9)
      have hpd : ∀ a, A9 = some a → w3.heap.size ≠ a.block := fun a ha => by have := (p6 a ha).1; omega
      have hlen2 : ((l1.take 63) ++ [8]).length = 64 := by simp; omega
      have hJ9 := (own_ints hown9 hlen2).setCell (p := ⟨w3.heap.size, 8, none⟩) (v := .slice A9 (64) k9) hpd
      simp only [List.set] at hDz
      clear hD9
      have hD9 := hDz
      clear hDz hI8 hT8 hB8 hb8 hb8'
      generalize w9.setCell ⟨w3.heap.size, 8, none⟩ (.slice A9 (64) k9) = w9 at *
      have hAtC : CfAt w9 ⟨m1, m2, m3, m4, st, sl, se, wy, la4, n3, lc4, tb3, ta4, t3, tc4⟩ l1 tp := ⟨hI9, hT9, l1c, l2c, t1c, t2c⟩
      have hAtD : CfAt w9 ⟨m1, m2, m3, m4, st, sl, se, wy, A9, 64, k9, tb3, ta4, t3, tc4⟩ ((l1.take 63) ++ [8]) tp := ⟨hJ9, hT9, p4, p5, t1c, t2c⟩
      have hsub : ∀ z ∈ (l1.take 63), 1 ≤ z ∧ z ≤ 8 := fun z hz => hcl.lat z (List.mem_of_mem_take hz)
      have hcd : CleanCf ⟨m1, m2, m3, m4, st, sl, se, wy, A9, 64, k9, tb3, ta4, t3, tc4⟩ ((l1.take 63) ++ [8]) := ⟨hcl.mode, hcl.width, hcl.rob, hcl.queue, hcl.stores, hcl.slots, hcl.sets, hcl.ways, by rw [hlen2]; omega, hcl.tn, fun z hz => by rcases List.mem_append.1 hz with h | h; exact hsub z h; simp at h; omega⟩
      have hrise : boundV ⟨m1, m2, m3, m4, st, sl, se, wy, la4, n3, lc4, tb3, ta4, t3, tc4⟩ l1 ≤ boundV ⟨m1, m2, m3, m4, st, sl, se, wy, A9, 64, k9, tb3, ta4, t3, tc4⟩ ((l1.take 63) ++ [8]) ∧ drainV ⟨m1, m2, m3, m4, st, sl, se, wy, la4, n3, lc4, tb3, ta4, t3, tc4⟩ l1 ≤ drainV ⟨m1, m2, m3, m4, st, sl, se, wy, A9, 64, k9, tb3, ta4, t3, tc4⟩ ((l1.take 63) ++ [8]) := by
        rw [hcl.bound.1, hcl.bound.2, hcd.bound.1, hcd.bound.2]
        simp only
        have e1 := hcl.stores; have e2 := hcl.slots; have e3 := hcl.sets; have e4 := hcl.ways; have e5 := mostL_range l1 hcl.lat
        have e6 := mostL_eight (l1.take 63) hsub
        simp only at e1 e2 e3 e4
        exact bounds_rise _ _ _ _ _ _ _ _ (by omega) (by omega) (Int.mul_nonneg (by omega) (by omega)) (by omega) (by omega) (by omega) (Int.le_refl _) (by omega)
      have htn3 := hcl.tn
      simp only at htn3
      clear hcl hI9 hT9 hJ9 hpd hb57 hown7 hgrow7 p1 p2 p3 hD7 hB7 hown8 hown9 hgrow9 p4 p5 p6 hlen2 hsub hlw hs7
      obtain ⟨b1, hb1⟩ : ∃ b1, boundV ⟨m1, m2, m3, m4, st, sl, se, wy, la4, n3, lc4, tb3, ta4, t3, tc4⟩ l1 = b1 := ⟨_, rfl⟩
      obtain ⟨b2, hb2⟩ : ∃ b2, boundV ⟨m1, m2, m3, m4, st, sl, se, wy, A9, 64, k9, tb3, ta4, t3, tc4⟩ ((l1.take 63) ++ [8]) = b2 := ⟨_, rfl⟩
      obtain ⟨d1, hd1⟩ : ∃ d1, drainV ⟨m1, m2, m3, m4, st, sl, se, wy, la4, n3, lc4, tb3, ta4, t3, tc4⟩ l1 = d1 := ⟨_, rfl⟩
      obtain ⟨d2, hd2⟩ : ∃ d2, drainV ⟨m1, m2, m3, m4, st, sl, se, wy, A9, 64, k9, tb3, ta4, t3, tc4⟩ ((l1.take 63) ++ [8]) = d2 := ⟨_, rfl⟩
      rw [hb1, hb2, hd1, hd2] at hrise
      have r1 : decide (b2 ≥ b1) = true := by simp; exact hrise.1
      have r2 : decide (d2 ≥ d1) = true := by simp; exact hrise.2
      have QR := fun (d : Nat) (os : Array Obj) => right_conf ⟨m1, m2, m3, m4, st, sl, se, wy, A9, 64, k9, tb3, ta4, t3, tc4⟩ ((l1.take 63) ++ [8]) tp (by simp only; omega) (by simp only; omega) _ (CfAt.below hAtD (below_regrown w9 d os))
      have QB := fun (d : Nat) (os : Array Obj) => bound_conf ⟨m1, m2, m3, m4, st, sl, se, wy, A9, 64, k9, tb3, ta4, t3, tc4⟩ ((l1.take 63) ++ [8]) tp (by simp only; omega) (by simp only; omega) _ (CfAt.below hAtD (below_regrown w9 d os))
      have QD := fun (d : Nat) (os : Array Obj) => drain_conf ⟨m1, m2, m3, m4, st, sl, se, wy, A9, 64, k9, tb3, ta4, t3, tc4⟩ ((l1.take 63) ++ [8]) tp (by simp only; omega) (by simp only; omega) _ (CfAt.below hAtD (below_regrown w9 d os))
      have PB := fun (d : Nat) (os : Array Obj) => bound_conf ⟨m1, m2, m3, m4, st, sl, se, wy, la4, n3, lc4, tb3, ta4, t3, tc4⟩ l1 tp (by simp only; omega) (by simp only; omega) _ (CfAt.below hAtC (below_regrown w9 d os))
      have PD := fun (d : Nat) (os : Array Obj) => drain_conf ⟨m1, m2, m3, m4, st, sl, se, wy, la4, n3, lc4, tb3, ta4, t3, tc4⟩ l1 tp (by simp only; omega) (by simp only; omega) _ (CfAt.below hAtC (below_regrown w9 d os))
      rw [hcd.right] at QR
      rw [hb2] at QB
      rw [hd2] at QD
      rw [hb1] at PB
      rw [hd1] at PD
      simp only [cfV] at QR QB QD PB PD
      have HQR := Lib.hid QR
      have HQB := Lib.hid QB
      have HQD := Lib.hid QD
      have HPB := Lib.hid PB
      have HPD := Lib.hid PD
      have HHD := Lib.hid hD9
      have HHB := Lib.hid hB9
      clear QR QB QD PB PD hrise hcd hAtD hAtC hb1 hb2 hd1 hd2 hD9 hB9 hwr hl100 ht100 hc
      obtain ⟨⟨x0, x1, x2, x3, x4, x5, x6, x7, x8, x9, x10⟩, _⟩ := HHB.out.c11
      obtain ⟨⟨u0, u1, u2, u3, u4, u5, u6, u7, u8, u9, u10⟩, _⟩ := HHD.out.c11
      have g0 := fun d os => cell_regrown x0 d os
      have g1 := fun d os => cell_regrown x1 d os
      have g2 := fun d os => cell_regrown x2 d os
      have g3 := fun d os => cell_regrown x3 d os
      have g4 := fun d os => cell_regrown x4 d os
      have g5 := fun d os => cell_regrown x5 d os
      have g6 := fun d os => cell_regrown x6 d os
      have g7 := fun d os => cell_regrown x7 d os
      have g8 := fun d os => cell_regrown x8 d os
      have g9 := fun d os => cell_regrown x9 d os
      have g10 := fun d os => cell_regrown x10 d os
      have k0 := fun d os => cell_regrown u0 d os
      have k1 := fun d os => cell_regrown u1 d os
      have k2 := fun d os => cell_regrown u2 d os
      have k3 := fun d os => cell_regrown u3 d os
      have k4 := fun d os => cell_regrown u4 d os
      have k5 := fun d os => cell_regrown u5 d os
      have k6 := fun d os => cell_regrown u6 d os
      have k7 := fun d os => cell_regrown u7 d os
      have k8 := fun d os => cell_regrown u8 d os
      have k9 := fun d os => cell_regrown u9 d os
      have k10 := fun d os => cell_regrown u10 d os
      clear x0 x1 x2 x3 x4 x5 x6 x7 x8 x9 x10 u0 u1 u2 u3 u4 u5 u6 u7 u8 u9 u10
      refine wp_region_quiet_below (by kernel_rfl) (by kernel_rfl) ?_
      repeat (go_big_quiet_step (first
        | (go_at_call 22; exact Calls.regrown_of (alive08_any _))
        | (go_at_call 25; exact Calls.regrown_of (HQR.out _ _))
        | (go_at_call 32; first | with_reducible exact Calls.regrown_of (HQB.out _ _) | exact Calls.regrown_of (HPB.out _ _))
        | (go_at_call 34; first | with_reducible exact Calls.regrown_of (HQD.out _ _) | exact Calls.regrown_of (HPD.out _ _))))
      refine wpQuiet_nil ?_
      intro _ hw'
      obtain ⟨⟨nq, osq⟩, hw''⟩ := hw'
      subst hw''
      have hbz := hb9.trans ((below_regrown w9 nq osq).mono hb9.size)
      clear g0 g1 g2 g3 g4 g5 g6 g7 g8 g9 g10 k0 k1 k2 k3 k4 k5 k6 k7 k8 k9 k10
      go_wp2
      go_ret
      exact ⟨rfl, hbz⟩

theorem own : ownKnob Try.prog.godebug = none := by kernel_rfl
theorem laidOut : laidOutB Try.prog = true := by kernel_rfl

set_option maxRecDepth 100000 in
theorem lifted (os : Os) (started : os.Started) (H : Type) (enc : TypeId × Value → H) :
    ReturnsInHanded {} Try.checked os 6 .any (Rows.confRisesSpec.pre6 enc Try.prog Try.f6 Rows.confRisesRow.domain false) (Rows.confRisesSpec.post enc Try.prog Try.f6 false true false false) := by
  refine returnsInHanded_of_change (C := Try.checked) own started (by kernel_rfl) Try.func6
    (ChangeSpec.witness6 (enc := enc) (C := Try.checked) false ⟨#[], #[.agg #[.int .i64 0, .int .i64 0, .int .i64 0, .int .i64 0, .int .i64 0, .int .i64 0, .int .i64 0, .int .i64 0, .slice none 0 0, .bool false, .slice none 0 0], .int .i64 0], []⟩ 8 (by kernel_rfl) (by kernel_rfl) (by kernel_rfl) (by kernel_rfl)) ?_
  intro W base args ds gs before hval0 hW hcnd _
  have hval : ∀ (j : Nat) t v, Try.f6.params[j]? = some t → args[j]? = some v → Value.okWide Try.prog W .any base t v := hval0
  have hW' := hW
  obtain ⟨p, q, hA0, hV, rfl, hfz, hnd⟩ := hW
  have hA : DataW.TrodAll enc Try.prog W 0 (fun _ => true) true Try.f6.params.toList args.toList ds p := hA0
  rw [Try.params6] at hA hval
  obtain ⟨v0, vs0, d0, ds0, p0, q0, hargs, rfl, rfl, h0, r0⟩ := trodAll_cons hA
  obtain ⟨v1, vs1, d1, ds1, p1, q1, rfl, rfl, rfl, h1, r1⟩ := trodAll_cons r0
  obtain ⟨rfl, rfl, rfl⟩ := trodAll_nil r1
  obtain rfl : args = #[v0, v1] := by cases args; simp_all
  obtain ⟨rfl, rfl⟩ := trodVars_none hV
  have hlt := hW'.lt
  have k0 := h0
  obtain ⟨c, c_lat, c_tape, rfl, w_c, w_c_ok, w_c_lat, w_c_tape⟩ := arg_conf (hval 0 25 v0 rfl rfl) h0
  have k1 := h1
  obtain ⟨which, rfl, -, -, w_which⟩ := open_int Try.underlying3 (hval 1 3 v1 rfl rfl) h1
  clear hA0 hval0
  simp only [List.append_nil] at hW'
  refine (walk c which c_lat c_tape w_c_ok w_c_lat w_c_tape w_which W w_c).mono fun e W' ⟨he, bel⟩ => ?_
  subst he
  exact ⟨_, rfl, _, _, _, [], _, [], hW', trodAll_mk1 (shut_bool Try.underlying4 _), (trodAll_cons_mk (Below.trod laidOut (by kernel_rfl) (of_decide_eq_true (by kernel_rfl)) k0 bel (fun x hx => hlt x (by simp [hx]))) (trodAll_cons_mk (Below.trod laidOut (by kernel_rfl) (of_decide_eq_true (by kernel_rfl)) k1 bel (fun x hx => hlt x (by simp [hx]))) trodAll_mk0)), rfl, bel.frame _, fun h => by cases h⟩

/-- THE STATEMENT -/
theorem proved : Rows.ConfRisesSaid :=
  OpenClaim.holds_of_wide 6 Try.f6 rfl rfl rfl rfl rfl rfl rfl ⟨rfl, rfl, rfl, rfl, rfl⟩ rfl rfl rfl rfl rfl (by kernel_rfl) Try.func6 (by kernel_rfl)
    (of_decide_eq_true (by kernel_rfl)) (by unfold Func.isWrapper; first | (rw [if_pos (by decide +kernel)]; kernel_rfl) | (rw [if_neg (by decide +kernel)]; exact ⟨rfl, rfl⟩))
    (fun os started H enc _ => lifted os started H enc)
#print axioms proved
end Go.Proofs.Ytebeelphilfjhaa.confRises
