/- THE CONTRACTS of in, place and Clean of auspexref08. -/
import Derived.Test.YtebeelphilfjhaaConfG
import Derived.Deep.RegionHeld3
import Derived.Deep.Cut
import Derived.Deep.CutRange
import Derived.Deep.CutBlock
import Derived.Deep.AppendLies
import Derived.Deep.RegionLaw
namespace Go.Proofs.Ytebeelphilfjhaa
open Go.ChangeShapes Go.WideShapes Go.ChangeAt Go.RowKit
set_option linter.unusedVariables false
set_option linter.unusedSimpArgs false

set_option maxHeartbeats 1000000
set_option maxRecDepth 100000
theorem in_any (z a b : Int) (w : World) (hab : a ≤ b) :
    Calls Try.prog 74 #[.int .i64 z, .int .i64 a, .int .i64 b] w fun e w' => e = .returned (.int .i64 (lim z a b)) ∧ w' = w := by
  by_cases h1 : z < a
  · have HL := Lib.hid (show lim z a b = a by unfold lim; rw [if_pos h1])
    go_enter Try.func74, Try.ntmps74
    go_wp2
    go_ret
    exact ⟨retl_int HL.out.symm, rfl⟩
  · by_cases h2 : b < z
    · have HL := Lib.hid (show lim z a b = b by unfold lim; rw [if_neg h1, if_pos h2])
      have h3 : a ≤ z := by omega
      clear h1
      go_enter Try.func74, Try.ntmps74
      go_wp2
      go_ret
      exact ⟨retl_int HL.out.symm, rfl⟩
    · have HL := Lib.hid (show lim z a b = z by unfold lim; rw [if_neg h1, if_neg h2])
      have h3 : a ≤ z := by omega
      have h4 : z ≤ b := by omega
      clear h1 h2
      go_enter Try.func74, Try.ntmps74
      go_wp2
      go_ret
      exact ⟨retl_int HL.out.symm, rfl⟩

theorem ints_grow8 {w w' w0 : World} {A : Option Addr} {n : Nat} {k : IntKind} {zs : List Int} {row : Option Nat} (h : IntsAt w A n k zs) (h0 : IntsAt w0 A n k zs) (hg : w.grownBy w' row) (hr : ∀ g, row = some g → w0.heap.size ≤ g) : IntsAt w' A n k zs :=
  ⟨h.1, fun j z hz => by
    obtain ⟨a, e, hl, hc⟩ := h.2 j z hz
    obtain ⟨a', e', hl', _⟩ := h0.2 j z hz
    obtain rfl : a = a' := by rw [e] at e'; injection e'
    exact ⟨a, e, Nat.lt_of_lt_of_le hl hg.size, hg.cell hc (fun h => by have := hr _ h.symm; rw [block_add] at this; omega)⟩⟩
theorem row_of8 {A : Option Addr} {n c B : Nat} (h : ∀ a, A = some a → B ≤ a.block) : ∀ g, (Value.slice A n c).ownBlock = some g → B ≤ g := by
  intro g hg
  cases A with
  | none => cases hg
  | some a => cases hg; exact h a rfl
theorem take_snocw (lat : List Int) (n : Nat) (z : Int) (hn : n < lat.length) (hz : lat.getD n 0 = z) : (lat.take n).map (Value.int .u32) ++ [.int .u32 z] = (lat.take (n + 1)).map (Value.int .u32) := by
  rw [List.take_succ_eq_append_getElem hn, List.map_append]
  rw [List.getD_eq_getElem?_getD, List.getElem?_eq_getElem hn] at hz
  simp only [Option.getD_some] at hz
  rw [hz]
  rfl
theorem own_base {w : World} {B C e size n : Nat} {v : Value} {xs : List Value} (h : w.ownsRow B e size v n xs) (hc : C ≤ B) : w.ownsRow C e size v n xs := by
  refine ⟨h.1, ?_⟩
  rcases h.2 with h0 | ⟨g, cap, cur, hv, hg, r⟩
  · exact .inl h0
  · exact .inr ⟨g, cap, cur, hv, Nat.le_trans hc hg, r⟩
theorem take_snoc (lat : List Int) (f : Int → Int) (n : Nat) (z : Int) (hn : n < lat.length) (hz : lat.getD n 0 = z) : ((lat.take n).map f).map (Value.int .i64) ++ [.int .i64 (f z)] = ((lat.take (n + 1)).map f).map (Value.int .i64) := by
  rw [List.take_succ_eq_append_getElem hn, List.map_append, List.map_append]
  rw [List.getD_eq_getElem?_getD, List.getElem?_eq_getElem hn] at hz
  simp only [Option.getD_some] at hz
  rw [hz]
  rfl
theorem below_app {B : Nat} {w wr w1 : World} {e size n : Nat} {v : Value} {xs : List Value} {o : Obj} (hbel : Below B w wr) (hB : B ≤ w.heap.size) (hown : wr.ownsRow B e size v n xs) (hgrow : (wr.alloc o).grownBy w1 v.ownBlock) : Below B w w1 :=
  (hbel.alloc (by have := hbel.size; omega) o).grown hgrow (by have := hbel.size; simp; omega) (fun j hj => (hown.lt j hj).1)

theorem below_appd {B : Nat} {w wr w1 : World} {e size n : Nat} {v : Value} {xs : List Value} {o : Obj} (hbel : Below B w wr) (hB : B ≤ w.heap.size) (hown : wr.ownsRow B e size v n xs) (hgrow : (wr.alloc o).drew.grownBy w1 v.ownBlock) : Below B w w1 :=
  (hbel.alloc (by have := hbel.size; omega) o).drew.grown hgrow (by have := hbel.size; simp; omega) (fun j hj => (hown.lt j hj).1)
theorem Blk.drw {w : World} {b : Nat} {cs : List Value} (h : Blk w b cs) : Blk w.drew b cs := h
theorem cell_new1 (w : World) (x : Value) (t : TypeId) : ∀ j u, [x][j]? = some u → (w.alloc (.cells #[x] t)).cell? ((⟨w.heap.size, 0, none⟩ : Addr).add j) = some u := by
  intro j u hj
  match j, hj with
  | 0, hj =>
    simp at hj
    subst hj
    show (w.alloc (.cells #[x] t)).cell? ⟨w.heap.size, 0, none⟩ = some x
    rw [World.cell?_alloc_at _ _ _ _ rfl]
    rfl
theorem one_int (k : IntKind) (x : Int) : ∀ u ∈ [Value.int k x], u.oneCell' = true := by
  intro u h
  rw [List.mem_singleton.1 h]
  rfl
set_option maxHeartbeats 8000000 in
theorem refClean_any (c : Cf) (lat tape : List Int) (hl : c.ln ≤ 200) (ht : c.tn ≤ 200) (w : World) (h : CfAt w c lat tape) :
    Calls Try.prog 21 #[cfV c] w fun e w' => ∃ la lc ta tc, e = .returned (cfV (cfClean c la lc ta tc)) ∧ CfAt w' (cfClean c la lc ta tc) (latOf lat) (tape.take 64) ∧ ((∀ a, la = some a → w.heap.size ≤ a.block) ∧ (∀ a, ta = some a → w.heap.size ≤ a.block)) ∧ Below w.heap.size w w' := by
  obtain ⟨mode, width, rob, queue, stores, slots, sets, ways, la, ln, lc, tb, ta, tn, tc⟩ := c
  have hB := Blk.new w 25 (cfL ⟨mode, width, rob, queue, stores, slots, sets, ways, la, ln, lc, tb, ta, tn, tc⟩)
  have hR := Blk.new (w.alloc (.cells (cfL ⟨mode, width, rob, queue, stores, slots, sets, ways, la, ln, lc, tb, ta, tn, tc⟩).toArray 25)) 25 (cfL ⟨0, 0, 0, 0, 0, 0, 0, 0, none, 0, 0, false, none, 0, 0⟩)
  have hB2 := hB.below ((Below.refl _ _).alloc (Nat.le_refl _) (.cells (cfL ⟨0, 0, 0, 0, 0, 0, 0, 0, none, 0, 0, false, none, 0, 0⟩).toArray 25)) (by simp)
  have hb0 := (allocl_below w (.cells (cfL ⟨mode, width, rob, queue, stores, slots, sets, ways, la, ln, lc, tb, ta, tn, tc⟩).toArray 25))
  have hb := hb0.alloc hb0.size (.cells (cfL ⟨0, 0, 0, 0, 0, 0, 0, 0, none, 0, 0, false, none, 0, 0⟩).toArray 25)
  rw [show (w.alloc (.cells (cfL ⟨mode, width, rob, queue, stores, slots, sets, ways, la, ln, lc, tb, ta, tn, tc⟩).toArray 25)).heap.size = w.heap.size + 1 by simp] at hR
  simp only [cfL, cfV] at hB2 hR hb ⊢
  clear hB hb0
  go_enter Try.func21, Try.ntmps21
  go_wp2_with fail
  generalize (w.alloc (.cells #[.int .i64 mode, .int .i64 width, .int .i64 rob, .int .i64 queue, .int .i64 stores, .int .i64 slots, .int .i64 sets, .int .i64 ways, .slice la ln lc, .bool tb, .slice ta tn tc] 25)).alloc (.cells #[.int .i64 0, .int .i64 0, .int .i64 0, .int .i64 0, .int .i64 0, .int .i64 0, .int .i64 0, .int .i64 0, .slice none 0 0, .bool false, .slice none 0 0] 25) = w2 at *
  obtain ⟨⟨x0, x1, x2, x3, x4, x5, x6, x7, x8, x9, x10⟩, _⟩ := hB2.c11
  have e0 := World.new_ne _ _ x0
  have e1 := World.new_ne _ _ x1
  have e2 := World.new_ne _ _ x2
  have e3 := World.new_ne _ _ x3
  have e4 := World.new_ne _ _ x4
  have e5 := World.new_ne _ _ x5
  have e6 := World.new_ne _ _ x6
  have e7 := World.new_ne _ _ x7
  have e9 := World.new_ne _ _ x9
  go_upto_region 1 with fail
  go_cut [3] from 8 to 34 (fun v wx => v = .pointer (some ⟨w2.heap.size, 0, none⟩) ∧ Blk wx w2.heap.size [.int .i64 (lim mode 0 2), .int .i64 (lim width 1 2), .int .i64 (lim rob 2 8), .int .i64 (lim queue 1 4), .int .i64 (lim stores 1 4), .int .i64 (lim slots 2 6), .int .i64 (lim sets 1 4), .int .i64 (lim ways 1 2), .slice none 0 0, .bool tb, .slice none 0 0] ∧ Below w2.heap.size w2 wx ∧ w2.heap.size < wx.heap.size)
  case first =>


    go_region_held3 (fun w' => w'.cell? ⟨w.heap.size, 0, none⟩ = some (.int .i64 mode) ∧ w'.cell? ⟨w.heap.size, 1, none⟩ = some (.int .i64 width) ∧ w'.cell? ⟨w.heap.size, 2, none⟩ = some (.int .i64 rob) ∧ w'.cell? ⟨w.heap.size, 3, none⟩ = some (.int .i64 queue) ∧ w'.cell? ⟨w.heap.size, 4, none⟩ = some (.int .i64 stores) ∧ w'.cell? ⟨w.heap.size, 5, none⟩ = some (.int .i64 slots) ∧ w'.cell? ⟨w.heap.size, 6, none⟩ = some (.int .i64 sets) ∧ w'.cell? ⟨w.heap.size, 7, none⟩ = some (.int .i64 ways) ∧ w'.cell? ⟨w.heap.size, 9, none⟩ = some (.bool tb)) (go_keep) (first | (go_at_call 74; refine (in_any _ _ _ _ (by decide)).mono ?_; rintro e w' ⟨rfl, rfl⟩))
    all_goals (go_wp2_with fail; go_meet; exact ⟨rfl, (Blk.new _ _ _).drw, (allocl_below _ _).drew, by simp⟩)
  case rest =>
    obtain ⟨rfl, hD, hbD, hsD⟩ := hcut
    clear x0 x1 x2 x3 x4 x5 x6 x7 x8 x9 x10 e0 e1 e2 e3 e4 e5 e6 e7 e9
    have hw2 : w.heap.size + 1 < w2.heap.size := hR.1
    have hR3 := hR.below hbD hR.1
    have hB3 := hB2.below hbD hB2.1
    have hbw := hb.trans (hbD.mono hb.size)
    clear hR hB2 hb hbD
    obtain ⟨D, hDe⟩ : ∃ D, w2.heap.size = D := ⟨_, rfl⟩
    rw [hDe] at hw2 hD hsD ⊢
    clear hDe
    generalize wc = w3 at *
    have HR3 := Lib.hid hR3
    have HB3 := Lib.hid hB3
    have Hbw := Lib.hid hbw
    clear hR3 hB3 hbw
    obtain ⟨⟨x0, x1, x2, x3, x4, x5, x6, x7, x8, x9, x10⟩, ⟨f0, f1, f2, f3, f4, f5, f6, f7, f8, f9, f10⟩⟩ := hD.c11
    go_upto_if 37 with fail
    go_cut [] from 38 to 38 (fun wx => Blk wx D [.int .i64 (lim mode 0 2), .int .i64 (lim width 1 2), .int .i64 (lim rob 2 8), .int .i64 (lim queue 1 4), .int .i64 (lim stores 1 4), .int .i64 (lim slots 2 6), .int .i64 (setsOf sets), .int .i64 (lim ways 1 2), .slice none 0 0, .bool tb, .slice none 0 0] ∧ Below D w3 wx)
    case first =>
      by_cases hs : lim sets 1 4 = 3
      · have hs' : (lim sets 1 4 == 3) = true := by simp [hs]
        go_wp2
        go_meet
        case rel =>
          refine ⟨?_, (Below.refl _ _).setCell (p := ⟨D, 6, none⟩) (by exact Nat.le_refl _) _⟩
          have h1 := hD.set (i := 6) (v := .int .i64 2) (by simp)
          simp only [List.set] at h1
          rw [show setsOf sets = 2 by unfold setsOf; rw [if_pos hs]]
          exact h1
      · have hs' : (lim sets 1 4 == 3) = false := by simp [hs]
        go_wp2
        go_meet
        case rel =>
          refine ⟨?_, Below.refl _ _⟩
          rw [show setsOf sets = lim sets 1 4 by unfold setsOf; rw [if_neg hs]]
          exact hD
    case rest =>
      clear x0 x1 x2 x3 x4 x5 x6 x7 x8 x9 x10 f0 f1 f2 f3 f4 f5 f6 f7 f8 f9 f10 hD
      obtain ⟨hD, hb3⟩ := hcut
      generalize wc = w4 at *
      have hB4 := HB3.out.below hb3 (by omega)
      have hR4 := HR3.out.below hb3 (by omega)
      have hbw := Hbw.out.trans (hb3.mono (by have := Hbw.out.size; omega))
      have hs4 : D < w4.heap.size := hD.1
      clear HB3 HR3 Hbw hb3 hsD
      have y8 := hB4.2.1 8 _ rfl
      go_wp2_with fail
      obtain ⟨i0, hi, hz0, hz1, hz2⟩ := info_parts info_ints
      go_loopw [42] (fun x wr => ∃ (k n : Nat) (A' : Option Addr) (c' : Nat), k ≤ ln ∧ x = .int .i64 k ∧ n = min k 64 ∧ Blk wr D [.int .i64 (lim mode 0 2), .int .i64 (lim width 1 2), .int .i64 (lim rob 2 8), .int .i64 (lim queue 1 4), .int .i64 (lim stores 1 4), .int .i64 (lim slots 2 6), .int .i64 (setsOf sets), .int .i64 (lim ways 1 2), .slice A' n c', .bool tb, .slice none 0 0] ∧ wr.ownsRow (D + 1) 3 1 (.slice A' n c') n (((lat.take n).map fun z => lim z 1 8).map (Value.int .i64)) ∧ Below D w4 wr) (fun x _ => ln - (intOf x).toNat)
      case atStart => exact ⟨0, 0, none, 0, Nat.zero_le _, rfl, rfl, hD, World.ownsRow_nil _ _ _ _, Below.refl _ _⟩
      case round =>
        obtain ⟨k, n, A', c', hk, rfl, hn, hD', hown, hbel⟩ := hrel
        by_cases hkn : k < ln
        · have hbelw := hbw.trans (hbel.mono (by have := hbw.size; omega))
          obtain ⟨a, rfl, hc⟩ := (h.1.below hbelw).at_ (j := k) hkn
          obtain ⟨z, hzz⟩ : ∃ z, lat.getD k 0 = z := ⟨_, rfl⟩
          rw [hzz] at hc
          by_cases h64 : k < 64
          · obtain rfl : n = k := by omega
            clear hn
            have HZ := Lib.hid hzz
            clear hzz
            have Hown := Lib.hid hown
            clear hown
            have HD := Lib.hid hD'
            obtain ⟨⟨x0, x1, x2, x3, x4, x5, x6, x7, x8, x9, x10⟩, ⟨f0, f1, f2, f3, f4, f5, f6, f7, f8, f9, f10⟩⟩ := hD'.c11
            clear hD'
            clear x0 x1 x2 x3 x4 x5 x6 x7 x9 x10 f0 f1 f2 f3 f4 f5 f6 f7 f9 f10
            have e8 := World.new_ne _ _ x8
            go_wp2_with fail
            have hfar : some D ≠ (Value.slice A' n c').ownBlock := by
              intro he
              obtain ⟨A0, c0, e0, _, _, r0⟩ := own_form Hown.out
              cases A' with
              | none => cases he
              | some a0 =>
                injection e0 with e0
                have := (r0 a0 e0.symm).1
                injection he with he
                omega
            have HF := Lib.hid hfar
            clear hfar
            have hDlt : D < wr.heap.size := HD.out.1
            have HDa := Lib.hid (fun o => show Blk (wr.alloc o).drew D [.int .i64 (lim mode 0 2), .int .i64 (lim width 1 2), .int .i64 (lim rob 2 8), .int .i64 (lim queue 1 4), .int .i64 (lim stores 1 4), .int .i64 (lim slots 2 6), .int .i64 (setsOf sets), .int .i64 (lim ways 1 2), .slice A' n c', .bool tb, .slice none 0 0] from Blk.drw (HD.out.below ((Below.refl _ _).alloc (by exact Nat.le_refl _) o) hDlt))
            go_region_law (first
                | (go_simp; go_at_call 74; refine (in_any _ _ _ _ (by decide)).mono ?_; rintro e w' ⟨rfl, rfl⟩)
                | (refine step_append_lies _ (by rfl) (.tmp 50) (.tmp 53) 22 (by rfl) (D + 1) 3 i0 (.int .i64 0) 1 8 Try.underlying22 hi hz0 hz1 hz2 rfl (by decide) _ n _ (by rfl) ((Hown.out.alloc _).drew) ⟨wr.heap.size, 0, none⟩ 1 1 [.int .i64 (lim z 1 8)] (by rfl) (by rfl) (cell_new1 _ _ _) (one_int _ _) (by omega) (by unfold maxLen; omega) (by omega) (by simp; omega) (wr.heap.size + 1) (by simp) ?_; intro gg cap w1 hown1 hgrow hat hlt; have hD1 := Blk.grown (HDa.out _) hgrow HF.out; have y8' := hD1.2.2 8 (by simp); have z8' := hD1.2.1 8 _ rfl; have HO1 := Lib.hid hown1; have HG1 := Lib.hid hgrow; have HD1 := Lib.hid hD1; clear hown1 hgrow hat hD1))
            all_goals
              have HD2 := HD1.out.set (i := 8) (v := .slice (some ⟨gg, 0, none⟩) (n + 1) cap) (by simp)
              simp only [List.set] at HD2
              have HO2 := own_cell (p := ⟨D, 8, none⟩) (u := .slice (some ⟨gg, 0, none⟩) (n + 1) cap) HO1.out (Nat.lt_succ_self D)
              have HB2 := (below_appd hbel (by exact Nat.le_of_lt hs4) (own_base Hown.out (Nat.le_succ D)) HG1.out).setCell (p := ⟨D, 8, none⟩) (by exact Nat.le_refl _) (.slice (some ⟨gg, 0, none⟩) (n + 1) cap)
              have hlk : n < lat.length := by have := h.1.1; simp only at this; omega
              rw [take_snoc lat (fun z => lim z 1 8) n z hlk HZ.out] at HO2
              have KD2 := Lib.hid HD2
              have KO2 := Lib.hid HO2
              have KB2 := Lib.hid HB2
              clear HD2 HO2 HB2 y8' z8'
              go_wp2
              go_roundw
              case rel => exact ⟨n + 1, n + 1, some ⟨gg, 0, none⟩, cap, by omega, by go_num, by omega, KD2.out, KO2.out, KB2.out⟩
              case measure => simp [intOf]; omega
          · have HN := Lib.hid hn
            have HK := Lib.hid (And.intro hD' (And.intro hown hbel))
            clear hn hD' hown
            go_wp2
            go_roundw
            case rel => exact ⟨k + 1, n, A', c', by omega, by go_num, by have := HN.out; omega, HK.out.1, HK.out.2.1, HK.out.2.2⟩
            case measure => simp [intOf]; omega
        · have hke : k = ln := by omega
          subst hke
          have hlen : ((lat.take n).map fun z => lim z 1 8).length = n := by
            have := h.1.1
            simp only at this
            simp only [List.length_map, List.length_take]
            omega
          have hI := own_ints hown hlen
          have hto : lat.take n = lat.take 64 := by rw [hn]; exact take_len h.1.1
          rw [hto] at hI
          have HN := Lib.hid hn
          obtain ⟨A0, c0, e1, r1, r2, r3⟩ := own_form hown
          injection e1 with e1 _ e2
          subst e1 e2
          have hB5 := hB4.below hbel (by omega)
          have hR5 := hR4.below hbel (by omega)
          have hb5 := hbw.trans (hbel.mono (by have := hbw.size; omega))
          have hs5 : D < wr.heap.size := hD'.1
          have hne : ∀ a, A' = some a → D ≠ a.block := fun a ha => by have := (r3 a ha).1; omega
          have HR3 := Lib.hid (And.intro r3 hne)
          have y10 := hB5.2.1 10 _ rfl
          clear hn hto hlen hown hB4 hR4 hbw hbel hD r3 hne
          generalize wr = w5 at *
          obtain ⟨B2, hB2e⟩ : ∃ B2, w5.heap.size = B2 := ⟨_, rfl⟩
          obtain ⟨j0, hj, hjz0, hjz1, hjz2⟩ := info_parts info_words
          go_wp2_with fail
          go_loopw [60] (fun x wz => ∃ (k2 m : Nat) (A2 : Option Addr) (c2 : Nat), k2 ≤ tn ∧ x = .int .i64 k2 ∧ m = min k2 64 ∧ Blk wz D [.int .i64 (lim mode 0 2), .int .i64 (lim width 1 2), .int .i64 (lim rob 2 8), .int .i64 (lim queue 1 4), .int .i64 (lim stores 1 4), .int .i64 (lim slots 2 6), .int .i64 (setsOf sets), .int .i64 (lim ways 1 2), .slice A' n c', .bool tb, .slice A2 m c2] ∧ IntsAt wz A' n .i64 ((lat.take 64).map fun z => lim z 1 8) ∧ wz.ownsRow B2 30 1 (.slice A2 m c2) m ((tape.take m).map (Value.int .u32)) ∧ Below D w5 wz) (fun x _ => tn - (intOf x).toNat)
          case atStart => exact ⟨0, 0, none, 0, Nat.zero_le _, rfl, rfl, hD', hI, World.ownsRow_nil _ _ _ _, Below.refl _ _⟩
          case round =>
            obtain ⟨k2, m, A2, c2, hk2, rfl, hm, hD2, hI2, hown, hbel⟩ := hrel
            by_cases hkn2 : k2 < tn
            · have hbelw := hb5.trans (hbel.mono (by have := hb5.size; omega))
              obtain ⟨a, rfl, hc⟩ := (h.2.1.below hbelw).at_ (j := k2) hkn2
              obtain ⟨z, hzz⟩ : ∃ z, tape.getD k2 0 = z := ⟨_, rfl⟩
              rw [hzz] at hc
              by_cases h64 : k2 < 64
              · obtain rfl : m = k2 := by omega
                have x10 := hD2.2.1 10 _ rfl
                have e10 := World.new_ne _ _ x10
                have Hzz := Lib.hid hzz
                have Hown := Lib.hid hown
                have HD := Lib.hid hD2
                have HI2 := Lib.hid hI2
                have HI := Lib.hid hI
                have hDlt : D < wr.heap.size := hD2.1
                clear hm hzz hown hD2 hI2 hI hD'
                have hsz := hbel.size
                have hrow : ∀ g, (Value.slice A2 m c2).ownBlock = some g → B2 ≤ g := by
                  obtain ⟨Ax, cx, ex, _, _, rx⟩ := own_form Hown.out
                  injection ex with ex _ ex2
                  subst ex ex2
                  exact row_of8 fun a ha => (rx a ha).1
                have HW := Lib.hid hrow
                clear hrow
                have HF := Lib.hid (show some D ≠ (Value.slice A2 m c2).ownBlock from fun he => by have := HW.out D he.symm; omega)
                have HDa := Lib.hid (fun o => show Blk (wr.alloc o) D [.int .i64 (lim mode 0 2), .int .i64 (lim width 1 2), .int .i64 (lim rob 2 8), .int .i64 (lim queue 1 4), .int .i64 (lim stores 1 4), .int .i64 (lim slots 2 6), .int .i64 (setsOf sets), .int .i64 (lim ways 1 2), .slice A' n c', .bool tb, .slice A2 m c2] from HD.out.below ((Below.refl _ _).alloc (by exact Nat.le_refl _) o) hDlt)
                go_wp2_with (at_builtin; refine wpList_append_own _ rfl (.tmp 68) (.tmp 70) 23 rfl B2 30 j0 (.int .u32 0) 1 4 Try.underlying23 hj hjz0 hjz1 hjz2 rfl (by decide) _ _ _ rfl (Hown.out.alloc _) ⟨wr.heap.size, 0, none⟩ 1 1 [_] rfl rfl (cell_new1 _ _ _) (one_int _ _) (by unfold maxLen; omega) (by omega) (by simp; omega) ?_; intro v' w1 hown1 hgrow _; obtain ⟨A3, c3, rfl, s1, s2, s3⟩ := own_form hown1; have hD1 := Blk.grown (HDa.out _) hgrow HF.out; have y8' := hD1.2.2 10 (by simp); have z8' := hD1.2.1 10 _ rfl; have HO1 := Lib.hid hown1; have HG1 := Lib.hid hgrow; have HD1 := Lib.hid hD1; clear hown1 hgrow hD1 s1 s2 s3)
                have HD2 := HD1.out.set (i := 10) (v := .slice A3 (m + 1) c3) (by simp)
                simp only [List.set] at HD2
                have HO2 := own_cell (p := ⟨D, 10, none⟩) (u := .slice A3 (m + 1) c3) HO1.out (show D < B2 by omega)
                have HB2 := ((hbel.alloc (by omega) _).grown HG1.out (by simp; omega) (fun j hj => by have := HW.out j hj; omega)).setCell (p := ⟨D, 10, none⟩) (by exact Nat.le_refl _) (.slice A3 (m + 1) c3)
                have HJ2 := (ints_grow8 (HI2.out.below ((Below.refl _ _).alloc (by exact Nat.le_refl _) _)) HI.out HG1.out (fun g hg => by have := HW.out g hg; omega)).setCell (p := ⟨D, 10, none⟩) (v := .slice A3 (m + 1) c3) HR3.out.2
                have hlk : m < tape.length := by have := h.2.1.1; simp only at this; omega
                have hts := take_snocw tape m z hlk Hzz.out
                rw [hts] at HO2
                have KD2 := Lib.hid HD2
                have KO2 := Lib.hid HO2
                have KB2 := Lib.hid HB2
                have KJ2 := Lib.hid HJ2
                clear HD2 HO2 HB2 HJ2 y8' z8' hts
                go_wp2
                go_roundw
                case rel => exact ⟨m + 1, m + 1, A3, c3, by omega, by go_num, by omega, KD2.out, KJ2.out, KO2.out, KB2.out⟩
                case measure => simp [intOf]; omega
              · have HM := Lib.hid hm
                have HK := Lib.hid (And.intro hD2 (And.intro hI2 (And.intro hown hbel)))
                clear hm hD2 hown hI2 hI hD'
                go_wp2
                go_roundw
                case rel => exact ⟨k2 + 1, m, A2, c2, by omega, by go_num, by have := HM.out; omega, HK.out.1, HK.out.2.1, HK.out.2.2.1, HK.out.2.2.2⟩
                case measure => simp [intOf]; omega
            · have hke2 : k2 = tn := by omega
              subst hke2
              have hlen2 : (tape.take m).length = m := by
                have := h.2.1.1
                simp only at this
                simp only [List.length_take]
                omega
              have hJ := own_ints hown hlen2
              have hto2 : tape.take m = tape.take 64 := by rw [hm]; exact take_len h.2.1.1
              rw [hto2] at hJ
              obtain ⟨A0, c0, e1, s1, s2, s3⟩ := own_form hown
              injection e1 with e1 _ e2
              subst e1 e2
              have hR6 := hR5.below hbel (by omega)
              have hb6 := hb5.trans (hbel.mono (by have := hb5.size; omega))
              obtain ⟨⟨x0, x1, x2, x3, x4, x5, x6, x7, x8, x9, x10⟩, _⟩ := hD2.c11
              obtain ⟨⟨y0, y1, y2, y3, y4, y5, y6, y7, y8, y9, y10⟩, ⟨z0, z1, z2, z3, z4, z5, z6, z7, z8, z9, z10⟩⟩ := hR6.c11
              have hA1 : ∀ a, A' = some a → w.heap.size + 1 ≠ a.block := fun a ha => by have := (HR3.out.1 a ha).1; omega
              have hA2 : ∀ a, A2 = some a → w.heap.size + 1 ≠ a.block := fun a ha => by have := (s3 a ha).1; omega
              have HX := Lib.hid (And.intro hA1 (And.intro hA2 (And.intro hI2 (And.intro hJ hb6))))
              have HS3 := Lib.hid (And.intro s3 (show D < B2 by omega))
              have HM := Lib.hid hm
              have HW0 := Lib.hid hw2
              have hne : ¬ D = w.heap.size + 1 := by omega
              have hne2 : ¬ w.heap.size + 1 = D := by omega
              clear hm hJ hto2 hlen2 hown hR6 hR5 hB5 hD2 hD' hI2 hI hb6 hb5 hbel hA1 hA2 s3 hB2e
              go_wp2
              obtain ⟨hA1, hA2, hi1, hi2, hb4⟩ := HX.out
              refine bodyPost_ret (v := .agg #[.int .i64 (lim mode 0 2), .int .i64 (lim width 1 2), .int .i64 (lim rob 2 8), .int .i64 (lim queue 1 4), .int .i64 (lim stores 1 4), .int .i64 (lim slots 2 6), .int .i64 (setsOf sets), .int .i64 (lim ways 1 2), .slice A' n c', .bool tb, .slice A2 m c2]) ?_ rfl ⟨A', c', A2, c2, ?_, ?_, ?_, ?_⟩
              · simp [results, Try.results21, go_sem, x0, x1, x2, x3, x4, x5, x6, x7, x8, x9, x10, y0, y1, y2, y3, y4, y5, y6, y7, y8, y9, y10]
              · simp only [cfV, cfClean, HN.out, HM.out]
              · refine ⟨?_, ?_, ?_, r2, ?_, s2⟩
                · simp only [cfClean]
                  rw [← HN.out]
                  exact ints11 hi1 hA1
                · simp only [cfClean]
                  rw [← HM.out]
                  exact ints11 hi2 hA2
                · simp only [cfClean]
                  rw [← HN.out]
                  exact r1
                · simp only [cfClean]
                  rw [← HM.out]
                  exact s1
              · exact ⟨fun a ha => by have := (HR3.out.1 a ha).1; have := HW0.out; omega, fun a ha => by have := (HS3.out.1 a ha).1; have := HS3.out.2; have := HW0.out; omega⟩
              · exact below11 hb4 (by omega)

end Go.Proofs.Ytebeelphilfjhaa
