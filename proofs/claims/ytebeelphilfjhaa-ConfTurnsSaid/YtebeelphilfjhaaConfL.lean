/- THE CONTRACTS of Lat, Tape, Most, Bound, Drain of package conf. -/
import Derived.Test.YtebeelphilfjhaaConfC
namespace Go.Proofs.Ytebeelphilfjhaa
open Go.ChangeShapes Go.WideShapes Go.ChangeAt Go.RowKit
set_option linter.unusedVariables false
set_option linter.unusedSimpArgs false
theorem retl_int {k : IntKind} {a b : Int} (h : a = b) : Ending.returned (.int k a) = .returned (.int k b) := by rw [h]
theorem allocl_below (w : World) (o : Obj) : Below w.heap.size w (w.alloc o) := (Below.refl _ _).alloc (Nat.le_refl _) o
theorem allocl_then {w w' : World} {o : Obj} (b : Below (w.alloc o).heap.size (w.alloc o) w') : Below w.heap.size w w' := (allocl_below w o).trans (b.mono (by simp))
theorem belowl_drewN {B : Nat} {a w : World} (h : Below B a w) (n : Nat) : Below B a (w.drewN n) := ⟨h.os, h.tape, h.output, h.size, h.block⟩
theorem Blk.put11 {w : World} {b : Nat} {u0 u1 u2 u3 u4 u5 u6 u7 u8 u9 u10 v0 v1 v2 v3 v4 v5 v6 v7 v8 v9 v10 : Value} (h : Blk w b [u0, u1, u2, u3, u4, u5, u6, u7, u8, u9, u10]) : Blk (((((((((((w.setCell ⟨b, 0, none⟩ v0).setCell ⟨b, 1, none⟩ v1).setCell ⟨b, 2, none⟩ v2).setCell ⟨b, 3, none⟩ v3).setCell ⟨b, 4, none⟩ v4).setCell ⟨b, 5, none⟩ v5).setCell ⟨b, 6, none⟩ v6).setCell ⟨b, 7, none⟩ v7).setCell ⟨b, 8, none⟩ v8).setCell ⟨b, 9, none⟩ v9).setCell ⟨b, 10, none⟩ v10) b [v0, v1, v2, v3, v4, v5, v6, v7, v8, v9, v10] := by
  have := (Blk.set (Blk.set (Blk.set (Blk.set (Blk.set (Blk.set (Blk.set (Blk.set (Blk.set (Blk.set (Blk.set h (i := 0) (v := v0) (by simp)) (i := 1) (v := v1) (by simp)) (i := 2) (v := v2) (by simp)) (i := 3) (v := v3) (by simp)) (i := 4) (v := v4) (by simp)) (i := 5) (v := v5) (by simp)) (i := 6) (v := v6) (by simp)) (i := 7) (v := v7) (by simp)) (i := 8) (v := v8) (by simp)) (i := 9) (v := v9) (by simp)) (i := 10) (v := v10) (by simp))
  simpa only [List.set] using this
def latV (lat : List Int) (k : Int) : Int := if (latOf lat).length = 0 then 1 else (latOf lat).getD ((if k < 0 then 0 else k) % (latOf lat).length).toNat 0
def tapeV (tape : List Int) (k pc : Int) : Int := if (tape.take 64).length = 0 then (pc + 4) % 4294967296 else (tape.take 64).getD ((if k < 0 then 0 else k) % (tape.take 64).length).toNat 0
theorem latOf_len {lat : List Int} {n : Nat} (h : lat.length = n) : (latOf lat).length = min n 64 := by unfold latOf; simp; omega
theorem tape_len {t : List Int} {n : Nat} (h : t.length = n) : (t.take 64).length = min n 64 := by simp; omega

set_option maxHeartbeats 400000
set_option maxRecDepth 100000
theorem lat_conf (c : Cf) (lat tape : List Int) (k : Int) (k0 : -9223372036854775808 ≤ k) (k1 : k < 9223372036854775808) (hl : c.ln ≤ 200) (ht : c.tn ≤ 200) (w : World) (h : CfAt w c lat tape) :
    Calls Try.prog 26 #[cfV c, .int .i64 k] w fun e w' => e = .returned (.int .i64 (latV lat k)) ∧ Below w.heap.size w w' := by
  obtain ⟨mode, width, rob, queue, stores, slots, sets, ways, la, ln, lc, tb, ta, tn, tc⟩ := c
  have hC := clean_new ⟨mode, width, rob, queue, stores, slots, sets, ways, la, ln, lc, tb, ta, tn, tc⟩ lat tape hl ht (w.alloc (.cells (cfL ⟨mode, width, rob, queue, stores, slots, sets, ways, la, ln, lc, tb, ta, tn, tc⟩).toArray 25)) (h.below (allocl_below _ _))
  have hB := Blk.new w 25 (cfL ⟨mode, width, rob, queue, stores, slots, sets, ways, la, ln, lc, tb, ta, tn, tc⟩)
  simp only [cfV, cfL] at hC hB ⊢
  have HC := Lib.hid hC
  have hln := Lib.hid h.1.1
  have htn := Lib.hid h.2.1.1
  simp only at hln htn
  have hw1 : w.heap.size < (w.alloc (.cells [.int .i64 mode, .int .i64 width, .int .i64 rob, .int .i64 queue, .int .i64 stores, .int .i64 slots, .int .i64 sets, .int .i64 ways, .slice la ln lc, .bool tb, .slice ta tn tc].toArray 25)).heap.size := hB.1
  obtain ⟨⟨x0, x1, x2, x3, x4, x5, x6, x7, x8, x9, x10⟩, _⟩ := hB.c11
  clear hC
  go_enter Try.func26, Try.ntmps26
  go_wp2_with fail
  refine HC.out.mono ?_
  rintro e w2 ⟨la2, lc2, ta2, tc2, rfl, hat, hfr, b⟩
  clear x0 x1 x2 x3 x4 x5 x6 x7 x8 x9 x10
  have hb := allocl_then b
  simp only [cfClean]
  have hX := hB.below b hw1
  have hA1 : ∀ a, la2 = some a → w.heap.size ≠ a.block := fun a ha => by have := hfr.1 a ha; omega
  have hA2 : ∀ a, ta2 = some a → w.heap.size ≠ a.block := fun a ha => by have := hfr.2 a ha; omega
  obtain ⟨n1, hn1⟩ : ∃ n1, min ln 64 = n1 := ⟨_, rfl⟩
  obtain ⟨n2, hn2⟩ : ∃ n2, min tn 64 = n2 := ⟨_, rfl⟩
  have hl1 := Lib.hid (show (latOf lat).length = n1 by rw [← hn1]; exact latOf_len hln.out)
  have hl2 := Lib.hid (show (tape.take 64).length = n2 by rw [← hn2]; exact tape_len htn.out)
  have m1 : n1 ≤ 64 := by omega
  have m2 : n2 ≤ 64 := by omega
  unfold CfAt at hat
  simp only [cfClean] at hat
  rw [hn1, hn2] at hat ⊢
  clear hB b HC hw1 h hn1 hn2 hfr
  obtain ⟨⟨x0, x1, x2, x3, x4, x5, x6, x7, x8, x9, x10⟩, ⟨z0, z1, z2, z3, z4, z5, z6, z7, z8, z9, z10⟩⟩ := hX.c11
  by_cases hn0 : n1 = 0
  · subst hn0
    have HV := Lib.hid (show latV lat k = 1 by unfold latV; rw [if_pos hl1.out])
    go_wp2
    have hX5 := hX.put11 (v0 := .int .i64 (lim mode 0 2)) (v1 := .int .i64 (lim width 1 2)) (v2 := .int .i64 (lim rob 2 8)) (v3 := .int .i64 (lim queue 1 4)) (v4 := .int .i64 (lim stores 1 4)) (v5 := .int .i64 (lim slots 2 6)) (v6 := .int .i64 (setsOf sets)) (v7 := .int .i64 (lim ways 1 2)) (v8 := .slice la2 0 lc2) (v9 := .bool tb) (v10 := .slice ta2 n2 tc2)
    have hb5 := below11 (r := w.heap.size) (v0 := .int .i64 (lim mode 0 2)) (v1 := .int .i64 (lim width 1 2)) (v2 := .int .i64 (lim rob 2 8)) (v3 := .int .i64 (lim queue 1 4)) (v4 := .int .i64 (lim stores 1 4)) (v5 := .int .i64 (lim slots 2 6)) (v6 := .int .i64 (setsOf sets)) (v7 := .int .i64 (lim ways 1 2)) (v8 := .slice la2 0 lc2) (v9 := .bool tb) (v10 := .slice ta2 n2 tc2) hb (Nat.le_refl _)
    have hi5 := ints11 (r := w.heap.size) (v0 := .int .i64 (lim mode 0 2)) (v1 := .int .i64 (lim width 1 2)) (v2 := .int .i64 (lim rob 2 8)) (v3 := .int .i64 (lim queue 1 4)) (v4 := .int .i64 (lim stores 1 4)) (v5 := .int .i64 (lim slots 2 6)) (v6 := .int .i64 (setsOf sets)) (v7 := .int .i64 (lim ways 1 2)) (v8 := .slice la2 0 lc2) (v9 := .bool tb) (v10 := .slice ta2 n2 tc2) hat.1 hA1
    have hj5 := ints11 (r := w.heap.size) (v0 := .int .i64 (lim mode 0 2)) (v1 := .int .i64 (lim width 1 2)) (v2 := .int .i64 (lim rob 2 8)) (v3 := .int .i64 (lim queue 1 4)) (v4 := .int .i64 (lim stores 1 4)) (v5 := .int .i64 (lim slots 2 6)) (v6 := .int .i64 (setsOf sets)) (v7 := .int .i64 (lim ways 1 2)) (v8 := .slice la2 0 lc2) (v9 := .bool tb) (v10 := .slice ta2 n2 tc2) hat.2.1 hA2
    clear x0 x1 x2 x3 x4 x5 x6 x7 x8 x9 x10 z0 z1 z2 z3 z4 z5 z6 z7 z8 z9 z10 hX hat
    generalize (((((((((((w2.setCell ⟨w.heap.size, 0, none⟩ (.int .i64 (lim mode 0 2))).setCell ⟨w.heap.size, 1, none⟩ (.int .i64 (lim width 1 2))).setCell ⟨w.heap.size, 2, none⟩ (.int .i64 (lim rob 2 8))).setCell ⟨w.heap.size, 3, none⟩ (.int .i64 (lim queue 1 4))).setCell ⟨w.heap.size, 4, none⟩ (.int .i64 (lim stores 1 4))).setCell ⟨w.heap.size, 5, none⟩ (.int .i64 (lim slots 2 6))).setCell ⟨w.heap.size, 6, none⟩ (.int .i64 (setsOf sets))).setCell ⟨w.heap.size, 7, none⟩ (.int .i64 (lim ways 1 2))).setCell ⟨w.heap.size, 8, none⟩ (.slice la2 0 lc2)).setCell ⟨w.heap.size, 9, none⟩ (.bool tb)).setCell ⟨w.heap.size, 10, none⟩ (.slice ta2 n2 tc2)) = w5 at *
    go_ret
    exact ⟨retl_int HV.out.symm, hb5⟩
  · have e0 : ((n1 : Int) == 0) = false := by simp; omega
    go_wp2
    have hX5 := hX.put11 (v0 := .int .i64 (lim mode 0 2)) (v1 := .int .i64 (lim width 1 2)) (v2 := .int .i64 (lim rob 2 8)) (v3 := .int .i64 (lim queue 1 4)) (v4 := .int .i64 (lim stores 1 4)) (v5 := .int .i64 (lim slots 2 6)) (v6 := .int .i64 (setsOf sets)) (v7 := .int .i64 (lim ways 1 2)) (v8 := .slice la2 n1 lc2) (v9 := .bool tb) (v10 := .slice ta2 n2 tc2)
    have hb5 := below11 (r := w.heap.size) (v0 := .int .i64 (lim mode 0 2)) (v1 := .int .i64 (lim width 1 2)) (v2 := .int .i64 (lim rob 2 8)) (v3 := .int .i64 (lim queue 1 4)) (v4 := .int .i64 (lim stores 1 4)) (v5 := .int .i64 (lim slots 2 6)) (v6 := .int .i64 (setsOf sets)) (v7 := .int .i64 (lim ways 1 2)) (v8 := .slice la2 n1 lc2) (v9 := .bool tb) (v10 := .slice ta2 n2 tc2) hb (Nat.le_refl _)
    have hi5 := ints11 (r := w.heap.size) (v0 := .int .i64 (lim mode 0 2)) (v1 := .int .i64 (lim width 1 2)) (v2 := .int .i64 (lim rob 2 8)) (v3 := .int .i64 (lim queue 1 4)) (v4 := .int .i64 (lim stores 1 4)) (v5 := .int .i64 (lim slots 2 6)) (v6 := .int .i64 (setsOf sets)) (v7 := .int .i64 (lim ways 1 2)) (v8 := .slice la2 n1 lc2) (v9 := .bool tb) (v10 := .slice ta2 n2 tc2) hat.1 hA1
    have hj5 := ints11 (r := w.heap.size) (v0 := .int .i64 (lim mode 0 2)) (v1 := .int .i64 (lim width 1 2)) (v2 := .int .i64 (lim rob 2 8)) (v3 := .int .i64 (lim queue 1 4)) (v4 := .int .i64 (lim stores 1 4)) (v5 := .int .i64 (lim slots 2 6)) (v6 := .int .i64 (setsOf sets)) (v7 := .int .i64 (lim ways 1 2)) (v8 := .slice la2 n1 lc2) (v9 := .bool tb) (v10 := .slice ta2 n2 tc2) hat.2.1 hA2
    clear x0 x1 x2 x3 x4 x5 x6 x7 x8 x9 x10 z0 z1 z2 z3 z4 z5 z6 z7 z8 z9 z10 hX hat
    generalize (((((((((((w2.setCell ⟨w.heap.size, 0, none⟩ (.int .i64 (lim mode 0 2))).setCell ⟨w.heap.size, 1, none⟩ (.int .i64 (lim width 1 2))).setCell ⟨w.heap.size, 2, none⟩ (.int .i64 (lim rob 2 8))).setCell ⟨w.heap.size, 3, none⟩ (.int .i64 (lim queue 1 4))).setCell ⟨w.heap.size, 4, none⟩ (.int .i64 (lim stores 1 4))).setCell ⟨w.heap.size, 5, none⟩ (.int .i64 (lim slots 2 6))).setCell ⟨w.heap.size, 6, none⟩ (.int .i64 (setsOf sets))).setCell ⟨w.heap.size, 7, none⟩ (.int .i64 (lim ways 1 2))).setCell ⟨w.heap.size, 8, none⟩ (.slice la2 n1 lc2)).setCell ⟨w.heap.size, 9, none⟩ (.bool tb)).setCell ⟨w.heap.size, 10, none⟩ (.slice ta2 n2 tc2)) = w5 at *
    have c8 := hX5.2.1 8 _ rfl
    have c10 := hX5.2.1 10 _ rfl
    by_cases hk : k < 0
    · have HV := Lib.hid (show latV lat k = (latOf lat).getD 0 0 by unfold latV; rw [if_neg (by rw [hl1.out]; exact hn0), if_pos hk, hl1.out, Int.zero_emod]; rfl)
      obtain ⟨ga, rfl, hc⟩ := hi5.at_ (j := 0) (by omega)
      obtain ⟨z, hz⟩ : ∃ z, (latOf lat).getD 0 0 = z := ⟨_, rfl⟩
      rw [hz] at hc
      have HZ := Lib.hid hz
      have hn1' : 0 < n1 := by omega
      have hn1'' : (0 : Int) < (n1 : Nat) := by omega
      rw [Addr.add_zero'] at hc
      clear hz hn0
      go_quiet (fail)
      go_wp2
      go_ret
      exact ⟨retl_int (HV.out.trans HZ.out).symm, belowl_drewN hb5 _⟩
    · obtain ⟨q, hq⟩ : ∃ q : Nat, (k % n1) = q := ⟨(k % n1).toNat, (Int.toNat_of_nonneg (Int.emod_nonneg _ (by omega))).symm⟩
      have hqn : q < n1 := by have := Int.emod_lt_of_pos k (show (0 : Int) < n1 by omega); omega
      have HV := Lib.hid (show latV lat k = (latOf lat).getD q 0 by unfold latV; rw [if_neg (by rw [hl1.out]; exact hn0), if_neg hk, hl1.out, hq, Int.toNat_natCast])
      obtain ⟨ga, rfl, hc⟩ := hi5.at_ hqn
      obtain ⟨z, hz⟩ : ∃ z, (latOf lat).getD q 0 = z := ⟨_, rfl⟩
      rw [hz] at hc
      have HZ := Lib.hid hz
      have hk0 : 0 ≤ k := by omega
      clear hk hz hn0
      go_quiet (fail)
      go_wp2
      go_ret
      exact ⟨retl_int (HV.out.trans HZ.out).symm, belowl_drewN hb5 _⟩
theorem tape_conf (c : Cf) (lat tape : List Int) (k pc : Int) (p0 : 0 ≤ pc) (p1 : pc < 4294967296) (k0 : -9223372036854775808 ≤ k) (k1 : k < 9223372036854775808) (hl : c.ln ≤ 200) (ht : c.tn ≤ 200) (w : World) (h : CfAt w c lat tape) :
    Calls Try.prog 28 #[cfV c, .int .i64 k, .int .u32 pc] w fun e w' => e = .returned (.int .u32 (tapeV tape k pc)) ∧ Below w.heap.size w w' := by
  obtain ⟨mode, width, rob, queue, stores, slots, sets, ways, la, ln, lc, tb, ta, tn, tc⟩ := c
  have hC := clean_new ⟨mode, width, rob, queue, stores, slots, sets, ways, la, ln, lc, tb, ta, tn, tc⟩ lat tape hl ht (w.alloc (.cells (cfL ⟨mode, width, rob, queue, stores, slots, sets, ways, la, ln, lc, tb, ta, tn, tc⟩).toArray 25)) (h.below (allocl_below _ _))
  have hB := Blk.new w 25 (cfL ⟨mode, width, rob, queue, stores, slots, sets, ways, la, ln, lc, tb, ta, tn, tc⟩)
  simp only [cfV, cfL] at hC hB ⊢
  have HC := Lib.hid hC
  have hln := Lib.hid h.1.1
  have htn := Lib.hid h.2.1.1
  simp only at hln htn
  have hw1 : w.heap.size < (w.alloc (.cells [.int .i64 mode, .int .i64 width, .int .i64 rob, .int .i64 queue, .int .i64 stores, .int .i64 slots, .int .i64 sets, .int .i64 ways, .slice la ln lc, .bool tb, .slice ta tn tc].toArray 25)).heap.size := hB.1
  obtain ⟨⟨x0, x1, x2, x3, x4, x5, x6, x7, x8, x9, x10⟩, _⟩ := hB.c11
  clear hC
  go_enter Try.func28, Try.ntmps28
  go_wp2_with fail
  refine HC.out.mono ?_
  rintro e w2 ⟨la2, lc2, ta2, tc2, rfl, hat, hfr, b⟩
  clear x0 x1 x2 x3 x4 x5 x6 x7 x8 x9 x10
  have hb := allocl_then b
  simp only [cfClean]
  have hX := hB.below b hw1
  have hA1 : ∀ a, la2 = some a → w.heap.size ≠ a.block := fun a ha => by have := hfr.1 a ha; omega
  have hA2 : ∀ a, ta2 = some a → w.heap.size ≠ a.block := fun a ha => by have := hfr.2 a ha; omega
  obtain ⟨n1, hn1⟩ : ∃ n1, min ln 64 = n1 := ⟨_, rfl⟩
  obtain ⟨n2, hn2⟩ : ∃ n2, min tn 64 = n2 := ⟨_, rfl⟩
  have hl1 := Lib.hid (show (latOf lat).length = n1 by rw [← hn1]; exact latOf_len hln.out)
  have hl2 := Lib.hid (show (tape.take 64).length = n2 by rw [← hn2]; exact tape_len htn.out)
  have m1 : n1 ≤ 64 := by omega
  have m2 : n2 ≤ 64 := by omega
  unfold CfAt at hat
  simp only [cfClean] at hat
  rw [hn1, hn2] at hat ⊢
  clear hB b HC hw1 h hn1 hn2 hfr
  obtain ⟨⟨x0, x1, x2, x3, x4, x5, x6, x7, x8, x9, x10⟩, ⟨z0, z1, z2, z3, z4, z5, z6, z7, z8, z9, z10⟩⟩ := hX.c11
  by_cases hn0 : n2 = 0
  · subst hn0
    have HV := Lib.hid (show tapeV tape k pc = (pc + 4) % 4294967296 by unfold tapeV; rw [if_pos hl2.out])
    go_wp2
    have hX5 := hX.put11 (v0 := .int .i64 (lim mode 0 2)) (v1 := .int .i64 (lim width 1 2)) (v2 := .int .i64 (lim rob 2 8)) (v3 := .int .i64 (lim queue 1 4)) (v4 := .int .i64 (lim stores 1 4)) (v5 := .int .i64 (lim slots 2 6)) (v6 := .int .i64 (setsOf sets)) (v7 := .int .i64 (lim ways 1 2)) (v8 := .slice la2 n1 lc2) (v9 := .bool tb) (v10 := .slice ta2 0 tc2)
    have hb5 := below11 (r := w.heap.size) (v0 := .int .i64 (lim mode 0 2)) (v1 := .int .i64 (lim width 1 2)) (v2 := .int .i64 (lim rob 2 8)) (v3 := .int .i64 (lim queue 1 4)) (v4 := .int .i64 (lim stores 1 4)) (v5 := .int .i64 (lim slots 2 6)) (v6 := .int .i64 (setsOf sets)) (v7 := .int .i64 (lim ways 1 2)) (v8 := .slice la2 n1 lc2) (v9 := .bool tb) (v10 := .slice ta2 0 tc2) hb (Nat.le_refl _)
    have hi5 := ints11 (r := w.heap.size) (v0 := .int .i64 (lim mode 0 2)) (v1 := .int .i64 (lim width 1 2)) (v2 := .int .i64 (lim rob 2 8)) (v3 := .int .i64 (lim queue 1 4)) (v4 := .int .i64 (lim stores 1 4)) (v5 := .int .i64 (lim slots 2 6)) (v6 := .int .i64 (setsOf sets)) (v7 := .int .i64 (lim ways 1 2)) (v8 := .slice la2 n1 lc2) (v9 := .bool tb) (v10 := .slice ta2 0 tc2) hat.1 hA1
    have hj5 := ints11 (r := w.heap.size) (v0 := .int .i64 (lim mode 0 2)) (v1 := .int .i64 (lim width 1 2)) (v2 := .int .i64 (lim rob 2 8)) (v3 := .int .i64 (lim queue 1 4)) (v4 := .int .i64 (lim stores 1 4)) (v5 := .int .i64 (lim slots 2 6)) (v6 := .int .i64 (setsOf sets)) (v7 := .int .i64 (lim ways 1 2)) (v8 := .slice la2 n1 lc2) (v9 := .bool tb) (v10 := .slice ta2 0 tc2) hat.2.1 hA2
    clear x0 x1 x2 x3 x4 x5 x6 x7 x8 x9 x10 z0 z1 z2 z3 z4 z5 z6 z7 z8 z9 z10 hX hat
    generalize (((((((((((w2.setCell ⟨w.heap.size, 0, none⟩ (.int .i64 (lim mode 0 2))).setCell ⟨w.heap.size, 1, none⟩ (.int .i64 (lim width 1 2))).setCell ⟨w.heap.size, 2, none⟩ (.int .i64 (lim rob 2 8))).setCell ⟨w.heap.size, 3, none⟩ (.int .i64 (lim queue 1 4))).setCell ⟨w.heap.size, 4, none⟩ (.int .i64 (lim stores 1 4))).setCell ⟨w.heap.size, 5, none⟩ (.int .i64 (lim slots 2 6))).setCell ⟨w.heap.size, 6, none⟩ (.int .i64 (setsOf sets))).setCell ⟨w.heap.size, 7, none⟩ (.int .i64 (lim ways 1 2))).setCell ⟨w.heap.size, 8, none⟩ (.slice la2 n1 lc2)).setCell ⟨w.heap.size, 9, none⟩ (.bool tb)).setCell ⟨w.heap.size, 10, none⟩ (.slice ta2 0 tc2)) = w5 at *
    go_ret
    exact ⟨retl_int HV.out.symm, hb5⟩
  · have e0 : ((n2 : Int) == 0) = false := by simp; omega
    go_wp2
    have hX5 := hX.put11 (v0 := .int .i64 (lim mode 0 2)) (v1 := .int .i64 (lim width 1 2)) (v2 := .int .i64 (lim rob 2 8)) (v3 := .int .i64 (lim queue 1 4)) (v4 := .int .i64 (lim stores 1 4)) (v5 := .int .i64 (lim slots 2 6)) (v6 := .int .i64 (setsOf sets)) (v7 := .int .i64 (lim ways 1 2)) (v8 := .slice la2 n1 lc2) (v9 := .bool tb) (v10 := .slice ta2 n2 tc2)
    have hb5 := below11 (r := w.heap.size) (v0 := .int .i64 (lim mode 0 2)) (v1 := .int .i64 (lim width 1 2)) (v2 := .int .i64 (lim rob 2 8)) (v3 := .int .i64 (lim queue 1 4)) (v4 := .int .i64 (lim stores 1 4)) (v5 := .int .i64 (lim slots 2 6)) (v6 := .int .i64 (setsOf sets)) (v7 := .int .i64 (lim ways 1 2)) (v8 := .slice la2 n1 lc2) (v9 := .bool tb) (v10 := .slice ta2 n2 tc2) hb (Nat.le_refl _)
    have hi5 := ints11 (r := w.heap.size) (v0 := .int .i64 (lim mode 0 2)) (v1 := .int .i64 (lim width 1 2)) (v2 := .int .i64 (lim rob 2 8)) (v3 := .int .i64 (lim queue 1 4)) (v4 := .int .i64 (lim stores 1 4)) (v5 := .int .i64 (lim slots 2 6)) (v6 := .int .i64 (setsOf sets)) (v7 := .int .i64 (lim ways 1 2)) (v8 := .slice la2 n1 lc2) (v9 := .bool tb) (v10 := .slice ta2 n2 tc2) hat.1 hA1
    have hj5 := ints11 (r := w.heap.size) (v0 := .int .i64 (lim mode 0 2)) (v1 := .int .i64 (lim width 1 2)) (v2 := .int .i64 (lim rob 2 8)) (v3 := .int .i64 (lim queue 1 4)) (v4 := .int .i64 (lim stores 1 4)) (v5 := .int .i64 (lim slots 2 6)) (v6 := .int .i64 (setsOf sets)) (v7 := .int .i64 (lim ways 1 2)) (v8 := .slice la2 n1 lc2) (v9 := .bool tb) (v10 := .slice ta2 n2 tc2) hat.2.1 hA2
    clear x0 x1 x2 x3 x4 x5 x6 x7 x8 x9 x10 z0 z1 z2 z3 z4 z5 z6 z7 z8 z9 z10 hX hat
    generalize (((((((((((w2.setCell ⟨w.heap.size, 0, none⟩ (.int .i64 (lim mode 0 2))).setCell ⟨w.heap.size, 1, none⟩ (.int .i64 (lim width 1 2))).setCell ⟨w.heap.size, 2, none⟩ (.int .i64 (lim rob 2 8))).setCell ⟨w.heap.size, 3, none⟩ (.int .i64 (lim queue 1 4))).setCell ⟨w.heap.size, 4, none⟩ (.int .i64 (lim stores 1 4))).setCell ⟨w.heap.size, 5, none⟩ (.int .i64 (lim slots 2 6))).setCell ⟨w.heap.size, 6, none⟩ (.int .i64 (setsOf sets))).setCell ⟨w.heap.size, 7, none⟩ (.int .i64 (lim ways 1 2))).setCell ⟨w.heap.size, 8, none⟩ (.slice la2 n1 lc2)).setCell ⟨w.heap.size, 9, none⟩ (.bool tb)).setCell ⟨w.heap.size, 10, none⟩ (.slice ta2 n2 tc2)) = w5 at *
    have c8 := hX5.2.1 8 _ rfl
    have c10 := hX5.2.1 10 _ rfl
    by_cases hk : k < 0
    · have HV := Lib.hid (show tapeV tape k pc = (tape.take 64).getD 0 0 by unfold tapeV; rw [if_neg (by rw [hl2.out]; exact hn0), if_pos hk, hl2.out, Int.zero_emod]; rfl)
      obtain ⟨ga, rfl, hc⟩ := hj5.at_ (j := 0) (by omega)
      obtain ⟨z, hz⟩ : ∃ z, (tape.take 64).getD 0 0 = z := ⟨_, rfl⟩
      rw [hz] at hc
      have HZ := Lib.hid hz
      have hn1' : 0 < n2 := by omega
      have hn1'' : (0 : Int) < (n2 : Nat) := by omega
      rw [Addr.add_zero'] at hc
      clear hz hn0
      go_quiet (fail)
      go_wp2
      go_ret
      exact ⟨retl_int (HV.out.trans HZ.out).symm, belowl_drewN hb5 _⟩
    · obtain ⟨q, hq⟩ : ∃ q : Nat, (k % n2) = q := ⟨(k % n2).toNat, (Int.toNat_of_nonneg (Int.emod_nonneg _ (by omega))).symm⟩
      have hqn : q < n2 := by have := Int.emod_lt_of_pos k (show (0 : Int) < n2 by omega); omega
      have HV := Lib.hid (show tapeV tape k pc = (tape.take 64).getD q 0 by unfold tapeV; rw [if_neg (by rw [hl2.out]; exact hn0), if_neg hk, hl2.out, hq, Int.toNat_natCast])
      obtain ⟨ga, rfl, hc⟩ := hj5.at_ hqn
      obtain ⟨z, hz⟩ : ∃ z, (tape.take 64).getD q 0 = z := ⟨_, rfl⟩
      rw [hz] at hc
      have HZ := Lib.hid hz
      have hk0 : 0 ≤ k := by omega
      clear hk hz hn0
      go_quiet (fail)
      go_wp2
      go_ret
      exact ⟨retl_int (HV.out.trans HZ.out).symm, belowl_drewN hb5 _⟩

end Go.Proofs.Ytebeelphilfjhaa
