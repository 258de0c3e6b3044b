/- THE CONTRACTS of Most, Bound, Drain of package conf. -/
import Derived.Test.YtebeelphilfjhaaConfL
import Derived.Lib.QuietBelow
namespace Go.Proofs.Ytebeelphilfjhaa
open Go.ChangeShapes Go.WideShapes Go.ChangeAt Go.RowKit
set_option linter.unusedVariables false
set_option linter.unusedSimpArgs false

/-- the longest request -/
def mx (a b : Int) : Int := if a < b then b else a
def mostL (l : List Int) : Int := l.foldl mx 1
def mostV (lat : List Int) : Int := mostL (latOf lat)
theorem mostL_snoc (l : List Int) (z : Int) : mostL (l ++ [z]) = mx (mostL l) z := by simp [mostL]
theorem mostL_range : ∀ (l : List Int), (∀ z ∈ l, 1 ≤ z ∧ z ≤ 8) → 1 ≤ mostL l ∧ mostL l ≤ 8 := by
  intro l h
  have : ∀ (l : List Int) (a : Int), (1 ≤ a ∧ a ≤ 8) → (∀ z ∈ l, 1 ≤ z ∧ z ≤ 8) → 1 ≤ l.foldl mx a ∧ l.foldl mx a ≤ 8 := by
    intro l
    induction l with
    | nil => intro a ha _; exact ha
    | cons x l ih =>
      intro a ha hl
      refine ih (mx a x) ?_ (fun z hz => hl z (List.mem_cons_of_mem _ hz))
      have := hl x (List.mem_cons_self ..)
      unfold mx
      split <;> omega
  exact this l 1 (by omega) h
theorem latOf_range (lat : List Int) : ∀ z ∈ latOf lat, 1 ≤ z ∧ z ≤ 8 := by
  intro z hz
  unfold latOf at hz
  obtain ⟨y, _, rfl⟩ := List.mem_map.1 hz
  exact lim_range y 1 8 (by omega)
theorem mostV_range (lat : List Int) : 1 ≤ mostV lat ∧ mostV lat ≤ 8 := mostL_range _ (latOf_range lat)
theorem latOf_twice (lat : List Int) : latOf (latOf lat) = latOf lat := by
  unfold latOf
  rw [List.take_of_length_le (by simp; omega), List.map_map]
  apply List.map_congr_left
  intro z _
  exact lim_twice z 1 8 (by omega)

/-- how long all takes that may wait -/
def loadV (c : Cf) (lat : List Int) : Int := (c.slots + c.stores + c.sets * c.ways + 4) * (mostV lat + 1)
theorem loadV_range (c : Cf) (lat : List Int) (s1 : 2 ≤ c.slots ∧ c.slots ≤ 6) (s2 : 1 ≤ c.stores ∧ c.stores ≤ 4) (s3 : 1 ≤ c.sets ∧ c.sets ≤ 4) (s4 : 1 ≤ c.ways ∧ c.ways ≤ 2) : 16 ≤ loadV c lat ∧ loadV c lat ≤ 198 := by
  unfold loadV
  have hmr := mostV_range lat
  have hsw : 1 ≤ c.sets * c.ways ∧ c.sets * c.ways ≤ 8 := by
    obtain e | e : c.ways = 1 ∨ c.ways = 2 := by omega
    · rw [e]; omega
    · rw [e]; omega
  generalize c.sets * c.ways = sw at *
  generalize mostV lat = mv at *
  have h1 : 8 ≤ c.slots + c.stores + sw + 4 ∧ c.slots + c.stores + sw + 4 ≤ 22 := by omega
  generalize c.slots + c.stores + sw + 4 = x at *
  obtain rfl | rfl | rfl | rfl | rfl | rfl | rfl | rfl : mv = 1 ∨ mv = 2 ∨ mv = 3 ∨ mv = 4 ∨ mv = 5 ∨ mv = 6 ∨ mv = 7 ∨ mv = 8 := by omega
  all_goals omega
set_option maxHeartbeats 1000000
set_option maxRecDepth 100000
theorem most_conf (c : Cf) (lat tape : List Int) (hl : c.ln ≤ 200) (ht : c.tn ≤ 200) (w : World) (h : CfAt w c lat tape) :
    Calls Try.prog 30 #[cfV c] w fun e w' => e = .returned (.int .i64 (mostV lat)) ∧ Below w.heap.size w w' := by
  obtain ⟨mode, width, rob, queue, stores, slots, sets, ways, la, ln, lc, tb, ta, tn, tc⟩ := c
  have hC := clean_conf ⟨mode, width, rob, queue, stores, slots, sets, ways, la, ln, lc, tb, ta, tn, tc⟩ lat tape hl ht (w.alloc (.cells (cfL ⟨mode, width, rob, queue, stores, slots, sets, ways, la, ln, lc, tb, ta, tn, tc⟩).toArray 25)) (h.below (allocl_below _ _))
  have hB := Blk.new w 25 (cfL ⟨mode, width, rob, queue, stores, slots, sets, ways, la, ln, lc, tb, ta, tn, tc⟩)
  simp only [cfV, cfL] at hC hB ⊢
  have HC := Lib.hid hC
  have hln := Lib.hid h.1.1
  simp only at hln
  obtain ⟨⟨x0, x1, x2, x3, x4, x5, x6, x7, x8, x9, x10⟩, _⟩ := hB.c11
  clear hC hB h
  go_enter Try.func30, Try.ntmps30
  go_wp2_with fail
  refine HC.out.mono ?_
  rintro e w2 ⟨la2, lc2, ta2, tc2, rfl, hat, b⟩
  have hb := allocl_then b
  unfold CfAt at hat
  simp only [cfClean] at hat ⊢
  obtain ⟨n1, hn1⟩ : ∃ n1, min ln 64 = n1 := ⟨_, rfl⟩
  have hl1 := Lib.hid (show (latOf lat).length = n1 by rw [← hn1]; exact latOf_len hln.out)
  have hr := Lib.hid (latOf_range lat)
  have hn64 : n1 ≤ 64 := by omega
  rw [hn1] at hat ⊢
  obtain ⟨hI, -⟩ := hat
  have HV := Lib.hid (show mostV lat = mostL (latOf lat) from rfl)
  clear x0 x1 x2 x3 x4 x5 x6 x7 x8 x9 x10 b HC hn1
  generalize latOf lat = ls at *
  have hfd : ∀ wx : World, (Instr.field 25 (.agg #[.int .i64 (lim mode 0 2), .int .i64 (lim width 1 2), .int .i64 (lim rob 2 8), .int .i64 (lim queue 1 4), .int .i64 (lim stores 1 4), .int .i64 (lim slots 2 6), .int .i64 (setsOf sets), .int .i64 (lim ways 1 2), .slice la2 n1 lc2, .bool tb, .slice ta2 (min tn 64) tc2]) 8).run Try.prog wx = .ok (.slice la2 n1 lc2) wx := fun _ => by kernel_rfl
  go_wp2
  go_loopw [3, 10] (fun m i wr => ∃ (k : Nat) (q : Int), k ≤ n1 ∧ i = .int .i64 k ∧ m = .int .i64 q ∧ 1 ≤ q ∧ q ≤ 8 ∧ mostL (ls.take k) = q ∧ wr = w2) (fun _ i _ => n1 - (intOf i).toNat)
  case atStart => exact ⟨0, 1, Nat.zero_le _, rfl, rfl, by omega, by omega, rfl, rfl⟩
  case round =>
    obtain ⟨k, q, hk, rfl, rfl, q1, q2, hq, rfl⟩ := hrel
    have HQ := Lib.hid hq
    clear hq
    by_cases hkn : k < n1
    · obtain ⟨a, rfl, hc⟩ := hI.at_ (j := k) hkn
      have hkl : k < ls.length := by rw [hl1.out]; exact hkn
      have hg : ls.getD k 0 = ls[k] := by rw [List.getD_eq_getElem?_getD, List.getElem?_eq_getElem hkl]; rfl
      obtain ⟨z, hz⟩ : ∃ z, ls[k] = z := ⟨_, rfl⟩
      rw [hg, hz] at hc
      have hz8 : 1 ≤ z ∧ z ≤ 8 := by rw [← hz]; exact hr.out _ (List.getElem_mem _)
      have HS := Lib.hid (show mostL (ls.take (k + 1)) = mx q z by rw [List.take_succ_eq_append_getElem hkl, mostL_snoc, HQ.out, hz])
      clear hg hz hkl
      by_cases hlt : q < z
      · have HM := Lib.hid (show mx q z = z by unfold mx; rw [if_pos hlt])
        go_wp2
        go_roundw
        case rel => exact ⟨k + 1, z, by omega, by go_num, rfl, by omega, by omega, by rw [HS.out, HM.out], by trivial⟩
        case measure => simp [intOf]; omega
      · have HM := Lib.hid (show mx q z = q by unfold mx; rw [if_neg hlt])
        have hge : z ≤ q := by omega
        clear hlt
        go_wp2
        go_roundw
        case rel => exact ⟨k + 1, q, by omega, by go_num, rfl, by omega, by omega, by rw [HS.out, HM.out], by trivial⟩
        case measure => simp [intOf]; omega
    · obtain rfl : n1 = k := by omega
      have HF := Lib.hid (show mostV lat = q by rw [HV.out, ← HQ.out, List.take_of_length_le (Nat.le_of_eq hl1.out)])
      go_wp2
      go_ret
      exact ⟨retl_int HF.out.symm, hb⟩

theorem load_conf (c : Cf) (lat tape : List Int) (s1 : 2 ≤ c.slots ∧ c.slots ≤ 6) (s2 : 1 ≤ c.stores ∧ c.stores ≤ 4) (s3 : 1 ≤ c.sets ∧ c.sets ≤ 4) (s4 : 1 ≤ c.ways ∧ c.ways ≤ 2) (hl : c.ln ≤ 200) (ht : c.tn ≤ 200) (w : World) (h : CfAt w c lat tape) :
    Calls Try.prog 82 #[cfV c] w fun e w' => e = .returned (.int .i64 (loadV c lat)) ∧ Below w.heap.size w w' := by
  obtain ⟨mode, width, rob, queue, stores, slots, sets, ways, la, ln, lc, tb, ta, tn, tc⟩ := c
  have hB := Blk.new w 25 (cfL ⟨mode, width, rob, queue, stores, slots, sets, ways, la, ln, lc, tb, ta, tn, tc⟩)
  have hM := fun (d : Nat) (os : Array Obj) => most_conf ⟨mode, width, rob, queue, stores, slots, sets, ways, la, ln, lc, tb, ta, tn, tc⟩ lat tape hl ht _ ((h.below (allocl_below w (.cells (cfL ⟨mode, width, rob, queue, stores, slots, sets, ways, la, ln, lc, tb, ta, tn, tc⟩).toArray 25))).below (below_regrown _ d os))
  have hmr := mostV_range lat
  simp only at s1 s2 s3 s4
  have HV := Lib.hid (show loadV ⟨mode, width, rob, queue, stores, slots, sets, ways, la, ln, lc, tb, ta, tn, tc⟩ lat = (slots + stores + sets * ways + 4) * (mostV lat + 1) from rfl)
  have hsw : 1 ≤ sets * ways ∧ sets * ways ≤ 8 := by
    obtain rfl | rfl : ways = 1 ∨ ways = 2 := by omega
    · omega
    · omega
  obtain ⟨sw, hsw'⟩ : ∃ sw, sets * ways = sw := ⟨_, rfl⟩
  rw [hsw'] at hsw
  obtain ⟨mv, hmv⟩ : ∃ mv, mostV lat = mv := ⟨_, rfl⟩
  rw [hmv] at hmr hM
  have hprod : 16 ≤ (slots + stores + sw + 4) * (mv + 1) ∧ (slots + stores + sw + 4) * (mv + 1) ≤ 198 := by
    have h1 : 8 ≤ slots + stores + sw + 4 ∧ slots + stores + sw + 4 ≤ 22 := by omega
    generalize slots + stores + sw + 4 = x at *
    obtain rfl | rfl | rfl | rfl | rfl | rfl | rfl | rfl : mv = 1 ∨ mv = 2 ∨ mv = 3 ∨ mv = 4 ∨ mv = 5 ∨ mv = 6 ∨ mv = 7 ∨ mv = 8 := by omega
    all_goals omega
  simp only [cfV, cfL] at hB hM ⊢
  have HM := Lib.hid hM
  have Hmv := Lib.hid hmv
  have hb0 := allocl_below w (.cells #[.int .i64 mode, .int .i64 width, .int .i64 rob, .int .i64 queue, .int .i64 stores, .int .i64 slots, .int .i64 sets, .int .i64 ways, .slice la ln lc, .bool tb, .slice ta tn tc] 25)
  obtain ⟨⟨x0, x1, x2, x3, x4, x5, x6, x7, x8, x9, x10⟩, _⟩ := hB.c11
  clear hB hM h hmv
  go_enter Try.func82, Try.ntmps82
  go_wp2_with fail
  generalize w.alloc (.cells #[.int .i64 mode, .int .i64 width, .int .i64 rob, .int .i64 queue, .int .i64 stores, .int .i64 slots, .int .i64 sets, .int .i64 ways, .slice la ln lc, .bool tb, .slice ta tn tc] 25) = w1 at *
  have g0 := fun d os => cell_regrown x0 d os
  have g1 := fun d os => cell_regrown x1 d os
  have g2 := fun d os => cell_regrown x2 d os
  have g3 := fun d os => cell_regrown x3 d os
  have g4 := fun d os => cell_regrown x4 d os
  have g5 := fun d os => cell_regrown x5 d os
  have g6 := fun d os => cell_regrown x6 d os
  have g7 := fun d os => cell_regrown x7 d os
  have g8 := fun d os => cell_regrown x8 d os
  have g9 := fun d os => cell_regrown x9 d os
  have g10 := fun d os => cell_regrown x10 d os
  clear x0 x1 x2 x3 x4 x5 x6 x7 x8 x9 x10
  refine wp_region_quiet_below (by kernel_rfl) (by kernel_rfl) ?_
  repeat (go_big_quiet_step (first
    | (go_at_call 30; exact Calls.regrown_of (HM.out _ _))))
  refine wpQuiet_nil ?_
  intro _ hw'
  obtain ⟨⟨nq, osq⟩, hw''⟩ := hw'
  subst hw''
  have hb := hb0.trans ((below_regrown w1 nq osq).mono hb0.size)
  clear g0 g1 g2 g3 g4 g5 g6 g7 g8 g9 g10 HM
  go_wp2
  go_ret
  exact ⟨retl_int (by rw [HV.out, Hmv.out, hsw']), hb⟩

/-- the bounds -/
def boundV (c : Cf) (lat : List Int) : Int := 60 + (lim c.slots 2 6 + lim c.stores 1 4 + setsOf c.sets * lim c.ways 1 2 + 4) * (mostV lat + 1) * (lim c.stores 1 4 + 3)
def drainV (c : Cf) (lat : List Int) : Int := 60 + 2 * ((lim c.slots 2 6 + lim c.stores 1 4 + setsOf c.sets * lim c.ways 1 2 + 4) * (mostV lat + 1)) * (lim c.stores 1 4 + setsOf c.sets * lim c.ways 1 2 + 2)
theorem setsOf_range (z : Int) : 1 ≤ setsOf z ∧ setsOf z ≤ 4 := by have := lim_range z 1 4 (by omega); unfold setsOf; split <;> omega
theorem bound_conf (c : Cf) (lat tape : List Int) (hl : c.ln ≤ 200) (ht : c.tn ≤ 200) (w : World) (h : CfAt w c lat tape) :
    Calls Try.prog 32 #[cfV c] w fun e w' => e = .returned (.int .i64 (boundV c lat)) ∧ Below w.heap.size w w' := by
  obtain ⟨mode, width, rob, queue, stores, slots, sets, ways, la, ln, lc, tb, ta, tn, tc⟩ := c
  have hC := clean_new ⟨mode, width, rob, queue, stores, slots, sets, ways, la, ln, lc, tb, ta, tn, tc⟩ lat tape hl ht (w.alloc (.cells (cfL ⟨mode, width, rob, queue, stores, slots, sets, ways, la, ln, lc, tb, ta, tn, tc⟩).toArray 25)) (h.below (allocl_below _ _))
  have hB := Blk.new w 25 (cfL ⟨mode, width, rob, queue, stores, slots, sets, ways, la, ln, lc, tb, ta, tn, tc⟩)
  simp only [cfV, cfL] at hC hB ⊢
  have HC := Lib.hid hC
  have hw1 : w.heap.size < (w.alloc (.cells [.int .i64 mode, .int .i64 width, .int .i64 rob, .int .i64 queue, .int .i64 stores, .int .i64 slots, .int .i64 sets, .int .i64 ways, .slice la ln lc, .bool tb, .slice ta tn tc].toArray 25)).heap.size := hB.1
  obtain ⟨⟨x0, x1, x2, x3, x4, x5, x6, x7, x8, x9, x10⟩, _⟩ := hB.c11
  clear hC
  go_enter Try.func32, Try.ntmps32
  go_wp2_with fail
  refine HC.out.mono ?_
  rintro e w2 ⟨la2, lc2, ta2, tc2, rfl, hat, hfr, b⟩
  clear x0 x1 x2 x3 x4 x5 x6 x7 x8 x9 x10
  have hb := allocl_then b
  simp only [cfClean]
  have hX := hB.below b hw1
  have hA1 : ∀ a, la2 = some a → w.heap.size ≠ a.block := fun a ha => by have := hfr.1 a ha; omega
  have hA2 : ∀ a, ta2 = some a → w.heap.size ≠ a.block := fun a ha => by have := hfr.2 a ha; omega
  obtain ⟨n1, hn1⟩ : ∃ n1, min ln 64 = n1 := ⟨_, rfl⟩
  obtain ⟨n2, hn2⟩ : ∃ n2, min tn 64 = n2 := ⟨_, rfl⟩
  have m1 : n1 ≤ 64 := by omega
  have m2 : n2 ≤ 64 := by omega
  unfold CfAt at hat
  simp only [cfClean] at hat
  rw [hn1, hn2] at hat ⊢
  obtain ⟨⟨x0, x1, x2, x3, x4, x5, x6, x7, x8, x9, x10⟩, ⟨z0, z1, z2, z3, z4, z5, z6, z7, z8, z9, z10⟩⟩ := hX.c11
  have q3 := lim_range stores 1 4 (by omega)
  have q4 := lim_range slots 2 6 (by omega)
  have q5 := setsOf_range sets
  have q6 := lim_range ways 1 2 (by omega)
  clear hB b HC hw1 h hn1 hn2 hfr
  go_wp2_with fail
  have hX5 := hX.put11 (v0 := .int .i64 (lim mode 0 2)) (v1 := .int .i64 (lim width 1 2)) (v2 := .int .i64 (lim rob 2 8)) (v3 := .int .i64 (lim queue 1 4)) (v4 := .int .i64 (lim stores 1 4)) (v5 := .int .i64 (lim slots 2 6)) (v6 := .int .i64 (setsOf sets)) (v7 := .int .i64 (lim ways 1 2)) (v8 := .slice la2 n1 lc2) (v9 := .bool tb) (v10 := .slice ta2 n2 tc2)
  have hb5 := below11 (r := w.heap.size) (v0 := .int .i64 (lim mode 0 2)) (v1 := .int .i64 (lim width 1 2)) (v2 := .int .i64 (lim rob 2 8)) (v3 := .int .i64 (lim queue 1 4)) (v4 := .int .i64 (lim stores 1 4)) (v5 := .int .i64 (lim slots 2 6)) (v6 := .int .i64 (setsOf sets)) (v7 := .int .i64 (lim ways 1 2)) (v8 := .slice la2 n1 lc2) (v9 := .bool tb) (v10 := .slice ta2 n2 tc2) hb (Nat.le_refl _)
  have hc5 := hat.2.2
  have hi5 := ints11 (r := w.heap.size) (v0 := .int .i64 (lim mode 0 2)) (v1 := .int .i64 (lim width 1 2)) (v2 := .int .i64 (lim rob 2 8)) (v3 := .int .i64 (lim queue 1 4)) (v4 := .int .i64 (lim stores 1 4)) (v5 := .int .i64 (lim slots 2 6)) (v6 := .int .i64 (setsOf sets)) (v7 := .int .i64 (lim ways 1 2)) (v8 := .slice la2 n1 lc2) (v9 := .bool tb) (v10 := .slice ta2 n2 tc2) hat.1 hA1
  have hj5 := ints11 (r := w.heap.size) (v0 := .int .i64 (lim mode 0 2)) (v1 := .int .i64 (lim width 1 2)) (v2 := .int .i64 (lim rob 2 8)) (v3 := .int .i64 (lim queue 1 4)) (v4 := .int .i64 (lim stores 1 4)) (v5 := .int .i64 (lim slots 2 6)) (v6 := .int .i64 (setsOf sets)) (v7 := .int .i64 (lim ways 1 2)) (v8 := .slice la2 n1 lc2) (v9 := .bool tb) (v10 := .slice ta2 n2 tc2) hat.2.1 hA2
  clear x0 x1 x2 x3 x4 x5 x6 x7 x8 x9 x10 z0 z1 z2 z3 z4 z5 z6 z7 z8 z9 z10 hX hat
  generalize (((((((((((w2.setCell ⟨w.heap.size, 0, none⟩ (.int .i64 (lim mode 0 2))).setCell ⟨w.heap.size, 1, none⟩ (.int .i64 (lim width 1 2))).setCell ⟨w.heap.size, 2, none⟩ (.int .i64 (lim rob 2 8))).setCell ⟨w.heap.size, 3, none⟩ (.int .i64 (lim queue 1 4))).setCell ⟨w.heap.size, 4, none⟩ (.int .i64 (lim stores 1 4))).setCell ⟨w.heap.size, 5, none⟩ (.int .i64 (lim slots 2 6))).setCell ⟨w.heap.size, 6, none⟩ (.int .i64 (setsOf sets))).setCell ⟨w.heap.size, 7, none⟩ (.int .i64 (lim ways 1 2))).setCell ⟨w.heap.size, 8, none⟩ (.slice la2 n1 lc2)).setCell ⟨w.heap.size, 9, none⟩ (.bool tb)).setCell ⟨w.heap.size, 10, none⟩ (.slice ta2 n2 tc2)) = w5 at *
  obtain ⟨ld, hld, l1, l2⟩ : ∃ ld, loadV ⟨lim mode 0 2, lim width 1 2, lim rob 2 8, lim queue 1 4, lim stores 1 4, lim slots 2 6, setsOf sets, lim ways 1 2, la2, n1, lc2, tb, ta2, n2, tc2⟩ (latOf lat) = ld ∧ 16 ≤ ld ∧ ld ≤ 198 := ⟨_, rfl, loadV_range _ _ q4 q3 q5 q6⟩
  have HL := Lib.hid (fun (d : Nat) (os : Array Obj) => load_conf ⟨lim mode 0 2, lim width 1 2, lim rob 2 8, lim queue 1 4, lim stores 1 4, lim slots 2 6, setsOf sets, lim ways 1 2, la2, n1, lc2, tb, ta2, n2, tc2⟩ (latOf lat) (tape.take 64) q4 q3 q5 q6 (show n1 ≤ 200 by omega) (show n2 ≤ 200 by omega) _ (CfAt.below (w := w5) ⟨hi5, hj5, hc5⟩ (below_regrown w5 d os)))
  rw [hld] at HL
  have HV := Lib.hid (show boundV ⟨mode, width, rob, queue, stores, slots, sets, ways, la, ln, lc, tb, ta, tn, tc⟩ lat = 60 + ld * (lim stores 1 4 + 3) by rw [← hld]; unfold boundV loadV mostV; simp only; rw [latOf_twice])
  clear hld
  simp only [cfV] at HL
  obtain ⟨⟨x0, x1, x2, x3, x4, x5, x6, x7, x8, x9, x10⟩, _⟩ := hX5.c11
  obtain ⟨st, hst⟩ : ∃ st, lim stores 1 4 = st := ⟨_, rfl⟩
  obtain ⟨sw, hsw⟩ : ∃ sw, setsOf sets * lim ways 1 2 = sw := ⟨_, rfl⟩
  have hsr : 1 ≤ sw ∧ sw ≤ 8 := by
    rw [← hsw]
    obtain e | e : lim ways 1 2 = 1 ∨ lim ways 1 2 = 2 := by omega
    · rw [e]; omega
    · rw [e]; omega
  rw [hst] at x4 q3 HL HV ⊢
  (try rw [hsw] at HV)
  have hp1 : 64 ≤ ld * (st + 3) ∧ ld * (st + 3) ≤ 1386 := by
    obtain rfl | rfl | rfl | rfl : st = 1 ∨ st = 2 ∨ st = 3 ∨ st = 4 := by omega
    all_goals omega
  have hp2 : 0 ≤ 2 * ld * (st + sw + 2) ∧ 2 * ld * (st + sw + 2) ≤ 5544 := by
    have : 4 ≤ st + sw + 2 ∧ st + sw + 2 ≤ 14 := by omega
    generalize st + sw + 2 = y at *
    obtain rfl | rfl | rfl | rfl | rfl | rfl | rfl | rfl | rfl | rfl | rfl : y = 4 ∨ y = 5 ∨ y = 6 ∨ y = 7 ∨ y = 8 ∨ y = 9 ∨ y = 10 ∨ y = 11 ∨ y = 12 ∨ y = 13 ∨ y = 14 := by omega
    all_goals omega
  have Hst := Lib.hid hst
  clear hst hX5 hi5 hj5 hA1 hA2
  have g0 := fun d os => cell_regrown x0 d os
  have g1 := fun d os => cell_regrown x1 d os
  have g2 := fun d os => cell_regrown x2 d os
  have g3 := fun d os => cell_regrown x3 d os
  have g4 := fun d os => cell_regrown x4 d os
  have g5 := fun d os => cell_regrown x5 d os
  have g6 := fun d os => cell_regrown x6 d os
  have g7 := fun d os => cell_regrown x7 d os
  have g8 := fun d os => cell_regrown x8 d os
  have g9 := fun d os => cell_regrown x9 d os
  have g10 := fun d os => cell_regrown x10 d os
  clear x0 x1 x2 x3 x4 x5 x6 x7 x8 x9 x10
  refine wp_region_quiet_below (by kernel_rfl) (by kernel_rfl) ?_
  repeat (go_big_quiet_step (first
    | (go_at_call 82; exact Calls.regrown_of (HL.out _ _))))
  refine wpQuiet_nil ?_
  intro _ hw'
  obtain ⟨⟨nq, osq⟩, hw''⟩ := hw'
  subst hw''
  have hb9 := hb5.trans ((below_regrown w5 nq osq).mono hb5.size)
  clear g0 g1 g2 g3 g4 g5 g6 g7 g8 g9 g10 HL
  go_wp2
  go_ret
  exact ⟨retl_int HV.out.symm, hb9⟩
theorem drain_conf (c : Cf) (lat tape : List Int) (hl : c.ln ≤ 200) (ht : c.tn ≤ 200) (w : World) (h : CfAt w c lat tape) :
    Calls Try.prog 34 #[cfV c] w fun e w' => e = .returned (.int .i64 (drainV c lat)) ∧ Below w.heap.size w w' := by
  obtain ⟨mode, width, rob, queue, stores, slots, sets, ways, la, ln, lc, tb, ta, tn, tc⟩ := c
  have hC := clean_new ⟨mode, width, rob, queue, stores, slots, sets, ways, la, ln, lc, tb, ta, tn, tc⟩ lat tape hl ht (w.alloc (.cells (cfL ⟨mode, width, rob, queue, stores, slots, sets, ways, la, ln, lc, tb, ta, tn, tc⟩).toArray 25)) (h.below (allocl_below _ _))
  have hB := Blk.new w 25 (cfL ⟨mode, width, rob, queue, stores, slots, sets, ways, la, ln, lc, tb, ta, tn, tc⟩)
  simp only [cfV, cfL] at hC hB ⊢
  have HC := Lib.hid hC
  have hw1 : w.heap.size < (w.alloc (.cells [.int .i64 mode, .int .i64 width, .int .i64 rob, .int .i64 queue, .int .i64 stores, .int .i64 slots, .int .i64 sets, .int .i64 ways, .slice la ln lc, .bool tb, .slice ta tn tc].toArray 25)).heap.size := hB.1
  obtain ⟨⟨x0, x1, x2, x3, x4, x5, x6, x7, x8, x9, x10⟩, _⟩ := hB.c11
  clear hC
  go_enter Try.func34, Try.ntmps34
  go_wp2_with fail
  refine HC.out.mono ?_
  rintro e w2 ⟨la2, lc2, ta2, tc2, rfl, hat, hfr, b⟩
  clear x0 x1 x2 x3 x4 x5 x6 x7 x8 x9 x10
  have hb := allocl_then b
  simp only [cfClean]
  have hX := hB.below b hw1
  have hA1 : ∀ a, la2 = some a → w.heap.size ≠ a.block := fun a ha => by have := hfr.1 a ha; omega
  have hA2 : ∀ a, ta2 = some a → w.heap.size ≠ a.block := fun a ha => by have := hfr.2 a ha; omega
  obtain ⟨n1, hn1⟩ : ∃ n1, min ln 64 = n1 := ⟨_, rfl⟩
  obtain ⟨n2, hn2⟩ : ∃ n2, min tn 64 = n2 := ⟨_, rfl⟩
  have m1 : n1 ≤ 64 := by omega
  have m2 : n2 ≤ 64 := by omega
  unfold CfAt at hat
  simp only [cfClean] at hat
  rw [hn1, hn2] at hat ⊢
  obtain ⟨⟨x0, x1, x2, x3, x4, x5, x6, x7, x8, x9, x10⟩, ⟨z0, z1, z2, z3, z4, z5, z6, z7, z8, z9, z10⟩⟩ := hX.c11
  have q3 := lim_range stores 1 4 (by omega)
  have q4 := lim_range slots 2 6 (by omega)
  have q5 := setsOf_range sets
  have q6 := lim_range ways 1 2 (by omega)
  clear hB b HC hw1 h hn1 hn2 hfr
  go_wp2_with fail
  have hX5 := hX.put11 (v0 := .int .i64 (lim mode 0 2)) (v1 := .int .i64 (lim width 1 2)) (v2 := .int .i64 (lim rob 2 8)) (v3 := .int .i64 (lim queue 1 4)) (v4 := .int .i64 (lim stores 1 4)) (v5 := .int .i64 (lim slots 2 6)) (v6 := .int .i64 (setsOf sets)) (v7 := .int .i64 (lim ways 1 2)) (v8 := .slice la2 n1 lc2) (v9 := .bool tb) (v10 := .slice ta2 n2 tc2)
  have hb5 := below11 (r := w.heap.size) (v0 := .int .i64 (lim mode 0 2)) (v1 := .int .i64 (lim width 1 2)) (v2 := .int .i64 (lim rob 2 8)) (v3 := .int .i64 (lim queue 1 4)) (v4 := .int .i64 (lim stores 1 4)) (v5 := .int .i64 (lim slots 2 6)) (v6 := .int .i64 (setsOf sets)) (v7 := .int .i64 (lim ways 1 2)) (v8 := .slice la2 n1 lc2) (v9 := .bool tb) (v10 := .slice ta2 n2 tc2) hb (Nat.le_refl _)
  have hc5 := hat.2.2
  have hi5 := ints11 (r := w.heap.size) (v0 := .int .i64 (lim mode 0 2)) (v1 := .int .i64 (lim width 1 2)) (v2 := .int .i64 (lim rob 2 8)) (v3 := .int .i64 (lim queue 1 4)) (v4 := .int .i64 (lim stores 1 4)) (v5 := .int .i64 (lim slots 2 6)) (v6 := .int .i64 (setsOf sets)) (v7 := .int .i64 (lim ways 1 2)) (v8 := .slice la2 n1 lc2) (v9 := .bool tb) (v10 := .slice ta2 n2 tc2) hat.1 hA1
  have hj5 := ints11 (r := w.heap.size) (v0 := .int .i64 (lim mode 0 2)) (v1 := .int .i64 (lim width 1 2)) (v2 := .int .i64 (lim rob 2 8)) (v3 := .int .i64 (lim queue 1 4)) (v4 := .int .i64 (lim stores 1 4)) (v5 := .int .i64 (lim slots 2 6)) (v6 := .int .i64 (setsOf sets)) (v7 := .int .i64 (lim ways 1 2)) (v8 := .slice la2 n1 lc2) (v9 := .bool tb) (v10 := .slice ta2 n2 tc2) hat.2.1 hA2
  clear x0 x1 x2 x3 x4 x5 x6 x7 x8 x9 x10 z0 z1 z2 z3 z4 z5 z6 z7 z8 z9 z10 hX hat
  generalize (((((((((((w2.setCell ⟨w.heap.size, 0, none⟩ (.int .i64 (lim mode 0 2))).setCell ⟨w.heap.size, 1, none⟩ (.int .i64 (lim width 1 2))).setCell ⟨w.heap.size, 2, none⟩ (.int .i64 (lim rob 2 8))).setCell ⟨w.heap.size, 3, none⟩ (.int .i64 (lim queue 1 4))).setCell ⟨w.heap.size, 4, none⟩ (.int .i64 (lim stores 1 4))).setCell ⟨w.heap.size, 5, none⟩ (.int .i64 (lim slots 2 6))).setCell ⟨w.heap.size, 6, none⟩ (.int .i64 (setsOf sets))).setCell ⟨w.heap.size, 7, none⟩ (.int .i64 (lim ways 1 2))).setCell ⟨w.heap.size, 8, none⟩ (.slice la2 n1 lc2)).setCell ⟨w.heap.size, 9, none⟩ (.bool tb)).setCell ⟨w.heap.size, 10, none⟩ (.slice ta2 n2 tc2)) = w5 at *
  obtain ⟨ld, hld, l1, l2⟩ : ∃ ld, loadV ⟨lim mode 0 2, lim width 1 2, lim rob 2 8, lim queue 1 4, lim stores 1 4, lim slots 2 6, setsOf sets, lim ways 1 2, la2, n1, lc2, tb, ta2, n2, tc2⟩ (latOf lat) = ld ∧ 16 ≤ ld ∧ ld ≤ 198 := ⟨_, rfl, loadV_range _ _ q4 q3 q5 q6⟩
  have HL := Lib.hid (fun (d : Nat) (os : Array Obj) => load_conf ⟨lim mode 0 2, lim width 1 2, lim rob 2 8, lim queue 1 4, lim stores 1 4, lim slots 2 6, setsOf sets, lim ways 1 2, la2, n1, lc2, tb, ta2, n2, tc2⟩ (latOf lat) (tape.take 64) q4 q3 q5 q6 (show n1 ≤ 200 by omega) (show n2 ≤ 200 by omega) _ (CfAt.below (w := w5) ⟨hi5, hj5, hc5⟩ (below_regrown w5 d os)))
  rw [hld] at HL
  have HV := Lib.hid (show drainV ⟨mode, width, rob, queue, stores, slots, sets, ways, la, ln, lc, tb, ta, tn, tc⟩ lat = 60 + 2 * ld * (lim stores 1 4 + setsOf sets * lim ways 1 2 + 2) by rw [← hld]; unfold drainV loadV mostV; simp only; rw [latOf_twice])
  clear hld
  simp only [cfV] at HL
  obtain ⟨⟨x0, x1, x2, x3, x4, x5, x6, x7, x8, x9, x10⟩, _⟩ := hX5.c11
  obtain ⟨st, hst⟩ : ∃ st, lim stores 1 4 = st := ⟨_, rfl⟩
  obtain ⟨sw, hsw⟩ : ∃ sw, setsOf sets * lim ways 1 2 = sw := ⟨_, rfl⟩
  have hsr : 1 ≤ sw ∧ sw ≤ 8 := by
    rw [← hsw]
    obtain e | e : lim ways 1 2 = 1 ∨ lim ways 1 2 = 2 := by omega
    · rw [e]; omega
    · rw [e]; omega
  rw [hst] at x4 q3 HL HV ⊢
  (try rw [hsw] at HV)
  have hp1 : 64 ≤ ld * (st + 3) ∧ ld * (st + 3) ≤ 1386 := by
    obtain rfl | rfl | rfl | rfl : st = 1 ∨ st = 2 ∨ st = 3 ∨ st = 4 := by omega
    all_goals omega
  have hp2 : 0 ≤ 2 * ld * (st + sw + 2) ∧ 2 * ld * (st + sw + 2) ≤ 5544 := by
    have : 4 ≤ st + sw + 2 ∧ st + sw + 2 ≤ 14 := by omega
    generalize st + sw + 2 = y at *
    obtain rfl | rfl | rfl | rfl | rfl | rfl | rfl | rfl | rfl | rfl | rfl : y = 4 ∨ y = 5 ∨ y = 6 ∨ y = 7 ∨ y = 8 ∨ y = 9 ∨ y = 10 ∨ y = 11 ∨ y = 12 ∨ y = 13 ∨ y = 14 := by omega
    all_goals omega
  have Hst := Lib.hid hst
  clear hst hX5 hi5 hj5 hA1 hA2
  have g0 := fun d os => cell_regrown x0 d os
  have g1 := fun d os => cell_regrown x1 d os
  have g2 := fun d os => cell_regrown x2 d os
  have g3 := fun d os => cell_regrown x3 d os
  have g4 := fun d os => cell_regrown x4 d os
  have g5 := fun d os => cell_regrown x5 d os
  have g6 := fun d os => cell_regrown x6 d os
  have g7 := fun d os => cell_regrown x7 d os
  have g8 := fun d os => cell_regrown x8 d os
  have g9 := fun d os => cell_regrown x9 d os
  have g10 := fun d os => cell_regrown x10 d os
  clear x0 x1 x2 x3 x4 x5 x6 x7 x8 x9 x10
  refine wp_region_quiet_below (by kernel_rfl) (by kernel_rfl) ?_
  repeat (go_big_quiet_step (first
    | (go_at_call 82; exact Calls.regrown_of (HL.out _ _))))
  refine wpQuiet_nil ?_
  intro _ hw'
  obtain ⟨⟨nq, osq⟩, hw''⟩ := hw'
  subst hw''
  have hb9 := hb5.trans ((below_regrown w5 nq osq).mono hb5.size)
  clear g0 g1 g2 g3 g4 g5 g6 g7 g8 g9 g10 HL
  go_wp2
  go_ret
  exact ⟨retl_int HV.out.symm, hb9⟩

end Go.Proofs.Ytebeelphilfjhaa
