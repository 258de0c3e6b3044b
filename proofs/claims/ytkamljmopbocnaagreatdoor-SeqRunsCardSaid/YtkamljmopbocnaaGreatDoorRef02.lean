/- THE CONTRACTS of the reference of layer 2: it reads a word as Decode does. -/
import Derived.Test.YtkamljmopbocnaaGreatDoorRef02M
namespace Go.Proofs.YtkamljmopbocnaaGreatDoor
open Go.ChangeShapes Go.WideShapes Go.ChangeAt Go.RowKit
set_option maxRecDepth 100000

set_option maxHeartbeats 2000000
theorem refF_any (w a b n : Int) (hw : 0 ≤ w) (h0 : 0 ≤ a) (h1 : a ≤ b) (h2 : b ≤ 31) (hn : b - a + 1 = n) (W : World) :
    Calls Tryz.prog 42 #[.int .u32 w, .int .i64 a, .int .i64 b] W fun e w' => e = .returned (.int .u32 (fld w a n : Nat)) ∧ Below W.heap.size W w' := by
  have HN := Lib.hid hn
  clear hn
  go_enter Tryz.func42, Tryz.ntmps42
  go_wp2_with fail
  rw [HN.out]
  go_at_call 47
  refine (refField_any _ _ _ hw _).mono ?_
  rintro e w1 ⟨rfl, b1⟩
  go_wp2
  go_ret
  exact ⟨rfl, b1⟩

theorem pick_any (xs : List Int) (n : Int) (b cap : Nat) (W : World) (hn : 0 ≤ n ∧ n < 4294967296) (_hl : xs.length ≤ 8) (hc : ∀ j u, xs[j]? = some u → W.cell? ⟨b, j, none⟩ = some (.int .i64 u)) :
    Calls Tryz.prog 69 #[.slice (some ⟨b, 0, none⟩) xs.length cap, .int .u32 n] W fun e w' => e = .returned (.int .i64 (xs.getD n.toNat 0)) ∧ W = w' := by
  obtain ⟨N, rfl⟩ := Int.eq_ofNat_of_zero_le hn.1
  simp only [Int.toNat_natCast]
  by_cases h : N < xs.length
  · have hN : N < 4294967296 := by omega
    have hcell := hc N xs[N] (List.getElem?_eq_getElem h)
    have G := Lib.hid (show xs.getD N 0 = xs[N] by rw [List.getD_eq_getElem?_getD, List.getElem?_eq_getElem h]; rfl)
    clear hc hn
    generalize xs[N] = v at *
    go_enter Tryz.func69, Tryz.ntmps69
    go_wp2
    go_ret
    exact ⟨ret_int G.out.symm, rfl⟩
  · have G := Lib.hid (show xs.getD N 0 = 0 by rw [List.getD_eq_getElem?_getD, List.getElem?_eq_none (by omega)]; rfl)
    clear hc
    go_enter Tryz.func69, Tryz.ntmps69
    go_wp2
    go_ret
    exact ⟨ret_int G.out.symm, rfl⟩

/-- the cells of a slice that was just laid -/
theorem laid_cells (w : World) (t : TypeId) (xs : List Int) : ∀ j u, xs[j]? = some u → (w.alloc (.cells (xs.map (Value.int .i64)).toArray t)).cell? ⟨w.heap.size, j, none⟩ = some (.int .i64 u) := by
  intro j u h
  rw [World.cell?_alloc_at _ _ _ _ rfl]
  simp [h]

theorem reg_any (f3 f7 : Int) (h3 : 0 ≤ f3 ∧ f3 < 4294967296) (W : World) :
    Calls Tryz.prog 71 #[.int .u32 f3, .int .u32 f7] W fun e w' => e = .returned (.int .i64 (regI f3 f7)) ∧ Below W.heap.size W w' := by
  go_enter Tryz.func71, Tryz.ntmps71
  go_wp2_with (first
    | (go_at_call 69; refine (pick_any [28, 30, 31, 32, 33, 34, 36, 37] _ _ 8 _ (by first | assumption | exact ⟨by omega, Int.ofNat_lt.2 (fld_lt _ _ _)⟩) (by decide) (laid_cells _ 3 [28, 30, 31, 32, 33, 34, 36, 37])).mono ?_; rintro e w' ⟨rfl, rfl⟩)
    | (go_at_call 69; refine (pick_any [38, 39, 40, 41, 42, 43, 44, 45] _ _ 8 _ (by first | assumption | exact ⟨by omega, Int.ofNat_lt.2 (fld_lt _ _ _)⟩) (by decide) (laid_cells _ 3 [38, 39, 40, 41, 42, 43, 44, 45])).mono ?_; rintro e w' ⟨rfl, rfl⟩))
  all_goals go_ret
  all_goals refine ⟨ret_int ?_, ?_⟩
  all_goals first
    | exact Below.refl _ _
    | exact (Below.refl _ _).alloc (Nat.le_refl _) _
    | (simp_all [regI]; done)
theorem imm_any (f3 f7 : Int) (h3 : 0 ≤ f3 ∧ f3 < 4294967296) (W : World) :
    Calls Tryz.prog 70 #[.int .u32 f3, .int .u32 f7] W fun e w' => e = .returned (.int .i64 (immI f3 f7)) ∧ Below W.heap.size W w' := by
  go_enter Tryz.func70, Tryz.ntmps70
  go_wp2_with (go_at_call 69; refine (pick_any [19, 0, 20, 21, 22, 0, 23, 24] _ _ 8 _ (by first | assumption | exact ⟨by omega, Int.ofNat_lt.2 (fld_lt _ _ _)⟩) (by decide) (laid_cells _ 3 [19, 0, 20, 21, 22, 0, 23, 24])).mono ?_; rintro e w' ⟨rfl, rfl⟩)
  all_goals go_ret
  all_goals refine ⟨ret_int ?_, ?_⟩
  all_goals first
    | exact Below.refl _ _
    | exact (Below.refl _ _).alloc (Nat.le_refl _) _
    | (simp_all [immI]; done)

theorem op_any (w : Int) (hw : 0 ≤ w) (W : World) :
    Calls Tryz.prog 39 #[.int .u32 w] W fun e w' => e = .returned (.int .i64 (opI w)) ∧ Below W.heap.size W w' := by
  have HW := Lib.hid hw
  clear hw
  go_enter Tryz.func39, Tryz.ntmps39
  go_wp2_with fail
  go_at_call 42
  refine (refF_any w 12 14 3 HW.out (by decide) (by decide) (by decide) rfl _).mono ?_
  rintro e w1 ⟨rfl, b1⟩
  have HB := Lib.hid b1
  clear b1
  go_wp2_with fail
  go_at_call 42
  refine (refF_any w 25 31 7 HW.out (by decide) (by decide) (by decide) rfl _).mono ?_
  rintro e w2 ⟨rfl, b2⟩
  have HB := Lib.hid (HB.out.trans (b2.mono HB.out.size))
  clear b2
  have r3 : 0 ≤ ((fld w 12 3 : Nat) : Int) ∧ ((fld w 12 3 : Nat) : Int) < 4294967296 := ⟨by omega, Int.ofNat_lt.2 (fld_lt _ _ _)⟩
  obtain ⟨f3, h3⟩ : ∃ f, f = ((fld w 12 3 : Nat) : Int) := ⟨_, rfl⟩
  obtain ⟨f7, h7⟩ : ∃ f, f = ((fld w 25 7 : Nat) : Int) := ⟨_, rfl⟩
  rw [← h3, ← h7]
  rw [← h3] at r3
  have HO := Lib.hid (show opI w = if w = 15 then 46 else if w = 115 then 47 else if w = 1048691 then 48 else opC (fld w 0 7 : Nat) f3 f7 by rw [h3, h7]; rfl)
  clear h3 h7
  by_cases q1 : w = 15
  · have G := Lib.hid (show opI w = 46 by rw [HO.out, if_pos q1])
    have z : (w == 15) = true := by simpa using q1
    clear q1
    go_wp2
    go_ret
    exact ⟨ret_int G.out.symm, HB.out⟩
  have z1 : (w == 15) = false := by simpa using q1
  by_cases q2 : w = 115
  · have G := Lib.hid (show opI w = 47 by rw [HO.out, if_neg q1, if_pos q2])
    have z : (w == 115) = true := by simpa using q2
    clear q1 q2
    go_wp2
    go_ret
    exact ⟨ret_int G.out.symm, HB.out⟩
  have z2 : (w == 115) = false := by simpa using q2
  by_cases q3 : w = 1048691
  · have G := Lib.hid (show opI w = 48 by rw [HO.out, if_neg q1, if_neg q2, if_pos q3])
    have z : (w == 1048691) = true := by simpa using q3
    clear q1 q2 q3
    go_wp2
    go_ret
    exact ⟨ret_int G.out.symm, HB.out⟩
  have z3 : (w == 1048691) = false := by simpa using q3
  have G := Lib.hid (show opI w = opC (fld w 0 7 : Nat) f3 f7 by rw [HO.out, if_neg q1, if_neg q2, if_neg q3])
  clear q1 q2 q3 HO
  go_wp2_with fail
  go_at_call 42
  refine (refF_any w 0 6 7 HW.out (by decide) (by decide) (by decide) rfl _).mono ?_
  rintro e w3 ⟨rfl, b3⟩
  have HB := Lib.hid (HB.out.trans (b3.mono HB.out.size))
  clear b3
  generalize ((fld w 0 7 : Nat) : Int) = c at *
  clear z1 z2 z3
  by_cases q55 : c = 55
  · subst q55
    go_wp2
    go_ret
    exact ⟨ret_int (by rw [G.out]; rfl), HB.out⟩
  have z55 : (c == 55) = false := by simpa using q55
  replace q55 := Lib.hid q55
  by_cases q23 : c = 23
  · subst q23
    go_wp2
    go_ret
    exact ⟨ret_int (by rw [G.out]; rfl), HB.out⟩
  have z23 : (c == 23) = false := by simpa using q23
  replace q23 := Lib.hid q23
  by_cases q111 : c = 111
  · subst q111
    go_wp2
    go_ret
    exact ⟨ret_int (by rw [G.out]; rfl), HB.out⟩
  have z111 : (c == 111) = false := by simpa using q111
  replace q111 := Lib.hid q111
  by_cases q103 : c = 103
  · subst q103
    go_wp2_with (go_at_call 69; refine (pick_any [4] _ _ 1 _ r3 (by decide) (laid_cells _ 3 [4])).mono ?_; rintro e w' ⟨rfl, rfl⟩)
    go_ret
    exact ⟨ret_int (by rw [G.out]; rfl), HB.out.alloc HB.out.size _⟩
  have z103 : (c == 103) = false := by simpa using q103
  replace q103 := Lib.hid q103
  by_cases q99 : c = 99
  · subst q99
    go_wp2_with (go_at_call 69; refine (pick_any [5, 6, 0, 0, 7, 8, 9, 10] _ _ 8 _ r3 (by decide) (laid_cells _ 3 [5, 6, 0, 0, 7, 8, 9, 10])).mono ?_; rintro e w' ⟨rfl, rfl⟩)
    go_ret
    exact ⟨ret_int (by rw [G.out]; rfl), HB.out.alloc HB.out.size _⟩
  have z99 : (c == 99) = false := by simpa using q99
  replace q99 := Lib.hid q99
  by_cases q3 : c = 3
  · subst q3
    go_wp2_with (go_at_call 69; refine (pick_any [11, 12, 13, 0, 14, 15] _ _ 6 _ r3 (by decide) (laid_cells _ 3 [11, 12, 13, 0, 14, 15])).mono ?_; rintro e w' ⟨rfl, rfl⟩)
    go_ret
    exact ⟨ret_int (by rw [G.out]; rfl), HB.out.alloc HB.out.size _⟩
  have z3 : (c == 3) = false := by simpa using q3
  replace q3 := Lib.hid q3
  by_cases q35 : c = 35
  · subst q35
    go_wp2_with (go_at_call 69; refine (pick_any [16, 17, 18] _ _ 3 _ r3 (by decide) (laid_cells _ 3 [16, 17, 18])).mono ?_; rintro e w' ⟨rfl, rfl⟩)
    go_ret
    exact ⟨ret_int (by rw [G.out]; rfl), HB.out.alloc HB.out.size _⟩
  have z35 : (c == 35) = false := by simpa using q35
  replace q35 := Lib.hid q35
  by_cases q19 : c = 19
  · subst q19
    go_wp2_with (go_at_call 70; refine (imm_any _ _ r3 _).mono ?_; rintro e w' ⟨rfl, b'⟩)
    go_ret
    exact ⟨ret_int (by rw [G.out]; rfl), HB.out.trans (b'.mono HB.out.size)⟩
  have z19 : (c == 19) = false := by simpa using q19
  replace q19 := Lib.hid q19
  by_cases q51 : c = 51
  · subst q51
    go_wp2_with (go_at_call 71; refine (reg_any _ _ r3 _).mono ?_; rintro e w' ⟨rfl, b'⟩)
    go_ret
    exact ⟨ret_int (by rw [G.out]; rfl), HB.out.trans (b'.mono HB.out.size)⟩
  have z51 : (c == 51) = false := by simpa using q51
  replace q51 := Lib.hid q51
  go_wp2
  go_ret
  refine ⟨ret_int ?_, HB.out⟩
  rw [G.out]
  unfold opC
  rw [if_neg q55.out, if_neg q23.out, if_neg q111.out, if_neg q103.out, if_neg q99.out, if_neg q3.out, if_neg q35.out, if_neg q19.out, if_neg q51.out]

/-- the letter of a form -/
def letF (form : Int) : Int := [82, 73, 84, 83, 66, 85, 74, 87].getD form.toNat 0
def formB (o : Int) : Int := if o = 1 ∨ o = 2 then 85 else if o = 3 then 74 else if 5 ≤ o ∧ o ≤ 10 then 66 else if 16 ≤ o ∧ o ≤ 18 then 83 else if 25 ≤ o ∧ o ≤ 27 then 84 else if 46 ≤ o then 87 else if o = 4 ∨ (11 ≤ o ∧ o ≤ 15) ∨ (19 ≤ o ∧ o ≤ 24) then 73 else 82
theorem letters : ∀ r ∈ rows48, formB r.1 = letF r.2.1 := by decide +kernel
theorem form_lit (o : Nat) (h1 : 1 ≤ o) (h2 : o ≤ 48) (W : World) : Calls Tryz.prog 40 #[.int .i64 (o : Int)] W fun e w' => e = .returned (.int .u8 (formB o)) ∧ W = w' := by
  have ho : o = 1 ∨ o = 2 ∨ o = 3 ∨ o = 4 ∨ o = 5 ∨ o = 6 ∨ o = 7 ∨ o = 8 ∨ o = 9 ∨ o = 10 ∨ o = 11 ∨ o = 12 ∨ o = 13 ∨ o = 14 ∨ o = 15 ∨ o = 16 ∨ o = 17 ∨ o = 18 ∨ o = 19 ∨ o = 20 ∨ o = 21 ∨ o = 22 ∨ o = 23 ∨ o = 24 ∨ o = 25 ∨ o = 26 ∨ o = 27 ∨ o = 28 ∨ o = 29 ∨ o = 30 ∨ o = 31 ∨ o = 32 ∨ o = 33 ∨ o = 34 ∨ o = 35 ∨ o = 36 ∨ o = 37 ∨ o = 38 ∨ o = 39 ∨ o = 40 ∨ o = 41 ∨ o = 42 ∨ o = 43 ∨ o = 44 ∨ o = 45 ∨ o = 46 ∨ o = 47 ∨ o = 48 := by omega
  clear h1 h2
  rcases ho with rfl | rfl | rfl | rfl | rfl | rfl | rfl | rfl | rfl | rfl | rfl | rfl | rfl | rfl | rfl | rfl | rfl | rfl | rfl | rfl | rfl | rfl | rfl | rfl | rfl | rfl | rfl | rfl | rfl | rfl | rfl | rfl | rfl | rfl | rfl | rfl | rfl | rfl | rfl | rfl | rfl | rfl | rfl | rfl | rfl | rfl | rfl | rfl
  all_goals
    go_enter Tryz.func40, Tryz.ntmps40
    go_wp2
    go_ret
    exact ⟨rfl, rfl⟩

end Go.Proofs.YtkamljmopbocnaaGreatDoor
