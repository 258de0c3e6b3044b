import Derived.Test.YtaokhegbfaokdaaDoorInstRng
import Derived.WalkLawsBesides
/- THE MATHEMATICS of the reference of layer 2: fields that are added up are the gathered ones; the operation by its fields. -/
namespace Go.Proofs.YtaokhegbfaokdaaDoor
open Go.ChangeShapes Go.WideShapes Go.ChangeAt Go.RowKit
set_option maxRecDepth 100000

set_option linter.unusedSimpArgs false
theorem stw_add (x v : Nat) (i n : Int) (hf : fitsB i n = true) (hx : x < 2 ^ i.toNat) (hv : v < 2 ^ n.toNat) : stw (x : Int) i n (v : Int) = 2 ^ i.toNat * v + x := by
  have hq := fitsB_iff.1 hf
  unfold stw
  rw [hf, cond_true]
  simp only [Int.toNat_natCast]
  symm
  refine eq_mk fun k => ?_
  rw [Nat.testBit_two_pow_mul_add _ hx]
  unfold stb
  by_cases h1 : k < i.toNat
  · simp [h1, show k < 32 by omega, show ¬ i.toNat ≤ k by omega]
  · by_cases h2 : k < i.toNat + n.toNat
    · simp [h1, h2, show k < 32 by omega, show i.toNat ≤ k by omega]
    · have z1 : v.testBit (k - i.toNat) = false := Nat.testBit_lt_two_pow (Nat.lt_of_lt_of_le hv (Nat.pow_le_pow_right (by omega) (by omega)))
      have z2 : x.testBit k = false := Nat.testBit_lt_two_pow (Nat.lt_of_lt_of_le hx (Nat.pow_le_pow_right (by omega) (by omega)))
      simp [h1, h2, z1, z2]
theorem fld_lt2 (a i n : Int) : fld a i n < 2 ^ n.toNat := by
  unfold fld
  cases h : fitsB i n
  · exact Nat.two_pow_pos _
  · exact mk_lt _ _
theorem gth_one (a p s : Int) (hs : 1 ≤ s ∧ s ≤ 32) : gth a [(p, s)] = (fld a p s : Nat) := by
  rw [gth1]
  have := stw_add 0 (fld a p s) 0 s (by simpa [fitsB] using hs) (by simp) (fld_lt2 a p s)
  simp at this
  exact congrArg Int.ofNat this
theorem g_s (a : Int) : gth a [(7, 5), (25, 7)] = ((fld a 7 5 + 32 * fld a 25 7 : Nat) : Int) := by
  have h1 := gth_one a 7 5 (by omega)
  rw [gth1] at h1
  rw [gth2, h1]
  have b1 := fld_lt2 a 7 5
  have := stw_add (fld a 7 5) (fld a 25 7) (0 + 5) 7 (by decide) (by simpa using b1) (fld_lt2 a 25 7)
  rw [this]
  simp
  omega
theorem g_b (a : Int) : gth a [(8, 4), (25, 6), (7, 1), (31, 1)] = ((fld a 8 4 + 16 * fld a 25 6 + 1024 * fld a 7 1 + 2048 * fld a 31 1 : Nat) : Int) := by
  have h1 := gth_one a 8 4 (by omega)
  rw [gth1] at h1
  rw [gth4, h1]
  have b1 := fld_lt2 a 8 4
  have b2 := fld_lt2 a 25 6
  have b3 := fld_lt2 a 7 1
  have b4 := fld_lt2 a 31 1
  simp only [show (4 : Int).toNat = 4 from rfl, show (6 : Int).toNat = 6 from rfl, show (1 : Int).toNat = 1 from rfl, show (1 : Int).toNat = 1 from rfl] at b1 b2 b3 b4
  have e1 := stw_add (fld a 8 4) (fld a 25 6) (0 + 4) 6 (by decide) (by simpa using b1) (by simpa using b2)
  rw [e1]
  have e2 := stw_add (2 ^ ((0 + 4 : Int)).toNat * fld a 25 6 + fld a 8 4) (fld a 7 1) (0 + 4 + 6) 1 (by decide) (by simp; omega) (by simpa using b3)
  rw [e2]
  have e3 := stw_add (2 ^ ((0 + 4 + 6 : Int)).toNat * fld a 7 1 + (2 ^ ((0 + 4 : Int)).toNat * fld a 25 6 + fld a 8 4)) (fld a 31 1) (0 + 4 + 6 + 1) 1 (by decide) (by simp; omega) (by simpa using b4)
  rw [e3]
  simp
  omega
theorem g_j (a : Int) : gth a [(21, 10), (20, 1), (12, 8), (31, 1)] = ((fld a 21 10 + 1024 * fld a 20 1 + 2048 * fld a 12 8 + 524288 * fld a 31 1 : Nat) : Int) := by
  have h1 := gth_one a 21 10 (by omega)
  rw [gth1] at h1
  rw [gth4, h1]
  have b1 := fld_lt2 a 21 10
  have b2 := fld_lt2 a 20 1
  have b3 := fld_lt2 a 12 8
  have b4 := fld_lt2 a 31 1
  simp only [show (10 : Int).toNat = 10 from rfl, show (1 : Int).toNat = 1 from rfl, show (8 : Int).toNat = 8 from rfl, show (1 : Int).toNat = 1 from rfl] at b1 b2 b3 b4
  have e1 := stw_add (fld a 21 10) (fld a 20 1) (0 + 10) 1 (by decide) (by simpa using b1) (by simpa using b2)
  rw [e1]
  have e2 := stw_add (2 ^ ((0 + 10 : Int)).toNat * fld a 20 1 + fld a 21 10) (fld a 12 8) (0 + 10 + 1) 8 (by decide) (by simp; omega) (by simpa using b3)
  rw [e2]
  have e3 := stw_add (2 ^ ((0 + 10 + 1 : Int)).toNat * fld a 12 8 + (2 ^ ((0 + 10 : Int)).toNat * fld a 20 1 + fld a 21 10)) (fld a 31 1) (0 + 10 + 1 + 8) 1 (by decide) (by simp; omega) (by simpa using b4)
  rw [e3]
  simp
  omega

/-- the operation of a register form, of a number's form, of any word, as the document's table has it -/
def regI (f3 f7 : Int) : Int := if f7 = 0 then [28, 30, 31, 32, 33, 34, 36, 37].getD f3.toNat 0 else if f7 = 1 then [38, 39, 40, 41, 42, 43, 44, 45].getD f3.toNat 0 else if f7 = 32 ∧ f3 = 0 then 29 else if f7 = 32 ∧ f3 = 5 then 35 else 0
def immI (f3 f7 : Int) : Int := if f3 = 1 then (if f7 = 0 then 25 else 0) else if f3 = 5 then (if f7 = 0 then 26 else if f7 = 32 then 27 else 0) else [19, 0, 20, 21, 22, 0, 23, 24].getD f3.toNat 0
def opC (c f3 f7 : Int) : Int := if c = 55 then 1 else if c = 23 then 2 else if c = 111 then 3 else if c = 103 then [4].getD f3.toNat 0 else if c = 99 then [5, 6, 0, 0, 7, 8, 9, 10].getD f3.toNat 0 else
  if c = 3 then [11, 12, 13, 0, 14, 15].getD f3.toNat 0 else if c = 35 then [16, 17, 18].getD f3.toNat 0 else if c = 19 then immI f3 f7 else if c = 51 then regI f3 f7 else 0
def opI (w : Int) : Int := if w = 15 then 46 else if w = 115 then 47 else if w = 1048691 then 48 else opC (fld w 0 7 : Nat) (fld w 12 3 : Nat) (fld w 25 7 : Nat)

def selO (c f3 f7 : Int) : Int := if selB c f3 f7 = true then (selR c f3 f7).1 else 0
theorem selO_eq (c f3 f7 : Int) : selO c f3 f7 = ((rowsL.find? (hits c f3 f7)).getD (0, 0, 0, 0, 0)).1 := by
  unfold selO selB selR
  cases rowsL.find? (hits c f3 f7) <;> simp

theorem opC_sel (c f3 f7 : Int) (h3 : 0 ≤ f3 ∧ f3 < 8) : opC c f3 f7 = selO c (f3Of c f3) (f7Of c f3 f7) := by
  have hf : f3 = 0 ∨ f3 = 1 ∨ f3 = 2 ∨ f3 = 3 ∨ f3 = 4 ∨ f3 = 5 ∨ f3 = 6 ∨ f3 = 7 := by omega
  by_cases c55 : c = 55
  · subst c55; rfl
  by_cases c23 : c = 23
  · subst c23; rfl
  by_cases c111 : c = 111
  · subst c111; rfl
  by_cases c103 : c = 103
  · subst c103; rcases hf with rfl | rfl | rfl | rfl | rfl | rfl | rfl | rfl <;> rfl
  by_cases c99 : c = 99
  · subst c99; rcases hf with rfl | rfl | rfl | rfl | rfl | rfl | rfl | rfl <;> rfl
  by_cases c3 : c = 3
  · subst c3; rcases hf with rfl | rfl | rfl | rfl | rfl | rfl | rfl | rfl <;> rfl
  by_cases c35 : c = 35
  · subst c35; rcases hf with rfl | rfl | rfl | rfl | rfl | rfl | rfl | rfl <;> rfl
  have hfz : f7 = 0 ∨ f7 = 1 ∨ f7 = 32 ∨ (f7 ≠ 0 ∧ f7 ≠ 1 ∧ f7 ≠ 32) := by omega
  by_cases c19 : c = 19
  · subst c19
    rcases hf with rfl | rfl | rfl | rfl | rfl | rfl | rfl | rfl
    · rfl
    · rcases hfz with rfl | rfl | rfl | ⟨n0, n1, n2⟩
      · rfl
      · rfl
      · rfl
      · rw [selO_eq]
        have e : f7Of 19 1 f7 = f7 := rfl
        rw [e]
        simp [opC, immI, n0, rowsL, hits, f3Of, Ne.symm n0, Ne.symm n2]
    · rfl
    · rfl
    · rfl
    · rcases hfz with rfl | rfl | rfl | ⟨n0, n1, n2⟩
      · rfl
      · rfl
      · rfl
      · rw [selO_eq]
        have e : f7Of 19 5 f7 = f7 := rfl
        rw [e]
        simp [opC, immI, n0, n2, rowsL, hits, f3Of, Ne.symm n0, Ne.symm n2]
    · rfl
    · rfl
  by_cases c51 : c = 51
  · subst c51
    rcases hfz with rfl | rfl | rfl | ⟨n0, n1, n2⟩
    · rcases hf with rfl | rfl | rfl | rfl | rfl | rfl | rfl | rfl <;> rfl
    · rcases hf with rfl | rfl | rfl | rfl | rfl | rfl | rfl | rfl <;> rfl
    · rcases hf with rfl | rfl | rfl | rfl | rfl | rfl | rfl | rfl <;> rfl
    · rw [selO_eq]
      have e : f7Of 51 f3 f7 = f7 := by simp [f7Of]
      rw [e]
      simp [opC, regI, n0, n1, n2, rowsL, hits, f3Of, Ne.symm n0, Ne.symm n1, Ne.symm n2]
  rw [selO_eq]
  simp [opC, rowsL, hits, f3Of, f7Of, c55, c23, c111, c103, c99, c3, c35, c19, c51, Ne.symm c55, Ne.symm c23, Ne.symm c111, Ne.symm c103, Ne.symm c99, Ne.symm c3, Ne.symm c35, Ne.symm c19, Ne.symm c51]

theorem op_eq (w : Int) : opI w = if chB w = true then (chR w).1 else 0 := by
  unfold opI
  by_cases h1 : w = 15
  · subst h1; rw [if_pos rfl]; decide +kernel
  by_cases h2 : w = 115
  · subst h2; rw [if_neg (by decide), if_pos rfl]; decide +kernel
  by_cases h3 : w = 1048691
  · subst h3; rw [if_neg (by decide), if_neg (by decide), if_pos rfl]; decide +kernel
  rw [if_neg h1, if_neg h2, if_neg h3, opC_sel _ _ _ (by have := fld_lt2 w 12 3; simp at this; omega)]
  have hR : chR w = selR (cOf w) (f3Of (cOf w) (fld w 12 3 : Nat)) (f7Of (cOf w) (fld w 12 3 : Nat) (fld w 25 7 : Nat)) := by
    unfold chR; rw [if_neg h1, if_neg h2, if_neg h3]
  have hB : chB w = selB (cOf w) (f3Of (cOf w) (fld w 12 3 : Nat)) (f7Of (cOf w) (fld w 12 3 : Nat) (fld w 25 7 : Nat)) := by
    unfold chB; rw [if_neg (by omega)]
  rw [hR, hB]
  rfl

end Go.Proofs.YtaokhegbfaokdaaDoor

/- THE CONTRACTS of the reference of layer 2: it reads a word as Decode does. -/
namespace Go.Proofs.YtaokhegbfaokdaaDoor
open Go.ChangeShapes Go.WideShapes Go.ChangeAt Go.RowKit
set_option maxRecDepth 100000

set_option maxHeartbeats 2000000
theorem refF_any (w a b n : Int) (hw : 0 ≤ w) (h0 : 0 ≤ a) (h1 : a ≤ b) (h2 : b ≤ 31) (hn : b - a + 1 = n) (W : World) :
    Calls Tryd.prog 20 #[.int .u32 w, .int .i64 a, .int .i64 b] W fun e w' => e = .returned (.int .u32 (fld w a n : Nat)) ∧ Below W.heap.size W w' := by
  have HN := Lib.hid hn
  clear hn
  go_enter Tryd.func20, Tryd.ntmps20
  go_wp2_with fail
  rw [HN.out]
  go_at_call 48
  refine (refField_any _ _ _ hw _).mono ?_
  rintro e w1 ⟨rfl, b1⟩
  go_wp2
  go_ret
  exact ⟨rfl, b1⟩

theorem pick_any (xs : List Int) (n : Int) (b cap : Nat) (W : World) (hn : 0 ≤ n ∧ n < 4294967296) (_hl : xs.length ≤ 8) (hc : ∀ j u, xs[j]? = some u → W.cell? ⟨b, j, none⟩ = some (.int .i64 u)) :
    Calls Tryd.prog 44 #[.slice (some ⟨b, 0, none⟩) xs.length cap, .int .u32 n] W fun e w' => e = .returned (.int .i64 (xs.getD n.toNat 0)) ∧ W = w' := by
  obtain ⟨N, rfl⟩ := Int.eq_ofNat_of_zero_le hn.1
  simp only [Int.toNat_natCast]
  by_cases h : N < xs.length
  · have hN : N < 4294967296 := by omega
    have hcell := hc N xs[N] (List.getElem?_eq_getElem h)
    have G := Lib.hid (show xs.getD N 0 = xs[N] by rw [List.getD_eq_getElem?_getD, List.getElem?_eq_getElem h]; rfl)
    clear hc hn
    generalize xs[N] = v at *
    go_enter Tryd.func44, Tryd.ntmps44
    go_wp2
    go_ret
    exact ⟨ret_int G.out.symm, rfl⟩
  · have G := Lib.hid (show xs.getD N 0 = 0 by rw [List.getD_eq_getElem?_getD, List.getElem?_eq_none (by omega)]; rfl)
    clear hc
    go_enter Tryd.func44, Tryd.ntmps44
    go_wp2
    go_ret
    exact ⟨ret_int G.out.symm, rfl⟩

/-- the cells of a slice that was just laid -/
theorem laid_cells (w : World) (t : TypeId) (xs : List Int) : ∀ j u, xs[j]? = some u → (w.alloc (.cells (xs.map (Value.int .i64)).toArray t)).cell? ⟨w.heap.size, j, none⟩ = some (.int .i64 u) := by
  intro j u h
  rw [World.cell?_alloc_at _ _ _ _ rfl]
  simp [h]

theorem reg_any (f3 f7 : Int) (h3 : 0 ≤ f3 ∧ f3 < 4294967296) (W : World) :
    Calls Tryd.prog 46 #[.int .u32 f3, .int .u32 f7] W fun e w' => e = .returned (.int .i64 (regI f3 f7)) ∧ Below W.heap.size W w' := by
  go_enter Tryd.func46, Tryd.ntmps46
  go_wp2_with (first
    | (go_at_call 44; refine (pick_any [28, 30, 31, 32, 33, 34, 36, 37] _ _ 8 _ (by first | assumption | exact ⟨by omega, Int.ofNat_lt.2 (fld_lt _ _ _)⟩) (by decide) (laid_cells _ 3 [28, 30, 31, 32, 33, 34, 36, 37])).mono ?_; rintro e w' ⟨rfl, rfl⟩)
    | (go_at_call 44; refine (pick_any [38, 39, 40, 41, 42, 43, 44, 45] _ _ 8 _ (by first | assumption | exact ⟨by omega, Int.ofNat_lt.2 (fld_lt _ _ _)⟩) (by decide) (laid_cells _ 3 [38, 39, 40, 41, 42, 43, 44, 45])).mono ?_; rintro e w' ⟨rfl, rfl⟩))
  all_goals go_ret
  all_goals refine ⟨ret_int ?_, ?_⟩
  all_goals first
    | exact Below.refl _ _
    | exact (Below.refl _ _).alloc (Nat.le_refl _) _
    | (simp_all [regI]; done)
theorem imm_any (f3 f7 : Int) (h3 : 0 ≤ f3 ∧ f3 < 4294967296) (W : World) :
    Calls Tryd.prog 45 #[.int .u32 f3, .int .u32 f7] W fun e w' => e = .returned (.int .i64 (immI f3 f7)) ∧ Below W.heap.size W w' := by
  go_enter Tryd.func45, Tryd.ntmps45
  go_wp2_with (go_at_call 44; refine (pick_any [19, 0, 20, 21, 22, 0, 23, 24] _ _ 8 _ (by first | assumption | exact ⟨by omega, Int.ofNat_lt.2 (fld_lt _ _ _)⟩) (by decide) (laid_cells _ 3 [19, 0, 20, 21, 22, 0, 23, 24])).mono ?_; rintro e w' ⟨rfl, rfl⟩)
  all_goals go_ret
  all_goals refine ⟨ret_int ?_, ?_⟩
  all_goals first
    | exact Below.refl _ _
    | exact (Below.refl _ _).alloc (Nat.le_refl _) _
    | (simp_all [immI]; done)

theorem op_any (w : Int) (hw : 0 ≤ w) (W : World) :
    Calls Tryd.prog 17 #[.int .u32 w] W fun e w' => e = .returned (.int .i64 (opI w)) ∧ Below W.heap.size W w' := by
  have HW := Lib.hid hw
  clear hw
  go_enter Tryd.func17, Tryd.ntmps17
  go_wp2_with fail
  go_at_call 20
  refine (refF_any w 12 14 3 HW.out (by decide) (by decide) (by decide) rfl _).mono ?_
  rintro e w1 ⟨rfl, b1⟩
  have HB := Lib.hid b1
  clear b1
  go_wp2_with fail
  go_at_call 20
  refine (refF_any w 25 31 7 HW.out (by decide) (by decide) (by decide) rfl _).mono ?_
  rintro e w2 ⟨rfl, b2⟩
  have HB := Lib.hid (HB.out.trans (b2.mono HB.out.size))
  clear b2
  have r3 : 0 ≤ ((fld w 12 3 : Nat) : Int) ∧ ((fld w 12 3 : Nat) : Int) < 4294967296 := ⟨by omega, Int.ofNat_lt.2 (fld_lt _ _ _)⟩
  obtain ⟨f3, h3⟩ : ∃ f, f = ((fld w 12 3 : Nat) : Int) := ⟨_, rfl⟩
  obtain ⟨f7, h7⟩ : ∃ f, f = ((fld w 25 7 : Nat) : Int) := ⟨_, rfl⟩
  rw [← h3, ← h7]
  rw [← h3] at r3
  have HO := Lib.hid (show opI w = if w = 15 then 46 else if w = 115 then 47 else if w = 1048691 then 48 else opC (fld w 0 7 : Nat) f3 f7 by rw [h3, h7]; rfl)
  clear h3 h7
  by_cases q1 : w = 15
  · have G := Lib.hid (show opI w = 46 by rw [HO.out, if_pos q1])
    have z : (w == 15) = true := by simpa using q1
    clear q1
    go_wp2
    go_ret
    exact ⟨ret_int G.out.symm, HB.out⟩
  have z1 : (w == 15) = false := by simpa using q1
  by_cases q2 : w = 115
  · have G := Lib.hid (show opI w = 47 by rw [HO.out, if_neg q1, if_pos q2])
    have z : (w == 115) = true := by simpa using q2
    clear q1 q2
    go_wp2
    go_ret
    exact ⟨ret_int G.out.symm, HB.out⟩
  have z2 : (w == 115) = false := by simpa using q2
  by_cases q3 : w = 1048691
  · have G := Lib.hid (show opI w = 48 by rw [HO.out, if_neg q1, if_neg q2, if_pos q3])
    have z : (w == 1048691) = true := by simpa using q3
    clear q1 q2 q3
    go_wp2
    go_ret
    exact ⟨ret_int G.out.symm, HB.out⟩
  have z3 : (w == 1048691) = false := by simpa using q3
  have G := Lib.hid (show opI w = opC (fld w 0 7 : Nat) f3 f7 by rw [HO.out, if_neg q1, if_neg q2, if_neg q3])
  clear q1 q2 q3 HO
  go_wp2_with fail
  go_at_call 20
  refine (refF_any w 0 6 7 HW.out (by decide) (by decide) (by decide) rfl _).mono ?_
  rintro e w3 ⟨rfl, b3⟩
  have HB := Lib.hid (HB.out.trans (b3.mono HB.out.size))
  clear b3
  generalize ((fld w 0 7 : Nat) : Int) = c at *
  clear z1 z2 z3
  by_cases q55 : c = 55
  · subst q55
    go_wp2
    go_ret
    exact ⟨ret_int (by rw [G.out]; rfl), HB.out⟩
  have z55 : (c == 55) = false := by simpa using q55
  replace q55 := Lib.hid q55
  by_cases q23 : c = 23
  · subst q23
    go_wp2
    go_ret
    exact ⟨ret_int (by rw [G.out]; rfl), HB.out⟩
  have z23 : (c == 23) = false := by simpa using q23
  replace q23 := Lib.hid q23
  by_cases q111 : c = 111
  · subst q111
    go_wp2
    go_ret
    exact ⟨ret_int (by rw [G.out]; rfl), HB.out⟩
  have z111 : (c == 111) = false := by simpa using q111
  replace q111 := Lib.hid q111
  by_cases q103 : c = 103
  · subst q103
    go_wp2_with (go_at_call 44; refine (pick_any [4] _ _ 1 _ r3 (by decide) (laid_cells _ 3 [4])).mono ?_; rintro e w' ⟨rfl, rfl⟩)
    go_ret
    exact ⟨ret_int (by rw [G.out]; rfl), HB.out.alloc HB.out.size _⟩
  have z103 : (c == 103) = false := by simpa using q103
  replace q103 := Lib.hid q103
  by_cases q99 : c = 99
  · subst q99
    go_wp2_with (go_at_call 44; refine (pick_any [5, 6, 0, 0, 7, 8, 9, 10] _ _ 8 _ r3 (by decide) (laid_cells _ 3 [5, 6, 0, 0, 7, 8, 9, 10])).mono ?_; rintro e w' ⟨rfl, rfl⟩)
    go_ret
    exact ⟨ret_int (by rw [G.out]; rfl), HB.out.alloc HB.out.size _⟩
  have z99 : (c == 99) = false := by simpa using q99
  replace q99 := Lib.hid q99
  by_cases q3 : c = 3
  · subst q3
    go_wp2_with (go_at_call 44; refine (pick_any [11, 12, 13, 0, 14, 15] _ _ 6 _ r3 (by decide) (laid_cells _ 3 [11, 12, 13, 0, 14, 15])).mono ?_; rintro e w' ⟨rfl, rfl⟩)
    go_ret
    exact ⟨ret_int (by rw [G.out]; rfl), HB.out.alloc HB.out.size _⟩
  have z3 : (c == 3) = false := by simpa using q3
  replace q3 := Lib.hid q3
  by_cases q35 : c = 35
  · subst q35
    go_wp2_with (go_at_call 44; refine (pick_any [16, 17, 18] _ _ 3 _ r3 (by decide) (laid_cells _ 3 [16, 17, 18])).mono ?_; rintro e w' ⟨rfl, rfl⟩)
    go_ret
    exact ⟨ret_int (by rw [G.out]; rfl), HB.out.alloc HB.out.size _⟩
  have z35 : (c == 35) = false := by simpa using q35
  replace q35 := Lib.hid q35
  by_cases q19 : c = 19
  · subst q19
    go_wp2_with (go_at_call 45; refine (imm_any _ _ r3 _).mono ?_; rintro e w' ⟨rfl, b'⟩)
    go_ret
    exact ⟨ret_int (by rw [G.out]; rfl), HB.out.trans (b'.mono HB.out.size)⟩
  have z19 : (c == 19) = false := by simpa using q19
  replace q19 := Lib.hid q19
  by_cases q51 : c = 51
  · subst q51
    go_wp2_with (go_at_call 46; refine (reg_any _ _ r3 _).mono ?_; rintro e w' ⟨rfl, b'⟩)
    go_ret
    exact ⟨ret_int (by rw [G.out]; rfl), HB.out.trans (b'.mono HB.out.size)⟩
  have z51 : (c == 51) = false := by simpa using q51
  replace q51 := Lib.hid q51
  go_wp2
  go_ret
  refine ⟨ret_int ?_, HB.out⟩
  rw [G.out]
  unfold opC
  rw [if_neg q55.out, if_neg q23.out, if_neg q111.out, if_neg q103.out, if_neg q99.out, if_neg q3.out, if_neg q35.out, if_neg q19.out, if_neg q51.out]

/-- the letter of a form -/
def letF (form : Int) : Int := [82, 73, 84, 83, 66, 85, 74, 87].getD form.toNat 0
def formB (o : Int) : Int := if o = 1 ∨ o = 2 then 85 else if o = 3 then 74 else if 5 ≤ o ∧ o ≤ 10 then 66 else if 16 ≤ o ∧ o ≤ 18 then 83 else if 25 ≤ o ∧ o ≤ 27 then 84 else if 46 ≤ o then 87 else if o = 4 ∨ (11 ≤ o ∧ o ≤ 15) ∨ (19 ≤ o ∧ o ≤ 24) then 73 else 82
theorem letters : ∀ r ∈ rows48, formB r.1 = letF r.2.1 := by decide +kernel
theorem form_lit (o : Nat) (h1 : 1 ≤ o) (h2 : o ≤ 48) (W : World) : Calls Tryd.prog 18 #[.int .i64 (o : Int)] W fun e w' => e = .returned (.int .u8 (formB o)) ∧ W = w' := by
  have ho : o = 1 ∨ o = 2 ∨ o = 3 ∨ o = 4 ∨ o = 5 ∨ o = 6 ∨ o = 7 ∨ o = 8 ∨ o = 9 ∨ o = 10 ∨ o = 11 ∨ o = 12 ∨ o = 13 ∨ o = 14 ∨ o = 15 ∨ o = 16 ∨ o = 17 ∨ o = 18 ∨ o = 19 ∨ o = 20 ∨ o = 21 ∨ o = 22 ∨ o = 23 ∨ o = 24 ∨ o = 25 ∨ o = 26 ∨ o = 27 ∨ o = 28 ∨ o = 29 ∨ o = 30 ∨ o = 31 ∨ o = 32 ∨ o = 33 ∨ o = 34 ∨ o = 35 ∨ o = 36 ∨ o = 37 ∨ o = 38 ∨ o = 39 ∨ o = 40 ∨ o = 41 ∨ o = 42 ∨ o = 43 ∨ o = 44 ∨ o = 45 ∨ o = 46 ∨ o = 47 ∨ o = 48 := by omega
  clear h1 h2
  rcases ho with rfl | rfl | rfl | rfl | rfl | rfl | rfl | rfl | rfl | rfl | rfl | rfl | rfl | rfl | rfl | rfl | rfl | rfl | rfl | rfl | rfl | rfl | rfl | rfl | rfl | rfl | rfl | rfl | rfl | rfl | rfl | rfl | rfl | rfl | rfl | rfl | rfl | rfl | rfl | rfl | rfl | rfl | rfl | rfl | rfl | rfl | rfl | rfl
  all_goals
    go_enter Tryd.func18, Tryd.ntmps18
    go_wp2
    go_ret
    exact ⟨rfl, rfl⟩

end Go.Proofs.YtaokhegbfaokdaaDoor

/- THE CONTRACTS of the reference of layer 2, on: its number and its Decode. -/
namespace Go.Proofs.YtaokhegbfaokdaaDoor
open Go.ChangeShapes Go.WideShapes Go.ChangeAt Go.RowKit
set_option maxRecDepth 100000

set_option maxHeartbeats 2000000
theorem num_I (w : Int) (hw : 0 ≤ w) (W : World) : Calls Tryd.prog 19 #[.int .u32 w, .int .u8 73] W fun e w' => e = .returned (.int .u32 (numV w 1)) ∧ Below W.heap.size W w' := by
  have HW := Lib.hid hw
  clear hw
  go_enter Tryd.func19, Tryd.ntmps19
  go_wp2_with fail
  go_at_call 20
  refine (refF_any w 31 31 1 HW.out (by decide) (by decide) (by decide) rfl _).mono ?_
  rintro e w1 ⟨rfl, b1⟩
  have HB := Lib.hid b1
  clear b1
  go_wp2_with fail
  go_at_call 20
  refine (refF_any w 20 31 12 HW.out (by decide) (by decide) (by decide) rfl _).mono ?_
  rintro e w2 ⟨rfl, b2⟩
  have HB := Lib.hid (HB.out.trans (b2.mono HB.out.size))
  clear b2
  have f1 := fld_lt2 w 20 12
  simp only [show ((2 : Nat) ^ (12 : Int).toNat) = 4096 from rfl] at f1
  go_wp2_with fail
  go_at_call 47
  refine (refSext_any _ 12 (by omega) _).mono ?_
  rintro e w3 ⟨rfl, b3⟩
  have HB := Lib.hid (HB.out.trans (b3.mono HB.out.size))
  clear b3
  go_wp2
  go_ret
  refine ⟨ret_int ?_, HB.out⟩
  show _ = ((sxt (gth w [(20, 12)] * 1 % 4294967296) 12 : Nat) : Int)
  rw [gth_one w 20 12 (by omega)]
  exact congrArg (fun z => ((sxt z 12 : Nat) : Int)) (by omega)
theorem num_S (w : Int) (hw : 0 ≤ w) (W : World) : Calls Tryd.prog 19 #[.int .u32 w, .int .u8 83] W fun e w' => e = .returned (.int .u32 (numV w 3)) ∧ Below W.heap.size W w' := by
  have HW := Lib.hid hw
  clear hw
  go_enter Tryd.func19, Tryd.ntmps19
  go_wp2_with fail
  go_at_call 20
  refine (refF_any w 31 31 1 HW.out (by decide) (by decide) (by decide) rfl _).mono ?_
  rintro e w1 ⟨rfl, b1⟩
  have HB := Lib.hid b1
  clear b1
  go_wp2_with fail
  go_at_call 20
  refine (refF_any w 7 11 5 HW.out (by decide) (by decide) (by decide) rfl _).mono ?_
  rintro e w2 ⟨rfl, b2⟩
  have HB := Lib.hid (HB.out.trans (b2.mono HB.out.size))
  clear b2
  go_wp2_with fail
  go_at_call 20
  refine (refF_any w 25 31 7 HW.out (by decide) (by decide) (by decide) rfl _).mono ?_
  rintro e w2 ⟨rfl, b2⟩
  have HB := Lib.hid (HB.out.trans (b2.mono HB.out.size))
  clear b2
  have f1 := fld_lt2 w 7 5
  have f2 := fld_lt2 w 25 7
  simp only [show ((2 : Nat) ^ (5 : Int).toNat) = 32 from rfl, show ((2 : Nat) ^ (7 : Int).toNat) = 128 from rfl] at f1 f2
  go_wp2_with fail
  go_at_call 47
  refine (refSext_any _ 12 (by omega) _).mono ?_
  rintro e w3 ⟨rfl, b3⟩
  have HB := Lib.hid (HB.out.trans (b3.mono HB.out.size))
  clear b3
  go_wp2
  go_ret
  refine ⟨ret_int ?_, HB.out⟩
  show _ = ((sxt (gth w [(7, 5), (25, 7)] * 1 % 4294967296) 12 : Nat) : Int)
  rw [g_s]
  exact congrArg (fun z => ((sxt z 12 : Nat) : Int)) (by omega)
theorem num_B (w : Int) (hw : 0 ≤ w) (W : World) : Calls Tryd.prog 19 #[.int .u32 w, .int .u8 66] W fun e w' => e = .returned (.int .u32 (numV w 4)) ∧ Below W.heap.size W w' := by
  have HW := Lib.hid hw
  clear hw
  go_enter Tryd.func19, Tryd.ntmps19
  go_wp2_with fail
  go_at_call 20
  refine (refF_any w 31 31 1 HW.out (by decide) (by decide) (by decide) rfl _).mono ?_
  rintro e w1 ⟨rfl, b1⟩
  have HB := Lib.hid b1
  clear b1
  go_wp2_with fail
  go_at_call 20
  refine (refF_any w 8 11 4 HW.out (by decide) (by decide) (by decide) rfl _).mono ?_
  rintro e w2 ⟨rfl, b2⟩
  have HB := Lib.hid (HB.out.trans (b2.mono HB.out.size))
  clear b2
  go_wp2_with fail
  go_at_call 20
  refine (refF_any w 25 30 6 HW.out (by decide) (by decide) (by decide) rfl _).mono ?_
  rintro e w2 ⟨rfl, b2⟩
  have HB := Lib.hid (HB.out.trans (b2.mono HB.out.size))
  clear b2
  go_wp2_with fail
  go_at_call 20
  refine (refF_any w 7 7 1 HW.out (by decide) (by decide) (by decide) rfl _).mono ?_
  rintro e w2 ⟨rfl, b2⟩
  have HB := Lib.hid (HB.out.trans (b2.mono HB.out.size))
  clear b2
  have f1 := fld_lt2 w 8 4
  have f2 := fld_lt2 w 25 6
  have f3 := fld_lt2 w 7 1
  have f4 := fld_lt2 w 31 1
  simp only [show ((2 : Nat) ^ (4 : Int).toNat) = 16 from rfl, show ((2 : Nat) ^ (6 : Int).toNat) = 64 from rfl, show ((2 : Nat) ^ (1 : Int).toNat) = 2 from rfl] at f1 f2 f3 f4
  go_wp2_with fail
  go_at_call 47
  refine (refSext_any _ 13 (by omega) _).mono ?_
  rintro e w3 ⟨rfl, b3⟩
  have HB := Lib.hid (HB.out.trans (b3.mono HB.out.size))
  clear b3
  go_wp2
  go_ret
  refine ⟨ret_int ?_, HB.out⟩
  show _ = ((sxt (gth w [(8, 4), (25, 6), (7, 1), (31, 1)] * 2 % 4294967296) 13 : Nat) : Int)
  rw [g_b]
  exact congrArg (fun z => ((sxt z 13 : Nat) : Int)) (by omega)
theorem num_J (w : Int) (hw : 0 ≤ w) (W : World) : Calls Tryd.prog 19 #[.int .u32 w, .int .u8 74] W fun e w' => e = .returned (.int .u32 (numV w 6)) ∧ Below W.heap.size W w' := by
  have HW := Lib.hid hw
  clear hw
  go_enter Tryd.func19, Tryd.ntmps19
  go_wp2_with fail
  go_at_call 20
  refine (refF_any w 31 31 1 HW.out (by decide) (by decide) (by decide) rfl _).mono ?_
  rintro e w1 ⟨rfl, b1⟩
  have HB := Lib.hid b1
  clear b1
  go_wp2_with fail
  go_at_call 20
  refine (refF_any w 21 30 10 HW.out (by decide) (by decide) (by decide) rfl _).mono ?_
  rintro e w2 ⟨rfl, b2⟩
  have HB := Lib.hid (HB.out.trans (b2.mono HB.out.size))
  clear b2
  go_wp2_with fail
  go_at_call 20
  refine (refF_any w 20 20 1 HW.out (by decide) (by decide) (by decide) rfl _).mono ?_
  rintro e w2 ⟨rfl, b2⟩
  have HB := Lib.hid (HB.out.trans (b2.mono HB.out.size))
  clear b2
  go_wp2_with fail
  go_at_call 20
  refine (refF_any w 12 19 8 HW.out (by decide) (by decide) (by decide) rfl _).mono ?_
  rintro e w2 ⟨rfl, b2⟩
  have HB := Lib.hid (HB.out.trans (b2.mono HB.out.size))
  clear b2
  have f1 := fld_lt2 w 21 10
  have f2 := fld_lt2 w 20 1
  have f3 := fld_lt2 w 12 8
  have f4 := fld_lt2 w 31 1
  simp only [show ((2 : Nat) ^ (10 : Int).toNat) = 1024 from rfl, show ((2 : Nat) ^ (8 : Int).toNat) = 256 from rfl, show ((2 : Nat) ^ (1 : Int).toNat) = 2 from rfl] at f1 f2 f3 f4
  go_wp2_with fail
  go_at_call 47
  refine (refSext_any _ 21 (by omega) _).mono ?_
  rintro e w3 ⟨rfl, b3⟩
  have HB := Lib.hid (HB.out.trans (b3.mono HB.out.size))
  clear b3
  go_wp2
  go_ret
  refine ⟨ret_int ?_, HB.out⟩
  show _ = ((sxt (gth w [(21, 10), (20, 1), (12, 8), (31, 1)] * 2 % 4294967296) 21 : Nat) : Int)
  rw [g_j]
  exact congrArg (fun z => ((sxt z 21 : Nat) : Int)) (by omega)
theorem num_U (w : Int) (hw : 0 ≤ w) (W : World) : Calls Tryd.prog 19 #[.int .u32 w, .int .u8 85] W fun e w' => e = .returned (.int .u32 (numV w 5)) ∧ Below W.heap.size W w' := by
  have HW := Lib.hid hw
  clear hw
  go_enter Tryd.func19, Tryd.ntmps19
  go_wp2_with fail
  go_at_call 20
  refine (refF_any w 31 31 1 HW.out (by decide) (by decide) (by decide) rfl _).mono ?_
  rintro e w1 ⟨rfl, b1⟩
  have HB := Lib.hid b1
  clear b1
  go_wp2_with fail
  go_at_call 20
  refine (refF_any w 12 31 20 HW.out (by decide) (by decide) (by decide) rfl _).mono ?_
  rintro e w2 ⟨rfl, b2⟩
  have HB := Lib.hid (HB.out.trans (b2.mono HB.out.size))
  clear b2
  have f1 := fld_lt2 w 12 20
  simp only [show ((2 : Nat) ^ (20 : Int).toNat) = 1048576 from rfl] at f1
  go_wp2
  go_ret
  refine ⟨ret_int ?_, HB.out⟩
  show _ = ((sxt (gth w [(12, 20)] * 4096 % 4294967296) 0 : Nat) : Int)
  rw [gth_one w 12 20 (by omega), sxt0 _ (by omega)]
  omega
theorem num_T (w : Int) (hw : 0 ≤ w) (W : World) : Calls Tryd.prog 19 #[.int .u32 w, .int .u8 84] W fun e w' => e = .returned (.int .u32 (numV w 2)) ∧ Below W.heap.size W w' := by
  have HW := Lib.hid hw
  clear hw
  go_enter Tryd.func19, Tryd.ntmps19
  go_wp2_with fail
  go_at_call 20
  refine (refF_any w 31 31 1 HW.out (by decide) (by decide) (by decide) rfl _).mono ?_
  rintro e w1 ⟨rfl, b1⟩
  have HB := Lib.hid b1
  clear b1
  go_wp2_with fail
  go_at_call 20
  refine (refF_any w 20 24 5 HW.out (by decide) (by decide) (by decide) rfl _).mono ?_
  rintro e w2 ⟨rfl, b2⟩
  have HB := Lib.hid (HB.out.trans (b2.mono HB.out.size))
  clear b2
  have f1 := fld_lt2 w 20 5
  simp only [show ((2 : Nat) ^ (5 : Int).toNat) = 32 from rfl] at f1
  go_wp2
  go_ret
  refine ⟨ret_int ?_, HB.out⟩
  show _ = ((sxt (gth w [(20, 5)] * 1 % 4294967296) 0 : Nat) : Int)
  rw [gth_one w 20 5 (by omega), sxt0 _ (by omega)]
  omega
theorem num_R (w : Int) (hw : 0 ≤ w) (W : World) : Calls Tryd.prog 19 #[.int .u32 w, .int .u8 82] W fun e w' => e = .returned (.int .u32 (numV w 0)) ∧ Below W.heap.size W w' := by
  have HW := Lib.hid hw
  clear hw
  go_enter Tryd.func19, Tryd.ntmps19
  go_wp2_with fail
  go_at_call 20
  refine (refF_any w 31 31 1 HW.out (by decide) (by decide) (by decide) rfl _).mono ?_
  rintro e w1 ⟨rfl, b1⟩
  have HB := Lib.hid b1
  clear b1
  go_wp2
  go_ret
  exact ⟨ret_int (num_nil _ _ rfl).symm, HB.out⟩
theorem num_W (w : Int) (hw : 0 ≤ w) (W : World) : Calls Tryd.prog 19 #[.int .u32 w, .int .u8 87] W fun e w' => e = .returned (.int .u32 (numV w 7)) ∧ Below W.heap.size W w' := by
  have HW := Lib.hid hw
  clear hw
  go_enter Tryd.func19, Tryd.ntmps19
  go_wp2_with fail
  go_at_call 20
  refine (refF_any w 31 31 1 HW.out (by decide) (by decide) (by decide) rfl _).mono ?_
  rintro e w1 ⟨rfl, b1⟩
  have HB := Lib.hid b1
  clear b1
  go_wp2
  go_ret
  exact ⟨ret_int (num_nil _ _ rfl).symm, HB.out⟩

end Go.Proofs.YtaokhegbfaokdaaDoor

/- Five cells behind a store, for the reference's Decode. -/
namespace Go.Proofs.YtaokhegbfaokdaaDoor
open Go.ChangeShapes Go.WideShapes Go.ChangeAt Go.RowKit
set_option maxRecDepth 100000

theorem fset1 {w : World} {b : Nat} {v0 v1 v2 v3 v4 : Value} (h : Five w b v0 v1 v2 v3 v4) (u : Value) : Five (w.setCell ⟨b, 1, none⟩ u) b v0 u v2 v3 v4 := by
  obtain ⟨⟨a0, a1, a2, a3, a4⟩, f⟩ := h
  refine ⟨⟨?_, ?_, ?_, ?_, ?_⟩, ?_⟩
  all_goals first
    | exact World.cell?_setCell_same w _ _ ‹w.cell? ⟨b, 1, none⟩ = some v1›
    | (rw [World.cell?_setCell_other w _ _ _ (by simp)]; assumption)
    | (simp only [World.frozen?_setCell]; exact f)
theorem fset2 {w : World} {b : Nat} {v0 v1 v2 v3 v4 : Value} (h : Five w b v0 v1 v2 v3 v4) (u : Value) : Five (w.setCell ⟨b, 2, none⟩ u) b v0 v1 u v3 v4 := by
  obtain ⟨⟨a0, a1, a2, a3, a4⟩, f⟩ := h
  refine ⟨⟨?_, ?_, ?_, ?_, ?_⟩, ?_⟩
  all_goals first
    | exact World.cell?_setCell_same w _ _ ‹w.cell? ⟨b, 2, none⟩ = some v2›
    | (rw [World.cell?_setCell_other w _ _ _ (by simp)]; assumption)
    | (simp only [World.frozen?_setCell]; exact f)
theorem fset3 {w : World} {b : Nat} {v0 v1 v2 v3 v4 : Value} (h : Five w b v0 v1 v2 v3 v4) (u : Value) : Five (w.setCell ⟨b, 3, none⟩ u) b v0 v1 v2 u v4 := by
  obtain ⟨⟨a0, a1, a2, a3, a4⟩, f⟩ := h
  refine ⟨⟨?_, ?_, ?_, ?_, ?_⟩, ?_⟩
  all_goals first
    | exact World.cell?_setCell_same w _ _ ‹w.cell? ⟨b, 3, none⟩ = some v3›
    | (rw [World.cell?_setCell_other w _ _ _ (by simp)]; assumption)
    | (simp only [World.frozen?_setCell]; exact f)
theorem fset_far {w : World} {b c : Nat} {v0 v1 v2 v3 v4 : Value} (h : Five w b v0 v1 v2 v3 v4) (hn : c ≠ b) (u : Value) (o : Nat) : Five (w.setCell ⟨c, o, none⟩ u) b v0 v1 v2 v3 v4 := by
  obtain ⟨⟨a0, a1, a2, a3, a4⟩, f⟩ := h
  have far : ∀ k, (w.setCell ⟨c, o, none⟩ u).cell? ⟨b, k, none⟩ = w.cell? ⟨b, k, none⟩ := fun k => World.cell?_setCell_other w _ _ _ (fun e => hn (congrArg Addr.block e))
  refine ⟨⟨(far 0).trans a0, (far 1).trans a1, (far 2).trans a2, (far 3).trans a3, (far 4).trans a4⟩, ?_⟩
  simp only [World.frozen?_setCell]
  exact f

end Go.Proofs.YtaokhegbfaokdaaDoor
