/- THE CONTRACTS of exec.Take, exec.Store. -/
import Derived.Test.YtaokhegbfaokdaaDoorExecG
import Derived.Test.YtaokhegbfaokdaaDoorExecL
namespace Go.Proofs.YtaokhegbfaokdaaDoor
open Go.ChangeShapes Go.WideShapes Go.ChangeAt Go.RowKit
set_option linter.unusedVariables false
set_option linter.unusedSimpArgs false
set_option maxHeartbeats 2000000
set_option maxRecDepth 100000

def takeE (e : En) (s : ByteArray) : En :=
  if kindI e.op ≠ 3 ∨ e.known = false ∨ (e.is ≠ 0 ∧ e.is ≠ 2) then e else { e with is := 1, left := 1, value := if wrI e.op e.rd = 0 then 0 else ldV e.op s }
theorem take_any (e : En) (s : ByteArray) (hs : s.size ≤ 9223372036854775807) (w : World) (ht : TabIs w) (hg : 0 < w.heap.size) :
    Calls Tryd.prog 12 #[enV e, .string s] w fun r w' => r = .returned (enV (takeE e s)) ∧ Below w.heap.size w w' := by
  obtain ⟨no, pc, op, rd, rs1, rs2, imm, guess, is, left, value, next, addr, halt, took, known, filled⟩ := e
  have HK := Lib.hid (fun w => kind_any op rd rs1 rs2 imm w)
  have HV := Lib.hid (fun w => load_any op s hs w)
  have HW := Lib.hid (fun w ht hg => written_any op rd rs1 rs2 imm (ldV op s) w ht hg)
  have HTB := Lib.hid ht
  clear hs ht
  obtain ⟨R, hR⟩ : ∃ R, takeE ⟨no, pc, op, rd, rs1, rs2, imm, guess, is, left, value, next, addr, halt, took, known, filled⟩ s = R := ⟨_, rfl⟩
  rw [hR]
  unfold takeE at hR
  simp only at hR
  obtain ⟨VV, hVV⟩ : ∃ VV, (if wrI op rd = 0 then 0 else ldV op s) = VV := ⟨_, rfl⟩
  rw [hVV] at HW hR
  clear hVV
  obtain ⟨kd, hkd⟩ : ∃ kd, kindI op = kd := ⟨_, rfl⟩
  rw [hkd] at HK hR
  have HR := Lib.hid hR
  clear hR hkd
  obtain ⟨f1, f2, f3, f4⟩ := two_new w (enC ⟨no, pc, op, rd, rs1, rs2, imm, guess, is, left, value, next, addr, halt, took, known, filled⟩) (enC zeroE) 40 40
  unfold enV
  go_enter Tryd.func12, Tryd.ntmps12
  simp only [enC, zeroE] at f1 f2 f3 f4 ⊢
  go_upto_region 1 with fail
  generalize (w.alloc (.cells #[.int .i64 no, .int .u32 pc, .int .i64 op, .int .i64 rd, .int .i64 rs1, .int .i64 rs2, .int .u32 imm, .int .u32 guess, .int .i64 is, .int .i64 left, .int .u32 value, .int .u32 next, .int .u32 addr, .int .i64 halt, .int .i64 took, .bool known, .bool filled] 40)).alloc (.cells #[.int .i64 0, .int .u32 0, .int .i64 0, .int .i64 0, .int .i64 0, .int .i64 0, .int .u32 0, .int .u32 0, .int .i64 0, .int .i64 0, .int .u32 0, .int .u32 0, .int .u32 0, .int .i64 0, .int .i64 0, .bool false, .bool false] 40) = W0 at *
  have X1 := Lib.hid f1
  have X2 := Lib.hid f2
  have X3 := Lib.hid f3
  clear f1 f2 f3 f4
  have s2 := X1.out.2.1 2 _ rfl
  have s3 := X1.out.2.1 3 _ rfl
  have s4 := X1.out.2.1 4 _ rfl
  have s5 := X1.out.2.1 5 _ rfl
  have s6 := X1.out.2.1 6 _ rfl
  go_wp2_with fail
  go_at_call 32
  refine (HK.out _).mono ?_
  rintro r w1 ⟨rfl, b5⟩
  have z1 := X1.out.below b5 X1.out.1
  have z2 := X2.out.below b5 X2.out.1
  have z3 := X3.out.trans (b5.mono X3.out.size)
  clear X1 X2 X3 s2 s3 s4 s5 s6 b5
  have X1 := Lib.hid z1
  have X2 := Lib.hid z2
  have X3 := Lib.hid z3
  clear z1 z2 z3
  have s8 := X1.out.2.1 8 _ rfl
  have s15 := X1.out.2.1 15 _ rfl
  by_cases hno : kd ≠ 3 ∨ known = false ∨ (is ≠ 0 ∧ is ≠ 2)
  · have HF := Lib.hid (show enC ⟨no, pc, op, rd, rs1, rs2, imm, guess, is, left, value, next, addr, halt, took, known, filled⟩ = enC R by rw [← HR.out, if_pos hno])
    clear HR
    by_cases hk : kd = 3
    · subst hk
      cases known
      · clear hno
        go_upto_region 2 with fail
        clear s8 s15
        obtain ⟨cs, hcs, hx1⟩ : ∃ cs, cs = enC R ∧ Blk w1 w.heap.size cs := ⟨_, HF.out, X1.out⟩
        have hcl : cs.length = 17 := by rw [hcs]; rfl
        have hco : cs.toArray.all (·.oneCell') = true := by rw [hcs]; exact enC_one R
        have Y1 := Lib.hid hx1
        have YL := Lib.hid hcl
        have YO := Lib.hid hco
        have YC := Lib.hid hcs
        have YI := Lib.hid (show (Tryd.prog.info? 40).map (·.size) = some cs.length by rw [hcl]; exact ent_info)
        have YJ := Lib.hid (show (Tryd.prog.info? 40).map (·.size) = some cs.toArray.size by rw [List.size_toArray, hcl]; exact ent_info)
        have YZ := Lib.hid (show (enC zeroE).length = cs.toArray.size by rw [List.size_toArray, hcl]; rfl)
        clear hx1 hcl hco hcs X1
        go_wp2_with (first
          | (refine wpList_load_mid rfl 40 (.tmp 2) rfl w.heap.size 0 rfl cs _ Y1.out.range Tryd.underlying40 rfl YI.out ?_)
          | (refine wpList_store_blk rfl 40 (.tmp 4) (.tmp 24) rfl (w.heap.size + 1) _ cs.toArray X2.out YZ.out rfl rfl YJ.out YO.out ?_; intro W9 hB9 hO9 hbl9 hs9))
        exact bodyPost_ret (v := .agg cs.toArray) (results_cell_blk Tryd.results12 _ W9 (w.heap.size + 1) cs _ rfl hB9 Tryd.underlying40 rfl YI.out) rfl ⟨by rw [YC.out]; rfl, X3.out.trans (hbl9 _ (by omega))⟩
      · have q1 : (is != 0) = true := by simp at hno; simp; omega
        have q2 : (is != 2) = true := by simp at hno; simp; omega
        clear hno
        go_upto_region 2 with fail
        clear s8 s15 q1 q2
        obtain ⟨cs, hcs, hx1⟩ : ∃ cs, cs = enC R ∧ Blk w1 w.heap.size cs := ⟨_, HF.out, X1.out⟩
        have hcl : cs.length = 17 := by rw [hcs]; rfl
        have hco : cs.toArray.all (·.oneCell') = true := by rw [hcs]; exact enC_one R
        have Y1 := Lib.hid hx1
        have YL := Lib.hid hcl
        have YO := Lib.hid hco
        have YC := Lib.hid hcs
        have YI := Lib.hid (show (Tryd.prog.info? 40).map (·.size) = some cs.length by rw [hcl]; exact ent_info)
        have YJ := Lib.hid (show (Tryd.prog.info? 40).map (·.size) = some cs.toArray.size by rw [List.size_toArray, hcl]; exact ent_info)
        have YZ := Lib.hid (show (enC zeroE).length = cs.toArray.size by rw [List.size_toArray, hcl]; rfl)
        clear hx1 hcl hco hcs X1
        go_wp2_with (first
          | (refine wpList_load_mid rfl 40 (.tmp 2) rfl w.heap.size 0 rfl cs _ Y1.out.range Tryd.underlying40 rfl YI.out ?_)
          | (refine wpList_store_blk rfl 40 (.tmp 4) (.tmp 24) rfl (w.heap.size + 1) _ cs.toArray X2.out YZ.out rfl rfl YJ.out YO.out ?_; intro W9 hB9 hO9 hbl9 hs9))
        exact bodyPost_ret (v := .agg cs.toArray) (results_cell_blk Tryd.results12 _ W9 (w.heap.size + 1) cs _ rfl hB9 Tryd.underlying40 rfl YI.out) rfl ⟨by rw [YC.out]; rfl, X3.out.trans (hbl9 _ (by omega))⟩
    · have q : (kd != 3) = true := by simpa using hk
      clear hno hk
      go_upto_region 2 with fail
      clear s8 s15 q
      obtain ⟨cs, hcs, hx1⟩ : ∃ cs, cs = enC R ∧ Blk w1 w.heap.size cs := ⟨_, HF.out, X1.out⟩
      have hcl : cs.length = 17 := by rw [hcs]; rfl
      have hco : cs.toArray.all (·.oneCell') = true := by rw [hcs]; exact enC_one R
      have Y1 := Lib.hid hx1
      have YL := Lib.hid hcl
      have YO := Lib.hid hco
      have YC := Lib.hid hcs
      have YI := Lib.hid (show (Tryd.prog.info? 40).map (·.size) = some cs.length by rw [hcl]; exact ent_info)
      have YJ := Lib.hid (show (Tryd.prog.info? 40).map (·.size) = some cs.toArray.size by rw [List.size_toArray, hcl]; exact ent_info)
      have YZ := Lib.hid (show (enC zeroE).length = cs.toArray.size by rw [List.size_toArray, hcl]; rfl)
      clear hx1 hcl hco hcs X1
      go_wp2_with (first
        | (refine wpList_load_mid rfl 40 (.tmp 2) rfl w.heap.size 0 rfl cs _ Y1.out.range Tryd.underlying40 rfl YI.out ?_)
        | (refine wpList_store_blk rfl 40 (.tmp 4) (.tmp 24) rfl (w.heap.size + 1) _ cs.toArray X2.out YZ.out rfl rfl YJ.out YO.out ?_; intro W9 hB9 hO9 hbl9 hs9))
      exact bodyPost_ret (v := .agg cs.toArray) (results_cell_blk Tryd.results12 _ W9 (w.heap.size + 1) cs _ rfl hB9 Tryd.underlying40 rfl YI.out) rfl ⟨by rw [YC.out]; rfl, X3.out.trans (hbl9 _ (by omega))⟩
  · have hk : kd = 3 := Classical.byContradiction fun h => hno (Or.inl h)
    subst hk
    have hkn : known = true := by cases known; exact absurd (Or.inr (Or.inl rfl)) hno; rfl
    subst hkn
    have hi : is = 0 ∨ is = 2 := by
      by_cases h1 : is = 0
      · exact Or.inl h1
      · by_cases h2 : is = 2
        · exact Or.inr h2
        · exact absurd (Or.inr (Or.inr ⟨h1, h2⟩)) hno
    have HF := Lib.hid (show enC ⟨no, pc, op, rd, rs1, rs2, imm, guess, 1, 1, VV, next, addr, halt, took, true, filled⟩ = enC R by rw [← HR.out, if_neg hno])
    clear hno HR
    have s9 := X1.out.2.1 9 _ rfl
    have f8 := X1.out.2.2 8 (by simp)
    have f9 := X1.out.2.2 9 (by simp)
    have HI := Lib.hid hi
    clear hi
    rcases HI.out with rfl | rfl
    all_goals
      go_upto_region 4 with fail
      have z1 := ((X1.out).set (i := 8) (v := .int .i64 1) (by simp)).set (i := 9) (v := .int .i64 1) (by simp)
      simp only [List.set_cons_succ, List.set_cons_zero] at z1
      have z2 := ((X2.out).other (p := ⟨w.heap.size, 8, none⟩) (v := .int .i64 1) (by simp)).other (p := ⟨w.heap.size, 9, none⟩) (v := .int .i64 1) (by simp)
      have z3 := ((X3.out).setCell (p := ⟨w.heap.size, 8, none⟩) (Nat.le_refl _) (.int .i64 1)).setCell (p := ⟨w.heap.size, 9, none⟩) (Nat.le_refl _) (.int .i64 1)
      generalize ((w1.setCell ⟨w.heap.size, 8, none⟩ (.int .i64 1)).setCell ⟨w.heap.size, 9, none⟩ (.int .i64 1)) = W2 at *
      clear X1 X2 X3
      have X1 := Lib.hid z1
      have X2 := Lib.hid z2
      have X3 := Lib.hid z3
      clear z1 z2 z3
      clear s8 s15 s9 f8 f9
      have hgb := Nat.lt_of_lt_of_le hg X3.out.size
      have htb := HTB.out.below X3.out hg
      have GB := Lib.hid hgb
      have TB := Lib.hid htb
      clear hgb htb
      have c2 := X1.out.2.1 2 _ rfl
      have c3 := X1.out.2.1 3 _ rfl
      have c4 := X1.out.2.1 4 _ rfl
      have c5 := X1.out.2.1 5 _ rfl
      have c6 := X1.out.2.1 6 _ rfl
      go_cut [] from 27 to 35 (fun wx => Blk wx w.heap.size [.int .i64 no, .int .u32 pc, .int .i64 op, .int .i64 rd, .int .i64 rs1, .int .i64 rs2, .int .u32 imm, .int .u32 guess, .int .i64 1, .int .i64 1, .int .u32 VV, .int .u32 next, .int .u32 addr, .int .i64 halt, .int .i64 took, .bool true, .bool filled] ∧ Blk wx (w.heap.size + 1) (enC zeroE) ∧ Below w.heap.size w wx)
      case first =>
        go_region_law (first
          | (go_simp; go_at_call 39; refine (HV.out _).mono ?_; rintro r w5 ⟨rfl, b5⟩
             have B5 := Lib.hid (below_undrew b5)
             have d2 := (X1.out.below B5.out X1.out.1).2.1 2 _ rfl
             have d3 := (X1.out.below B5.out X1.out.1).2.1 3 _ rfl
             have d4 := (X1.out.below B5.out X1.out.1).2.1 4 _ rfl
             have d5 := (X1.out.below B5.out X1.out.1).2.1 5 _ rfl
             have d6 := (X1.out.below B5.out X1.out.1).2.1 6 _ rfl
             clear b5)
          | (go_simp; go_at_call 35; refine (HW.out _ (TB.out.below B5.out GB.out) (Nat.lt_of_lt_of_le GB.out B5.out.size)).mono ?_; rintro r w6 ⟨rfl, b6⟩
             have B6 := Lib.hid (B5.out.trans (b6.mono B5.out.size))
             have f10 := (X1.out.below B6.out X1.out.1).2.2 10 (by simp)
             have d10 := (X1.out.below B6.out X1.out.1).2.1 10 _ rfl
             clear b6))
        all_goals
          have z1 := (X1.out.below B6.out X1.out.1).set (i := 10) (v := .int .u32 VV) (by simp)
          simp only [List.set_cons_succ, List.set_cons_zero] at z1
          go_wp2_with fail
          go_meet
          exact ⟨z1, (X2.out.below B6.out X2.out.1).other (by simp), (X3.out.trans (B6.out.mono X3.out.size)).setCell (Nat.le_refl _) _⟩
      case rest =>
        obtain ⟨y1, y2, y3⟩ := hcut
        clear c2 c3 c4 c5 c6 X1 X2 X3 GB TB HV HW
        generalize wc = W3 at *
        have X1 := Lib.hid y1
        have X2 := Lib.hid y2
        have X3 := Lib.hid y3
        clear y1 y2 y3
        obtain ⟨cs, hcs, hx1⟩ : ∃ cs, cs = enC R ∧ Blk W3 w.heap.size cs := ⟨_, HF.out, X1.out⟩
        have hcl : cs.length = 17 := by rw [hcs]; rfl
        have hco : cs.toArray.all (·.oneCell') = true := by rw [hcs]; exact enC_one R
        have Y1 := Lib.hid hx1
        have YL := Lib.hid hcl
        have YO := Lib.hid hco
        have YC := Lib.hid hcs
        have YI := Lib.hid (show (Tryd.prog.info? 40).map (·.size) = some cs.length by rw [hcl]; exact ent_info)
        have YJ := Lib.hid (show (Tryd.prog.info? 40).map (·.size) = some cs.toArray.size by rw [List.size_toArray, hcl]; exact ent_info)
        have YZ := Lib.hid (show (enC zeroE).length = cs.toArray.size by rw [List.size_toArray, hcl]; rfl)
        clear hx1 hcl hco hcs X1
        go_wp2_with (first
          | (refine wpList_load_mid rfl 40 (.tmp 2) rfl w.heap.size 0 rfl cs _ Y1.out.range Tryd.underlying40 rfl YI.out ?_)
          | (refine wpList_store_blk rfl 40 (.tmp 4) (.tmp 36) rfl (w.heap.size + 1) _ cs.toArray X2.out YZ.out rfl rfl YJ.out YO.out ?_; intro W9 hB9 hO9 hbl9 hs9))
        exact bodyPost_ret (v := .agg cs.toArray) (results_cell_blk Tryd.results12 _ W9 (w.heap.size + 1) cs _ rfl hB9 Tryd.underlying40 rfl YI.out) rfl ⟨by rw [YC.out]; rfl, X3.out.trans (hbl9 _ (by omega))⟩
/-- what a store's bytes are; joined -/
def stoS (b n : Int) : ByteArray := if 0 ≤ n ∧ n ≤ 4 then strOfNums (bytL b n.toNat) else ByteArray.empty
def stoV (b n : Int) : Int := ((if (stoS b n).size ≤ 4 then joinN (stoS b n).data.toList else 0 : Nat) : Int)
theorem stoS_size (b n : Int) : (stoS b n).size ≤ 9223372036854775807 := by
  unfold stoS
  split
  · rename_i h
    have h1 : (strOfNums (bytL b n.toNat)).size = n.toNat := by simp [strOfNums, bytL, ByteArray.size]
    omega
  · simp
def storeE (e : En) (b : Int) : En :=
  if kindI e.op ≠ 4 ∨ e.known = false ∨ e.is ≠ 0 then e else { e with is := 3, value := stoV b (sizeOp e.op) }
theorem store_any (e : En) (b : Int) (hb : 0 ≤ b) (hb' : b < 4294967296) (w : World) :
    Calls Tryd.prog 14 #[enV e, .int .u32 b] w fun r w' => r = .returned (enV (storeE e b)) ∧ Below w.heap.size w w' := by
  obtain ⟨no, pc, op, rd, rs1, rs2, imm, guess, is, left, value, next, addr, halt, took, known, filled⟩ := e
  have HK := Lib.hid (fun w => kind_any op rd rs1 rs2 imm w)
  have HS := Lib.hid (fun w => size_any op rd rs1 rs2 imm w)
  have HBy := Lib.hid (fun w => bytes_any b (sizeOp op) hb hb' w)
  have HJ := Lib.hid (fun w => join_any (stoS b (sizeOp op)) (stoS_size _ _) w)
  clear hb hb'
  obtain ⟨R, hR⟩ : ∃ R, storeE ⟨no, pc, op, rd, rs1, rs2, imm, guess, is, left, value, next, addr, halt, took, known, filled⟩ b = R := ⟨_, rfl⟩
  rw [hR]
  unfold storeE stoV at hR
  simp only at hR
  obtain ⟨S, hS⟩ : ∃ S, stoS b (sizeOp op) = S := ⟨_, rfl⟩
  rw [hS] at HJ hR
  rw [← stoS, hS] at HBy
  obtain ⟨VV, hVV⟩ : ∃ VV : Int, ((if S.size ≤ 4 then joinN S.data.toList else 0 : Nat) : Int) = VV := ⟨_, rfl⟩
  rw [hVV] at HJ hR
  obtain ⟨E1, hE1⟩ : ∃ E1 : Int, (if 0 ≤ sizeOp op ∧ sizeOp op ≤ 4 then 0 else 1) = E1 := ⟨_, rfl⟩
  rw [hE1] at HBy
  obtain ⟨E2, hE2⟩ : ∃ E2 : Int, (if S.size ≤ 4 then 0 else 2) = E2 := ⟨_, rfl⟩
  rw [hE2] at HJ
  clear hS hVV hE1 hE2
  obtain ⟨kd, hkd⟩ : ∃ kd, kindI op = kd := ⟨_, rfl⟩
  rw [hkd] at HK hR
  have HR := Lib.hid hR
  clear hR hkd
  obtain ⟨f1, f2, f3, f4⟩ := two_new w (enC ⟨no, pc, op, rd, rs1, rs2, imm, guess, is, left, value, next, addr, halt, took, known, filled⟩) (enC zeroE) 40 40
  unfold enV
  go_enter Tryd.func14, Tryd.ntmps14
  simp only [enC, zeroE] at f1 f2 f3 f4 ⊢
  go_upto_region 1 with fail
  generalize (w.alloc (.cells #[.int .i64 no, .int .u32 pc, .int .i64 op, .int .i64 rd, .int .i64 rs1, .int .i64 rs2, .int .u32 imm, .int .u32 guess, .int .i64 is, .int .i64 left, .int .u32 value, .int .u32 next, .int .u32 addr, .int .i64 halt, .int .i64 took, .bool known, .bool filled] 40)).alloc (.cells #[.int .i64 0, .int .u32 0, .int .i64 0, .int .i64 0, .int .i64 0, .int .i64 0, .int .u32 0, .int .u32 0, .int .i64 0, .int .i64 0, .int .u32 0, .int .u32 0, .int .u32 0, .int .i64 0, .int .i64 0, .bool false, .bool false] 40) = W0 at *
  have X1 := Lib.hid f1
  have X2 := Lib.hid f2
  have X3 := Lib.hid f3
  clear f1 f2 f3 f4
  have s2 := X1.out.2.1 2 _ rfl
  have s3 := X1.out.2.1 3 _ rfl
  have s4 := X1.out.2.1 4 _ rfl
  have s5 := X1.out.2.1 5 _ rfl
  have s6 := X1.out.2.1 6 _ rfl
  go_wp2_with fail
  go_at_call 32
  refine (HK.out _).mono ?_
  rintro r w1 ⟨rfl, b5⟩
  have z1 := X1.out.below b5 X1.out.1
  have z2 := X2.out.below b5 X2.out.1
  have z3 := X3.out.trans (b5.mono X3.out.size)
  clear X1 X2 X3 s2 s3 s4 s5 s6 b5
  have X1 := Lib.hid z1
  have X2 := Lib.hid z2
  have X3 := Lib.hid z3
  clear z1 z2 z3
  have s8 := X1.out.2.1 8 _ rfl
  have s15 := X1.out.2.1 15 _ rfl
  by_cases hno : kd ≠ 4 ∨ known = false ∨ is ≠ 0
  · have HF := Lib.hid (show enC ⟨no, pc, op, rd, rs1, rs2, imm, guess, is, left, value, next, addr, halt, took, known, filled⟩ = enC R by rw [← HR.out, if_pos hno])
    clear HR
    by_cases hk : kd = 4
    · subst hk
      cases known
      · clear hno
        go_upto_region 2 with fail
        clear s8 s15
        obtain ⟨cs, hcs, hx1⟩ : ∃ cs, cs = enC R ∧ Blk w1 w.heap.size cs := ⟨_, HF.out, X1.out⟩
        have hcl : cs.length = 17 := by rw [hcs]; rfl
        have hco : cs.toArray.all (·.oneCell') = true := by rw [hcs]; exact enC_one R
        have Y1 := Lib.hid hx1
        have YL := Lib.hid hcl
        have YO := Lib.hid hco
        have YC := Lib.hid hcs
        have YI := Lib.hid (show (Tryd.prog.info? 40).map (·.size) = some cs.length by rw [hcl]; exact ent_info)
        have YJ := Lib.hid (show (Tryd.prog.info? 40).map (·.size) = some cs.toArray.size by rw [List.size_toArray, hcl]; exact ent_info)
        have YZ := Lib.hid (show (enC zeroE).length = cs.toArray.size by rw [List.size_toArray, hcl]; rfl)
        clear hx1 hcl hco hcs X1
        go_wp2_with (first
          | (refine wpList_load_mid rfl 40 (.tmp 2) rfl w.heap.size 0 rfl cs _ Y1.out.range Tryd.underlying40 rfl YI.out ?_)
          | (refine wpList_store_blk rfl 40 (.tmp 4) (.tmp 21) rfl (w.heap.size + 1) _ cs.toArray X2.out YZ.out rfl rfl YJ.out YO.out ?_; intro W9 hB9 hO9 hbl9 hs9))
        exact bodyPost_ret (v := .agg cs.toArray) (results_cell_blk Tryd.results14 _ W9 (w.heap.size + 1) cs _ rfl hB9 Tryd.underlying40 rfl YI.out) rfl ⟨by rw [YC.out]; rfl, X3.out.trans (hbl9 _ (by omega))⟩
      · have q1 : (is != 0) = true := by simp at hno; simp; omega
        clear hno
        go_upto_region 2 with fail
        clear s8 s15 q1
        obtain ⟨cs, hcs, hx1⟩ : ∃ cs, cs = enC R ∧ Blk w1 w.heap.size cs := ⟨_, HF.out, X1.out⟩
        have hcl : cs.length = 17 := by rw [hcs]; rfl
        have hco : cs.toArray.all (·.oneCell') = true := by rw [hcs]; exact enC_one R
        have Y1 := Lib.hid hx1
        have YL := Lib.hid hcl
        have YO := Lib.hid hco
        have YC := Lib.hid hcs
        have YI := Lib.hid (show (Tryd.prog.info? 40).map (·.size) = some cs.length by rw [hcl]; exact ent_info)
        have YJ := Lib.hid (show (Tryd.prog.info? 40).map (·.size) = some cs.toArray.size by rw [List.size_toArray, hcl]; exact ent_info)
        have YZ := Lib.hid (show (enC zeroE).length = cs.toArray.size by rw [List.size_toArray, hcl]; rfl)
        clear hx1 hcl hco hcs X1
        go_wp2_with (first
          | (refine wpList_load_mid rfl 40 (.tmp 2) rfl w.heap.size 0 rfl cs _ Y1.out.range Tryd.underlying40 rfl YI.out ?_)
          | (refine wpList_store_blk rfl 40 (.tmp 4) (.tmp 21) rfl (w.heap.size + 1) _ cs.toArray X2.out YZ.out rfl rfl YJ.out YO.out ?_; intro W9 hB9 hO9 hbl9 hs9))
        exact bodyPost_ret (v := .agg cs.toArray) (results_cell_blk Tryd.results14 _ W9 (w.heap.size + 1) cs _ rfl hB9 Tryd.underlying40 rfl YI.out) rfl ⟨by rw [YC.out]; rfl, X3.out.trans (hbl9 _ (by omega))⟩
    · have q : (kd != 4) = true := by simpa using hk
      clear hno hk
      go_upto_region 2 with fail
      clear s8 s15 q
      obtain ⟨cs, hcs, hx1⟩ : ∃ cs, cs = enC R ∧ Blk w1 w.heap.size cs := ⟨_, HF.out, X1.out⟩
      have hcl : cs.length = 17 := by rw [hcs]; rfl
      have hco : cs.toArray.all (·.oneCell') = true := by rw [hcs]; exact enC_one R
      have Y1 := Lib.hid hx1
      have YL := Lib.hid hcl
      have YO := Lib.hid hco
      have YC := Lib.hid hcs
      have YI := Lib.hid (show (Tryd.prog.info? 40).map (·.size) = some cs.length by rw [hcl]; exact ent_info)
      have YJ := Lib.hid (show (Tryd.prog.info? 40).map (·.size) = some cs.toArray.size by rw [List.size_toArray, hcl]; exact ent_info)
      have YZ := Lib.hid (show (enC zeroE).length = cs.toArray.size by rw [List.size_toArray, hcl]; rfl)
      clear hx1 hcl hco hcs X1
      go_wp2_with (first
        | (refine wpList_load_mid rfl 40 (.tmp 2) rfl w.heap.size 0 rfl cs _ Y1.out.range Tryd.underlying40 rfl YI.out ?_)
        | (refine wpList_store_blk rfl 40 (.tmp 4) (.tmp 21) rfl (w.heap.size + 1) _ cs.toArray X2.out YZ.out rfl rfl YJ.out YO.out ?_; intro W9 hB9 hO9 hbl9 hs9))
      exact bodyPost_ret (v := .agg cs.toArray) (results_cell_blk Tryd.results14 _ W9 (w.heap.size + 1) cs _ rfl hB9 Tryd.underlying40 rfl YI.out) rfl ⟨by rw [YC.out]; rfl, X3.out.trans (hbl9 _ (by omega))⟩
  · have hk : kd = 4 := Classical.byContradiction fun h => hno (Or.inl h)
    subst hk
    have hkn : known = true := by cases known; exact absurd (Or.inr (Or.inl rfl)) hno; rfl
    subst hkn
    have hi : is = 0 := Classical.byContradiction fun h => hno (Or.inr (Or.inr h))
    subst hi
    have HF := Lib.hid (show enC ⟨no, pc, op, rd, rs1, rs2, imm, guess, 3, left, VV, next, addr, halt, took, true, filled⟩ = enC R by rw [← HR.out, if_neg hno])
    clear hno HR
    have c2 := X1.out.2.1 2 _ rfl
    have c3 := X1.out.2.1 3 _ rfl
    have c4 := X1.out.2.1 4 _ rfl
    have c5 := X1.out.2.1 5 _ rfl
    have c6 := X1.out.2.1 6 _ rfl
    go_upto_region 4 with (first
      | (go_at_call 34; refine (HS.out _).mono ?_; rintro r w2 ⟨rfl, b2⟩; have B2 := Lib.hid b2; clear b2)
      | (go_at_call 40; refine (HBy.out _).mono ?_; rintro r w3 ⟨rfl, b3⟩; have B3 := Lib.hid ((B2.out.mono (Nat.le_refl _)).trans (b3.mono B2.out.size)); clear b3))
    clear s8 s15 c2 c3 c4 c5 c6
    have z1 := X1.out.below B3.out X1.out.1
    have z2 := X2.out.below B3.out X2.out.1
    have z3 := X3.out.trans (B3.out.mono X3.out.size)
    clear X1 X2 X3 B2 B3
    have X1 := Lib.hid z1
    have X2 := Lib.hid z2
    have X3 := Lib.hid z3
    clear z1 z2 z3
    have s8 := X1.out.2.1 8 _ rfl
    have f8 := X1.out.2.2 8 (by simp)
    go_upto_region 5 with fail
    have z1 := (X1.out).set (i := 8) (v := .int .i64 3) (by simp)
    simp only [List.set_cons_succ, List.set_cons_zero] at z1
    have z2 := (X2.out).other (p := ⟨w.heap.size, 8, none⟩) (v := .int .i64 3) (by simp)
    have z3 := (X3.out).setCell (p := ⟨w.heap.size, 8, none⟩) (Nat.le_refl _) (.int .i64 3)
    generalize (w3.setCell ⟨w.heap.size, 8, none⟩ (.int .i64 3)) = W4 at *
    clear X1 X2 X3
    have X1 := Lib.hid z1
    have X2 := Lib.hid z2
    have X3 := Lib.hid z3
    clear z1 z2 z3
    clear s8 f8
    go_upto_region 6 with (go_at_call 41; refine (HJ.out _).mono ?_; rintro r w5 ⟨rfl, b5⟩; have B5 := Lib.hid b5; have s10 := (X1.out.below B5.out X1.out.1).2.1 10 _ rfl; have f10 := (X1.out.below B5.out X1.out.1).2.2 10 (by simp); clear b5)
    have z1 := (X1.out.below B5.out X1.out.1).set (i := 10) (v := .int .u32 VV) (by simp)
    simp only [List.set_cons_succ, List.set_cons_zero] at z1
    have z2 := (X2.out.below B5.out X2.out.1).other (p := ⟨w.heap.size, 10, none⟩) (v := .int .u32 VV) (by simp)
    have z3 := (X3.out.trans (B5.out.mono X3.out.size)).setCell (p := ⟨w.heap.size, 10, none⟩) (Nat.le_refl _) (.int .u32 VV)
    generalize (w5.setCell ⟨w.heap.size, 10, none⟩ (.int .u32 VV)) = W6 at *
    clear X1 X2 X3
    have X1 := Lib.hid z1
    have X2 := Lib.hid z2
    have X3 := Lib.hid z3
    clear z1 z2 z3
    clear s10 f10 B5
    obtain ⟨cs, hcs, hx1⟩ : ∃ cs, cs = enC R ∧ Blk W6 w.heap.size cs := ⟨_, HF.out, X1.out⟩
    have hcl : cs.length = 17 := by rw [hcs]; rfl
    have hco : cs.toArray.all (·.oneCell') = true := by rw [hcs]; exact enC_one R
    have Y1 := Lib.hid hx1
    have YL := Lib.hid hcl
    have YO := Lib.hid hco
    have YC := Lib.hid hcs
    have YI := Lib.hid (show (Tryd.prog.info? 40).map (·.size) = some cs.length by rw [hcl]; exact ent_info)
    have YJ := Lib.hid (show (Tryd.prog.info? 40).map (·.size) = some cs.toArray.size by rw [List.size_toArray, hcl]; exact ent_info)
    have YZ := Lib.hid (show (enC zeroE).length = cs.toArray.size by rw [List.size_toArray, hcl]; rfl)
    clear hx1 hcl hco hcs X1
    go_wp2_with (first
      | (refine wpList_load_mid rfl 40 (.tmp 2) rfl w.heap.size 0 rfl cs _ Y1.out.range Tryd.underlying40 rfl YI.out ?_)
      | (refine wpList_store_blk rfl 40 (.tmp 4) (.tmp 37) rfl (w.heap.size + 1) _ cs.toArray X2.out YZ.out rfl rfl YJ.out YO.out ?_; intro W9 hB9 hO9 hbl9 hs9))
    exact bodyPost_ret (v := .agg cs.toArray) (results_cell_blk Tryd.results14 _ W9 (w.heap.size + 1) cs _ rfl hB9 Tryd.underlying40 rfl YI.out) rfl ⟨by rw [YC.out]; rfl, X3.out.trans (hbl9 _ (by omega))⟩
end Go.Proofs.YtaokhegbfaokdaaDoor
