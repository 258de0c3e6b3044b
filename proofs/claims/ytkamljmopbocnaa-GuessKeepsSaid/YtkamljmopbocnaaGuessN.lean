/- THE CONTRACTS of guess.New; guess.Next where a return comes; Train of what is no jump or of a guess that may not be. -/
import Derived.Test.YtkamljmopbocnaaGuessTr
namespace Go.Proofs.Ytkamljmopbocnaa
open Go.ChangeShapes Go.WideShapes Go.ChangeAt Go.RowKit
set_option linter.unusedVariables false
set_option linter.unusedSimpArgs false
set_option maxHeartbeats 4000000
set_option maxRecDepth 100000

theorem info_slot0 : (Try.prog.info? 41).map (fun i => (i.zero.map (·.cells), i.size, i.bytes)) = some (some #[.int .u32 0, .int .u32 0], 2, 8) := by kernel_rfl
/-- eight empty slots are made -/
theorem wpList_make_slots0 {w : World} {ops : Array Oper} {rest : List Oper} {o : Oper} {a : Act} {Q : Exit → Act → World → Prop} (hgd : o.guard = none)
    (ho : o.op = .makeSlice 25 (.const (.int .i64 8)) (.const (.int .i64 8)))
    (h : ∀ w', RowsAt w' (some ⟨w.heap.size, 0, none⟩) 8 2 ((List.replicate 8 ((0 : Int), (0 : Int))).map slC) → Below w.heap.size w w' → w.heap.size < w'.heap.size → wpList Try.prog ops Q rest (a.put o.dst (.slice (some ⟨w.heap.size, 0, none⟩) 8 8)) w') : wpList Try.prog ops Q (o :: rest) a w := by
  obtain ⟨i0, hi, h3⟩ := Option.map_eq_some_iff.1 info_slot0
  injection h3 with hz0 h3
  injection h3 with hz1 hz2
  obtain ⟨z, hz, hzs⟩ := Option.map_eq_some_iff.1 hz0
  refine wpList_plain hgd fun K hK => ?_
  obtain ⟨w', hr, h1, h2⟩ := run_makeSlice_full (P := Try.prog) w w.heap.size 25 41 i0 z 2 Try.underlying25 hi hz hz1 .i64 .i64 8 (by omega) (by rw [hz2]; omega) (by unfold maxLen; omega) (Nat.le_refl _)
  unfold Oper.wp execOp
  simp only [ho, Act.eval, Sem.run_bind, Sem.run_pure, show ((8 : Int)) = ((8 : Nat) : Int) from rfl, hr, Result.andThen_ok]
  rw [hzs] at h1
  have hm : (madeCells #[.int .u32 0, .int .u32 0] (8 * 2)).toList = (((List.replicate 8 ((0 : Int), (0 : Int))).map slC)).flatten := by kernel_rfl
  rw [hm] at h1
  obtain ⟨A, cap, hv, -, -, hrows⟩ := RowsAt.own h1 (by simp) (slC_lens _)
  injection hv with hv hv2 hv3
  subst hv
  exact hK _ _ (h w' hrows ((Below.refl _ _).grown h2 (Nat.le_refl _) (fun k hk => by cases hk)) (h1.lt _ rfl).2)
theorem new_any (w : World) : Calls Try.prog 5 #[] w fun r w' => ∃ g : Nat, w.heap.size ≤ g ∧ r = .returned (gV (some ⟨g, 0, none⟩) 8 8 0 none 0 0) ∧ RowsAt w' (some ⟨g, 0, none⟩) 8 2 ((List.replicate 8 ((0 : Int), (0 : Int))).map slC) ∧ Below w.heap.size w w' := by
  have f1 := Blk.new w 27 [.slice none 0 0, .int .u32 0, .slice none 0 0]
  have f2 : Below w.heap.size w (w.alloc (.cells #[.slice none 0 0, .int .u32 0, .slice none 0 0] 27)) := (Below.refl _ _).alloc (Nat.le_refl _) _
  have f3 : w.heap.size < (w.alloc (.cells #[.slice none 0 0, .int .u32 0, .slice none 0 0] 27)).heap.size := by simp
  go_enter Try.func5, Try.ntmps5
  go_upto_region 1 with fail
  generalize w.alloc (.cells #[.slice none 0 0, .int .u32 0, .slice none 0 0] 27) = W0 at *
  have X1 := Lib.hid f1
  have KB := Lib.hid f2
  have HLT := Lib.hid f3
  clear f1 f2 f3
  have YI := Lib.hid (show (Try.prog.info? 27).map (·.size) = some 3 by kernel_rfl)
  go_wp2_with (first
    | (refine wpList_make_slots0 rfl rfl ?_; intro W3 hr3 hb3 hl3
       have RW := Lib.hid hr3
       have LG := Lib.hid (Nat.le_of_lt HLT.out)
       replace X1 := Lib.hid (X1.out.below hb3 HLT.out)
       replace KB := Lib.hid (KB.out.trans (hb3.mono KB.out.size))
       have HNE := Lib.hid (show W0.heap.size ≠ w.heap.size from Nat.ne_of_gt HLT.out)
       clear hr3 hb3 hl3
       have s0 := X1.out.2.1 0 _ rfl
       have s1 := X1.out.2.1 1 _ rfl
       have s2 := X1.out.2.1 2 _ rfl
       have e0 := X1.out.2.2 0 (by simp)
       have e1 := X1.out.2.2 1 (by simp)
       have e2 := X1.out.2.2 2 (by simp)
       generalize W0.heap.size = g at *))
  have z1 := ((X1.out.set (i := 0) (v := .slice (some ⟨g, 0, none⟩) 8 8) (by simp)).set (i := 1) (v := .int .u32 0) (by simp)).set (i := 2) (v := .slice none 0 0) (by simp)
  simp only [List.set_cons_succ, List.set_cons_zero] at z1
  have far : ∀ (W : World) (i : Nat) (v : Value) (p : Addr), p.block ≠ w.heap.size → (W.setCell ⟨w.heap.size, i, none⟩ v).cell? p = W.cell? p := fun W i v p hp => World.cell?_setCell_other _ _ _ _ (fun e => hp (by rw [← e]))
  have r1 := rows_far (rows_far (rows_far RW.out (far _ 0 (.slice (some ⟨g, 0, none⟩) 8 8)) (by simp) HNE.out) (far _ 1 (.int .u32 0)) (by simp) HNE.out) (far _ 2 (.slice none 0 0)) (by simp) HNE.out
  have b1 := ((KB.out.setCell (p := ⟨w.heap.size, 0, none⟩) (Nat.le_refl _) (.slice (some ⟨g, 0, none⟩) 8 8)).setCell (p := ⟨w.heap.size, 1, none⟩) (Nat.le_refl _) (.int .u32 0)).setCell (p := ⟨w.heap.size, 2, none⟩) (Nat.le_refl _) (.slice none 0 0)
  exact bodyPost_ret (v := .agg #[.slice (some ⟨g, 0, none⟩) 8 8, .int .u32 0, .slice none 0 0]) (results_cell_blk Try.results5 _ _ w.heap.size _ _ rfl z1 Try.underlying27 rfl YI.out) rfl ⟨g, LG.out, rfl, r1, b1⟩

/-- what is no jump changes nothing -/
theorem train_same (A : Option Addr) (na ca : Nat) (h : Int) (B : Option Addr) (nb cb : Nat) (pc next op rd rs1 rs2 imm : Int) (hk : kindI op ≠ 5) (w : World) :
    Calls Try.prog 6 #[gV A na ca h B nb cb, .int .u32 pc, .int .u32 next, .agg #[.int .i64 op, .int .i64 rd, .int .i64 rs1, .int .i64 rs2, .int .u32 imm]] w fun r w' => r = .returned (gV A na ca h B nb cb) ∧ Below w.heap.size w w' := by
  have HR := Lib.hid (fun w => guessRight_any A na ca h B nb cb w)
  obtain ⟨rb, hrb⟩ : ∃ rb, rightB na h nb = rb := ⟨_, rfl⟩
  rw [hrb] at HR
  have HK := Lib.hid (fun w => kind_any op rd rs1 rs2 imm w)
  obtain ⟨kd, hkd⟩ : ∃ kd, kindI op = kd := ⟨_, rfl⟩
  rw [hkd] at HK hk
  have q : (kd != 5) = true := by simpa using hk
  clear hk hkd hrb
  obtain ⟨f1, f2, f3, f4, f5⟩ := three_new w [.slice A na ca, .int .u32 h, .slice B nb cb] [.int .i64 op, .int .i64 rd, .int .i64 rs1, .int .i64 rs2, .int .u32 imm] [.slice none 0 0, .int .u32 0, .slice none 0 0] 27 31 27
  unfold gV at HR ⊢
  go_enter Try.func6, Try.ntmps6
  go_upto_region 1 with fail
  generalize ((w.alloc (.cells #[.slice A na ca, .int .u32 h, .slice B nb cb] 27)).alloc (.cells #[.int .i64 op, .int .i64 rd, .int .i64 rs1, .int .i64 rs2, .int .u32 imm] 31)).alloc (.cells #[.slice none 0 0, .int .u32 0, .slice none 0 0] 27) = W0 at *
  have X1 := Lib.hid f1
  have X2 := Lib.hid f2
  have X3 := Lib.hid f3
  have KB := Lib.hid f4
  clear f1 f2 f3 f4 f5
  have s0 := X1.out.2.1 0 _ rfl
  have s1 := X1.out.2.1 1 _ rfl
  have s2 := X1.out.2.1 2 _ rfl
  cases rb
  · go_wp2_with fail
    go_at_call 12
    refine (HR.out _).mono ?_
    rintro r w1 ⟨rfl, b⟩
    replace X1 := Lib.hid (X1.out.below b X1.out.1)
    replace X3 := Lib.hid (X3.out.below b X3.out.1)
    replace KB := Lib.hid (KB.out.trans (b.mono KB.out.size))
    clear b s0 s1 s2
    obtain ⟨cs, hcs, hx1⟩ : ∃ cs, cs = [Value.slice A na ca, .int .u32 h, .slice B nb cb] ∧ Blk w1 w.heap.size cs := ⟨_, rfl, X1.out⟩
    have hcl : cs.length = 3 := by rw [hcs]; rfl
    have hco : cs.toArray.all (·.oneCell') = true := by rw [hcs]; simp [Value.oneCell']
    have Y1 := Lib.hid hx1
    have YC := Lib.hid hcs
    have YO := Lib.hid hco
    have YI := Lib.hid (show (Try.prog.info? 27).map (·.size) = some cs.length by rw [hcl]; kernel_rfl)
    have YJ := Lib.hid (show (Try.prog.info? 27).map (·.size) = some cs.toArray.size by rw [List.size_toArray, hcl]; kernel_rfl)
    have YZ := Lib.hid (show [Value.slice none 0 0, .int .u32 0, .slice none 0 0].length = cs.toArray.size by rw [List.size_toArray, hcl]; rfl)
    clear hx1 hcl hco hcs X1
    go_wp2_with (first
      | (refine wpList_load_mid rfl 27 (.tmp 4) rfl w.heap.size 0 rfl cs _ Y1.out.range Try.underlying27 rfl YI.out ?_)
      | (refine wpList_store_blk2 rfl 27 (.tmp 8) (.tmp 18) rfl (w.heap.size + 2) _ cs.toArray X3.out YZ.out rfl rfl YJ.out YO.out ?_; intro WE hB9 hO9 hbl9 hs9))
    exact bodyPost_ret (v := .agg cs.toArray) (results_cell_blk Try.results6 _ WE (w.heap.size + 2) cs _ rfl hB9 Try.underlying27 rfl YI.out) rfl ⟨by rw [YC.out], KB.out.trans (hbl9 _ (by omega))⟩
  · go_wp2_with fail
    go_at_call 12
    refine (HR.out _).mono ?_
    rintro r w1 ⟨rfl, b⟩
    replace X1 := Lib.hid (X1.out.below b X1.out.1)
    replace X2 := Lib.hid (X2.out.below b X2.out.1)
    replace X3 := Lib.hid (X3.out.below b X3.out.1)
    replace KB := Lib.hid (KB.out.trans (b.mono KB.out.size))
    clear b s0 s1 s2
    have t0 := X2.out.2.1 0 _ rfl
    have t1 := X2.out.2.1 1 _ rfl
    have t2 := X2.out.2.1 2 _ rfl
    have t3 := X2.out.2.1 3 _ rfl
    have t4 := X2.out.2.1 4 _ rfl
    go_wp2_with fail
    go_at_call 13
    refine (HK.out _).mono ?_
    rintro r w2 ⟨rfl, b⟩
    replace X1 := Lib.hid (X1.out.below b X1.out.1)
    replace X3 := Lib.hid (X3.out.below b X3.out.1)
    replace KB := Lib.hid (KB.out.trans (b.mono KB.out.size))
    clear b t0 t1 t2 t3 t4
    obtain ⟨cs, hcs, hx1⟩ : ∃ cs, cs = [Value.slice A na ca, .int .u32 h, .slice B nb cb] ∧ Blk w2 w.heap.size cs := ⟨_, rfl, X1.out⟩
    have hcl : cs.length = 3 := by rw [hcs]; rfl
    have hco : cs.toArray.all (·.oneCell') = true := by rw [hcs]; simp [Value.oneCell']
    have Y1 := Lib.hid hx1
    have YC := Lib.hid hcs
    have YO := Lib.hid hco
    have YI := Lib.hid (show (Try.prog.info? 27).map (·.size) = some cs.length by rw [hcl]; kernel_rfl)
    have YJ := Lib.hid (show (Try.prog.info? 27).map (·.size) = some cs.toArray.size by rw [List.size_toArray, hcl]; kernel_rfl)
    have YZ := Lib.hid (show [Value.slice none 0 0, .int .u32 0, .slice none 0 0].length = cs.toArray.size by rw [List.size_toArray, hcl]; rfl)
    clear hx1 hcl hco hcs X1
    go_wp2_with (first
      | (refine wpList_load_mid rfl 27 (.tmp 4) rfl w.heap.size 0 rfl cs _ Y1.out.range Try.underlying27 rfl YI.out ?_)
      | (refine wpList_store_blk2 rfl 27 (.tmp 8) (.tmp 18) rfl (w.heap.size + 2) _ cs.toArray X3.out YZ.out rfl rfl YJ.out YO.out ?_; intro WE hB9 hO9 hbl9 hs9))
    exact bodyPost_ret (v := .agg cs.toArray) (results_cell_blk Try.results6 _ WE (w.heap.size + 2) cs _ rfl hB9 Try.underlying27 rfl YI.out) rfl ⟨by rw [YC.out], KB.out.trans (hbl9 _ (by omega))⟩
end Go.Proofs.Ytkamljmopbocnaa
