/- Proved: the card of ExecTime (auspexlaw18): an addition is done behind one cycle, a product behind three, a division behind as many as it takes; for every input; on the world that holds the table of instructions. -/
import Derived.Test.YtjhkebabbldfcaaDoorCards
import Derived.Test.YtjhkebabbldfcaaDoorTie
import Derived.Test.YtjhkebabbldfcaaDoorExecGo
import Derived.Test.YtjhkebabbldfcaaDoorExecLaid
import Derived.Test.YtjhkebabbldfcaaDoorRefKind
import Derived.Laws.StructEq
import Derived.WalkKit
import Derived.ProofKit
import Derived.OpenShut
import Derived.Deep.DeepHandedRow
import Derived.Lib.LaidTab
namespace Go.Proofs.YtjhkebabbldfcaaDoor.execTime
open Go.ChangeShapes Go.WideShapes Go.ChangeAt Go.RowKit
set_option linter.unusedVariables false
set_option linter.unusedSimpArgs false
set_option maxHeartbeats 2000000
set_option maxRecDepth 100000

theorem eql_ent (e : En) (w : World) : (Op.equalIn 10000 32 (.agg (enC e).toArray) (.agg (enC e).toArray)).run Tryd.prog w = .ok true w := by
  obtain ⟨no, pc, op, rd, rs1, rs2, imm, guess, is, left, value, next, addr, halt, took, known, filled⟩ := e
  unfold enC
  rw [show (10000 : Nat) = 9999 + 1 from rfl, run_equalIn_agg w 9999 32 _ _ (by kernel_rfl) (by kernel_rfl)]
  simp only [Program.fieldsOf, Tryd.underlying32]
  have hJ : Tryd.prog.stoodInHeld 30 = false := by kernel_rfl
  go_simp

/-- behind k rounds -/
def yK (x : En) (L : Int) (k : Nat) : En := if (k : Int) < L then { x with left := L - k } else { x with left := 0, is := 3, known := if kindI x.op = 5 ∧ x.halt = 0 then true else x.known }
theorem go_yK (x : En) (L : Int) (k : Nat) (h1 : x.is = 1) (h : (k : Int) < L) : goE (yK x L k) = yK x L (k + 1) := by
  unfold goE yK
  rw [if_pos h]
  simp only
  rw [if_neg (by simp [h1])]
  by_cases h2 : (k : Int) + 1 < L
  · rw [if_pos (show 0 < L - (k : Int) - 1 by omega), if_pos (show ((k + 1 : Nat) : Int) < L by push_cast; omega)]
    congr 1
    push_cast
    omega
  · rw [if_neg (show ¬ (0 < L - (k : Int) - 1) by omega), if_neg (show ¬ (((k + 1 : Nat) : Int) < L) by push_cast; omega)]
theorem yK_zero (x : En) (L : Int) (hL : x.left = L) (h : 1 ≤ L) : yK x L 0 = x := by
  unfold yK
  rw [if_pos (by push_cast; omega)]
  obtain ⟨no, pc, op, rd, rs1, rs2, imm, guess, is, left, value, next, addr, halt, took, known, filled⟩ := x
  simp only at hL
  subst hL
  simp
theorem took_range (op a b : Int) (hk : kindI op = 2) (ha : 0 ≤ a) (ha' : a < 4294967296) (hb : 0 ≤ b) (hb' : b < 4294967296) : 1 ≤ tookW op a b ∧ tookW op a b ≤ 40 := by
  have ho : 42 ≤ op ∧ op ≤ 45 := by
    unfold kindI at hk
    by_cases h : 42 ≤ op ∧ op ≤ 45
    · exact h
    · exfalso
      revert hk
      repeat' split
      all_goals first | (intro h; omega) | simp
  unfold tookW
  rw [if_pos ho]
  obtain ⟨a0, a1⟩ := sz_range (op := op) ha ha'
  obtain ⟨b0, b1⟩ := sz_range (op := op) hb hb'
  split
  · omega
  · have h1 := nb_mono (m := (sz op b).toNat) (n := (sz op a).toNat) (by omega)
    have h2 := nb_le32 (n := (sz op a).toNat) (by omega)
    omega
theorem start_is (e : En) (a b : Int) (h0 : e.is = 0) (h1 : e.halt = 0) (h3 : kindI e.op ≠ 3) (h4 : kindI e.op ≠ 4) (ha : 0 ≤ a) (ha' : a < 4294967296) (hb : 0 ≤ b) (hb' : b < 4294967296) :
    (startE e a b).is = 1 ∧ 1 ≤ (startE e a b).left ∧ (startE e a b).left ≤ 40 ∧ ((startE e a b).halt = 0 ∨ (startE e a b).halt = 3) ∧
    (kindI e.op = 1 → (startE e a b).left = 3) ∧ (kindI e.op = 2 → (startE e a b).took = (startE e a b).left) ∧ (kindI e.op ≠ 1 → kindI e.op ≠ 2 → (startE e a b).left = 1) := by
  have ht := took_range e.op a b
  unfold startE
  rw [if_neg (by simp [h0, h3, h4])]
  unfold startG
  by_cases k1 : kindI e.op = 1
  · simp [k1, h1]
  · by_cases k2 : kindI e.op = 2
    · obtain ⟨t1, t2⟩ := ht k2 ha ha' hb hb'
      simp [k2, h1, t1, t2]
    · by_cases k5 : kindI e.op = 5
      · by_cases hn : nextW e.op e.imm e.pc a b % 4 = 0
        · simp [k5, hn, h1]
        · simp [k5, hn]
      · simp [k1, k2, k5, h1]

theorem walk (e : En) (a b : Int) (we : enOK e) (wa : (Lit.int .u32 a).wf = true) (wb : (Lit.int .u32 b).wf = true) (w : World) (ht : TabIs w ∧ 0 < w.heap.size) :
    Calls Tryd.prog 9 #[enV e, .int .u32 a, .int .u32 b] w fun r w' => r = .returned (.bool true) ∧ Below w.heap.size w w' := by
  obtain ⟨htb, hg⟩ := ht
  obtain ⟨ha, ha'⟩ := bounds_u32 wa
  obtain ⟨hb, hb'⟩ := bounds_u32 wb
  have hi := bounds_u32 we.2.2.2.2.2.2.1
  obtain ⟨no, pc, op, rd, rs1, rs2, imm, guess, is, left, value, next, addr, halt, took, known, filled⟩ := e
  simp only at hi
  have HST := Lib.hid (fun w ht hg => start_any ⟨no, pc, op, rd, rs1, rs2, imm, guess, 0, left, value, next, addr, 0, took, known, filled⟩ a b hi.1 (by show imm < 4294967296; omega) ha (by omega) hb (by omega) w ht hg)
  have HSI := Lib.hid (fun h3 h4 => start_is ⟨no, pc, op, rd, rs1, rs2, imm, guess, 0, left, value, next, addr, 0, took, known, filled⟩ a b rfl rfl h3 h4 ha (by omega) hb (by omega))
  have HRK := Lib.hid (fun w => refKind_any op w)
  have HTB := Lib.hid htb
  clear htb we wa wb ha ha' hb hb' hi
  have f1 := Blk.new w 32 [.int .i64 no, .int .u32 pc, .int .i64 op, .int .i64 rd, .int .i64 rs1, .int .i64 rs2, .int .u32 imm, .int .u32 guess, .int .i64 is, .int .i64 left, .int .u32 value, .int .u32 next, .int .u32 addr, .int .i64 halt, .int .i64 took, .bool known, .bool filled]
  have f3 : Below w.heap.size w (w.alloc (.cells #[.int .i64 no, .int .u32 pc, .int .i64 op, .int .i64 rd, .int .i64 rs1, .int .i64 rs2, .int .u32 imm, .int .u32 guess, .int .i64 is, .int .i64 left, .int .u32 value, .int .u32 next, .int .u32 addr, .int .i64 halt, .int .i64 took, .bool known, .bool filled] 32)) := (Below.refl _ _).alloc (Nat.le_refl _) _
  unfold enV enC
  go_enter Tryd.func9, Tryd.ntmps9
  go_upto_region 1 with fail
  generalize w.alloc (.cells #[.int .i64 no, .int .u32 pc, .int .i64 op, .int .i64 rd, .int .i64 rs1, .int .i64 rs2, .int .u32 imm, .int .u32 guess, .int .i64 is, .int .i64 left, .int .u32 value, .int .u32 next, .int .u32 addr, .int .i64 halt, .int .i64 took, .bool known, .bool filled] 32) = W0 at *
  have X1 := Lib.hid f1
  have X3 := Lib.hid f3
  clear f1 f3
  have s8 := X1.out.2.1 8 _ rfl
  have s13 := X1.out.2.1 13 _ rfl
  have g8 := X1.out.2.2 8 (by simp)
  have g13 := X1.out.2.2 13 (by simp)
  go_upto_region 2 with fail
  have z1 := (X1.out.set (i := 8) (v := .int .i64 0) (by simp)).set (i := 13) (v := .int .i64 0) (by simp)
  simp only [List.set_cons_succ, List.set_cons_zero] at z1
  have z3 := (X3.out.setCell (p := ⟨w.heap.size, 8, none⟩) (Nat.le_refl _) (.int .i64 0)).setCell (p := ⟨w.heap.size, 13, none⟩) (Nat.le_refl _) (.int .i64 0)
  generalize (W0.setCell ⟨w.heap.size, 8, none⟩ (.int .i64 0)).setCell ⟨w.heap.size, 13, none⟩ (.int .i64 0) = W1 at *
  clear X1 X3 s8 s13 g8 g13
  have z0 : Blk W1 w.heap.size (enC ⟨no, pc, op, rd, rs1, rs2, imm, guess, 0, left, value, next, addr, 0, took, known, filled⟩) := z1
  clear z1
  obtain ⟨e0, he0⟩ : ∃ e0 : En, (⟨no, pc, op, rd, rs1, rs2, imm, guess, 0, left, value, next, addr, 0, took, known, filled⟩ : En) = e0 := ⟨_, rfl⟩
  have hop : e0.op = op := by rw [← he0]
  have h8 : (enC e0)[8]? = some (.int .i64 0) := by rw [← he0]; rfl
  have h2 : (enC e0)[2]? = some (.int .i64 op) := by rw [← he0]; rfl
  rw [he0] at z0 HST HSI
  clear he0
  have X1 := Lib.hid z0
  have X3 := Lib.hid z3
  have H8 := Lib.hid h8
  have H2 := Lib.hid h2
  clear z0 z3 h8 h2
  rw [hop] at HSI
  have ha0 := enC_one e0
  have hl0 : (enC e0).length = 17 := rfl
  have HQ := Lib.hid (eql_ent e0)
  obtain ⟨cs, hcs⟩ : ∃ cs, enC e0 = cs := ⟨_, rfl⟩
  have hsv : enV e0 = .agg cs.toArray := by unfold enV; rw [hcs]
  have HEG : Tryd.prog.eqGuardType Tryd.prog.depth 32 = false := by kernel_rfl
  obtain ⟨x, hx⟩ : ∃ x, startE e0 a b = x := ⟨_, rfl⟩
  rw [hsv, hx] at HST
  rw [hx] at HSI
  rw [hcs] at X1 H8 H2 ha0 hl0 HQ
  have HI := Lib.hid (show (Tryd.prog.info? 32).map (·.size) = some cs.length by rw [hl0]; exact ent_info)
  have HCS := Lib.hid hcs
  have HX := Lib.hid hx
  have HHG := Lib.hid HEG
  clear hcs hsv hx HEG ha0 hl0
  have hlx : (enC x).length = 17 := rfl
  have hox := enC_one x
  obtain ⟨xs, hxs⟩ : ∃ xs, enC x = xs := ⟨_, rfl⟩
  have hsx : enV x = .agg xs.toArray := by unfold enV; rw [hxs]
  rw [hsx] at HST
  rw [hxs] at hlx hox
  have HXS := Lib.hid hxs
  have HOX := Lib.hid hox
  have HZX := Lib.hid (show (#[.int .i64 0, .int .u32 0, .int .i64 0, .int .i64 0, .int .i64 0, .int .i64 0, .int .u32 0, .int .u32 0, .int .i64 0, .int .i64 0, .int .u32 0, .int .u32 0, .int .u32 0, .int .i64 0, .int .i64 0, .bool false, .bool false] : Array Value).size = xs.toArray.size by show 17 = _; rw [List.size_toArray, hlx])
  have HIX := Lib.hid (show (Tryd.prog.info? 32).map (·.size) = some xs.toArray.size by rw [List.size_toArray, hlx]; exact ent_info)
  clear hxs hox hsx hlx
  go_upto_region 3 with (first
    | (refine wpList_load_mid rfl 32 (.tmp 3) rfl w.heap.size 0 rfl cs _ X1.out.range Tryd.underlying32 rfl HI.out ?_)
    | (go_at_call 27; refine (HST.out _ (HTB.out.below X3.out hg) (Nat.lt_of_lt_of_le hg X3.out.size)).mono ?_; rintro r w2 ⟨rfl, b2⟩; have Y1 := Lib.hid (X1.out.below b2 X1.out.1); have Y3 := Lib.hid (X3.out.trans (b2.mono X3.out.size)); have YB := Lib.hid (Nat.lt_of_lt_of_le X1.out.1 b2.size); clear b2)
    | (refine wpList_store_fresh rfl 32 (.tmp 7) (.tmp 15) rfl _ xs.toArray _ rfl rfl HZX.out HIX.out HOX.out ?_; intro W3 hb3 hB3 hs3; have V1 := Lib.hid (Y1.out.below hb3 YB.out); have V3 := Lib.hid (Y3.out.trans (hb3.mono Y3.out.size)); have VX := Lib.hid (show Blk W3 w2.heap.size xs by simpa using hB3); clear hb3 hB3 hs3))
  have hlt := YB.out
  clear X1 X3 Y1 Y3 YB
  generalize w2.heap.size = xb at *
  by_cases hk : kindI op = 3 ∨ kindI op = 4
  · have hxe : x = e0 := by
      rw [← HX.out]
      unfold startE
      rw [if_pos (Or.inr (by rw [hop]; exact hk))]
    subst hxe
    have hxs : xs = cs := HXS.out.symm.trans HCS.out
    subst hxs
    clear HSI HX HXS HCS hk hop
    have c8 := VX.out.2.1 8 _ H8.out
    have HQ2 := HQ.out
    have HG2 := HHG.out
    go_wp2_with (first
      | (go_at_call 26; refine (alive18_any _ (HTB.out.below V3.out hg) (Nat.lt_of_lt_of_le hg V3.out.size)).mono ?_; rintro r w7 ⟨rfl, b7⟩; have B7 := Lib.hid (V3.out.trans (b7.mono V3.out.size)); have U1 := Lib.hid (V1.out.below b7 V1.out.1); have UX := Lib.hid (VX.out.below b7 VX.out.1); clear b7)
      | (refine wpList_load_want 32 (.tmp 7) rfl rfl xb 0 rfl xs _ UX.out.range Tryd.underlying32 rfl HI.out ?_)
      | (refine wpList_load_want 32 (.tmp 3) rfl rfl w.heap.size 0 rfl xs _ U1.out.range Tryd.underlying32 rfl HI.out ?_))
    go_ret
    exact ⟨rfl, B7.out⟩
  · obtain ⟨t1, t2, t3, t4, t5, t6, t7⟩ := HSI.out (fun h => hk (Or.inl h)) (fun h => hk (Or.inr h))
    obtain ⟨L, hL⟩ : ∃ L, x.left = L := ⟨_, rfl⟩
    rw [hL] at t2 t3 t5 t6 t7
    have hG := fun (k : Nat) (h : (k : Int) < L) (w : World) => go_any (yK x L k) (by unfold yK; rw [if_pos h]; show -9223372036854775808 < L - (k : Int); omega) (by unfold yK; rw [if_pos h]; show L - (k : Int) ≤ 9223372036854775807; omega) w
    have HG := Lib.hid hG
    have HGY := Lib.hid (fun (k : Nat) (h : (k : Int) < L) => go_yK x L k t1 h)
    have HY0 := Lib.hid (yK_zero x L hL t2)
    have HALT := Lib.hid t4
    have T5 := Lib.hid t5
    have T6 := Lib.hid t6
    have T7 := Lib.hid t7
    have x8 : xs[8]? = some (.int .i64 1) := by rw [← HXS.out, ← t1]; rfl
    have c8 := VX.out.2.1 8 _ x8
    have HY8 := Lib.hid (fun (k : Nat) (h : (k : Int) < L) => (show (enC (yK x L k))[8]? = some (.int .i64 1) by unfold yK; rw [if_pos h, ← t1]; rfl))
    have HZ8 := Lib.hid (fun (k : Nat) (h : ¬ (k : Int) < L) => (show (enC (yK x L k))[8]? = some (.int .i64 3) ∧ (enC (yK x L k))[9]? = some (.int .i64 0) ∧ (enC (yK x L k))[13]? = some (.int .i64 x.halt) ∧ (enC (yK x L k))[14]? = some (.int .i64 x.took) by unfold yK; rw [if_neg h]; exact ⟨rfl, rfl, rfl, rfl⟩))
    clear t1 t4 t5 t6 t7 hG hL x8 hk HSI HX HQ HHG HST hop H8
    have hv0 := VX.out
    rw [← HXS.out, ← HY0.out] at hv0
    have HV0 := Lib.hid hv0
    clear hv0 HY0 HOX HZX HIX
    go_wp2_with fail
    clear c8
    go_loopw [8] (fun n wr => ∃ k : Nat, (k : Int) ≤ L ∧ n = .int .i64 k ∧ Blk wr xb (enC (yK x L k)) ∧ Blk wr w.heap.size cs ∧ Below w.heap.size w wr) (fun n _ => (L - intOf n).toNat)
    case atStart => exact ⟨0, by push_cast; omega, rfl, HV0.out, V1.out, V3.out⟩
    case round =>
      obtain ⟨k, hkL, rfl, b1, b2, b3⟩ := hrel
      have B1 := Lib.hid b1
      have B2 := Lib.hid b2
      have B3 := Lib.hid b3
      clear b1 b2 b3 HV0 V1 V3 VX
      by_cases hlt2 : (k : Int) < L
      · have y8 := HY8.out k hlt2
        have HGk := HG.out k hlt2
        rw [HGY.out k hlt2] at HGk
        have z17 : (enC (yK x L (k + 1))).length = 17 := rfl
        have zo := enC_one (yK x L (k + 1))
        have y17 : (enC (yK x L k)).length = 17 := rfl
        unfold enV at HGk
        obtain ⟨ys, hys⟩ : ∃ ys, enC (yK x L k) = ys := ⟨_, rfl⟩
        obtain ⟨zs, hzs⟩ : ∃ zs, enC (yK x L (k + 1)) = zs := ⟨_, rfl⟩
        rw [hys] at B1 y8 HGk y17
        rw [hzs] at HGk z17 zo
        have HZS := Lib.hid hzs
        have HCG := Lib.hid HGk
        have HIY := Lib.hid (show (Tryd.prog.info? 32).map (·.size) = some ys.length by rw [y17]; exact ent_info)
        have HIZ := Lib.hid (show (Tryd.prog.info? 32).map (·.size) = some zs.toArray.size by rw [List.size_toArray, z17]; exact ent_info)
        have HLZ := Lib.hid (show ys.length = zs.toArray.size by rw [List.size_toArray, z17, y17])
        have HOZ := Lib.hid zo
        have c8 := B1.out.2.1 8 _ y8
        have dk : decide ((k : Int) < 50) = true := decide_eq_true (by omega)
        clear hys hzs z17 zo y17 y8 HGk
        go_wp2_with (first
          | (refine wpList_load_mid rfl 32 (.tmp 7) rfl xb 0 rfl ys _ B1.out.range Tryd.underlying32 rfl HIY.out ?_)
          | (go_at_call 31; refine (HCG.out _).mono ?_; rintro r w5 ⟨rfl, b5⟩; have C1 := Lib.hid (B1.out.below b5 B1.out.1); have C2 := Lib.hid (B2.out.below b5 B2.out.1); have C3 := Lib.hid (B3.out.trans (b5.mono B3.out.size)); clear b5)
          | (refine wpList_store_blk rfl 32 (.tmp 7) (.tmp 33) rfl xb ys zs.toArray C1.out HLZ.out rfl rfl HIZ.out HOZ.out ?_; intro W9 hB9 hO9 hbl9 hs9; have D1 := Lib.hid (show Blk W9 xb zs by simpa using hB9); have D2 := Lib.hid (hO9 _ _ (by omega) C2.out); have D3 := Lib.hid (C3.out.trans (hbl9 _ (by omega))); clear hB9 hO9 hbl9 hs9))
        go_roundw
        case rel => exact ⟨k + 1, by push_cast; omega, by go_num, by rw [HZS.out]; exact D1.out, D2.out, D3.out⟩
        case measure => simp [intOf]; omega
      · obtain ⟨k8, k9, k13, k14⟩ := HZ8.out k (by omega)
        have hkL2 : L = k := by omega
        subst hkL2
        have K8 := Lib.hid k8
        have K9 := Lib.hid k9
        have K13 := Lib.hid k13
        have c2 := B2.out.2.1 2 _ H2.out
        have c8 := B1.out.2.1 8 _ k8
        by_cases k1 : kindI op = 1
        · have q1 : (kindI op == 1) = true := by simpa using k1
          have t := T5.out k1
          have q9 : ((k : Int) == 3) = true := by simpa using t
          clear k8 k9 k13 k14 t k1
          rcases HALT.out with hh | hh
          · rw [hh] at K13
            clear hh
            go_wp2_with (first
              | (go_at_call 33; refine (HRK.out _).mono ?_; rintro r w6 ⟨rfl, rfl⟩)
              | (go_at_call 26; refine (alive18_any _ (HTB.out.below B3.out hg) (Nat.lt_of_lt_of_le hg B3.out.size)).mono ?_; rintro r w7 ⟨rfl, b7⟩; have c8 := (B1.out.below b7 B1.out.1).2.1 8 _ K8.out; have c9 := (B1.out.below b7 B1.out.1).2.1 9 _ K9.out; have c13 := (B1.out.below b7 B1.out.1).2.1 13 _ K13.out; have B7 := Lib.hid (B3.out.trans (b7.mono B3.out.size)); clear b7))
            go_ret
            exact ⟨rfl, B7.out⟩
          · rw [hh] at K13
            clear hh
            go_wp2_with (first
              | (go_at_call 33; refine (HRK.out _).mono ?_; rintro r w6 ⟨rfl, rfl⟩)
              | (go_at_call 26; refine (alive18_any _ (HTB.out.below B3.out hg) (Nat.lt_of_lt_of_le hg B3.out.size)).mono ?_; rintro r w7 ⟨rfl, b7⟩; have c8 := (B1.out.below b7 B1.out.1).2.1 8 _ K8.out; have c9 := (B1.out.below b7 B1.out.1).2.1 9 _ K9.out; have c13 := (B1.out.below b7 B1.out.1).2.1 13 _ K13.out; have B7 := Lib.hid (B3.out.trans (b7.mono B3.out.size)); clear b7))
            go_ret
            exact ⟨rfl, B7.out⟩
        · have q1 : (kindI op == 1) = false := by simpa using k1
          by_cases k2 : kindI op = 2
          · have q2 : (kindI op == 2) = true := by simpa using k2
            rw [T6.out k2] at k14
            have c14 := B1.out.2.1 14 _ k14
            clear k8 k9 k13 k14 k1 k2
            rcases HALT.out with hh | hh
            · rw [hh] at K13
              clear hh
              go_wp2_with (first
                | (go_at_call 33; refine (HRK.out _).mono ?_; rintro r w6 ⟨rfl, rfl⟩)
                | (go_at_call 26; refine (alive18_any _ (HTB.out.below B3.out hg) (Nat.lt_of_lt_of_le hg B3.out.size)).mono ?_; rintro r w7 ⟨rfl, b7⟩; have c8 := (B1.out.below b7 B1.out.1).2.1 8 _ K8.out; have c9 := (B1.out.below b7 B1.out.1).2.1 9 _ K9.out; have c13 := (B1.out.below b7 B1.out.1).2.1 13 _ K13.out; have B7 := Lib.hid (B3.out.trans (b7.mono B3.out.size)); clear b7))
              go_ret
              exact ⟨rfl, B7.out⟩
            · rw [hh] at K13
              clear hh
              go_wp2_with (first
                | (go_at_call 33; refine (HRK.out _).mono ?_; rintro r w6 ⟨rfl, rfl⟩)
                | (go_at_call 26; refine (alive18_any _ (HTB.out.below B3.out hg) (Nat.lt_of_lt_of_le hg B3.out.size)).mono ?_; rintro r w7 ⟨rfl, b7⟩; have c8 := (B1.out.below b7 B1.out.1).2.1 8 _ K8.out; have c9 := (B1.out.below b7 B1.out.1).2.1 9 _ K9.out; have c13 := (B1.out.below b7 B1.out.1).2.1 13 _ K13.out; have B7 := Lib.hid (B3.out.trans (b7.mono B3.out.size)); clear b7))
              go_ret
              exact ⟨rfl, B7.out⟩
          · have q2 : (kindI op == 2) = false := by simpa using k2
            have t := T7.out k1 k2
            have q9 : ((k : Int) == 1) = true := by simpa using t
            clear k8 k9 k13 k14 t k1 k2
            rcases HALT.out with hh | hh
            · rw [hh] at K13
              clear hh
              go_wp2_with (first
                | (go_at_call 33; refine (HRK.out _).mono ?_; rintro r w6 ⟨rfl, rfl⟩)
                | (go_at_call 26; refine (alive18_any _ (HTB.out.below B3.out hg) (Nat.lt_of_lt_of_le hg B3.out.size)).mono ?_; rintro r w7 ⟨rfl, b7⟩; have c8 := (B1.out.below b7 B1.out.1).2.1 8 _ K8.out; have c9 := (B1.out.below b7 B1.out.1).2.1 9 _ K9.out; have c13 := (B1.out.below b7 B1.out.1).2.1 13 _ K13.out; have B7 := Lib.hid (B3.out.trans (b7.mono B3.out.size)); clear b7))
              go_ret
              exact ⟨rfl, B7.out⟩
            · rw [hh] at K13
              clear hh
              go_wp2_with (first
                | (go_at_call 33; refine (HRK.out _).mono ?_; rintro r w6 ⟨rfl, rfl⟩)
                | (go_at_call 26; refine (alive18_any _ (HTB.out.below B3.out hg) (Nat.lt_of_lt_of_le hg B3.out.size)).mono ?_; rintro r w7 ⟨rfl, b7⟩; have c8 := (B1.out.below b7 B1.out.1).2.1 8 _ K8.out; have c9 := (B1.out.below b7 B1.out.1).2.1 9 _ K9.out; have c13 := (B1.out.below b7 B1.out.1).2.1 13 _ K13.out; have B7 := Lib.hid (B3.out.trans (b7.mono B3.out.size)); clear b7))
              go_ret
              exact ⟨rfl, B7.out⟩
theorem own : ownKnob Tryd.prog.godebug = none := by kernel_rfl
theorem laidOut : laidOutB Tryd.prog = true := by kernel_rfl
set_option maxRecDepth 100000 in
theorem contract (H : Type) (enc : TypeId × Value → H) (W : World) (base : Nat) (args : Array Value) (ds gs : List (DataW H)) (before : List MemPlace)
    (hval : ∀ (j : Nat) t v, Tryd.f9.params[j]? = some t → args[j]? = some v → Value.okWide Tryd.prog W .any base t v)
    (hW : DataW.Whole enc Tryd.prog Tryd.f9.params.toList Rows.execTimeSpec.vars false W args.toList ds gs before) (hL : laidMetH Tryd.prog Rows.execTimeRow.laid W) :
    Calls Tryd.prog 9 args W fun e W' => ∃ v, e = .returned v ∧ Rows.execTimeSpec.post enc Tryd.prog Tryd.f9 false true false false W args v W' := by
  have hW' := hW
  obtain ⟨p, q, hA0, hV, rfl, hfz, hnd⟩ := hW
  have hA : DataW.TrodAll enc Tryd.prog W 0 (fun _ => true) true Tryd.f9.params.toList args.toList ds p := hA0
  rw [Tryd.params9] at hA hval
  obtain ⟨v0, vs0, d0, ds0, p0, q0, hargs, rfl, rfl, h0, r0⟩ := trodAll_cons hA
  obtain ⟨v1, vs1, d1, ds1, p1, q1, rfl, rfl, rfl, h1, r1⟩ := trodAll_cons r0
  obtain ⟨v2, vs2, d2, ds2, p2, q2, rfl, rfl, rfl, h2, r2⟩ := trodAll_cons r1
  obtain ⟨rfl, rfl, rfl⟩ := trodAll_nil r2
  obtain rfl : args = #[v0, v1, v2] := by cases args; simp_all
  obtain ⟨rfl, rfl⟩ := trodVars_none hV
  have hlt := hW'.lt
  have k0 := h0
  obtain ⟨e, rfl, w_e⟩ := arg_entry (hval 0 32 v0 rfl rfl) h0
  have k1 := h1
  obtain ⟨a, rfl, -, -, w_a⟩ := open_int Tryd.underlying28 (hval 1 28 v1 rfl rfl) h1
  have k2 := h2
  obtain ⟨b, rfl, -, -, w_b⟩ := open_int Tryd.underlying28 (hval 2 28 v2 rfl rfl) h2
  clear hA0
  simp only [List.append_nil] at hW'
  refine (walk e a b w_e w_a w_b W  (table hL)).mono fun e W' ⟨he, bel⟩ => ?_
  subst he
  exact ⟨_, rfl, _, _, _, [], _, [], hW', trodAll_mk1 (shut_bool Tryd.underlying4 _), (trodAll_cons_mk (Below.trod laidOut (by kernel_rfl) (of_decide_eq_true (by kernel_rfl)) k0 bel (fun x hx => hlt x (by simp [hx]))) (trodAll_cons_mk (Below.trod laidOut (by kernel_rfl) (of_decide_eq_true (by kernel_rfl)) k1 bel (fun x hx => hlt x (by simp [hx]))) (trodAll_cons_mk (Below.trod laidOut (by kernel_rfl) (of_decide_eq_true (by kernel_rfl)) k2 bel (fun x hx => hlt x (by simp [hx]))) trodAll_mk0))), rfl, bel.frame _, fun h => by cases h⟩

theorem laid_met (os : Os) : laidMet Tryd.prog Rows.execTimeRow.laid ((laidWorld os).forCall (fun _ _ => 0) ⟨#[], #[Value.agg #[.int .i64 0, .int .u32 0, .int .i64 0, .int .i64 0, .int .i64 0, .int .i64 0, .int .u32 0, .int .u32 0, .int .i64 0, .int .i64 0, .int .u32 0, .int .u32 0, .int .u32 0, .int .i64 0, .int .i64 0, .bool false, .bool false], Value.int .u32 0, Value.int .u32 0], []⟩).memory :=
  laidMet_of_run' 8 (by kernel_rfl) (by kernel_rfl)
theorem reads (os : Os) {H : Type} (enc : TypeId × Value → H) : ∃ places, DataW.whole enc Tryd.prog ((laidWorld os).forCall (fun _ _ => 0) ⟨#[], #[Value.agg #[.int .i64 0, .int .u32 0, .int .i64 0, .int .i64 0, .int .i64 0, .int .i64 0, .int .u32 0, .int .u32 0, .int .i64 0, .int .i64 0, .int .u32 0, .int .u32 0, .int .u32 0, .int .i64 0, .int .i64 0, .bool false, .bool false], Value.int .u32 0, Value.int .u32 0], []⟩).memory Tryd.f9.params.toList Rows.execTimeSpec.vars false #[Value.agg #[.int .i64 0, .int .u32 0, .int .i64 0, .int .i64 0, .int .i64 0, .int .i64 0, .int .u32 0, .int .u32 0, .int .i64 0, .int .i64 0, .int .u32 0, .int .u32 0, .int .u32 0, .int .i64 0, .int .i64 0, .bool false, .bool false], Value.int .u32 0, Value.int .u32 0].toList 8 = some ([.agg [.lit (.int .i64 0), .lit (.int .u32 0), .agg [.lit (.int .i64 0), .lit (.int .i64 0), .lit (.int .i64 0), .lit (.int .i64 0), .lit (.int .u32 0)], .lit (.int .u32 0), .lit (.int .i64 0), .lit (.int .i64 0), .lit (.int .u32 0), .lit (.int .u32 0), .lit (.int .u32 0), .lit (.int .i64 0), .lit (.int .i64 0), .lit (.bool false), .lit (.bool false)], .lit (.int .u32 0), .lit (.int .u32 0)], [], places) :=
  ⟨[], by kernel_rfl⟩

set_option maxRecDepth 100000 in
theorem lifted (os : Os) (started : os.Started) (H : Type) (enc : TypeId × Value → H) (F : Stop.Interp) :
    ReturnsInHanded {} Tryd.checked os 9 .any ((OpenSpec.ofChange Rows.execTimeSpec).preRow enc Tryd.prog Tryd.f9 Rows.execTimeRow.domain false Rows.execTimeRow.laid) (((OpenSpec.ofChange Rows.execTimeSpec).at F).post enc Tryd.prog Tryd.f9 false true false false) := by
  obtain ⟨places, hx⟩ := reads os enc
  refine returnsInHanded_of_row (C := Tryd.checked) (s := OpenSpec.ofChange Rows.execTimeSpec) own started (by kernel_rfl) Tryd.func9
    (witness_row_at (enc := enc) (C := Tryd.checked) false (laidWorld os) #[Value.agg #[.int .i64 0, .int .u32 0, .int .i64 0, .int .i64 0, .int .i64 0, .int .i64 0, .int .u32 0, .int .u32 0, .int .i64 0, .int .i64 0, .int .u32 0, .int .u32 0, .int .u32 0, .int .i64 0, .int .i64 0, .bool false, .bool false], Value.int .u32 0, Value.int .u32 0] rfl (by kernel_rfl) (by kernel_rfl) (by kernel_rfl)
      (OpenSpec.preRow_of_cond 8 hx (by kernel_rfl) (fun k hk => by cases hk) (by kernel_rfl) (laid_met os))) ?_
  intro W base args ds gs before hval hW _ _ _ hL _ _
  exact contract H enc W base args ds gs before hval hW hL

theorem said : Rows.ExecTimeSaid :=
  OpenClaim.holds_of_cond 9 Tryd.f9 rfl rfl rfl rfl rfl rfl rfl ⟨rfl, rfl, rfl, rfl, rfl⟩ rfl rfl rfl rfl rfl (by kernel_rfl) Tryd.func9 (by kernel_rfl)
    (of_decide_eq_true (by kernel_rfl)) (by unfold Func.isWrapper; first | (rw [if_pos (by decide +kernel)]; kernel_rfl) | (rw [if_neg (by decide +kernel)]; exact ⟨rfl, rfl⟩))
    (fun os started H enc _ F => by rw [OpenClaim.pre_eq_preRow]; exact lifted os started H enc F)

theorem plain (f : FuncId) (fn : Func) (hf : Tryd.pinned.checked.prog.funcNamed "auspex/auspexlaw18.ExecTime" = some f) (hfn : Tryd.pinned.checked.prog.funcs[f]? = some fn) :
    false = Tryd.pinned.checked.prog.looks [] ∧ ∀ (j : Nat) t, fn.params[j]? = some t → Tryd.pinned.checked.prog.wantsStandIn t = false := by
  obtain rfl : f = 9 := Option.some.inj ((show Tryd.prog.funcNamed "auspex/auspexlaw18.ExecTime" = some 9 by kernel_rfl).symm.trans hf) |>.symm
  obtain rfl : fn = Tryd.f9 := (Option.some.inj (Tryd.func9.symm.trans hfn)).symm
  refine ⟨by kernel_rfl, fun j t ht => ?_⟩
  rw [Tryd.params9] at ht
  have hm := Array.mem_of_getElem? ht
  simp only [List.mem_toArray, List.mem_cons, List.not_mem_nil, or_false] at hm
  rcases hm with rfl | rfl | rfl
  · exact (show Tryd.prog.wantsStandIn 32 = false by kernel_rfl)
  · exact (show Tryd.prog.wantsStandIn 28 = false by kernel_rfl)
  · exact (show Tryd.prog.wantsStandIn 28 = false by kernel_rfl)

/-- THE CARD -/
theorem proved : Rows.ExecTimeCardSaid :=
  Claim7.holds_tied_plain_at .later [] _ _ _ _ said (fun _ h => by cases h) (by kernel_rfl) (fun _ h => by cases h) execTime_row_tie rfl ⟨rfl, rfl⟩ (by kernel_rfl) rfl plain (by kernel_rfl)
#print axioms proved
end Go.Proofs.YtjhkebabbldfcaaDoor.execTime
