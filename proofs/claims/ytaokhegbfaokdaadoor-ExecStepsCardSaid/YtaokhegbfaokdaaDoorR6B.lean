import Derived.Test.YtaokhegbfaokdaaDoorSeqB
import Derived.Test.YtaokhegbfaokdaaDoorR5B
import Derived.Test.YtaokhegbfaokdaaDoorRef02X
import Derived.Test.YtaokhegbfaokdaaDoorRfB
import Derived.Deep.Cut
import Derived.Deep.CutRange
import Derived.Deep.RegionHeld3
import Derived.Test.YtaokhegbfaokdaaDoorSeqD
/- THE CONTRACT of auspexref06.Step: it answers as seq.Step does. -/
namespace Go.Proofs.YtaokhegbfaokdaaDoor
open Go.ChangeShapes Go.WideShapes Go.ChangeAt Go.RowKit Go.Sort
set_option linter.unusedVariables false
set_option linter.unusedSimpArgs false
set_option maxHeartbeats 4000000
set_option maxRecDepth 100000

/-- an instruction's end, cell by cell -/
theorem wrote_cells {s : Sq} (h : s.regs.length = 32) (op rd : Int) (kk : Nat) (hw : wrI op rd = kk) (hk : (kk : Int) < 32) (next v : Int) (t : St) :
    (kk = 0 → (sqC s).set 0 (.int .u32 next) = sqC (wrote s op rd next v t).1 ∧ [.int .u32 s.pc, .int .u32 next, .int .i64 (kk : Int), .int .u32 t.value, .int .u32 t.addr, .int .i64 t.size, .bool t.store, .int .i64 t.halt, .int .i64 t.took] = stC (wrote s op rd next v t).2) ∧
    (kk ≠ 0 → ((sqC s).set (1 + kk) (.int .u32 v)).set 0 (.int .u32 next) = sqC (wrote s op rd next v t).1 ∧ [.int .u32 s.pc, .int .u32 next, .int .i64 (kk : Int), .int .u32 v, .int .u32 t.addr, .int .i64 t.size, .bool t.store, .int .i64 t.halt, .int .i64 t.took] = stC (wrote s op rd next v t).2) := by
  refine ⟨fun hz => ?_, fun hz => ?_⟩
  · unfold wrote
    rw [hw, if_pos (by omega), if_pos (by omega)]
    exact ⟨sqC_setPc s next, rfl⟩
  · unfold wrote
    rw [hw, if_neg (by omega), if_neg (by omega), Nat.add_comm, sqC_setReg h kk (by omega) v, Int.toNat_natCast]
    exact ⟨rfl, rfl⟩
theorem stoS_is6 (b n : Int) (h : n = 1 ∨ n = 2 ∨ n = 4) : ((stoS b n).size : Int) = n := by
  unfold stoS
  rw [if_pos (by omega)]
  have h1 : (strOfNums (bytL b n.toNat)).size = n.toNat := by simp [strOfNums, bytL, ByteArray.size]
  omega
theorem refStep_any (A : Option Addr) (n cap : Nat) (zs : List Int) (s : Sq) (hs : sqOK s) (hn : n ≤ 200) (hz : ∀ z ∈ zs, 0 ≤ z ∧ z < 4294967296) (w : World) (h : IntsAt w A n .u32 zs) :
    Calls Tryd.prog 8 #[.slice A n cap, sqV s] w fun r w' => r = .returned (.tuple #[sqV (stepS zs s).1, stV (stepS zs s).2]) ∧ Below w.heap.size w w' := by
  obtain ⟨hp, hrl, hrr, hm⟩ := hs
  have HFE := Lib.hid (fun (W : World) (hb : Below w.heap.size w W) => refFetch_any (cap := cap) (h.below hb) hn s.pc hp.1 hp.2)
  have hl0 := h.1
  have hfr := ftV_range hz n s.pc
  have HH := Lib.hid (fun why addr w => refHalted_any s hrl why addr w)
  obtain ⟨s2, hs2⟩ : ∃ s2, (stepS zs s).1 = s2 := ⟨_, rfl⟩
  obtain ⟨t2, ht2⟩ : ∃ t2, (stepS zs s).2 = t2 := ⟨_, rfl⟩
  rw [hs2, ht2]
  have HL2 := Lib.hid (show s2.regs.length = 32 by rw [← hs2]; exact stepS_len hrl _)
  unfold stepS whyS at hs2 ht2
  rw [hl0] at hs2 ht2
  obtain ⟨a, ha⟩ : ∃ a, ftV zs n s.pc = a := ⟨_, rfl⟩
  rw [ha] at hs2 ht2 HFE hfr
  clear h hl0 ha hz
  obtain ⟨cs, hcs⟩ : ∃ cs, sqC s = cs := ⟨_, rfl⟩
  have hl := sqC_len hrl
  have h0 := sqC_pc s
  have h34 := sqC_halt hrl
  rw [hcs] at hl h0 h34
  have hsv : sqV s = .agg cs.toArray := by rw [← hcs]; rfl
  rw [hsv] at HH ⊢
  have HI := Lib.hid (show (Tryd.prog.info? 34).map (·.size) = some cs.length by rw [hl]; exact sq_info)
  have H0 := Lib.hid h0
  have H34 := Lib.hid h34
  have HL := Lib.hid hl
  have HCS := Lib.hid hcs
  clear hl h0 h34 hcs
  obtain ⟨cs2, hcs2⟩ : ∃ cs2, sqC s2 = cs2 := ⟨_, rfl⟩
  obtain ⟨ds2, hds2⟩ : ∃ ds2, stC t2 = ds2 := ⟨_, rfl⟩
  have hl2 : cs2.length = 35 := by rw [← hcs2]; exact sqC_len HL2.out
  have hl3 : ds2.length = 9 := by rw [← hds2]; rfl
  have ho2 := sqC_one s2
  have ho3 := stC_one t2
  rw [hcs2] at ho2
  rw [hds2] at ho3
  have HI2 := Lib.hid (show (Tryd.prog.info? 34).map (·.size) = some cs2.toArray.size by rw [List.size_toArray, hl2]; exact sq_info)
  have HZ2 := Lib.hid (show z35.length = cs2.toArray.size by rw [List.size_toArray, hl2]; rfl)
  have HI3 := Lib.hid (show (Tryd.prog.info? 36).map (·.size) = some ds2.toArray.size by rw [List.size_toArray, hl3]; exact st_info)
  have HZ3 := Lib.hid (show z9.length = ds2.toArray.size by rw [List.size_toArray, hl3]; rfl)
  have HO2 := Lib.hid ho2
  have HO3 := Lib.hid ho3
  have HC2 := Lib.hid hcs2
  have HD2 := Lib.hid hds2
  have hv2 : sqV s2 = .agg cs2.toArray := by rw [← hcs2]; rfl
  have hv3 : stV t2 = .agg ds2.toArray := by rw [← hds2]; rfl
  rw [hv2, hv3]
  go_enter Tryd.func8, Tryd.ntmps8
  go_upto_region 1 with fail
  refine wp_allocs [(cs, 34), (z35, 34), (z9, 36)] rfl ?_
  intro W0 y1 KB y3
  have X1 := Lib.hid (show Blk W0 w.heap.size cs from y3 0 _ rfl)
  have X3 := Lib.hid (show Blk W0 (w.heap.size + 1) z35 from y3 1 _ rfl)
  have X4 := Lib.hid (show Blk W0 (w.heap.size + 1 + 1) z9 from y3 2 _ rfl)
  replace KB := Lib.hid KB
  clear y1 y3
  have s34 := X1.out.2.1 34 _ H34.out
  by_cases hh : s.halt = 0
  · rw [if_neg (by simpa using hh)] at hs2 ht2
    rw [hh] at s34
    have P0 := Lib.hid (X1.out.2.1 0 _ H0.out)
    have s0 := P0.out
    have HV2 := Lib.hid (And.intro hv2 hv3)
    clear hcs2 hds2 hl2 hl3 ho2 ho3 hv2 hv3 hsv hh
    cases hfb : ftB n s.pc
    · rw [hfb] at HFE hs2 ht2
      simp only [if_true, ne_eq, show ¬ (1 : Int) = 0 by decide, not_false_eq_true] at hs2 ht2
      replace HH := Lib.hid (HH.out 1 0)
      rw [hs2, ht2, HV2.out.1, HV2.out.2] at HH
      clear hs2 ht2 hfb
      go_upto_region 5 with (go_at_call 21
                             refine (HFE.out _ KB.out).mono ?_
                             rintro e w1 ⟨rfl, rfl⟩
                             clear s0 s34 P0)
      go_wp2_with (first
        | (refine wpList_load_mid rfl 34 (.tmp 3) rfl _ 0 rfl cs _ X1.out.range Tryd.underlying34 rfl HI.out ?_)
        | (refine wpList_store_blk rfl 34 (.tmp 4) (.tmp 34) rfl (w.heap.size + 1) z35 cs2.toArray X3.out HZ2.out rfl rfl HI2.out HO2.out ?_; intro W7 hB7 hO7 hbl7 hs7; have X4' := hO7 _ _ (by omega) X4.out; replace X4 := Lib.hid X4'; clear X4')
        | (refine wpList_store_blk rfl 36 (.tmp 5) (.tmp 35) rfl (w.heap.size + 1 + 1) z9 ds2.toArray X4.out HZ3.out rfl rfl HI3.out HO3.out ?_; intro W8 hB8 hO8 hbl8 hs8)
        | (go_at_call 22
           refine (HH.out _).mono ?_
           rintro e w3 ⟨rfl, b⟩
           have z1 := X1.out.below b X1.out.1
           have z3 := X3.out.below b X3.out.1
           have z4 := X4.out.below b X4.out.1
           have z5 := KB.out.trans ((b).mono KB.out.size)
           clear X1 X3 X4 KB
           have X1 := Lib.hid z1
           have X3 := Lib.hid z3
           have X4 := Lib.hid z4
           have KB := Lib.hid z5
           clear z1 z3 z4 z5
           clear b))
      exact bodyPost_ret (v := .tuple #[.agg cs2.toArray, .agg ds2.toArray]) (results_cell_two Tryd.results8 _ W8 (w.heap.size + 1) (w.heap.size + 1 + 1) cs2 ds2 _ _ rfl rfl (hO8 _ _ (by omega) hB7) hB8 Tryd.underlying34 rfl (by simpa using HI2.out) Tryd.underlying36 rfl (by simpa using HI3.out)) rfl ⟨rfl, (KB.out.trans (hbl7 _ (by omega))).trans (hbl8 _ (by omega))⟩
    · rw [hfb] at HFE hs2 ht2
      simp only [Bool.true_eq_false, if_false] at hs2 ht2
      clear hfb
      have HDE := Lib.hid (fun w => refDec_any a hfr w)
      cases hc : chB a
      · rw [hc] at hs2 ht2
        simp only [if_true, ne_eq, show ¬ (2 : Int) = 0 by decide, not_false_eq_true] at hs2 ht2
        rw [(decV_no hc).1, (decV_no hc).2] at HDE
        replace HH := Lib.hid (HH.out 2 0)
        rw [hs2, ht2, HV2.out.1, HV2.out.2] at HH
        clear hs2 ht2 hc
        obtain ⟨I, hI⟩ : ∃ I : Ins, zeroAgg = inV I := ⟨⟨0, 0, 0, 0, 0⟩, rfl⟩
        rw [hI] at HDE
        clear hI
        obtain ⟨xs, hxs⟩ : ∃ xs, inC I = xs := ⟨_, rfl⟩
        have hx5 : xs.length = 5 := by rw [← hxs]; rfl
        have hxo := in5_one I
        rw [hxs] at hxo
        rw [show inV I = .agg xs.toArray by rw [← hxs]; rfl] at HDE
        have HX := Lib.hid (show (Tryd.prog.info? 25).map (·.size) = some xs.length by rw [hx5]; exact in_info)
        have HXO := Lib.hid hxo
        have HX5 := Lib.hid hx5
        have HXS := Lib.hid hxs
        clear hxs hx5 hxo
        go_upto_region 8 with (first | (go_at_call 21
                                        refine (HFE.out _ KB.out).mono ?_
                                        rintro e w1 ⟨rfl, rfl⟩
                                        clear s0 s34 P0) | (go_at_call 4
                                                            refine (HDE.out _).mono ?_
                                                            rintro e w1 ⟨rfl, b⟩
                                                            have z1 := X1.out.below b X1.out.1
                                                            have z3 := X3.out.below b X3.out.1
                                                            have z4 := X4.out.below b X4.out.1
                                                            have z5 := KB.out.trans ((b).mono KB.out.size)
                                                            clear X1 X3 X4 KB
                                                            have X1 := Lib.hid z1
                                                            have X3 := Lib.hid z3
                                                            have X4 := Lib.hid z4
                                                            have KB := Lib.hid z5
                                                            clear z1 z3 z4 z5
                                                            clear b) | (refine wpList_store_new rfl 25 (.tmp 8) (.tmp 39) rfl w1.heap.size rfl _ xs _ rfl rfl (by rw [HX5.out]; rfl) HX.out HXO.out ?_
                                                                        intro W2 hb2 hB2 hs2
                                                                        have hb8 : w.heap.size + 2 < w1.heap.size := X4.out.1
                                                                        have z1 := X1.out.below hb2 X1.out.1
                                                                        have z3 := X3.out.below hb2 X3.out.1
                                                                        have z4 := X4.out.below hb2 X4.out.1
                                                                        have z5 := KB.out.trans ((hb2).mono KB.out.size)
                                                                        clear X1 X3 X4 KB
                                                                        have X1 := Lib.hid z1
                                                                        have X3 := Lib.hid z3
                                                                        have X4 := Lib.hid z4
                                                                        have KB := Lib.hid z5
                                                                        clear z1 z3 z4 z5
                                                                        have X2 := Lib.hid hB2
                                                                        clear hb2 hB2 hs2))
        go_wp2_with (first
          | (refine wpList_load_mid rfl 34 (.tmp 3) rfl _ 0 rfl cs _ X1.out.range Tryd.underlying34 rfl HI.out ?_)
          | (refine wpList_store_blk rfl 34 (.tmp 4) (.tmp 45) rfl (w.heap.size + 1) z35 cs2.toArray X3.out HZ2.out rfl rfl HI2.out HO2.out ?_; intro W7 hB7 hO7 hbl7 hs7; have X4' := hO7 _ _ (by omega) X4.out; replace X4 := Lib.hid X4'; clear X4')
          | (refine wpList_store_blk rfl 36 (.tmp 5) (.tmp 46) rfl (w.heap.size + 1 + 1) z9 ds2.toArray X4.out HZ3.out rfl rfl HI3.out HO3.out ?_; intro W8 hB8 hO8 hbl8 hs8)
          | (go_at_call 22
             refine (HH.out _).mono ?_
             rintro e w3 ⟨rfl, b⟩
             have z1 := X1.out.below b X1.out.1
             have z3 := X3.out.below b X3.out.1
             have z4 := X4.out.below b X4.out.1
             have z5 := KB.out.trans ((b).mono KB.out.size)
             clear X1 X3 X4 KB
             have X1 := Lib.hid z1
             have X3 := Lib.hid z3
             have X4 := Lib.hid z4
             have KB := Lib.hid z5
             clear z1 z3 z4 z5
             clear b))
        exact bodyPost_ret (v := .tuple #[.agg cs2.toArray, .agg ds2.toArray]) (results_cell_two Tryd.results8 _ W8 (w.heap.size + 1) (w.heap.size + 1 + 1) cs2 ds2 _ _ rfl rfl (hO8 _ _ (by omega) hB7) hB8 Tryd.underlying34 rfl (by simpa using HI2.out) Tryd.underlying36 rfl (by simpa using HI3.out)) rfl ⟨rfl, (KB.out.trans (hbl7 _ (by omega))).trans (hbl8 _ (by omega))⟩
      · rw [hc] at hs2 ht2
        simp only [Bool.true_eq_false, if_false] at hs2 ht2
        rw [decV_in a hc, (decV_yes hc).2] at HDE
        have hok := insOf_ok a hc
        obtain ⟨I, hI⟩ : ∃ I, insOf a = I := ⟨_, rfl⟩
        rw [hI] at HDE hs2 ht2 hok
        clear hI hc
        obtain ⟨op, rd, r1, r2, im⟩ := I
        simp only at hs2 ht2
        obtain ⟨I, hI⟩ : ∃ I : Ins, I = ⟨op, rd, r1, r2, im⟩ := ⟨_, rfl⟩
        rw [← hI] at HDE
        have HI0 := Lib.hid (show (inC I)[0]? = some (.int .i64 op) by rw [hI]; rfl)
        have HIX := Lib.hid hI
        clear hI
        obtain ⟨xs, hxs⟩ : ∃ xs, inC I = xs := ⟨_, rfl⟩
        have hx5 : xs.length = 5 := by rw [← hxs]; rfl
        have hxo := in5_one I
        rw [hxs] at hxo
        rw [show inV I = .agg xs.toArray by rw [← hxs]; rfl] at HDE
        have HX := Lib.hid (show (Tryd.prog.info? 25).map (·.size) = some xs.length by rw [hx5]; exact in_info)
        have HXO := Lib.hid hxo
        have HX5 := Lib.hid hx5
        have HXS := Lib.hid hxs
        clear hxs hx5 hxo
        rw [HXS.out] at HI0
        by_cases h47 : op = 47
        · subst h47
          simp only [if_true, ne_eq, show ¬ (6 : Int) = 0 by decide, not_false_eq_true] at hs2 ht2
          replace HH := Lib.hid (HH.out 6 0)
          rw [hs2, ht2, HV2.out.1, HV2.out.2] at HH
          clear hs2 ht2 hok
          go_upto_region 9 with (first | (go_at_call 21
                                          refine (HFE.out _ KB.out).mono ?_
                                          rintro e w1 ⟨rfl, rfl⟩
                                          clear s0 s34 P0) | (go_at_call 4
                                                              refine (HDE.out _).mono ?_
                                                              rintro e w1 ⟨rfl, b⟩
                                                              have z1 := X1.out.below b X1.out.1
                                                              have z3 := X3.out.below b X3.out.1
                                                              have z4 := X4.out.below b X4.out.1
                                                              have z5 := KB.out.trans ((b).mono KB.out.size)
                                                              clear X1 X3 X4 KB
                                                              have X1 := Lib.hid z1
                                                              have X3 := Lib.hid z3
                                                              have X4 := Lib.hid z4
                                                              have KB := Lib.hid z5
                                                              clear z1 z3 z4 z5
                                                              clear b) | (refine wpList_store_new rfl 25 (.tmp 8) (.tmp 39) rfl w1.heap.size rfl _ xs _ rfl rfl (by rw [HX5.out]; rfl) HX.out HXO.out ?_
                                                                          intro W2 hb2 hB2 hs2
                                                                          have hb8 : w.heap.size + 2 < w1.heap.size := X4.out.1
                                                                          have z1 := X1.out.below hb2 X1.out.1
                                                                          have z3 := X3.out.below hb2 X3.out.1
                                                                          have z4 := X4.out.below hb2 X4.out.1
                                                                          have z5 := KB.out.trans ((hb2).mono KB.out.size)
                                                                          clear X1 X3 X4 KB
                                                                          have X1 := Lib.hid z1
                                                                          have X3 := Lib.hid z3
                                                                          have X4 := Lib.hid z4
                                                                          have KB := Lib.hid z5
                                                                          clear z1 z3 z4 z5
                                                                          have X2 := Lib.hid hB2
                                                                          clear hb2 hB2 hs2))
          have c0 := X2.out.2.1 0 _ HI0.out
          go_upto_region 10 with fail
          clear c0
          go_wp2_with (first
            | (refine wpList_load_mid rfl 34 (.tmp 3) rfl _ 0 rfl cs _ X1.out.range Tryd.underlying34 rfl HI.out ?_)
            | (refine wpList_store_blk rfl 34 (.tmp 4) (.tmp 52) rfl (w.heap.size + 1) z35 cs2.toArray X3.out HZ2.out rfl rfl HI2.out HO2.out ?_; intro W7 hB7 hO7 hbl7 hs7; have X4' := hO7 _ _ (by omega) X4.out; replace X4 := Lib.hid X4'; clear X4')
            | (refine wpList_store_blk rfl 36 (.tmp 5) (.tmp 53) rfl (w.heap.size + 1 + 1) z9 ds2.toArray X4.out HZ3.out rfl rfl HI3.out HO3.out ?_; intro W8 hB8 hO8 hbl8 hs8)
            | (go_at_call 22
               refine (HH.out _).mono ?_
               rintro e w3 ⟨rfl, b⟩
               have z1 := X1.out.below b X1.out.1
               have z3 := X3.out.below b X3.out.1
               have z4 := X4.out.below b X4.out.1
               have z5 := KB.out.trans ((b).mono KB.out.size)
               clear X1 X3 X4 KB
               have X1 := Lib.hid z1
               have X3 := Lib.hid z3
               have X4 := Lib.hid z4
               have KB := Lib.hid z5
               clear z1 z3 z4 z5
               clear b))
          exact bodyPost_ret (v := .tuple #[.agg cs2.toArray, .agg ds2.toArray]) (results_cell_two Tryd.results8 _ W8 (w.heap.size + 1) (w.heap.size + 1 + 1) cs2 ds2 _ _ rfl rfl (hO8 _ _ (by omega) hB7) hB8 Tryd.underlying34 rfl (by simpa using HI2.out) Tryd.underlying36 rfl (by simpa using HI3.out)) rfl ⟨rfl, (KB.out.trans (hbl7 _ (by omega))).trans (hbl8 _ (by omega))⟩
        · have q1 : (op == 47) = false := by simpa using h47
          rw [if_neg h47] at hs2 ht2
          by_cases h48 : op = 48
          · subst h48
            simp only [if_true, ne_eq, show ¬ (7 : Int) = 0 by decide, not_false_eq_true] at hs2 ht2
            replace HH := Lib.hid (HH.out 7 0)
            rw [hs2, ht2, HV2.out.1, HV2.out.2] at HH
            clear hs2 ht2 hok
            go_upto_region 9 with (first | (go_at_call 21
                                            refine (HFE.out _ KB.out).mono ?_
                                            rintro e w1 ⟨rfl, rfl⟩
                                            clear s0 s34 P0) | (go_at_call 4
                                                                refine (HDE.out _).mono ?_
                                                                rintro e w1 ⟨rfl, b⟩
                                                                have z1 := X1.out.below b X1.out.1
                                                                have z3 := X3.out.below b X3.out.1
                                                                have z4 := X4.out.below b X4.out.1
                                                                have z5 := KB.out.trans ((b).mono KB.out.size)
                                                                clear X1 X3 X4 KB
                                                                have X1 := Lib.hid z1
                                                                have X3 := Lib.hid z3
                                                                have X4 := Lib.hid z4
                                                                have KB := Lib.hid z5
                                                                clear z1 z3 z4 z5
                                                                clear b) | (refine wpList_store_new rfl 25 (.tmp 8) (.tmp 39) rfl w1.heap.size rfl _ xs _ rfl rfl (by rw [HX5.out]; rfl) HX.out HXO.out ?_
                                                                            intro W2 hb2 hB2 hs2
                                                                            have hb8 : w.heap.size + 2 < w1.heap.size := X4.out.1
                                                                            have z1 := X1.out.below hb2 X1.out.1
                                                                            have z3 := X3.out.below hb2 X3.out.1
                                                                            have z4 := X4.out.below hb2 X4.out.1
                                                                            have z5 := KB.out.trans ((hb2).mono KB.out.size)
                                                                            clear X1 X3 X4 KB
                                                                            have X1 := Lib.hid z1
                                                                            have X3 := Lib.hid z3
                                                                            have X4 := Lib.hid z4
                                                                            have KB := Lib.hid z5
                                                                            clear z1 z3 z4 z5
                                                                            have X2 := Lib.hid hB2
                                                                            clear hb2 hB2 hs2))
            have c0 := X2.out.2.1 0 _ HI0.out
            go_upto_region 12 with fail
            clear c0
            go_wp2_with (first
              | (refine wpList_load_mid rfl 34 (.tmp 3) rfl _ 0 rfl cs _ X1.out.range Tryd.underlying34 rfl HI.out ?_)
              | (refine wpList_store_blk rfl 34 (.tmp 4) (.tmp 59) rfl (w.heap.size + 1) z35 cs2.toArray X3.out HZ2.out rfl rfl HI2.out HO2.out ?_; intro W7 hB7 hO7 hbl7 hs7; have X4' := hO7 _ _ (by omega) X4.out; replace X4 := Lib.hid X4'; clear X4')
              | (refine wpList_store_blk rfl 36 (.tmp 5) (.tmp 60) rfl (w.heap.size + 1 + 1) z9 ds2.toArray X4.out HZ3.out rfl rfl HI3.out HO3.out ?_; intro W8 hB8 hO8 hbl8 hs8)
              | (go_at_call 22
                 refine (HH.out _).mono ?_
                 rintro e w3 ⟨rfl, b⟩
                 have z1 := X1.out.below b X1.out.1
                 have z3 := X3.out.below b X3.out.1
                 have z4 := X4.out.below b X4.out.1
                 have z5 := KB.out.trans ((b).mono KB.out.size)
                 clear X1 X3 X4 KB
                 have X1 := Lib.hid z1
                 have X3 := Lib.hid z3
                 have X4 := Lib.hid z4
                 have KB := Lib.hid z5
                 clear z1 z3 z4 z5
                 clear b))
            exact bodyPost_ret (v := .tuple #[.agg cs2.toArray, .agg ds2.toArray]) (results_cell_two Tryd.results8 _ W8 (w.heap.size + 1) (w.heap.size + 1 + 1) cs2 ds2 _ _ rfl rfl (hO8 _ _ (by omega) hB7) hB8 Tryd.underlying34 rfl (by simpa using HI2.out) Tryd.underlying36 rfl (by simpa using HI3.out)) rfl ⟨rfl, (KB.out.trans (hbl7 _ (by omega))).trans (hbl8 _ (by omega))⟩
          · have q2 : (op == 48) = false := by simpa using h48
            rw [if_neg h48] at hs2 ht2
            simp only [ne_eq, not_true_eq_false, if_false] at hs2 ht2
            go_upto_region 9 with (first | (go_at_call 21
                                            refine (HFE.out _ KB.out).mono ?_
                                            rintro e w1 ⟨rfl, rfl⟩
                                            clear s0 s34 P0) | (go_at_call 4
                                                                refine (HDE.out _).mono ?_
                                                                rintro e w1 ⟨rfl, b⟩
                                                                have z1 := X1.out.below b X1.out.1
                                                                have z3 := X3.out.below b X3.out.1
                                                                have z4 := X4.out.below b X4.out.1
                                                                have z5 := KB.out.trans ((b).mono KB.out.size)
                                                                clear X1 X3 X4 KB
                                                                have X1 := Lib.hid z1
                                                                have X3 := Lib.hid z3
                                                                have X4 := Lib.hid z4
                                                                have KB := Lib.hid z5
                                                                clear z1 z3 z4 z5
                                                                clear b) | (refine wpList_store_new rfl 25 (.tmp 8) (.tmp 39) rfl w1.heap.size rfl _ xs _ rfl rfl (by rw [HX5.out]; rfl) HX.out HXO.out ?_
                                                                            intro W2 hb2 hB2 hs2
                                                                            have hb8 : w.heap.size + 2 < w1.heap.size := X4.out.1
                                                                            have z1 := X1.out.below hb2 X1.out.1
                                                                            have z3 := X3.out.below hb2 X3.out.1
                                                                            have z4 := X4.out.below hb2 X4.out.1
                                                                            have z5 := KB.out.trans ((hb2).mono KB.out.size)
                                                                            clear X1 X3 X4 KB
                                                                            have X1 := Lib.hid z1
                                                                            have X3 := Lib.hid z3
                                                                            have X4 := Lib.hid z4
                                                                            have KB := Lib.hid z5
                                                                            clear z1 z3 z4 z5
                                                                            have X2 := Lib.hid hB2
                                                                            clear hb2 hB2 hs2))
            have c0 := X2.out.2.1 0 _ HI0.out
            obtain ⟨ho, hrd, h1, h2, him, hw, hw4⟩ := hok
            simp only at ho hrd h1 h2 him hw hw4
            obtain ⟨k1, rfl⟩ : ∃ k : Nat, r1 = (k : Int) := ⟨r1.toNat, by omega⟩
            obtain ⟨k2, rfl⟩ : ∃ k : Nat, r2 = (k : Int) := ⟨r2.toNat, by omega⟩
            obtain ⟨kk, hkk⟩ : ∃ k : Nat, wrI op rd = (k : Int) := ⟨(wrI op rd).toNat, by omega⟩
            have hk31 : (kk : Int) < 32 := by omega
            have HI1 := Lib.hid (show xs[1]? = some (.int .i64 rd) by rw [← HXS.out, HIX.out]; rfl)
            have HI2' := Lib.hid (show xs[2]? = some (.int .i64 (k1 : Int)) by rw [← HXS.out, HIX.out]; rfl)
            have HI3' := Lib.hid (show xs[3]? = some (.int .i64 (k2 : Int)) by rw [← HXS.out, HIX.out]; rfl)
            have HI4 := Lib.hid (show xs[4]? = some (.int .u32 im) by rw [← HXS.out, HIX.out]; rfl)
            have HXV := Lib.hid (show (.agg #[.int .i64 op, .int .i64 rd, .int .i64 (k1 : Int), .int .i64 (k2 : Int), .int .u32 im] : Value) = .agg xs.toArray by rw [← HXS.out, HIX.out]; rfl)
            unfold doS at hs2 ht2
            have rg1 : rg s.regs (k1 : Int) = s.regs.getD k1 0 := by unfold rg; rw [Int.toNat_natCast]
            have rg2 : rg s.regs (k2 : Int) = s.regs.getD k2 0 := by unfold rg; rw [Int.toNat_natCast]
            have x01 := rg_range hrr (k1 : Int)
            have y01 := rg_range hrr (k2 : Int)
            simp only at hs2 ht2
            rw [rg1, rg2] at hs2 ht2
            rw [rg1] at x01
            rw [rg2] at y01
            have hg1 := sqC_reg hrl k1 (by omega)
            have hg2 := sqC_reg hrl k2 (by omega)
            have hgk := sqC_reg hrl kk (by omega)
            rw [HCS.out, Nat.add_comm] at hg1 hg2 hgk
            obtain ⟨x, hx⟩ : ∃ x, s.regs.getD k1 0 = x := ⟨_, rfl⟩
            obtain ⟨y, hy⟩ : ∃ y, s.regs.getD k2 0 = y := ⟨_, rfl⟩
            rw [hx] at hs2 ht2 hg1 x01
            rw [hy] at hs2 ht2 hg2 y01
            have G1 := Lib.hid hg1
            have G2 := Lib.hid hg2
            have GK := Lib.hid hgk
            have GM := Lib.hid (show cs[33]? = some (.string s.mem) by rw [← HCS.out]; exact sqC_mem hrl)
            have HPC := Lib.hid hp
            obtain ⟨pc, hpc⟩ : ∃ pc, s.pc = pc := ⟨_, rfl⟩
            rw [hpc] at hs2 ht2 H0 HPC
            have hk1 : (k1 : Int) < 32 := by omega
            have hk2 : (k2 : Int) < 32 := by omega
            clear hg1 hg2 hgk rg1 rg2 hx hy h1 h2
            obtain ⟨V, hV⟩ : ∃ V, valW op im pc x y = V := ⟨_, rfl⟩
            obtain ⟨K, hK⟩ : ∃ K, nextW op im pc x y = K := ⟨_, rfl⟩
            obtain ⟨T, hT⟩ : ∃ T, tookW op x y = T := ⟨_, rfl⟩
            have HK := Lib.hid (fun w => refKind_any op w)
            have HVA := Lib.hid (fun w => refValue_any op rd k1 k2 im pc x y him.1 him.2 x01.1 x01.2 y01.1 y01.2 w)
            have HTA := Lib.hid (fun w => refNext_any op rd k1 k2 im pc x y x01.1 x01.2 y01.1 y01.2 w)
            have HTK := Lib.hid (fun w => refTook_any op x y x01.1 x01.2 y01.1 y01.2 w)
            have HWr := Lib.hid (fun w => refWrites_any op rd k1 k2 im w)
            rw [HXV.out] at HVA HTA
            rw [hV] at hs2 ht2 HVA
            rw [hK] at hs2 ht2 HTA
            rw [hT] at hs2 ht2 HTK
            clear hV hK hT
            rw [hkk] at HWr
            obtain ⟨kd, hkd⟩ : ∃ kd, kindI op = kd := ⟨_, rfl⟩
            rw [hkd] at HK hs2 ht2 hw4
            have HW4 := Lib.hid (show kd = 4 → kk = 0 by omega)
            have HKK := Lib.hid hkk
            have HS2 := Lib.hid hs2
            have HT2 := Lib.hid ht2
            have HXY := Lib.hid (And.intro x01 y01)
            have HIM := Lib.hid him
            have HRL := Lib.hid hrl
            have HKD := Lib.hid hkd
            have HM := Lib.hid hm
            have HS1 := Lib.hid hpc
            have HIO := Lib.hid (show cs.toArray.all (·.oneCell') = true by rw [← HCS.out]; exact sqC_one s)
            clear him hrd hw4 ho hkd hs2 ht2 hw x01 y01 hrl hrr hm hp hpc hkk hfr
            generalize w1.heap.size = b8 at *
            go_upto_region 13 with fail
            clear c0
            have c2 := X2.out.2.1 2 _ HI2'.out
            have c3 := X2.out.2.1 3 _ HI3'.out
            have d1 := X1.out.2.1 (1 + k1) _ G1.out
            have d2 := X1.out.2.1 (1 + k2) _ G2.out
            go_upto_region 15 with fail
            clear c2 c3 d1 d2
            have c0 := X2.out.2.1 0 _ HI0.out
            go_upto_region 16 with (go_at_call 5; refine (HK.out _).mono ?_; rintro e w4 ⟨rfl, rfl⟩)
            go_cut [13] from 74 to 81 (fun v wx => ∃ b, v = .pointer (some ⟨b, 0, none⟩) ∧ W2.heap.size ≤ b ∧ Blk wx b [.int .u32 pc, .int .u32 ((pc + 4) % 4294967296), .int .i64 (kk : Int), .int .u32 0, .int .u32 0, .int .i64 0, .bool false, .int .i64 0, .int .i64 0] ∧ RowKit.Below W2.heap.size W2 wx)
            case first =>
              have HST := Lib.hid (fun w' (hb : RowKit.Below W2.heap.size W2 w') => (show w'.cell? ⟨w.heap.size, 0, none⟩ = some (.int .u32 pc) ∧ w'.cell? ⟨b8, 0, none⟩ = some (.int .i64 op) ∧ w'.cell? ⟨b8, 1, none⟩ = some (.int .i64 rd) ∧ w'.cell? ⟨b8, 2, none⟩ = some (.int .i64 (k1 : Int)) ∧ w'.cell? ⟨b8, 3, none⟩ = some (.int .i64 (k2 : Int)) ∧ w'.cell? ⟨b8, 4, none⟩ = some (.int .u32 im) from
                ⟨(X1.out.below hb X1.out.1).2.1 0 _ H0.out, (X2.out.below hb X2.out.1).2.1 0 _ HI0.out, (X2.out.below hb X2.out.1).2.1 1 _ HI1.out, (X2.out.below hb X2.out.1).2.1 2 _ HI2'.out, (X2.out.below hb X2.out.1).2.1 3 _ HI3'.out, (X2.out.below hb X2.out.1).2.1 4 _ HI4.out⟩))
              clear c0
              have LD := Lib.hid (show RowKit.Below W2.heap.size W2 W2.drew from (RowKit.Below.refl W2.heap.size W2).drew)
              have LA := Lib.hid (fun o => show RowKit.Below W2.heap.size W2 (W2.drew.alloc o) from (RowKit.Below.refl W2.heap.size W2).drew.alloc (Nat.le_refl _) o)
              have LB := Lib.hid (fun o => show RowKit.Below W2.heap.size W2 (W2.alloc o).drew from ((RowKit.Below.refl W2.heap.size W2).alloc (Nat.le_refl _) o).drew)
              have hwr : IntKind.u32.wrap (pc + 4) = (pc + 4) % 4294967296 := rfl
              have LS := Lib.hid (fun w' i v (h : RowKit.Below W2.heap.size W2 w') => show RowKit.Below W2.heap.size W2 (w'.setCell ⟨W2.heap.size, i, none⟩ v) from h.setCell (p := ⟨W2.heap.size, i, none⟩) (Nat.le_refl _) v)
              go_region_held3 (fun w' => w'.cell? ⟨w.heap.size, 0, none⟩ = some (.int .u32 pc) ∧ w'.cell? ⟨b8, 0, none⟩ = some (.int .i64 op) ∧ w'.cell? ⟨b8, 1, none⟩ = some (.int .i64 rd) ∧ w'.cell? ⟨b8, 2, none⟩ = some (.int .i64 (k1 : Int)) ∧ w'.cell? ⟨b8, 3, none⟩ = some (.int .i64 (k2 : Int)) ∧ w'.cell? ⟨b8, 4, none⟩ = some (.int .u32 im))
                ((refine HST.out _ ?_
                  first
                  | with_reducible exact LD.out
                  | with_reducible exact B5.out
                  | with_reducible exact LA.out _
                  | with_reducible exact LB.out _
                  | with_reducible exact B5.out.alloc B5.out.size _
                  | (repeat (with_reducible refine LS.out _ _ _ ?_)
                     with_reducible exact B5.out)))
                (first
                  | (go_at_call 23
                     refine (HWr.out _).mono ?_
                     rintro e w5 ⟨rfl, b⟩
                     have B5 := Lib.hid ((RowKit.Below.refl W2.heap.size W2).drew.trans b)
                     clear b)
                  | (go_at_call 23
                     refine (HWr.out _).mono ?_
                     rintro e w5 ⟨rfl, b⟩
                     have B5 := Lib.hid (((RowKit.Below.refl W2.heap.size W2).drew.alloc (Nat.le_refl _) _).trans (b.mono (by simp)))
                     have F5 := Lib.hid (show Blk w5 W2.heap.size z9 from (Blk.new W2.drew 36 z9).below b (by simp))
                     have f0 : w5.cell? ⟨W2.heap.size, 0, none⟩ = some (.int .u32 0) := F5.out.2.1 0 _ rfl
                     have f1 : w5.cell? ⟨W2.heap.size, 1, none⟩ = some (.int .u32 0) := F5.out.2.1 1 _ rfl
                     have f2 : w5.cell? ⟨W2.heap.size, 2, none⟩ = some (.int .i64 0) := F5.out.2.1 2 _ rfl
                     have f3 : w5.cell? ⟨W2.heap.size, 3, none⟩ = some (.int .u32 0) := F5.out.2.1 3 _ rfl
                     have f4 : w5.cell? ⟨W2.heap.size, 4, none⟩ = some (.int .u32 0) := F5.out.2.1 4 _ rfl
                     have f5 : w5.cell? ⟨W2.heap.size, 5, none⟩ = some (.int .i64 0) := F5.out.2.1 5 _ rfl
                     have f6 : w5.cell? ⟨W2.heap.size, 6, none⟩ = some (.bool false) := F5.out.2.1 6 _ rfl
                     have f7 : w5.cell? ⟨W2.heap.size, 7, none⟩ = some (.int .i64 0) := F5.out.2.1 7 _ rfl
                     have f8 : w5.cell? ⟨W2.heap.size, 8, none⟩ = some (.int .i64 0) := F5.out.2.1 8 _ rfl
                     have e0 : w5.frozen? ⟨W2.heap.size, 0, none⟩ = false := F5.out.2.2 0 (by decide)
                     have e1 : w5.frozen? ⟨W2.heap.size, 1, none⟩ = false := F5.out.2.2 1 (by decide)
                     have e2 : w5.frozen? ⟨W2.heap.size, 2, none⟩ = false := F5.out.2.2 2 (by decide)
                     have e3 : w5.frozen? ⟨W2.heap.size, 3, none⟩ = false := F5.out.2.2 3 (by decide)
                     have e4 : w5.frozen? ⟨W2.heap.size, 4, none⟩ = false := F5.out.2.2 4 (by decide)
                     have e5 : w5.frozen? ⟨W2.heap.size, 5, none⟩ = false := F5.out.2.2 5 (by decide)
                     have e6 : w5.frozen? ⟨W2.heap.size, 6, none⟩ = false := F5.out.2.2 6 (by decide)
                     have e7 : w5.frozen? ⟨W2.heap.size, 7, none⟩ = false := F5.out.2.2 7 (by decide)
                     have e8 : w5.frozen? ⟨W2.heap.size, 8, none⟩ = false := F5.out.2.2 8 (by decide)
                     clear b))
              all_goals go_wp2_with fail
              all_goals go_meet
              all_goals first
                | exact ⟨_, rfl, B5.out.size, Blk.new w5 36 [.int .u32 pc, .int .u32 ((pc + 4) % 4294967296), .int .i64 (kk : Int), .int .u32 0, .int .u32 0, .int .i64 0, .bool false, .int .i64 0, .int .i64 0], B5.out.alloc B5.out.size _⟩
                | exact ⟨_, rfl, Nat.le_refl _, F5.out.cellsHere (cs := [.int .u32 pc, .int .u32 ((pc + 4) % 4294967296), .int .i64 (kk : Int), .int .u32 0, .int .u32 0, .int .i64 0, .bool false, .int .i64 0, .int .i64 0]) rfl, (by (repeat (refine LS.out _ _ _ ?_)); exact B5.out)⟩
            case rest =>
              obtain ⟨b13, rfl, hb13', y1, y2⟩ := hcut
              have hb13 : b8 < b13 := Nat.lt_of_lt_of_le X2.out.1 hb13'
              have z2 := X2.out.below y2 X2.out.1
              have z1 := X1.out.below y2 X1.out.1
              have z3 := X3.out.below y2 X3.out.1
              have z4 := X4.out.below y2 X4.out.1
              have z5 := KB.out.trans ((y2).mono KB.out.size)
              clear X1 X3 X4 KB
              have X1 := Lib.hid z1
              have X3 := Lib.hid z3
              have X4 := Lib.hid z4
              have KB := Lib.hid z5
              clear z1 z3 z4 z5
              clear X2
              have X2 := Lib.hid z2
              clear z2
              have X5 := Lib.hid y1
              clear y1 y2 hb13' c0
              generalize wc = W3 at *
              have c0 := X1.out.2.1 0 _ H0.out
              go_upto_region 18 with (first
                | (refine wpList_load_mid rfl 25 (.tmp 8) rfl _ 0 rfl xs _ X2.out.range Tryd.underlying25 rfl HX.out ?_)
                | (go_at_call 24
                   refine (HVA.out _).mono ?_
                   rintro e w5 ⟨rfl, b⟩
                   have z9 := X5.out.below b X5.out.1
                   have z2 := X2.out.below b X2.out.1
                   have z1 := X1.out.below b X1.out.1
                   have z3 := X3.out.below b X3.out.1
                   have z4 := X4.out.below b X4.out.1
                   have z5 := KB.out.trans ((b).mono KB.out.size)
                   clear X1 X3 X4 KB
                   have X1 := Lib.hid z1
                   have X3 := Lib.hid z3
                   have X4 := Lib.hid z4
                   have KB := Lib.hid z5
                   clear z1 z3 z4 z5
                   clear X2
                   have X2 := Lib.hid z2
                   clear z2
                   clear X5
                   have X5 := Lib.hid z9
                   clear z9
                   clear b c0))
              have hb15' : b13 < w5.heap.size := X5.out.1
              go_upto_region 19 with (first
                | (refine wpList_load_mid rfl 34 (.tmp 3) rfl _ 0 rfl cs _ X1.out.range Tryd.underlying34 rfl HI.out ?_)
                | (refine wpList_store_new rfl 34 (.tmp 15) (.tmp 88) rfl w5.heap.size rfl _ cs _ rfl rfl (by rw [HL.out]; rfl) HI.out HIO.out ?_
                   intro W6 hb2 hB2 hs2
                   have z9 := X5.out.below hb2 X5.out.1
                   have z2 := X2.out.below hb2 X2.out.1
                   have z1 := X1.out.below hb2 X1.out.1
                   have z3 := X3.out.below hb2 X3.out.1
                   have z4 := X4.out.below hb2 X4.out.1
                   have z5 := KB.out.trans ((hb2).mono KB.out.size)
                   clear X1 X3 X4 KB
                   have X1 := Lib.hid z1
                   have X3 := Lib.hid z3
                   have X4 := Lib.hid z4
                   have KB := Lib.hid z5
                   clear z1 z3 z4 z5
                   clear X2
                   have X2 := Lib.hid z2
                   clear z2
                   clear X5
                   have X5 := Lib.hid z9
                   clear z9
                   have X6 := Lib.hid hB2
                   clear hb2 hB2 hs2))
              have hb15 : b13 < w5.heap.size := hb15'
              clear hb15'
              generalize w5.heap.size = b15 at *
              clear W3 HVA
              by_cases hls : kd = 3 ∨ kd = 4
              · have hs2 := HS2.out
                have ht2 := HT2.out
                rw [if_pos hls] at hs2 ht2
                unfold accS at hs2 ht2
                simp only at hs2 ht2
                rw [HKD.out, HS1.out] at hs2 ht2
                obtain ⟨sz, hsz⟩ : ∃ sz, sizeOp op = sz := ⟨_, rfl⟩
                have HSZ := Lib.hid (fun w => refSize02_any op w)
                rw [hsz] at HSZ hs2 ht2
                have HLV := Lib.hid (fun s hs w => refLoad_any op s hs w)
                clear hsz
                have c4 := X2.out.2.1 4 _ HI4.out
                have t4 := X5.out.2.1 4 _ rfl
                have e4 := X5.out.2.2 4 (by simp)
                have ad0 : 0 ≤ (x + im) % 4294967296 := Int.emod_nonneg _ (by decide)
                have ad1 : (x + im) % 4294967296 < 4294967296 := Int.emod_lt_of_pos _ (by decide)
                have HAD := Lib.hid (And.intro ad0 ad1)
                have HRT := Lib.hid (fun w => refRight_any s.mem.size ((x + im) % 4294967296) sz (by omega) (by have := HM.out; unfold maxLen; omega) ad0 ad1 w)
                have HS3 := Lib.hid hs2
                have HT3 := Lib.hid ht2
                clear HS2 HT2 HTA HTK hs2 ht2 ad0 ad1
                obtain ⟨M, hM⟩ : ∃ M, s.mem = M := ⟨_, rfl⟩
                rw [hM] at HRT HS3 HT3 GM HM
                have HMM := Lib.hid hM
                clear hM
                rcases hls with rfl | rfl
                · go_upto_region 21 with fail
                  clear c4 t4 e4
                  have z1 := (X1.out).other (p := ⟨b13, 4, none⟩) (v := .int .u32 ((x + im) % 4294967296)) (by simp; omega)
                  have z2 := (X2.out).other (p := ⟨b13, 4, none⟩) (v := .int .u32 ((x + im) % 4294967296)) (by simp; omega)
                  have z3 := (X3.out).other (p := ⟨b13, 4, none⟩) (v := .int .u32 ((x + im) % 4294967296)) (by simp; omega)
                  have z4 := (X4.out).other (p := ⟨b13, 4, none⟩) (v := .int .u32 ((x + im) % 4294967296)) (by simp; omega)
                  have z5 := (X5.out).set (i := 4) (v := .int .u32 ((x + im) % 4294967296)) (by simp)
                  simp only [List.set_cons_succ, List.set_cons_zero] at z5
                  have z6 := (X6.out).other (p := ⟨b13, 4, none⟩) (v := .int .u32 ((x + im) % 4294967296)) (by simp; omega)
                  have z7 := (KB.out).setCell (p := ⟨b13, 4, none⟩) (by show w.heap.size ≤ b13; omega) (.int .u32 ((x + im) % 4294967296))
                  generalize (World.setCell W6 ⟨b13, 4, none⟩ (.int .u32 ((x + im) % 4294967296))) = W7 at *
                  clear X1 X2 X3 X4 X5 X6 KB
                  have X1 := Lib.hid z1
                  have X2 := Lib.hid z2
                  have X3 := Lib.hid z3
                  have X4 := Lib.hid z4
                  have X5 := Lib.hid z5
                  have X6 := Lib.hid z6
                  have KB := Lib.hid z7
                  clear z1 z2 z3 z4 z5 z6 z7
                  generalize (x + im) % 4294967296 = ad at *
                  have c0 := X2.out.2.1 0 _ HI0.out
                  have t5 := X5.out.2.1 5 _ rfl
                  have e5 := X5.out.2.2 5 (by simp)
                  go_upto_region 22 with (go_at_call 11; refine (HSZ.out _).mono ?_; rintro e w7 ⟨rfl, rfl⟩)
                  clear c0 t5 e5
                  have z1 := (X1.out).other (p := ⟨b13, 5, none⟩) (v := .int .i64 sz) (by simp; omega)
                  have z2 := (X2.out).other (p := ⟨b13, 5, none⟩) (v := .int .i64 sz) (by simp; omega)
                  have z3 := (X3.out).other (p := ⟨b13, 5, none⟩) (v := .int .i64 sz) (by simp; omega)
                  have z4 := (X4.out).other (p := ⟨b13, 5, none⟩) (v := .int .i64 sz) (by simp; omega)
                  have z5 := (X5.out).set (i := 5) (v := .int .i64 sz) (by simp)
                  simp only [List.set_cons_succ, List.set_cons_zero] at z5
                  have z6 := (X6.out).other (p := ⟨b13, 5, none⟩) (v := .int .i64 sz) (by simp; omega)
                  have z7 := (KB.out).setCell (p := ⟨b13, 5, none⟩) (by show w.heap.size ≤ b13; omega) (.int .i64 sz)
                  generalize (World.setCell W7 ⟨b13, 5, none⟩ (.int .i64 sz)) = W8 at *
                  clear X1 X2 X3 X4 X5 X6 KB
                  have X1 := Lib.hid z1
                  have X2 := Lib.hid z2
                  have X3 := Lib.hid z3
                  have X4 := Lib.hid z4
                  have X5 := Lib.hid z5
                  have X6 := Lib.hid z6
                  have KB := Lib.hid z7
                  clear z1 z2 z3 z4 z5 z6 z7
                  have hs2 := HS3.out
                  have ht2 := HT3.out
                  clear HS3 HT3 HI1 HI2' HI3' HI4
                  have cM := X1.out.2.1 33 _ GM.out
                  have t4 := X5.out.2.1 4 _ rfl
                  have t5 := X5.out.2.1 5 _ rfl
                  cases hrt : rtB M.size ad sz
                  · rw [hrt] at HRT
                    simp only [hrt, if_true, if_false, show ¬ (3 : Int) = 4 by decide] at hs2 ht2
                    replace HH := Lib.hid (HH.out 4 ad)
                    rw [hs2, ht2, HV2.out.1, HV2.out.2] at HH
                    clear hs2 ht2 hrt
                    go_upto_region 24 with (go_at_call 25
                                            refine (HRT.out _).mono ?_
                                            rintro e w9 ⟨rfl, rfl⟩)
                    clear cM t5
                    go_wp2_with (first
                      | (refine wpList_load_mid rfl 34 (.tmp 3) rfl _ 0 rfl cs _ X1.out.range Tryd.underlying34 rfl HI.out ?_)
                      | (refine wpList_store_blk rfl 34 (.tmp 4) (.tmp 119) rfl (w.heap.size + 1) z35 cs2.toArray X3.out HZ2.out rfl rfl HI2.out HO2.out ?_; intro W7 hB7 hO7 hbl7 hs7; have X4' := hO7 _ _ (by omega) X4.out; replace X4 := Lib.hid X4'; clear X4')
                      | (refine wpList_store_blk rfl 36 (.tmp 5) (.tmp 120) rfl (w.heap.size + 1 + 1) z9 ds2.toArray X4.out HZ3.out rfl rfl HI3.out HO3.out ?_; intro W8 hB8 hO8 hbl8 hs8)
                      | (go_at_call 22
                         refine (HH.out _).mono ?_
                         rintro e w3 ⟨rfl, b⟩
                         have z1 := X1.out.below b X1.out.1
                         have z3 := X3.out.below b X3.out.1
                         have z4 := X4.out.below b X4.out.1
                         have z5 := KB.out.trans ((b).mono KB.out.size)
                         clear X1 X3 X4 KB
                         have X1 := Lib.hid z1
                         have X3 := Lib.hid z3
                         have X4 := Lib.hid z4
                         have KB := Lib.hid z5
                         clear z1 z3 z4 z5
                         clear b))
                    exact bodyPost_ret (v := .tuple #[.agg cs2.toArray, .agg ds2.toArray]) (results_cell_two Tryd.results8 _ W8 (w.heap.size + 1) (w.heap.size + 1 + 1) cs2 ds2 _ _ rfl rfl (hO8 _ _ (by omega) hB7) hB8 Tryd.underlying34 rfl (by simpa using HI2.out) Tryd.underlying36 rfl (by simpa using HI3.out)) rfl ⟨rfl, (KB.out.trans (hbl7 _ (by omega))).trans (hbl8 _ (by omega))⟩
                  · have hrf := rtB_facts hrt
                    rw [hrt] at HRT
                    simp only [hrt, Bool.true_eq_false, if_false, show ¬ (3 : Int) = 4 by decide] at hs2 ht2
                    have HF := Lib.hid (wrote_cells HRL.out op rd kk HKK.out hk31 ((pc + 4) % 4294967296) (ldV op (M.extract ad.toNat (ad + sz).toNat)) ⟨0, 0, 0, 0, ad, sz, false, 0, 0⟩)
                    rw [hs2, ht2, HC2.out, HD2.out, HCS.out, HS1.out] at HF
                    have hex : (M.extract ad.toNat (ad + sz).toNat).size ≤ 1000 := by have := HM.out; have := HAD.out; rw [ex_size _ _ _ (by omega) (by omega)]; omega
                    have HLD := Lib.hid (HLV.out (M.extract ad.toNat (ad + sz).toNat) hex)
                    have HRD := Lib.hid (fun w => refRead_any M ad sz HM.out HAD.out.1 (by omega) (by omega) w)
                    obtain ⟨E, hE⟩ : ∃ E, M.extract ad.toNat (ad + sz).toNat = E := ⟨_, rfl⟩
                    rw [hE] at HLD HRD HF
                    obtain ⟨U, hU⟩ : ∃ U, ldV op E = U := ⟨_, rfl⟩
                    rw [hU] at HLD HF
                    clear hs2 ht2 hrt hrf hex HH HLV hE hU
                    go_upto_region 34 with (go_at_call 25
                                            refine (HRT.out _).mono ?_
                                            rintro e w9 ⟨rfl, rfl⟩)
                    clear cM t4 t5
                    have c0 := X2.out.2.1 0 _ HI0.out
                    have cM := X1.out.2.1 33 _ GM.out
                    have t4 := X5.out.2.1 4 _ rfl
                    have t5 := X5.out.2.1 5 _ rfl
                    have p0 := fun d os => cell_regrown c0 d os
                    have pM := fun d os => cell_regrown cM d os
                    have p4 := fun d os => cell_regrown t4 d os
                    have p5 := fun d os => cell_regrown t5 d os
                    refine wp_region_quiet_below (by kernel_rfl) (by kernel_rfl) ?_
                    repeat (go_big_quiet_step (first
                      | (go_at_call 13; exact Calls.regrown_of ((HRD.out _).mono fun e w' h => ⟨h.1, by rw [← h.2]; exact RowKit.Below.refl _ _⟩))
                      | (go_at_call 29; exact Calls.regrown_of (HLD.out _))))
                    refine wpQuiet_nil ?_
                    intro _ hw'
                    obtain ⟨⟨nq, osq⟩, hw''⟩ := hw'
                    subst hw''
                    have bq := below_regrown W8 nq osq
                    have z8 := X6.out.below bq X6.out.1
                    have z9 := X5.out.below bq X5.out.1
                    have z2 := X2.out.below bq X2.out.1
                    have z1 := X1.out.below bq X1.out.1
                    have z3 := X3.out.below bq X3.out.1
                    have z4 := X4.out.below bq X4.out.1
                    have z5 := KB.out.trans ((bq).mono KB.out.size)
                    clear X1 X3 X4 KB
                    have X1 := Lib.hid z1
                    have X3 := Lib.hid z3
                    have X4 := Lib.hid z4
                    have KB := Lib.hid z5
                    clear z1 z3 z4 z5
                    clear X2
                    have X2 := Lib.hid z2
                    clear z2
                    clear X5
                    have X5 := Lib.hid z9
                    clear z9
                    clear X6
                    have X6 := Lib.hid z8
                    clear z8
                    clear bq c0 cM t4 t5 p0 pM p4 p5
                    generalize grow (redrawn W8 nq) osq = WZ at *
                    go_upto_region 41 with fail
                    have t2 := X5.out.2.1 2 _ rfl
                    by_cases hz : kk = 0
                    · have E1 := (HF.out.1 hz).1
                      have E2 := (HF.out.1 hz).2
                      have F1 := Lib.hid E1
                      have F2 := Lib.hid E2
                      clear E1 E2 HF
                      subst hz
                      go_upto_region 44 with fail
                      clear t2
                      have t1 := X5.out.2.1 1 _ rfl
                      have s0 := X6.out.2.1 0 _ H0.out
                      have e0 := X6.out.2.2 0 (by have := HL.out; simp; omega)
                      go_upto_region 45 with fail
                      clear t1 s0 e0
                      have z1 := (X1.out).other (p := ⟨b15, 0, none⟩) (v := .int .u32 ((pc + 4) % 4294967296)) (by simp; omega)
                      have z2 := (X2.out).other (p := ⟨b15, 0, none⟩) (v := .int .u32 ((pc + 4) % 4294967296)) (by simp; omega)
                      have z3 := (X3.out).other (p := ⟨b15, 0, none⟩) (v := .int .u32 ((pc + 4) % 4294967296)) (by simp; omega)
                      have z4 := (X4.out).other (p := ⟨b15, 0, none⟩) (v := .int .u32 ((pc + 4) % 4294967296)) (by simp; omega)
                      have z5 := (X5.out).other (p := ⟨b15, 0, none⟩) (v := .int .u32 ((pc + 4) % 4294967296)) (by simp; omega)
                      have z6 := (X6.out).set (i := 0) (v := .int .u32 ((pc + 4) % 4294967296)) (by have := HL.out; simp; omega)
                      have z7 := (KB.out).setCell (p := ⟨b15, 0, none⟩) (by show w.heap.size ≤ b15; omega) (.int .u32 ((pc + 4) % 4294967296))
                      generalize (World.setCell WZ ⟨b15, 0, none⟩ (.int .u32 ((pc + 4) % 4294967296))) = W9 at *
                      clear X1 X2 X3 X4 X5 X6 KB
                      have X1 := Lib.hid z1
                      have X2 := Lib.hid z2
                      have X3 := Lib.hid z3
                      have X4 := Lib.hid z4
                      have X5 := Lib.hid z5
                      have X6 := Lib.hid z6
                      have KB := Lib.hid z7
                      clear z1 z2 z3 z4 z5 z6 z7
                      have x5 := X5.out
                      have x6 := X6.out
                      rw [F1.out] at x6
                      replace X6 := Lib.hid x6
                      replace X5 := Lib.hid (show Blk W9 b13 ds2 by rw [← F2.out]; exact x5)
                      clear x5 x6
                      have XK := Lib.hid (X6.out.stage (w.heap.size + 1) cs2 (w.heap.size + 1 + 1) ds2 (by omega) (by omega))
                      have XT := Lib.hid (X5.out.stage (w.heap.size + 1) cs2 (w.heap.size + 1 + 1) ds2 (by omega) (by omega))
                      refine wp_region_two [] [0, 1] 2 3 _ _ (w.heap.size + 1) (w.heap.size + 1 + 1) z35 z9 cs2 ds2 34 36 (.tmp 4) (.tmp 204) (.tmp 5) (.tmp 205) (by kernel_rfl) (by kernel_rfl) rfl rfl rfl ⟨rfl, rfl, rfl⟩ ⟨rfl, rfl, rfl⟩ (by omega) X3.out X4.out (by simpa using HZ2.out) (by simpa using HZ3.out) (by simpa using HI2.out) (by simpa using HI3.out) HO2.out HO3.out ?_
                      simp only [opsAt, List.getElem?_toArray, List.getElem?_cons_zero, List.getElem?_cons_succ, Option.toList_some, List.cons_append, List.nil_append]
                      refine wpQuiet_next ?_
                      go_big_quiet_want
                      refine quiet_load_stage 34 (.tmp 15) rfl _ rfl cs2 _ XK.out Tryd.underlying34 rfl (by simpa using HI2.out) ?_
                      simp only [Act.put, List.setIfInBounds_toArray, List.set_cons_succ, List.set_cons_zero]
                      go_big_quiet_on
                      go_big_quiet_want
                      refine quiet_load_stage 36 (.tmp 13) rfl _ rfl ds2 _ XT.out Tryd.underlying36 rfl (by simpa using HI3.out) ?_
                      simp only [Act.put, List.setIfInBounds_toArray, List.set_cons_succ, List.set_cons_zero]
                      go_big_quiet_on
                      refine wpQuiet_nil ?_
                      refine ⟨⟨rfl, rfl, rfl, rfl⟩, fun w9 n1 n2 n3 n4 => ?_⟩
                      go_wp2
                      exact bodyPost_ret (v := .tuple #[.agg cs2.toArray, .agg ds2.toArray]) (results_cell_two Tryd.results8 _ w9 (w.heap.size + 1) (w.heap.size + 1 + 1) cs2 ds2 _ _ rfl rfl n1 n2 Tryd.underlying34 rfl (by simpa using HI2.out) Tryd.underlying36 rfl (by simpa using HI3.out)) rfl ⟨rfl, KB.out.trans (n4 _ (by omega) (by omega))⟩
                    · have q9 : 0 < kk := by omega
                      have E1 := (HF.out.2 hz).1
                      have E2 := (HF.out.2 hz).2
                      have F1 := Lib.hid E1
                      have F2 := Lib.hid E2
                      clear E1 E2 HF hz
                      have t3 := X5.out.2.1 3 _ rfl
                      have e3 := X5.out.2.2 3 (by simp)
                      go_upto_region 43 with fail
                      clear t2 q9 t3 e3
                      have z1 := (X1.out).other (p := ⟨b13, 3, none⟩) (v := .int .u32 U) (by simp; omega)
                      have z2 := (X2.out).other (p := ⟨b13, 3, none⟩) (v := .int .u32 U) (by simp; omega)
                      have z3 := (X3.out).other (p := ⟨b13, 3, none⟩) (v := .int .u32 U) (by simp; omega)
                      have z4 := (X4.out).other (p := ⟨b13, 3, none⟩) (v := .int .u32 U) (by simp; omega)
                      have z5 := (X5.out).set (i := 3) (v := .int .u32 U) (by simp)
                      simp only [List.set_cons_succ, List.set_cons_zero] at z5
                      have z6 := (X6.out).other (p := ⟨b13, 3, none⟩) (v := .int .u32 U) (by simp; omega)
                      have z7 := (KB.out).setCell (p := ⟨b13, 3, none⟩) (by show w.heap.size ≤ b13; omega) (.int .u32 U)
                      generalize (World.setCell WZ ⟨b13, 3, none⟩ (.int .u32 U)) = WA at *
                      clear X1 X2 X3 X4 X5 X6 KB
                      have X1 := Lib.hid z1
                      have X2 := Lib.hid z2
                      have X3 := Lib.hid z3
                      have X4 := Lib.hid z4
                      have X5 := Lib.hid z5
                      have X6 := Lib.hid z6
                      have KB := Lib.hid z7
                      clear z1 z2 z3 z4 z5 z6 z7
                      have t2 := X5.out.2.1 2 _ rfl
                      have r1 := X6.out.2.1 (1 + kk) _ GK.out
                      have f1 := X6.out.2.2 (1 + kk) (by have := HL.out; omega)
                      go_upto_region 44 with fail
                      clear t2 r1 f1
                      have z1 := (X1.out).other (p := ⟨b15, (1 + kk), none⟩) (v := .int .u32 U) (by simp; omega)
                      have z2 := (X2.out).other (p := ⟨b15, (1 + kk), none⟩) (v := .int .u32 U) (by simp; omega)
                      have z3 := (X3.out).other (p := ⟨b15, (1 + kk), none⟩) (v := .int .u32 U) (by simp; omega)
                      have z4 := (X4.out).other (p := ⟨b15, (1 + kk), none⟩) (v := .int .u32 U) (by simp; omega)
                      have z5 := (X5.out).other (p := ⟨b15, (1 + kk), none⟩) (v := .int .u32 U) (by simp; omega)
                      have z6 := (X6.out).set (i := (1 + kk)) (v := .int .u32 U) (by have := HL.out; simp; omega)
                      have z7 := (KB.out).setCell (p := ⟨b15, (1 + kk), none⟩) (by show w.heap.size ≤ b15; omega) (.int .u32 U)
                      generalize (World.setCell WA ⟨b15, (1 + kk), none⟩ (.int .u32 U)) = WB at *
                      clear X1 X2 X3 X4 X5 X6 KB
                      have X1 := Lib.hid z1
                      have X2 := Lib.hid z2
                      have X3 := Lib.hid z3
                      have X4 := Lib.hid z4
                      have X5 := Lib.hid z5
                      have X6 := Lib.hid z6
                      have KB := Lib.hid z7
                      clear z1 z2 z3 z4 z5 z6 z7
                      have t1 := X5.out.2.1 1 _ rfl
                      have s0 := X6.out.2.1 0 _ (by rw [List.getElem?_set_ne (by omega)]; exact H0.out)
                      have e0 := X6.out.2.2 0 (by have := HL.out; simp; omega)
                      go_upto_region 45 with fail
                      clear t1 s0 e0
                      have z1 := (X1.out).other (p := ⟨b15, 0, none⟩) (v := .int .u32 ((pc + 4) % 4294967296)) (by simp; omega)
                      have z2 := (X2.out).other (p := ⟨b15, 0, none⟩) (v := .int .u32 ((pc + 4) % 4294967296)) (by simp; omega)
                      have z3 := (X3.out).other (p := ⟨b15, 0, none⟩) (v := .int .u32 ((pc + 4) % 4294967296)) (by simp; omega)
                      have z4 := (X4.out).other (p := ⟨b15, 0, none⟩) (v := .int .u32 ((pc + 4) % 4294967296)) (by simp; omega)
                      have z5 := (X5.out).other (p := ⟨b15, 0, none⟩) (v := .int .u32 ((pc + 4) % 4294967296)) (by simp; omega)
                      have z6 := (X6.out).set (i := 0) (v := .int .u32 ((pc + 4) % 4294967296)) (by have := HL.out; simp; omega)
                      have z7 := (KB.out).setCell (p := ⟨b15, 0, none⟩) (by show w.heap.size ≤ b15; omega) (.int .u32 ((pc + 4) % 4294967296))
                      generalize (World.setCell WB ⟨b15, 0, none⟩ (.int .u32 ((pc + 4) % 4294967296))) = W9 at *
                      clear X1 X2 X3 X4 X5 X6 KB
                      have X1 := Lib.hid z1
                      have X2 := Lib.hid z2
                      have X3 := Lib.hid z3
                      have X4 := Lib.hid z4
                      have X5 := Lib.hid z5
                      have X6 := Lib.hid z6
                      have KB := Lib.hid z7
                      clear z1 z2 z3 z4 z5 z6 z7
                      have x5 := X5.out
                      have x6 := X6.out
                      rw [F1.out] at x6
                      replace X6 := Lib.hid x6
                      replace X5 := Lib.hid (show Blk W9 b13 ds2 by rw [← F2.out]; exact x5)
                      clear x5 x6
                      have XK := Lib.hid (X6.out.stage (w.heap.size + 1) cs2 (w.heap.size + 1 + 1) ds2 (by omega) (by omega))
                      have XT := Lib.hid (X5.out.stage (w.heap.size + 1) cs2 (w.heap.size + 1 + 1) ds2 (by omega) (by omega))
                      refine wp_region_two [] [0, 1] 2 3 _ _ (w.heap.size + 1) (w.heap.size + 1 + 1) z35 z9 cs2 ds2 34 36 (.tmp 4) (.tmp 204) (.tmp 5) (.tmp 205) (by kernel_rfl) (by kernel_rfl) rfl rfl rfl ⟨rfl, rfl, rfl⟩ ⟨rfl, rfl, rfl⟩ (by omega) X3.out X4.out (by simpa using HZ2.out) (by simpa using HZ3.out) (by simpa using HI2.out) (by simpa using HI3.out) HO2.out HO3.out ?_
                      simp only [opsAt, List.getElem?_toArray, List.getElem?_cons_zero, List.getElem?_cons_succ, Option.toList_some, List.cons_append, List.nil_append]
                      refine wpQuiet_next ?_
                      go_big_quiet_want
                      refine quiet_load_stage 34 (.tmp 15) rfl _ rfl cs2 _ XK.out Tryd.underlying34 rfl (by simpa using HI2.out) ?_
                      simp only [Act.put, List.setIfInBounds_toArray, List.set_cons_succ, List.set_cons_zero]
                      go_big_quiet_on
                      go_big_quiet_want
                      refine quiet_load_stage 36 (.tmp 13) rfl _ rfl ds2 _ XT.out Tryd.underlying36 rfl (by simpa using HI3.out) ?_
                      simp only [Act.put, List.setIfInBounds_toArray, List.set_cons_succ, List.set_cons_zero]
                      go_big_quiet_on
                      refine wpQuiet_nil ?_
                      refine ⟨⟨rfl, rfl, rfl, rfl⟩, fun w9 n1 n2 n3 n4 => ?_⟩
                      go_wp2
                      exact bodyPost_ret (v := .tuple #[.agg cs2.toArray, .agg ds2.toArray]) (results_cell_two Tryd.results8 _ w9 (w.heap.size + 1) (w.heap.size + 1 + 1) cs2 ds2 _ _ rfl rfl n1 n2 Tryd.underlying34 rfl (by simpa using HI2.out) Tryd.underlying36 rfl (by simpa using HI3.out)) rfl ⟨rfl, KB.out.trans (n4 _ (by omega) (by omega))⟩
                · go_upto_region 21 with fail
                  clear c4 t4 e4
                  have z1 := (X1.out).other (p := ⟨b13, 4, none⟩) (v := .int .u32 ((x + im) % 4294967296)) (by simp; omega)
                  have z2 := (X2.out).other (p := ⟨b13, 4, none⟩) (v := .int .u32 ((x + im) % 4294967296)) (by simp; omega)
                  have z3 := (X3.out).other (p := ⟨b13, 4, none⟩) (v := .int .u32 ((x + im) % 4294967296)) (by simp; omega)
                  have z4 := (X4.out).other (p := ⟨b13, 4, none⟩) (v := .int .u32 ((x + im) % 4294967296)) (by simp; omega)
                  have z5 := (X5.out).set (i := 4) (v := .int .u32 ((x + im) % 4294967296)) (by simp)
                  simp only [List.set_cons_succ, List.set_cons_zero] at z5
                  have z6 := (X6.out).other (p := ⟨b13, 4, none⟩) (v := .int .u32 ((x + im) % 4294967296)) (by simp; omega)
                  have z7 := (KB.out).setCell (p := ⟨b13, 4, none⟩) (by show w.heap.size ≤ b13; omega) (.int .u32 ((x + im) % 4294967296))
                  generalize (World.setCell W6 ⟨b13, 4, none⟩ (.int .u32 ((x + im) % 4294967296))) = W7 at *
                  clear X1 X2 X3 X4 X5 X6 KB
                  have X1 := Lib.hid z1
                  have X2 := Lib.hid z2
                  have X3 := Lib.hid z3
                  have X4 := Lib.hid z4
                  have X5 := Lib.hid z5
                  have X6 := Lib.hid z6
                  have KB := Lib.hid z7
                  clear z1 z2 z3 z4 z5 z6 z7
                  generalize (x + im) % 4294967296 = ad at *
                  have c0 := X2.out.2.1 0 _ HI0.out
                  have t5 := X5.out.2.1 5 _ rfl
                  have e5 := X5.out.2.2 5 (by simp)
                  go_upto_region 22 with (go_at_call 11; refine (HSZ.out _).mono ?_; rintro e w7 ⟨rfl, rfl⟩)
                  clear c0 t5 e5
                  have z1 := (X1.out).other (p := ⟨b13, 5, none⟩) (v := .int .i64 sz) (by simp; omega)
                  have z2 := (X2.out).other (p := ⟨b13, 5, none⟩) (v := .int .i64 sz) (by simp; omega)
                  have z3 := (X3.out).other (p := ⟨b13, 5, none⟩) (v := .int .i64 sz) (by simp; omega)
                  have z4 := (X4.out).other (p := ⟨b13, 5, none⟩) (v := .int .i64 sz) (by simp; omega)
                  have z5 := (X5.out).set (i := 5) (v := .int .i64 sz) (by simp)
                  simp only [List.set_cons_succ, List.set_cons_zero] at z5
                  have z6 := (X6.out).other (p := ⟨b13, 5, none⟩) (v := .int .i64 sz) (by simp; omega)
                  have z7 := (KB.out).setCell (p := ⟨b13, 5, none⟩) (by show w.heap.size ≤ b13; omega) (.int .i64 sz)
                  generalize (World.setCell W7 ⟨b13, 5, none⟩ (.int .i64 sz)) = W8 at *
                  clear X1 X2 X3 X4 X5 X6 KB
                  have X1 := Lib.hid z1
                  have X2 := Lib.hid z2
                  have X3 := Lib.hid z3
                  have X4 := Lib.hid z4
                  have X5 := Lib.hid z5
                  have X6 := Lib.hid z6
                  have KB := Lib.hid z7
                  clear z1 z2 z3 z4 z5 z6 z7
                  have hs2 := HS3.out
                  have ht2 := HT3.out
                  clear HS3 HT3 HI1 HI2' HI3' HI4
                  have cM := X1.out.2.1 33 _ GM.out
                  have t4 := X5.out.2.1 4 _ rfl
                  have t5 := X5.out.2.1 5 _ rfl
                  cases hrt : rtB M.size ad sz
                  · rw [hrt] at HRT
                    simp only [hrt, if_true] at hs2 ht2
                    replace HH := Lib.hid (HH.out 5 ad)
                    rw [hs2, ht2, HV2.out.1, HV2.out.2] at HH
                    clear hs2 ht2 hrt
                    go_upto_region 25 with (go_at_call 25
                                            refine (HRT.out _).mono ?_
                                            rintro e w9 ⟨rfl, rfl⟩)
                    clear cM t5
                    go_wp2_with (first
                      | (refine wpList_load_mid rfl 34 (.tmp 3) rfl _ 0 rfl cs _ X1.out.range Tryd.underlying34 rfl HI.out ?_)
                      | (refine wpList_store_blk rfl 34 (.tmp 4) (.tmp 125) rfl (w.heap.size + 1) z35 cs2.toArray X3.out HZ2.out rfl rfl HI2.out HO2.out ?_; intro W7 hB7 hO7 hbl7 hs7; have X4' := hO7 _ _ (by omega) X4.out; replace X4 := Lib.hid X4'; clear X4')
                      | (refine wpList_store_blk rfl 36 (.tmp 5) (.tmp 126) rfl (w.heap.size + 1 + 1) z9 ds2.toArray X4.out HZ3.out rfl rfl HI3.out HO3.out ?_; intro W8 hB8 hO8 hbl8 hs8)
                      | (go_at_call 22
                         refine (HH.out _).mono ?_
                         rintro e w3 ⟨rfl, b⟩
                         have z1 := X1.out.below b X1.out.1
                         have z3 := X3.out.below b X3.out.1
                         have z4 := X4.out.below b X4.out.1
                         have z5 := KB.out.trans ((b).mono KB.out.size)
                         clear X1 X3 X4 KB
                         have X1 := Lib.hid z1
                         have X3 := Lib.hid z3
                         have X4 := Lib.hid z4
                         have KB := Lib.hid z5
                         clear z1 z3 z4 z5
                         clear b))
                    exact bodyPost_ret (v := .tuple #[.agg cs2.toArray, .agg ds2.toArray]) (results_cell_two Tryd.results8 _ W8 (w.heap.size + 1) (w.heap.size + 1 + 1) cs2 ds2 _ _ rfl rfl (hO8 _ _ (by omega) hB7) hB8 Tryd.underlying34 rfl (by simpa using HI2.out) Tryd.underlying36 rfl (by simpa using HI3.out)) rfl ⟨rfl, (KB.out.trans (hbl7 _ (by omega))).trans (hbl8 _ (by omega))⟩
                  · have hrf := rtB_facts hrt
                    rw [hrt] at HRT
                    simp only [hrt, Bool.true_eq_false, if_false, if_true] at hs2 ht2
                    obtain ⟨B, hB⟩ : ∃ B, stoS y sz = B := ⟨_, rfl⟩
                    obtain ⟨u, hu⟩ : ∃ u, stoV y sz = u := ⟨_, rfl⟩
                    have hBs : (B.size : Int) = sz := by rw [← hB]; exact stoS_is6 y sz hrf.1
                    have hB9 : B.size ≤ 9223372036854775807 := by omega
                    have HBY := Lib.hid (show ∀ w, Calls Tryd.prog 26 #[.int .u32 y, .int .i64 sz] w fun e w' => e = .returned (.tuple #[.string (stoS y sz), .int .i64 (if 0 ≤ sz ∧ sz ≤ 4 then 0 else 1)]) ∧ RowKit.Below w.heap.size w w' from fun w => refBytes_any y sz HXY.out.2.1 w)
                    have HJ := Lib.hid (show ∀ w, Calls Tryd.prog 28 #[.string (stoS y sz)] w fun e w' => e = .returned (.tuple #[.int .u32 (stoV y sz), .int .i64 (if (stoS y sz).size ≤ 4 then 0 else 2)]) ∧ w = w' from fun w => refJoin_any (stoS y sz) (by rw [hB]; exact hB9) w)
                    have HWM := Lib.hid (fun w => refWrite_any M ad B HM.out HAD.out.1 (by omega) w)
                    rw [hB, hu, hBs, hrt] at hs2 ht2
                    simp only [if_true] at hs2 ht2
                    rw [hB] at HBY HJ
                    rw [hu] at HJ
                    obtain ⟨M2, hM2⟩ : ∃ M2, wrS M B ad.toNat = M2 := ⟨_, rfl⟩
                    rw [hM2] at hs2 ht2 HWM
                    obtain ⟨e1', he1⟩ : ∃ e : Int, (if 0 ≤ sz ∧ sz ≤ 4 then (0 : Int) else 1) = e := ⟨_, rfl⟩
                    obtain ⟨e2', he2⟩ : ∃ e : Int, (if B.size ≤ 4 then (0 : Int) else 2) = e := ⟨_, rfl⟩
                    rw [he1] at HBY
                    rw [he2] at HJ
                    have HF := Lib.hid (wrote_cells (s := { s with mem := M2 }) HRL.out op rd kk HKK.out hk31 ((pc + 4) % 4294967296) 0 ⟨0, 0, 0, u, ad, sz, true, 0, 0⟩)
                    rw [← sqC_setMem HRL.out, HS1.out, hs2, ht2, HC2.out, HD2.out, HCS.out] at HF
                    dsimp only at HF
                    have hk0 := HW4.out (by trivial)
                    subst hk0
                    have E1 := (HF.out.1 rfl).1
                    have E2 := (HF.out.1 rfl).2
                    have F1 := Lib.hid E1
                    have F2 := Lib.hid E2
                    clear E1 E2 HF hs2 ht2 hrt hrf hB hu hBs hB9 HH HLV hM2 he1 he2
                    go_upto_region 27 with (go_at_call 25
                                            refine (HRT.out _).mono ?_
                                            rintro e w9 ⟨rfl, rfl⟩)
                    clear cM t4 t5
                    have t5 := X5.out.2.1 5 _ rfl
                    go_upto_region 28 with (go_at_call 26
                                            refine (HBY.out _).mono ?_
                                            rintro e wa ⟨rfl, b⟩
                                            have z8 := X6.out.below b X6.out.1
                                            have z9 := X5.out.below b X5.out.1
                                            have z2 := X2.out.below b X2.out.1
                                            have z1 := X1.out.below b X1.out.1
                                            have z3 := X3.out.below b X3.out.1
                                            have z4 := X4.out.below b X4.out.1
                                            have z5 := KB.out.trans ((b).mono KB.out.size)
                                            clear X1 X3 X4 KB
                                            have X1 := Lib.hid z1
                                            have X3 := Lib.hid z3
                                            have X4 := Lib.hid z4
                                            have KB := Lib.hid z5
                                            clear z1 z3 z4 z5
                                            clear X2
                                            have X2 := Lib.hid z2
                                            clear z2
                                            clear X5
                                            have X5 := Lib.hid z9
                                            clear z9
                                            clear X6
                                            have X6 := Lib.hid z8
                                            clear z8
                                            clear b t5)
                    have cM := X1.out.2.1 33 _ GM.out
                    have t4 := X5.out.2.1 4 _ rfl
                    go_upto_region 29 with (go_at_call 27
                                            refine (HWM.out _).mono ?_
                                            rintro e wb ⟨rfl, b⟩
                                            have z8 := X6.out.below b X6.out.1
                                            have z9 := X5.out.below b X5.out.1
                                            have z2 := X2.out.below b X2.out.1
                                            have z1 := X1.out.below b X1.out.1
                                            have z3 := X3.out.below b X3.out.1
                                            have z4 := X4.out.below b X4.out.1
                                            have z5 := KB.out.trans ((b).mono KB.out.size)
                                            clear X1 X3 X4 KB
                                            have X1 := Lib.hid z1
                                            have X3 := Lib.hid z3
                                            have X4 := Lib.hid z4
                                            have KB := Lib.hid z5
                                            clear z1 z3 z4 z5
                                            clear X2
                                            have X2 := Lib.hid z2
                                            clear z2
                                            clear X5
                                            have X5 := Lib.hid z9
                                            clear z9
                                            clear X6
                                            have X6 := Lib.hid z8
                                            clear z8
                                            clear b cM t4
                                            have s33 := X6.out.2.1 33 _ GM.out
                                            have e33 := X6.out.2.2 33 (by have := HL.out; omega))
                    clear s33 e33
                    have z1 := (X1.out).other (p := ⟨b15, 33, none⟩) (v := .string M2) (by simp; omega)
                    have z2 := (X2.out).other (p := ⟨b15, 33, none⟩) (v := .string M2) (by simp; omega)
                    have z3 := (X3.out).other (p := ⟨b15, 33, none⟩) (v := .string M2) (by simp; omega)
                    have z4 := (X4.out).other (p := ⟨b15, 33, none⟩) (v := .string M2) (by simp; omega)
                    have z5 := (X5.out).other (p := ⟨b15, 33, none⟩) (v := .string M2) (by simp; omega)
                    have z6 := (X6.out).set (i := 33) (v := .string M2) (by have := HL.out; simp; omega)
                    have z7 := (KB.out).setCell (p := ⟨b15, 33, none⟩) (by show w.heap.size ≤ b15; omega) (.string M2)
                    generalize (World.setCell wb ⟨b15, 33, none⟩ (.string M2)) = WA at *
                    clear X1 X2 X3 X4 X5 X6 KB
                    have X1 := Lib.hid z1
                    have X2 := Lib.hid z2
                    have X3 := Lib.hid z3
                    have X4 := Lib.hid z4
                    have X5 := Lib.hid z5
                    have X6 := Lib.hid z6
                    have KB := Lib.hid z7
                    clear z1 z2 z3 z4 z5 z6 z7
                    have t1 := X5.out.2.1 1 _ rfl
                    have s0 := X6.out.2.1 0 _ (by rw [List.getElem?_set_ne (by omega)]; exact H0.out)
                    have e0 := X6.out.2.2 0 (by have := HL.out; simp; omega)
                    go_upto_region 30 with fail
                    clear t1 s0 e0
                    have z1 := (X1.out).other (p := ⟨b15, 0, none⟩) (v := .int .u32 ((pc + 4) % 4294967296)) (by simp; omega)
                    have z2 := (X2.out).other (p := ⟨b15, 0, none⟩) (v := .int .u32 ((pc + 4) % 4294967296)) (by simp; omega)
                    have z3 := (X3.out).other (p := ⟨b15, 0, none⟩) (v := .int .u32 ((pc + 4) % 4294967296)) (by simp; omega)
                    have z4 := (X4.out).other (p := ⟨b15, 0, none⟩) (v := .int .u32 ((pc + 4) % 4294967296)) (by simp; omega)
                    have z5 := (X5.out).other (p := ⟨b15, 0, none⟩) (v := .int .u32 ((pc + 4) % 4294967296)) (by simp; omega)
                    have z6 := (X6.out).set (i := 0) (v := .int .u32 ((pc + 4) % 4294967296)) (by have := HL.out; simp; omega)
                    have z7 := (KB.out).setCell (p := ⟨b15, 0, none⟩) (by show w.heap.size ≤ b15; omega) (.int .u32 ((pc + 4) % 4294967296))
                    generalize (World.setCell WA ⟨b15, 0, none⟩ (.int .u32 ((pc + 4) % 4294967296))) = WB at *
                    clear X1 X2 X3 X4 X5 X6 KB
                    have X1 := Lib.hid z1
                    have X2 := Lib.hid z2
                    have X3 := Lib.hid z3
                    have X4 := Lib.hid z4
                    have X5 := Lib.hid z5
                    have X6 := Lib.hid z6
                    have KB := Lib.hid z7
                    clear z1 z2 z3 z4 z5 z6 z7
                    have t6 := X5.out.2.1 6 _ rfl
                    have e6 := X5.out.2.2 6 (by simp)
                    go_upto_region 31 with fail
                    clear t6 e6
                    have z1 := (X1.out).other (p := ⟨b13, 6, none⟩) (v := .bool true) (by simp; omega)
                    have z2 := (X2.out).other (p := ⟨b13, 6, none⟩) (v := .bool true) (by simp; omega)
                    have z3 := (X3.out).other (p := ⟨b13, 6, none⟩) (v := .bool true) (by simp; omega)
                    have z4 := (X4.out).other (p := ⟨b13, 6, none⟩) (v := .bool true) (by simp; omega)
                    have z5 := (X5.out).set (i := 6) (v := .bool true) (by simp)
                    simp only [List.set_cons_succ, List.set_cons_zero] at z5
                    have z6 := (X6.out).other (p := ⟨b13, 6, none⟩) (v := .bool true) (by simp; omega)
                    have z7 := (KB.out).setCell (p := ⟨b13, 6, none⟩) (by show w.heap.size ≤ b13; omega) (.bool true)
                    generalize (World.setCell WB ⟨b13, 6, none⟩ (.bool true)) = WC at *
                    clear X1 X2 X3 X4 X5 X6 KB
                    have X1 := Lib.hid z1
                    have X2 := Lib.hid z2
                    have X3 := Lib.hid z3
                    have X4 := Lib.hid z4
                    have X5 := Lib.hid z5
                    have X6 := Lib.hid z6
                    have KB := Lib.hid z7
                    clear z1 z2 z3 z4 z5 z6 z7
                    have t3 := X5.out.2.1 3 _ rfl
                    have e3 := X5.out.2.2 3 (by simp)
                    go_upto_region 33 with (go_at_call 28; refine (HJ.out _).mono ?_; rintro e wc' ⟨rfl, rfl⟩)
                    clear t3 e3
                    have z1 := (X1.out).other (p := ⟨b13, 3, none⟩) (v := .int .u32 u) (by simp; omega)
                    have z2 := (X2.out).other (p := ⟨b13, 3, none⟩) (v := .int .u32 u) (by simp; omega)
                    have z3 := (X3.out).other (p := ⟨b13, 3, none⟩) (v := .int .u32 u) (by simp; omega)
                    have z4 := (X4.out).other (p := ⟨b13, 3, none⟩) (v := .int .u32 u) (by simp; omega)
                    have z5 := (X5.out).set (i := 3) (v := .int .u32 u) (by simp)
                    simp only [List.set_cons_succ, List.set_cons_zero] at z5
                    have z6 := (X6.out).other (p := ⟨b13, 3, none⟩) (v := .int .u32 u) (by simp; omega)
                    have z7 := (KB.out).setCell (p := ⟨b13, 3, none⟩) (by show w.heap.size ≤ b13; omega) (.int .u32 u)
                    generalize (World.setCell WC ⟨b13, 3, none⟩ (.int .u32 u)) = W9 at *
                    clear X1 X2 X3 X4 X5 X6 KB
                    have X1 := Lib.hid z1
                    have X2 := Lib.hid z2
                    have X3 := Lib.hid z3
                    have X4 := Lib.hid z4
                    have X5 := Lib.hid z5
                    have X6 := Lib.hid z6
                    have KB := Lib.hid z7
                    clear z1 z2 z3 z4 z5 z6 z7
                    have x5 := X5.out
                    have x6 := X6.out
                    rw [F1.out] at x6
                    replace X6 := Lib.hid x6
                    replace X5 := Lib.hid (show Blk W9 b13 ds2 by rw [← F2.out]; exact x5)
                    clear x5 x6
                    have XK := Lib.hid (X6.out.stage (w.heap.size + 1) cs2 (w.heap.size + 1 + 1) ds2 (by omega) (by omega))
                    have XT := Lib.hid (X5.out.stage (w.heap.size + 1) cs2 (w.heap.size + 1 + 1) ds2 (by omega) (by omega))
                    refine wp_region_two [] [0, 1] 2 3 _ _ (w.heap.size + 1) (w.heap.size + 1 + 1) z35 z9 cs2 ds2 34 36 (.tmp 4) (.tmp 154) (.tmp 5) (.tmp 155) (by kernel_rfl) (by kernel_rfl) rfl rfl rfl ⟨rfl, rfl, rfl⟩ ⟨rfl, rfl, rfl⟩ (by omega) X3.out X4.out (by simpa using HZ2.out) (by simpa using HZ3.out) (by simpa using HI2.out) (by simpa using HI3.out) HO2.out HO3.out ?_
                    simp only [opsAt, List.getElem?_toArray, List.getElem?_cons_zero, List.getElem?_cons_succ, Option.toList_some, List.cons_append, List.nil_append]
                    refine wpQuiet_next ?_
                    go_big_quiet_want
                    refine quiet_load_stage 34 (.tmp 15) rfl _ rfl cs2 _ XK.out Tryd.underlying34 rfl (by simpa using HI2.out) ?_
                    simp only [Act.put, List.setIfInBounds_toArray, List.set_cons_succ, List.set_cons_zero]
                    go_big_quiet_on
                    go_big_quiet_want
                    refine quiet_load_stage 36 (.tmp 13) rfl _ rfl ds2 _ XT.out Tryd.underlying36 rfl (by simpa using HI3.out) ?_
                    simp only [Act.put, List.setIfInBounds_toArray, List.set_cons_succ, List.set_cons_zero]
                    go_big_quiet_on
                    refine wpQuiet_nil ?_
                    refine ⟨⟨rfl, rfl, rfl, rfl⟩, fun w9 n1 n2 n3 n4 => ?_⟩
                    go_wp2
                    exact bodyPost_ret (v := .tuple #[.agg cs2.toArray, .agg ds2.toArray]) (results_cell_two Tryd.results8 _ w9 (w.heap.size + 1) (w.heap.size + 1 + 1) cs2 ds2 _ _ rfl rfl n1 n2 Tryd.underlying34 rfl (by simpa using HI2.out) Tryd.underlying36 rfl (by simpa using HI3.out)) rfl ⟨rfl, KB.out.trans (n4 _ (by omega) (by omega))⟩
              · have q3 : (kd == 3) = false := by simp; omega
                have q4 : (kd == 4) = false := by simp; omega
                have HS3 := Lib.hid (HS2.out.symm.trans (by rw [if_neg hls]))
                have HT3 := Lib.hid (HT2.out.symm.trans (by rw [if_neg hls]))
                clear HS2 HT2 hls HI1 HI2' HI3' HI4
                by_cases h5 : kd = 5
                · subst h5
                  have hs2 := HS3.out.symm
                  have ht2 := HT3.out.symm
                  rw [if_pos rfl] at hs2 ht2
                  have c0 := X1.out.2.1 0 _ H0.out
                  have t1 := X5.out.2.1 1 _ rfl
                  have e1 := X5.out.2.2 1 (by simp)
                  by_cases hn4 : K % 4 = 0
                  · rw [if_pos hn4] at hs2 ht2
                    have q9 : (K.tmod 4 != 0) = false := by rw [Int.tmod_eq_zero_of_dvd (Int.dvd_of_emod_eq_zero hn4)]; rfl
                    have HF := Lib.hid (wrote_cells HRL.out op rd kk HKK.out hk31 K V zeroSt)
                    rw [hs2, ht2, HC2.out, HD2.out, HCS.out, HS1.out] at HF
                    clear hs2 ht2 HS3 HT3 HTK HH hn4
                    go_upto_region 37 with (first
                      | (refine wpList_load_mid rfl 25 (.tmp 8) rfl _ 0 rfl xs _ X2.out.range Tryd.underlying25 rfl HX.out ?_)
                      | (go_at_call 30
                         refine (HTA.out _).mono ?_
                         rintro e wj ⟨rfl, b⟩
                         have z8 := X6.out.below b X6.out.1
                         have z9 := X5.out.below b X5.out.1
                         have z2 := X2.out.below b X2.out.1
                         have z1 := X1.out.below b X1.out.1
                         have z3 := X3.out.below b X3.out.1
                         have z4 := X4.out.below b X4.out.1
                         have z5 := KB.out.trans ((b).mono KB.out.size)
                         clear X1 X3 X4 KB
                         have X1 := Lib.hid z1
                         have X3 := Lib.hid z3
                         have X4 := Lib.hid z4
                         have KB := Lib.hid z5
                         clear z1 z3 z4 z5
                         clear X2
                         have X2 := Lib.hid z2
                         clear z2
                         clear X5
                         have X5 := Lib.hid z9
                         clear z9
                         clear X6
                         have X6 := Lib.hid z8
                         clear z8
                         clear b c0 t1 e1
                         have t1 := X5.out.2.1 1 _ rfl
                         have e1 := X5.out.2.2 1 (by simp)))
                    clear t1 e1
                    have z1 := (X1.out).other (p := ⟨b13, 1, none⟩) (v := .int .u32 K) (by simp; omega)
                    have z2 := (X2.out).other (p := ⟨b13, 1, none⟩) (v := .int .u32 K) (by simp; omega)
                    have z3 := (X3.out).other (p := ⟨b13, 1, none⟩) (v := .int .u32 K) (by simp; omega)
                    have z4 := (X4.out).other (p := ⟨b13, 1, none⟩) (v := .int .u32 K) (by simp; omega)
                    have z5 := (X5.out).set (i := 1) (v := .int .u32 K) (by simp)
                    simp only [List.set_cons_succ, List.set_cons_zero] at z5
                    have z6 := (X6.out).other (p := ⟨b13, 1, none⟩) (v := .int .u32 K) (by simp; omega)
                    have z7 := (KB.out).setCell (p := ⟨b13, 1, none⟩) (by show w.heap.size ≤ b13; omega) (.int .u32 K)
                    generalize (World.setCell wj ⟨b13, 1, none⟩ (.int .u32 K)) = W7 at *
                    clear X1 X2 X3 X4 X5 X6 KB
                    have X1 := Lib.hid z1
                    have X2 := Lib.hid z2
                    have X3 := Lib.hid z3
                    have X4 := Lib.hid z4
                    have X5 := Lib.hid z5
                    have X6 := Lib.hid z6
                    have KB := Lib.hid z7
                    clear z1 z2 z3 z4 z5 z6 z7
                    have t1 := X5.out.2.1 1 _ rfl
                    go_upto_region 41 with fail
                    clear t1 q9
                    have t2 := X5.out.2.1 2 _ rfl
                    by_cases hz : kk = 0
                    · have E1 := (HF.out.1 hz).1
                      have E2 := (HF.out.1 hz).2
                      have F1 := Lib.hid E1
                      have F2 := Lib.hid E2
                      clear E1 E2 HF
                      subst hz
                      go_upto_region 44 with fail
                      clear t2
                      have t1 := X5.out.2.1 1 _ rfl
                      have s0 := X6.out.2.1 0 _ H0.out
                      have e0 := X6.out.2.2 0 (by have := HL.out; simp; omega)
                      go_upto_region 45 with fail
                      clear t1 s0 e0
                      have z1 := (X1.out).other (p := ⟨b15, 0, none⟩) (v := .int .u32 K) (by simp; omega)
                      have z2 := (X2.out).other (p := ⟨b15, 0, none⟩) (v := .int .u32 K) (by simp; omega)
                      have z3 := (X3.out).other (p := ⟨b15, 0, none⟩) (v := .int .u32 K) (by simp; omega)
                      have z4 := (X4.out).other (p := ⟨b15, 0, none⟩) (v := .int .u32 K) (by simp; omega)
                      have z5 := (X5.out).other (p := ⟨b15, 0, none⟩) (v := .int .u32 K) (by simp; omega)
                      have z6 := (X6.out).set (i := 0) (v := .int .u32 K) (by have := HL.out; simp; omega)
                      have z7 := (KB.out).setCell (p := ⟨b15, 0, none⟩) (by show w.heap.size ≤ b15; omega) (.int .u32 K)
                      generalize (World.setCell W7 ⟨b15, 0, none⟩ (.int .u32 K)) = W9 at *
                      clear X1 X2 X3 X4 X5 X6 KB
                      have X1 := Lib.hid z1
                      have X2 := Lib.hid z2
                      have X3 := Lib.hid z3
                      have X4 := Lib.hid z4
                      have X5 := Lib.hid z5
                      have X6 := Lib.hid z6
                      have KB := Lib.hid z7
                      clear z1 z2 z3 z4 z5 z6 z7
                      have x5 := X5.out
                      have x6 := X6.out
                      rw [F1.out] at x6
                      replace X6 := Lib.hid x6
                      replace X5 := Lib.hid (show Blk W9 b13 ds2 by rw [← F2.out]; exact x5)
                      clear x5 x6
                      have XK := Lib.hid (X6.out.stage (w.heap.size + 1) cs2 (w.heap.size + 1 + 1) ds2 (by omega) (by omega))
                      have XT := Lib.hid (X5.out.stage (w.heap.size + 1) cs2 (w.heap.size + 1 + 1) ds2 (by omega) (by omega))
                      refine wp_region_two [] [0, 1] 2 3 _ _ (w.heap.size + 1) (w.heap.size + 1 + 1) z35 z9 cs2 ds2 34 36 (.tmp 4) (.tmp 204) (.tmp 5) (.tmp 205) (by kernel_rfl) (by kernel_rfl) rfl rfl rfl ⟨rfl, rfl, rfl⟩ ⟨rfl, rfl, rfl⟩ (by omega) X3.out X4.out (by simpa using HZ2.out) (by simpa using HZ3.out) (by simpa using HI2.out) (by simpa using HI3.out) HO2.out HO3.out ?_
                      simp only [opsAt, List.getElem?_toArray, List.getElem?_cons_zero, List.getElem?_cons_succ, Option.toList_some, List.cons_append, List.nil_append]
                      refine wpQuiet_next ?_
                      go_big_quiet_want
                      refine quiet_load_stage 34 (.tmp 15) rfl _ rfl cs2 _ XK.out Tryd.underlying34 rfl (by simpa using HI2.out) ?_
                      simp only [Act.put, List.setIfInBounds_toArray, List.set_cons_succ, List.set_cons_zero]
                      go_big_quiet_on
                      go_big_quiet_want
                      refine quiet_load_stage 36 (.tmp 13) rfl _ rfl ds2 _ XT.out Tryd.underlying36 rfl (by simpa using HI3.out) ?_
                      simp only [Act.put, List.setIfInBounds_toArray, List.set_cons_succ, List.set_cons_zero]
                      go_big_quiet_on
                      refine wpQuiet_nil ?_
                      refine ⟨⟨rfl, rfl, rfl, rfl⟩, fun w9 n1 n2 n3 n4 => ?_⟩
                      go_wp2
                      exact bodyPost_ret (v := .tuple #[.agg cs2.toArray, .agg ds2.toArray]) (results_cell_two Tryd.results8 _ w9 (w.heap.size + 1) (w.heap.size + 1 + 1) cs2 ds2 _ _ rfl rfl n1 n2 Tryd.underlying34 rfl (by simpa using HI2.out) Tryd.underlying36 rfl (by simpa using HI3.out)) rfl ⟨rfl, KB.out.trans (n4 _ (by omega) (by omega))⟩
                    · have q9 : 0 < kk := by omega
                      have E1 := (HF.out.2 hz).1
                      have E2 := (HF.out.2 hz).2
                      have F1 := Lib.hid E1
                      have F2 := Lib.hid E2
                      clear E1 E2 HF hz
                      have t3 := X5.out.2.1 3 _ rfl
                      have e3 := X5.out.2.2 3 (by simp)
                      go_upto_region 43 with fail
                      clear t2 q9 t3 e3
                      have z1 := (X1.out).other (p := ⟨b13, 3, none⟩) (v := .int .u32 V) (by simp; omega)
                      have z2 := (X2.out).other (p := ⟨b13, 3, none⟩) (v := .int .u32 V) (by simp; omega)
                      have z3 := (X3.out).other (p := ⟨b13, 3, none⟩) (v := .int .u32 V) (by simp; omega)
                      have z4 := (X4.out).other (p := ⟨b13, 3, none⟩) (v := .int .u32 V) (by simp; omega)
                      have z5 := (X5.out).set (i := 3) (v := .int .u32 V) (by simp)
                      simp only [List.set_cons_succ, List.set_cons_zero] at z5
                      have z6 := (X6.out).other (p := ⟨b13, 3, none⟩) (v := .int .u32 V) (by simp; omega)
                      have z7 := (KB.out).setCell (p := ⟨b13, 3, none⟩) (by show w.heap.size ≤ b13; omega) (.int .u32 V)
                      generalize (World.setCell W7 ⟨b13, 3, none⟩ (.int .u32 V)) = WA at *
                      clear X1 X2 X3 X4 X5 X6 KB
                      have X1 := Lib.hid z1
                      have X2 := Lib.hid z2
                      have X3 := Lib.hid z3
                      have X4 := Lib.hid z4
                      have X5 := Lib.hid z5
                      have X6 := Lib.hid z6
                      have KB := Lib.hid z7
                      clear z1 z2 z3 z4 z5 z6 z7
                      have t2 := X5.out.2.1 2 _ rfl
                      have r1 := X6.out.2.1 (1 + kk) _ GK.out
                      have f1 := X6.out.2.2 (1 + kk) (by have := HL.out; omega)
                      go_upto_region 44 with fail
                      clear t2 r1 f1
                      have z1 := (X1.out).other (p := ⟨b15, (1 + kk), none⟩) (v := .int .u32 V) (by simp; omega)
                      have z2 := (X2.out).other (p := ⟨b15, (1 + kk), none⟩) (v := .int .u32 V) (by simp; omega)
                      have z3 := (X3.out).other (p := ⟨b15, (1 + kk), none⟩) (v := .int .u32 V) (by simp; omega)
                      have z4 := (X4.out).other (p := ⟨b15, (1 + kk), none⟩) (v := .int .u32 V) (by simp; omega)
                      have z5 := (X5.out).other (p := ⟨b15, (1 + kk), none⟩) (v := .int .u32 V) (by simp; omega)
                      have z6 := (X6.out).set (i := (1 + kk)) (v := .int .u32 V) (by have := HL.out; simp; omega)
                      have z7 := (KB.out).setCell (p := ⟨b15, (1 + kk), none⟩) (by show w.heap.size ≤ b15; omega) (.int .u32 V)
                      generalize (World.setCell WA ⟨b15, (1 + kk), none⟩ (.int .u32 V)) = WB at *
                      clear X1 X2 X3 X4 X5 X6 KB
                      have X1 := Lib.hid z1
                      have X2 := Lib.hid z2
                      have X3 := Lib.hid z3
                      have X4 := Lib.hid z4
                      have X5 := Lib.hid z5
                      have X6 := Lib.hid z6
                      have KB := Lib.hid z7
                      clear z1 z2 z3 z4 z5 z6 z7
                      have t1 := X5.out.2.1 1 _ rfl
                      have s0 := X6.out.2.1 0 _ (by rw [List.getElem?_set_ne (by omega)]; exact H0.out)
                      have e0 := X6.out.2.2 0 (by have := HL.out; simp; omega)
                      go_upto_region 45 with fail
                      clear t1 s0 e0
                      have z1 := (X1.out).other (p := ⟨b15, 0, none⟩) (v := .int .u32 K) (by simp; omega)
                      have z2 := (X2.out).other (p := ⟨b15, 0, none⟩) (v := .int .u32 K) (by simp; omega)
                      have z3 := (X3.out).other (p := ⟨b15, 0, none⟩) (v := .int .u32 K) (by simp; omega)
                      have z4 := (X4.out).other (p := ⟨b15, 0, none⟩) (v := .int .u32 K) (by simp; omega)
                      have z5 := (X5.out).other (p := ⟨b15, 0, none⟩) (v := .int .u32 K) (by simp; omega)
                      have z6 := (X6.out).set (i := 0) (v := .int .u32 K) (by have := HL.out; simp; omega)
                      have z7 := (KB.out).setCell (p := ⟨b15, 0, none⟩) (by show w.heap.size ≤ b15; omega) (.int .u32 K)
                      generalize (World.setCell WB ⟨b15, 0, none⟩ (.int .u32 K)) = W9 at *
                      clear X1 X2 X3 X4 X5 X6 KB
                      have X1 := Lib.hid z1
                      have X2 := Lib.hid z2
                      have X3 := Lib.hid z3
                      have X4 := Lib.hid z4
                      have X5 := Lib.hid z5
                      have X6 := Lib.hid z6
                      have KB := Lib.hid z7
                      clear z1 z2 z3 z4 z5 z6 z7
                      have x5 := X5.out
                      have x6 := X6.out
                      rw [F1.out] at x6
                      replace X6 := Lib.hid x6
                      replace X5 := Lib.hid (show Blk W9 b13 ds2 by rw [← F2.out]; exact x5)
                      clear x5 x6
                      have XK := Lib.hid (X6.out.stage (w.heap.size + 1) cs2 (w.heap.size + 1 + 1) ds2 (by omega) (by omega))
                      have XT := Lib.hid (X5.out.stage (w.heap.size + 1) cs2 (w.heap.size + 1 + 1) ds2 (by omega) (by omega))
                      refine wp_region_two [] [0, 1] 2 3 _ _ (w.heap.size + 1) (w.heap.size + 1 + 1) z35 z9 cs2 ds2 34 36 (.tmp 4) (.tmp 204) (.tmp 5) (.tmp 205) (by kernel_rfl) (by kernel_rfl) rfl rfl rfl ⟨rfl, rfl, rfl⟩ ⟨rfl, rfl, rfl⟩ (by omega) X3.out X4.out (by simpa using HZ2.out) (by simpa using HZ3.out) (by simpa using HI2.out) (by simpa using HI3.out) HO2.out HO3.out ?_
                      simp only [opsAt, List.getElem?_toArray, List.getElem?_cons_zero, List.getElem?_cons_succ, Option.toList_some, List.cons_append, List.nil_append]
                      refine wpQuiet_next ?_
                      go_big_quiet_want
                      refine quiet_load_stage 34 (.tmp 15) rfl _ rfl cs2 _ XK.out Tryd.underlying34 rfl (by simpa using HI2.out) ?_
                      simp only [Act.put, List.setIfInBounds_toArray, List.set_cons_succ, List.set_cons_zero]
                      go_big_quiet_on
                      go_big_quiet_want
                      refine quiet_load_stage 36 (.tmp 13) rfl _ rfl ds2 _ XT.out Tryd.underlying36 rfl (by simpa using HI3.out) ?_
                      simp only [Act.put, List.setIfInBounds_toArray, List.set_cons_succ, List.set_cons_zero]
                      go_big_quiet_on
                      refine wpQuiet_nil ?_
                      refine ⟨⟨rfl, rfl, rfl, rfl⟩, fun w9 n1 n2 n3 n4 => ?_⟩
                      go_wp2
                      exact bodyPost_ret (v := .tuple #[.agg cs2.toArray, .agg ds2.toArray]) (results_cell_two Tryd.results8 _ w9 (w.heap.size + 1) (w.heap.size + 1 + 1) cs2 ds2 _ _ rfl rfl n1 n2 Tryd.underlying34 rfl (by simpa using HI2.out) Tryd.underlying36 rfl (by simpa using HI3.out)) rfl ⟨rfl, KB.out.trans (n4 _ (by omega) (by omega))⟩
                  · rw [if_neg hn4] at hs2 ht2
                    have q9 : (K.tmod 4 != 0) = true := by
                      have : K.tmod 4 ≠ 0 := fun h => hn4 (Int.emod_eq_zero_of_dvd (Int.dvd_of_tmod_eq_zero h))
                      simpa using this
                    replace HH := Lib.hid (HH.out 3 0)
                    rw [hs2, ht2, HV2.out.1, HV2.out.2] at HH
                    clear hs2 ht2 HS3 HT3 HTK hn4
                    go_upto_region 37 with (first
                      | (refine wpList_load_mid rfl 25 (.tmp 8) rfl _ 0 rfl xs _ X2.out.range Tryd.underlying25 rfl HX.out ?_)
                      | (go_at_call 30
                         refine (HTA.out _).mono ?_
                         rintro e wj ⟨rfl, b⟩
                         have z8 := X6.out.below b X6.out.1
                         have z9 := X5.out.below b X5.out.1
                         have z2 := X2.out.below b X2.out.1
                         have z1 := X1.out.below b X1.out.1
                         have z3 := X3.out.below b X3.out.1
                         have z4 := X4.out.below b X4.out.1
                         have z5 := KB.out.trans ((b).mono KB.out.size)
                         clear X1 X3 X4 KB
                         have X1 := Lib.hid z1
                         have X3 := Lib.hid z3
                         have X4 := Lib.hid z4
                         have KB := Lib.hid z5
                         clear z1 z3 z4 z5
                         clear X2
                         have X2 := Lib.hid z2
                         clear z2
                         clear X5
                         have X5 := Lib.hid z9
                         clear z9
                         clear X6
                         have X6 := Lib.hid z8
                         clear z8
                         clear b c0 t1 e1
                         have t1 := X5.out.2.1 1 _ rfl
                         have e1 := X5.out.2.2 1 (by simp)))
                    clear t1 e1
                    have z1 := (X1.out).other (p := ⟨b13, 1, none⟩) (v := .int .u32 K) (by simp; omega)
                    have z2 := (X2.out).other (p := ⟨b13, 1, none⟩) (v := .int .u32 K) (by simp; omega)
                    have z3 := (X3.out).other (p := ⟨b13, 1, none⟩) (v := .int .u32 K) (by simp; omega)
                    have z4 := (X4.out).other (p := ⟨b13, 1, none⟩) (v := .int .u32 K) (by simp; omega)
                    have z5 := (X5.out).set (i := 1) (v := .int .u32 K) (by simp)
                    simp only [List.set_cons_succ, List.set_cons_zero] at z5
                    have z6 := (X6.out).other (p := ⟨b13, 1, none⟩) (v := .int .u32 K) (by simp; omega)
                    have z7 := (KB.out).setCell (p := ⟨b13, 1, none⟩) (by show w.heap.size ≤ b13; omega) (.int .u32 K)
                    generalize (World.setCell wj ⟨b13, 1, none⟩ (.int .u32 K)) = W7 at *
                    clear X1 X2 X3 X4 X5 X6 KB
                    have X1 := Lib.hid z1
                    have X2 := Lib.hid z2
                    have X3 := Lib.hid z3
                    have X4 := Lib.hid z4
                    have X5 := Lib.hid z5
                    have X6 := Lib.hid z6
                    have KB := Lib.hid z7
                    clear z1 z2 z3 z4 z5 z6 z7
                    have t1 := X5.out.2.1 1 _ rfl
                    go_upto_region 38 with fail
                    clear t1 q9
                    go_wp2_with (first
                      | (refine wpList_load_mid rfl 34 (.tmp 3) rfl _ 0 rfl cs _ X1.out.range Tryd.underlying34 rfl HI.out ?_)
                      | (refine wpList_store_blk rfl 34 (.tmp 4) (.tmp 181) rfl (w.heap.size + 1) z35 cs2.toArray X3.out HZ2.out rfl rfl HI2.out HO2.out ?_; intro W7 hB7 hO7 hbl7 hs7; have X4' := hO7 _ _ (by omega) X4.out; replace X4 := Lib.hid X4'; clear X4')
                      | (refine wpList_store_blk rfl 36 (.tmp 5) (.tmp 182) rfl (w.heap.size + 1 + 1) z9 ds2.toArray X4.out HZ3.out rfl rfl HI3.out HO3.out ?_; intro W8 hB8 hO8 hbl8 hs8)
                      | (go_at_call 22
                         refine (HH.out _).mono ?_
                         rintro e w3 ⟨rfl, b⟩
                         have z1 := X1.out.below b X1.out.1
                         have z3 := X3.out.below b X3.out.1
                         have z4 := X4.out.below b X4.out.1
                         have z5 := KB.out.trans ((b).mono KB.out.size)
                         clear X1 X3 X4 KB
                         have X1 := Lib.hid z1
                         have X3 := Lib.hid z3
                         have X4 := Lib.hid z4
                         have KB := Lib.hid z5
                         clear z1 z3 z4 z5
                         clear b))
                    exact bodyPost_ret (v := .tuple #[.agg cs2.toArray, .agg ds2.toArray]) (results_cell_two Tryd.results8 _ W8 (w.heap.size + 1) (w.heap.size + 1 + 1) cs2 ds2 _ _ rfl rfl (hO8 _ _ (by omega) hB7) hB8 Tryd.underlying34 rfl (by simpa using HI2.out) Tryd.underlying36 rfl (by simpa using HI3.out)) rfl ⟨rfl, (KB.out.trans (hbl7 _ (by omega))).trans (hbl8 _ (by omega))⟩
                · have q5 : (kd == 5) = false := by simpa using h5
                  by_cases h2 : kd = 2
                  · subst h2
                    have hs2 := HS3.out.symm
                    have ht2 := HT3.out.symm
                    rw [if_neg (by decide), if_pos rfl] at hs2 ht2
                    have HF := Lib.hid (wrote_cells HRL.out op rd kk HKK.out hk31 ((pc + 4) % 4294967296) V { zeroSt with took := T })
                    rw [hs2, ht2, HC2.out, HD2.out, HCS.out, HS1.out] at HF
                    clear hs2 ht2 HS3 HT3 HTA HH h5
                    have c0 := X2.out.2.1 0 _ HI0.out
                    have t8 := X5.out.2.1 8 _ rfl
                    have e8 := X5.out.2.2 8 (by simp)
                    go_upto_region 41 with (go_at_call 31; refine (HTK.out _).mono ?_; rintro e w7 ⟨rfl, rfl⟩)
                    clear c0 t8 e8
                    have z1 := (X1.out).other (p := ⟨b13, 8, none⟩) (v := .int .i64 T) (by simp; omega)
                    have z2 := (X2.out).other (p := ⟨b13, 8, none⟩) (v := .int .i64 T) (by simp; omega)
                    have z3 := (X3.out).other (p := ⟨b13, 8, none⟩) (v := .int .i64 T) (by simp; omega)
                    have z4 := (X4.out).other (p := ⟨b13, 8, none⟩) (v := .int .i64 T) (by simp; omega)
                    have z5 := (X5.out).set (i := 8) (v := .int .i64 T) (by simp)
                    simp only [List.set_cons_succ, List.set_cons_zero] at z5
                    have z6 := (X6.out).other (p := ⟨b13, 8, none⟩) (v := .int .i64 T) (by simp; omega)
                    have z7 := (KB.out).setCell (p := ⟨b13, 8, none⟩) (by show w.heap.size ≤ b13; omega) (.int .i64 T)
                    generalize (World.setCell W6 ⟨b13, 8, none⟩ (.int .i64 T)) = W7 at *
                    clear X1 X2 X3 X4 X5 X6 KB
                    have X1 := Lib.hid z1
                    have X2 := Lib.hid z2
                    have X3 := Lib.hid z3
                    have X4 := Lib.hid z4
                    have X5 := Lib.hid z5
                    have X6 := Lib.hid z6
                    have KB := Lib.hid z7
                    clear z1 z2 z3 z4 z5 z6 z7
                    have t2 := X5.out.2.1 2 _ rfl
                    by_cases hz : kk = 0
                    · have E1 := (HF.out.1 hz).1
                      have E2 := (HF.out.1 hz).2
                      have F1 := Lib.hid E1
                      have F2 := Lib.hid E2
                      clear E1 E2 HF
                      subst hz
                      go_upto_region 44 with fail
                      clear t2
                      have t1 := X5.out.2.1 1 _ rfl
                      have s0 := X6.out.2.1 0 _ H0.out
                      have e0 := X6.out.2.2 0 (by have := HL.out; simp; omega)
                      go_upto_region 45 with fail
                      clear t1 s0 e0
                      have z1 := (X1.out).other (p := ⟨b15, 0, none⟩) (v := .int .u32 ((pc + 4) % 4294967296)) (by simp; omega)
                      have z2 := (X2.out).other (p := ⟨b15, 0, none⟩) (v := .int .u32 ((pc + 4) % 4294967296)) (by simp; omega)
                      have z3 := (X3.out).other (p := ⟨b15, 0, none⟩) (v := .int .u32 ((pc + 4) % 4294967296)) (by simp; omega)
                      have z4 := (X4.out).other (p := ⟨b15, 0, none⟩) (v := .int .u32 ((pc + 4) % 4294967296)) (by simp; omega)
                      have z5 := (X5.out).other (p := ⟨b15, 0, none⟩) (v := .int .u32 ((pc + 4) % 4294967296)) (by simp; omega)
                      have z6 := (X6.out).set (i := 0) (v := .int .u32 ((pc + 4) % 4294967296)) (by have := HL.out; simp; omega)
                      have z7 := (KB.out).setCell (p := ⟨b15, 0, none⟩) (by show w.heap.size ≤ b15; omega) (.int .u32 ((pc + 4) % 4294967296))
                      generalize (World.setCell W7 ⟨b15, 0, none⟩ (.int .u32 ((pc + 4) % 4294967296))) = W9 at *
                      clear X1 X2 X3 X4 X5 X6 KB
                      have X1 := Lib.hid z1
                      have X2 := Lib.hid z2
                      have X3 := Lib.hid z3
                      have X4 := Lib.hid z4
                      have X5 := Lib.hid z5
                      have X6 := Lib.hid z6
                      have KB := Lib.hid z7
                      clear z1 z2 z3 z4 z5 z6 z7
                      have x5 := X5.out
                      have x6 := X6.out
                      rw [F1.out] at x6
                      replace X6 := Lib.hid x6
                      replace X5 := Lib.hid (show Blk W9 b13 ds2 by rw [← F2.out]; exact x5)
                      clear x5 x6
                      have XK := Lib.hid (X6.out.stage (w.heap.size + 1) cs2 (w.heap.size + 1 + 1) ds2 (by omega) (by omega))
                      have XT := Lib.hid (X5.out.stage (w.heap.size + 1) cs2 (w.heap.size + 1 + 1) ds2 (by omega) (by omega))
                      refine wp_region_two [] [0, 1] 2 3 _ _ (w.heap.size + 1) (w.heap.size + 1 + 1) z35 z9 cs2 ds2 34 36 (.tmp 4) (.tmp 204) (.tmp 5) (.tmp 205) (by kernel_rfl) (by kernel_rfl) rfl rfl rfl ⟨rfl, rfl, rfl⟩ ⟨rfl, rfl, rfl⟩ (by omega) X3.out X4.out (by simpa using HZ2.out) (by simpa using HZ3.out) (by simpa using HI2.out) (by simpa using HI3.out) HO2.out HO3.out ?_
                      simp only [opsAt, List.getElem?_toArray, List.getElem?_cons_zero, List.getElem?_cons_succ, Option.toList_some, List.cons_append, List.nil_append]
                      refine wpQuiet_next ?_
                      go_big_quiet_want
                      refine quiet_load_stage 34 (.tmp 15) rfl _ rfl cs2 _ XK.out Tryd.underlying34 rfl (by simpa using HI2.out) ?_
                      simp only [Act.put, List.setIfInBounds_toArray, List.set_cons_succ, List.set_cons_zero]
                      go_big_quiet_on
                      go_big_quiet_want
                      refine quiet_load_stage 36 (.tmp 13) rfl _ rfl ds2 _ XT.out Tryd.underlying36 rfl (by simpa using HI3.out) ?_
                      simp only [Act.put, List.setIfInBounds_toArray, List.set_cons_succ, List.set_cons_zero]
                      go_big_quiet_on
                      refine wpQuiet_nil ?_
                      refine ⟨⟨rfl, rfl, rfl, rfl⟩, fun w9 n1 n2 n3 n4 => ?_⟩
                      go_wp2
                      exact bodyPost_ret (v := .tuple #[.agg cs2.toArray, .agg ds2.toArray]) (results_cell_two Tryd.results8 _ w9 (w.heap.size + 1) (w.heap.size + 1 + 1) cs2 ds2 _ _ rfl rfl n1 n2 Tryd.underlying34 rfl (by simpa using HI2.out) Tryd.underlying36 rfl (by simpa using HI3.out)) rfl ⟨rfl, KB.out.trans (n4 _ (by omega) (by omega))⟩
                    · have q9 : 0 < kk := by omega
                      have E1 := (HF.out.2 hz).1
                      have E2 := (HF.out.2 hz).2
                      have F1 := Lib.hid E1
                      have F2 := Lib.hid E2
                      clear E1 E2 HF hz
                      have t3 := X5.out.2.1 3 _ rfl
                      have e3 := X5.out.2.2 3 (by simp)
                      go_upto_region 43 with fail
                      clear t2 q9 t3 e3
                      have z1 := (X1.out).other (p := ⟨b13, 3, none⟩) (v := .int .u32 V) (by simp; omega)
                      have z2 := (X2.out).other (p := ⟨b13, 3, none⟩) (v := .int .u32 V) (by simp; omega)
                      have z3 := (X3.out).other (p := ⟨b13, 3, none⟩) (v := .int .u32 V) (by simp; omega)
                      have z4 := (X4.out).other (p := ⟨b13, 3, none⟩) (v := .int .u32 V) (by simp; omega)
                      have z5 := (X5.out).set (i := 3) (v := .int .u32 V) (by simp)
                      simp only [List.set_cons_succ, List.set_cons_zero] at z5
                      have z6 := (X6.out).other (p := ⟨b13, 3, none⟩) (v := .int .u32 V) (by simp; omega)
                      have z7 := (KB.out).setCell (p := ⟨b13, 3, none⟩) (by show w.heap.size ≤ b13; omega) (.int .u32 V)
                      generalize (World.setCell W7 ⟨b13, 3, none⟩ (.int .u32 V)) = WA at *
                      clear X1 X2 X3 X4 X5 X6 KB
                      have X1 := Lib.hid z1
                      have X2 := Lib.hid z2
                      have X3 := Lib.hid z3
                      have X4 := Lib.hid z4
                      have X5 := Lib.hid z5
                      have X6 := Lib.hid z6
                      have KB := Lib.hid z7
                      clear z1 z2 z3 z4 z5 z6 z7
                      have t2 := X5.out.2.1 2 _ rfl
                      have r1 := X6.out.2.1 (1 + kk) _ GK.out
                      have f1 := X6.out.2.2 (1 + kk) (by have := HL.out; omega)
                      go_upto_region 44 with fail
                      clear t2 r1 f1
                      have z1 := (X1.out).other (p := ⟨b15, (1 + kk), none⟩) (v := .int .u32 V) (by simp; omega)
                      have z2 := (X2.out).other (p := ⟨b15, (1 + kk), none⟩) (v := .int .u32 V) (by simp; omega)
                      have z3 := (X3.out).other (p := ⟨b15, (1 + kk), none⟩) (v := .int .u32 V) (by simp; omega)
                      have z4 := (X4.out).other (p := ⟨b15, (1 + kk), none⟩) (v := .int .u32 V) (by simp; omega)
                      have z5 := (X5.out).other (p := ⟨b15, (1 + kk), none⟩) (v := .int .u32 V) (by simp; omega)
                      have z6 := (X6.out).set (i := (1 + kk)) (v := .int .u32 V) (by have := HL.out; simp; omega)
                      have z7 := (KB.out).setCell (p := ⟨b15, (1 + kk), none⟩) (by show w.heap.size ≤ b15; omega) (.int .u32 V)
                      generalize (World.setCell WA ⟨b15, (1 + kk), none⟩ (.int .u32 V)) = WB at *
                      clear X1 X2 X3 X4 X5 X6 KB
                      have X1 := Lib.hid z1
                      have X2 := Lib.hid z2
                      have X3 := Lib.hid z3
                      have X4 := Lib.hid z4
                      have X5 := Lib.hid z5
                      have X6 := Lib.hid z6
                      have KB := Lib.hid z7
                      clear z1 z2 z3 z4 z5 z6 z7
                      have t1 := X5.out.2.1 1 _ rfl
                      have s0 := X6.out.2.1 0 _ (by rw [List.getElem?_set_ne (by omega)]; exact H0.out)
                      have e0 := X6.out.2.2 0 (by have := HL.out; simp; omega)
                      go_upto_region 45 with fail
                      clear t1 s0 e0
                      have z1 := (X1.out).other (p := ⟨b15, 0, none⟩) (v := .int .u32 ((pc + 4) % 4294967296)) (by simp; omega)
                      have z2 := (X2.out).other (p := ⟨b15, 0, none⟩) (v := .int .u32 ((pc + 4) % 4294967296)) (by simp; omega)
                      have z3 := (X3.out).other (p := ⟨b15, 0, none⟩) (v := .int .u32 ((pc + 4) % 4294967296)) (by simp; omega)
                      have z4 := (X4.out).other (p := ⟨b15, 0, none⟩) (v := .int .u32 ((pc + 4) % 4294967296)) (by simp; omega)
                      have z5 := (X5.out).other (p := ⟨b15, 0, none⟩) (v := .int .u32 ((pc + 4) % 4294967296)) (by simp; omega)
                      have z6 := (X6.out).set (i := 0) (v := .int .u32 ((pc + 4) % 4294967296)) (by have := HL.out; simp; omega)
                      have z7 := (KB.out).setCell (p := ⟨b15, 0, none⟩) (by show w.heap.size ≤ b15; omega) (.int .u32 ((pc + 4) % 4294967296))
                      generalize (World.setCell WB ⟨b15, 0, none⟩ (.int .u32 ((pc + 4) % 4294967296))) = W9 at *
                      clear X1 X2 X3 X4 X5 X6 KB
                      have X1 := Lib.hid z1
                      have X2 := Lib.hid z2
                      have X3 := Lib.hid z3
                      have X4 := Lib.hid z4
                      have X5 := Lib.hid z5
                      have X6 := Lib.hid z6
                      have KB := Lib.hid z7
                      clear z1 z2 z3 z4 z5 z6 z7
                      have x5 := X5.out
                      have x6 := X6.out
                      rw [F1.out] at x6
                      replace X6 := Lib.hid x6
                      replace X5 := Lib.hid (show Blk W9 b13 ds2 by rw [← F2.out]; exact x5)
                      clear x5 x6
                      have XK := Lib.hid (X6.out.stage (w.heap.size + 1) cs2 (w.heap.size + 1 + 1) ds2 (by omega) (by omega))
                      have XT := Lib.hid (X5.out.stage (w.heap.size + 1) cs2 (w.heap.size + 1 + 1) ds2 (by omega) (by omega))
                      refine wp_region_two [] [0, 1] 2 3 _ _ (w.heap.size + 1) (w.heap.size + 1 + 1) z35 z9 cs2 ds2 34 36 (.tmp 4) (.tmp 204) (.tmp 5) (.tmp 205) (by kernel_rfl) (by kernel_rfl) rfl rfl rfl ⟨rfl, rfl, rfl⟩ ⟨rfl, rfl, rfl⟩ (by omega) X3.out X4.out (by simpa using HZ2.out) (by simpa using HZ3.out) (by simpa using HI2.out) (by simpa using HI3.out) HO2.out HO3.out ?_
                      simp only [opsAt, List.getElem?_toArray, List.getElem?_cons_zero, List.getElem?_cons_succ, Option.toList_some, List.cons_append, List.nil_append]
                      refine wpQuiet_next ?_
                      go_big_quiet_want
                      refine quiet_load_stage 34 (.tmp 15) rfl _ rfl cs2 _ XK.out Tryd.underlying34 rfl (by simpa using HI2.out) ?_
                      simp only [Act.put, List.setIfInBounds_toArray, List.set_cons_succ, List.set_cons_zero]
                      go_big_quiet_on
                      go_big_quiet_want
                      refine quiet_load_stage 36 (.tmp 13) rfl _ rfl ds2 _ XT.out Tryd.underlying36 rfl (by simpa using HI3.out) ?_
                      simp only [Act.put, List.setIfInBounds_toArray, List.set_cons_succ, List.set_cons_zero]
                      go_big_quiet_on
                      refine wpQuiet_nil ?_
                      refine ⟨⟨rfl, rfl, rfl, rfl⟩, fun w9 n1 n2 n3 n4 => ?_⟩
                      go_wp2
                      exact bodyPost_ret (v := .tuple #[.agg cs2.toArray, .agg ds2.toArray]) (results_cell_two Tryd.results8 _ w9 (w.heap.size + 1) (w.heap.size + 1 + 1) cs2 ds2 _ _ rfl rfl n1 n2 Tryd.underlying34 rfl (by simpa using HI2.out) Tryd.underlying36 rfl (by simpa using HI3.out)) rfl ⟨rfl, KB.out.trans (n4 _ (by omega) (by omega))⟩
                  · have q2' : (kd == 2) = false := by simpa using h2
                    have hs2 := HS3.out.symm
                    have ht2 := HT3.out.symm
                    rw [if_neg h5, if_neg h2] at hs2 ht2
                    have HF := Lib.hid (wrote_cells HRL.out op rd kk HKK.out hk31 ((pc + 4) % 4294967296) V zeroSt)
                    rw [hs2, ht2, HC2.out, HD2.out, HCS.out, HS1.out] at HF
                    clear hs2 ht2 HS3 HT3 HTA HTK HH h5 h2
                    have t2 := X5.out.2.1 2 _ rfl
                    by_cases hz : kk = 0
                    · have E1 := (HF.out.1 hz).1
                      have E2 := (HF.out.1 hz).2
                      have F1 := Lib.hid E1
                      have F2 := Lib.hid E2
                      clear E1 E2 HF
                      subst hz
                      go_upto_region 44 with fail
                      clear t2
                      have t1 := X5.out.2.1 1 _ rfl
                      have s0 := X6.out.2.1 0 _ H0.out
                      have e0 := X6.out.2.2 0 (by have := HL.out; simp; omega)
                      go_upto_region 45 with fail
                      clear t1 s0 e0
                      have z1 := (X1.out).other (p := ⟨b15, 0, none⟩) (v := .int .u32 ((pc + 4) % 4294967296)) (by simp; omega)
                      have z2 := (X2.out).other (p := ⟨b15, 0, none⟩) (v := .int .u32 ((pc + 4) % 4294967296)) (by simp; omega)
                      have z3 := (X3.out).other (p := ⟨b15, 0, none⟩) (v := .int .u32 ((pc + 4) % 4294967296)) (by simp; omega)
                      have z4 := (X4.out).other (p := ⟨b15, 0, none⟩) (v := .int .u32 ((pc + 4) % 4294967296)) (by simp; omega)
                      have z5 := (X5.out).other (p := ⟨b15, 0, none⟩) (v := .int .u32 ((pc + 4) % 4294967296)) (by simp; omega)
                      have z6 := (X6.out).set (i := 0) (v := .int .u32 ((pc + 4) % 4294967296)) (by have := HL.out; simp; omega)
                      have z7 := (KB.out).setCell (p := ⟨b15, 0, none⟩) (by show w.heap.size ≤ b15; omega) (.int .u32 ((pc + 4) % 4294967296))
                      generalize (World.setCell W6 ⟨b15, 0, none⟩ (.int .u32 ((pc + 4) % 4294967296))) = W9 at *
                      clear X1 X2 X3 X4 X5 X6 KB
                      have X1 := Lib.hid z1
                      have X2 := Lib.hid z2
                      have X3 := Lib.hid z3
                      have X4 := Lib.hid z4
                      have X5 := Lib.hid z5
                      have X6 := Lib.hid z6
                      have KB := Lib.hid z7
                      clear z1 z2 z3 z4 z5 z6 z7
                      have x5 := X5.out
                      have x6 := X6.out
                      rw [F1.out] at x6
                      replace X6 := Lib.hid x6
                      replace X5 := Lib.hid (show Blk W9 b13 ds2 by rw [← F2.out]; exact x5)
                      clear x5 x6
                      have XK := Lib.hid (X6.out.stage (w.heap.size + 1) cs2 (w.heap.size + 1 + 1) ds2 (by omega) (by omega))
                      have XT := Lib.hid (X5.out.stage (w.heap.size + 1) cs2 (w.heap.size + 1 + 1) ds2 (by omega) (by omega))
                      refine wp_region_two [] [0, 1] 2 3 _ _ (w.heap.size + 1) (w.heap.size + 1 + 1) z35 z9 cs2 ds2 34 36 (.tmp 4) (.tmp 204) (.tmp 5) (.tmp 205) (by kernel_rfl) (by kernel_rfl) rfl rfl rfl ⟨rfl, rfl, rfl⟩ ⟨rfl, rfl, rfl⟩ (by omega) X3.out X4.out (by simpa using HZ2.out) (by simpa using HZ3.out) (by simpa using HI2.out) (by simpa using HI3.out) HO2.out HO3.out ?_
                      simp only [opsAt, List.getElem?_toArray, List.getElem?_cons_zero, List.getElem?_cons_succ, Option.toList_some, List.cons_append, List.nil_append]
                      refine wpQuiet_next ?_
                      go_big_quiet_want
                      refine quiet_load_stage 34 (.tmp 15) rfl _ rfl cs2 _ XK.out Tryd.underlying34 rfl (by simpa using HI2.out) ?_
                      simp only [Act.put, List.setIfInBounds_toArray, List.set_cons_succ, List.set_cons_zero]
                      go_big_quiet_on
                      go_big_quiet_want
                      refine quiet_load_stage 36 (.tmp 13) rfl _ rfl ds2 _ XT.out Tryd.underlying36 rfl (by simpa using HI3.out) ?_
                      simp only [Act.put, List.setIfInBounds_toArray, List.set_cons_succ, List.set_cons_zero]
                      go_big_quiet_on
                      refine wpQuiet_nil ?_
                      refine ⟨⟨rfl, rfl, rfl, rfl⟩, fun w9 n1 n2 n3 n4 => ?_⟩
                      go_wp2
                      exact bodyPost_ret (v := .tuple #[.agg cs2.toArray, .agg ds2.toArray]) (results_cell_two Tryd.results8 _ w9 (w.heap.size + 1) (w.heap.size + 1 + 1) cs2 ds2 _ _ rfl rfl n1 n2 Tryd.underlying34 rfl (by simpa using HI2.out) Tryd.underlying36 rfl (by simpa using HI3.out)) rfl ⟨rfl, KB.out.trans (n4 _ (by omega) (by omega))⟩
                    · have q9 : 0 < kk := by omega
                      have E1 := (HF.out.2 hz).1
                      have E2 := (HF.out.2 hz).2
                      have F1 := Lib.hid E1
                      have F2 := Lib.hid E2
                      clear E1 E2 HF hz
                      have t3 := X5.out.2.1 3 _ rfl
                      have e3 := X5.out.2.2 3 (by simp)
                      go_upto_region 43 with fail
                      clear t2 q9 t3 e3
                      have z1 := (X1.out).other (p := ⟨b13, 3, none⟩) (v := .int .u32 V) (by simp; omega)
                      have z2 := (X2.out).other (p := ⟨b13, 3, none⟩) (v := .int .u32 V) (by simp; omega)
                      have z3 := (X3.out).other (p := ⟨b13, 3, none⟩) (v := .int .u32 V) (by simp; omega)
                      have z4 := (X4.out).other (p := ⟨b13, 3, none⟩) (v := .int .u32 V) (by simp; omega)
                      have z5 := (X5.out).set (i := 3) (v := .int .u32 V) (by simp)
                      simp only [List.set_cons_succ, List.set_cons_zero] at z5
                      have z6 := (X6.out).other (p := ⟨b13, 3, none⟩) (v := .int .u32 V) (by simp; omega)
                      have z7 := (KB.out).setCell (p := ⟨b13, 3, none⟩) (by show w.heap.size ≤ b13; omega) (.int .u32 V)
                      generalize (World.setCell W6 ⟨b13, 3, none⟩ (.int .u32 V)) = WA at *
                      clear X1 X2 X3 X4 X5 X6 KB
                      have X1 := Lib.hid z1
                      have X2 := Lib.hid z2
                      have X3 := Lib.hid z3
                      have X4 := Lib.hid z4
                      have X5 := Lib.hid z5
                      have X6 := Lib.hid z6
                      have KB := Lib.hid z7
                      clear z1 z2 z3 z4 z5 z6 z7
                      have t2 := X5.out.2.1 2 _ rfl
                      have r1 := X6.out.2.1 (1 + kk) _ GK.out
                      have f1 := X6.out.2.2 (1 + kk) (by have := HL.out; omega)
                      go_upto_region 44 with fail
                      clear t2 r1 f1
                      have z1 := (X1.out).other (p := ⟨b15, (1 + kk), none⟩) (v := .int .u32 V) (by simp; omega)
                      have z2 := (X2.out).other (p := ⟨b15, (1 + kk), none⟩) (v := .int .u32 V) (by simp; omega)
                      have z3 := (X3.out).other (p := ⟨b15, (1 + kk), none⟩) (v := .int .u32 V) (by simp; omega)
                      have z4 := (X4.out).other (p := ⟨b15, (1 + kk), none⟩) (v := .int .u32 V) (by simp; omega)
                      have z5 := (X5.out).other (p := ⟨b15, (1 + kk), none⟩) (v := .int .u32 V) (by simp; omega)
                      have z6 := (X6.out).set (i := (1 + kk)) (v := .int .u32 V) (by have := HL.out; simp; omega)
                      have z7 := (KB.out).setCell (p := ⟨b15, (1 + kk), none⟩) (by show w.heap.size ≤ b15; omega) (.int .u32 V)
                      generalize (World.setCell WA ⟨b15, (1 + kk), none⟩ (.int .u32 V)) = WB at *
                      clear X1 X2 X3 X4 X5 X6 KB
                      have X1 := Lib.hid z1
                      have X2 := Lib.hid z2
                      have X3 := Lib.hid z3
                      have X4 := Lib.hid z4
                      have X5 := Lib.hid z5
                      have X6 := Lib.hid z6
                      have KB := Lib.hid z7
                      clear z1 z2 z3 z4 z5 z6 z7
                      have t1 := X5.out.2.1 1 _ rfl
                      have s0 := X6.out.2.1 0 _ (by rw [List.getElem?_set_ne (by omega)]; exact H0.out)
                      have e0 := X6.out.2.2 0 (by have := HL.out; simp; omega)
                      go_upto_region 45 with fail
                      clear t1 s0 e0
                      have z1 := (X1.out).other (p := ⟨b15, 0, none⟩) (v := .int .u32 ((pc + 4) % 4294967296)) (by simp; omega)
                      have z2 := (X2.out).other (p := ⟨b15, 0, none⟩) (v := .int .u32 ((pc + 4) % 4294967296)) (by simp; omega)
                      have z3 := (X3.out).other (p := ⟨b15, 0, none⟩) (v := .int .u32 ((pc + 4) % 4294967296)) (by simp; omega)
                      have z4 := (X4.out).other (p := ⟨b15, 0, none⟩) (v := .int .u32 ((pc + 4) % 4294967296)) (by simp; omega)
                      have z5 := (X5.out).other (p := ⟨b15, 0, none⟩) (v := .int .u32 ((pc + 4) % 4294967296)) (by simp; omega)
                      have z6 := (X6.out).set (i := 0) (v := .int .u32 ((pc + 4) % 4294967296)) (by have := HL.out; simp; omega)
                      have z7 := (KB.out).setCell (p := ⟨b15, 0, none⟩) (by show w.heap.size ≤ b15; omega) (.int .u32 ((pc + 4) % 4294967296))
                      generalize (World.setCell WB ⟨b15, 0, none⟩ (.int .u32 ((pc + 4) % 4294967296))) = W9 at *
                      clear X1 X2 X3 X4 X5 X6 KB
                      have X1 := Lib.hid z1
                      have X2 := Lib.hid z2
                      have X3 := Lib.hid z3
                      have X4 := Lib.hid z4
                      have X5 := Lib.hid z5
                      have X6 := Lib.hid z6
                      have KB := Lib.hid z7
                      clear z1 z2 z3 z4 z5 z6 z7
                      have x5 := X5.out
                      have x6 := X6.out
                      rw [F1.out] at x6
                      replace X6 := Lib.hid x6
                      replace X5 := Lib.hid (show Blk W9 b13 ds2 by rw [← F2.out]; exact x5)
                      clear x5 x6
                      have XK := Lib.hid (X6.out.stage (w.heap.size + 1) cs2 (w.heap.size + 1 + 1) ds2 (by omega) (by omega))
                      have XT := Lib.hid (X5.out.stage (w.heap.size + 1) cs2 (w.heap.size + 1 + 1) ds2 (by omega) (by omega))
                      refine wp_region_two [] [0, 1] 2 3 _ _ (w.heap.size + 1) (w.heap.size + 1 + 1) z35 z9 cs2 ds2 34 36 (.tmp 4) (.tmp 204) (.tmp 5) (.tmp 205) (by kernel_rfl) (by kernel_rfl) rfl rfl rfl ⟨rfl, rfl, rfl⟩ ⟨rfl, rfl, rfl⟩ (by omega) X3.out X4.out (by simpa using HZ2.out) (by simpa using HZ3.out) (by simpa using HI2.out) (by simpa using HI3.out) HO2.out HO3.out ?_
                      simp only [opsAt, List.getElem?_toArray, List.getElem?_cons_zero, List.getElem?_cons_succ, Option.toList_some, List.cons_append, List.nil_append]
                      refine wpQuiet_next ?_
                      go_big_quiet_want
                      refine quiet_load_stage 34 (.tmp 15) rfl _ rfl cs2 _ XK.out Tryd.underlying34 rfl (by simpa using HI2.out) ?_
                      simp only [Act.put, List.setIfInBounds_toArray, List.set_cons_succ, List.set_cons_zero]
                      go_big_quiet_on
                      go_big_quiet_want
                      refine quiet_load_stage 36 (.tmp 13) rfl _ rfl ds2 _ XT.out Tryd.underlying36 rfl (by simpa using HI3.out) ?_
                      simp only [Act.put, List.setIfInBounds_toArray, List.set_cons_succ, List.set_cons_zero]
                      go_big_quiet_on
                      refine wpQuiet_nil ?_
                      refine ⟨⟨rfl, rfl, rfl, rfl⟩, fun w9 n1 n2 n3 n4 => ?_⟩
                      go_wp2
                      exact bodyPost_ret (v := .tuple #[.agg cs2.toArray, .agg ds2.toArray]) (results_cell_two Tryd.results8 _ w9 (w.heap.size + 1) (w.heap.size + 1 + 1) cs2 ds2 _ _ rfl rfl n1 n2 Tryd.underlying34 rfl (by simpa using HI2.out) Tryd.underlying36 rfl (by simpa using HI3.out)) rfl ⟨rfl, KB.out.trans (n4 _ (by omega) (by omega))⟩
  · rw [if_pos hh] at hs2 ht2
    have q : (s.halt != 0) = true := by simpa using hh
    have hcc : cs2 = cs := by rw [← hcs2, ← hs2]; exact HCS.out
    have hdd : ds2 = z9 := by rw [← hds2, ← ht2]; rfl
    clear hs2 ht2 hcs2 hds2 hl2 hl3 ho2 ho3 hv2 hv3
    go_upto_region 2 with fail
    clear s34
    subst hcc
    subst hdd
    go_wp2_with (first
      | (refine wpList_load_mid rfl 34 (.tmp 3) rfl _ 0 rfl cs2 _ X1.out.range Tryd.underlying34 rfl HI.out ?_)
      | (refine wpList_store_blk rfl 34 (.tmp 4) (.tmp 21) rfl (w.heap.size + 1) z35 cs2.toArray X3.out HZ2.out rfl rfl HI2.out HO2.out ?_; intro W7 hB7 hO7 hbl7 hs7; have X4' := hO7 _ _ (by omega) X4.out; replace X4 := Lib.hid X4'; clear X4')
      | (refine wpList_store_blk rfl 36 (.tmp 5) (.tmp 22) rfl (w.heap.size + 1 + 1) z9 z9.toArray X4.out HZ3.out rfl rfl HI3.out HO3.out ?_; intro W8 hB8 hO8 hbl8 hs8))
    exact bodyPost_ret (v := .tuple #[.agg cs2.toArray, .agg z9.toArray]) (results_cell_two Tryd.results8 _ W8 (w.heap.size + 1) (w.heap.size + 1 + 1) cs2 z9 _ _ rfl rfl (hO8 _ _ (by omega) hB7) hB8 Tryd.underlying34 rfl (by simpa using HI2.out) Tryd.underlying36 rfl (by simpa using HI3.out)) rfl ⟨rfl, (KB.out.trans (hbl7 _ (by omega))).trans (hbl8 _ (by omega))⟩
end Go.Proofs.YtaokhegbfaokdaaDoor

/- THE CONTRACT of auspexref06.Run. -/
namespace Go.Proofs.YtaokhegbfaokdaaDoor
open Go.ChangeShapes Go.WideShapes Go.ChangeAt Go.RowKit Go.Sort Go.Shelf
set_option linter.unusedVariables false
set_option linter.unusedSimpArgs false
set_option maxHeartbeats 4000000
set_option maxRecDepth 100000

theorem runS_still (zs : List Int) (n : Nat) (s : Sq) (h : (runS zs n s).1.halt ≠ 0) : runS zs (n + 1) s = runS zs n s := by
  rw [runS_add zs n 1 s, runS_halted zs 1 _ h]
  simp
theorem blk_first (w : World) (X Y : List Value) (t u : TypeId) : Blk ((w.alloc (.cells X.toArray t)).alloc (.cells Y.toArray u)) w.heap.size X :=
  (Blk.new w t X).below ((RowKit.Below.refl _ _).alloc (Nat.le_refl _) _) (by simp)
theorem blk_second (w : World) (X Y : List Value) (t u : TypeId) : Blk ((w.alloc (.cells X.toArray t)).alloc (.cells Y.toArray u)) (w.heap.size + 1) Y := by
  have := Blk.new (w.alloc (.cells X.toArray t)) u Y
  rwa [show (w.alloc (.cells X.toArray t)).heap.size = w.heap.size + 1 by simp] at this
theorem two_below (w : World) (o o' : Obj) : RowKit.Below w.heap.size w ((w.alloc o).alloc o') :=
  ((RowKit.Below.refl _ _).alloc (Nat.le_refl _) _).alloc (by simp) _
end Go.Proofs.YtaokhegbfaokdaaDoor
