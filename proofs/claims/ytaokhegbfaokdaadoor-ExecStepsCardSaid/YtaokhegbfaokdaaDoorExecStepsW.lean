/- The walk of ExecSteps (auspexlaw18): an entry that is started, gone on with until it is done and told, tells what one instruction behind the other tells. UNDER WAY. -/
import Derived.Test.YtaokhegbfaokdaaDoorExecTold
import Derived.Test.YtaokhegbfaokdaaDoorR6B
import Derived.Test.YtaokhegbfaokdaaDoorR5B
import Derived.Test.YtaokhegbfaokdaaDoorRef02X
import Derived.Test.YtaokhegbfaokdaaDoorRfB
import Derived.Deep.QuietTactic
import Derived.BigQuiet
namespace Go.Proofs.YtaokhegbfaokdaaDoor.execSteps
open Go.ChangeShapes Go.WideShapes Go.ChangeAt Go.RowKit Go.Sort
set_option linter.unusedVariables false
set_option linter.unusedSimpArgs false
set_option maxHeartbeats 8000000
set_option maxRecDepth 100000

theorem uncons {α : Type} {l : List α} {n : Nat} (h : l.length = n + 1) : ∃ a t, l = a :: t ∧ t.length = n := by
  cases l with
  | nil => cases h
  | cons a t => exact ⟨a, t, rfl, by simpa using h⟩
theorem own_blk {w : World} {B e g n c : Nat} {xs : List Value} (h : w.ownsRow B e 1 (.slice (some ⟨g, 0, none⟩) n c) n xs) (hn : 0 < n) : Blk w g xs := by
  have hl : xs.length = n := by have := h.1; omega
  rcases h.2 with ⟨h0, _⟩ | ⟨g', cap, cur, hv, hg, hh, h1, h2, h3, h4⟩
  · cases h0
  · injection hv with hv _ _
    injection hv with hv
    injection hv with hv _ _
    subst hv
    have hlt : g < w.heap.size := (Array.getElem?_eq_some_iff.1 hh).1
    refine ⟨hlt, fun i v hi => ?_, fun i hi => by simp [World.frozen?, hh]⟩
    have hil : i < n := by have := (List.getElem?_eq_some_iff.1 hi).1; omega
    have := h.cellAt i (by omega)
    rw [this]
    exact hi
theorem eql_st18 (s : St) (w : World) : (binOp .eql 36 (.agg (stC s).toArray) (.agg (stC s).toArray)).run Tryd.prog w = .ok (.bool true) w := by
  obtain ⟨pc, next, rd, value, addr, size, store, halt, took⟩ := s
  unfold stC
  rw [run_eql_struct, show (10000 : Nat) = 9999 + 1 from rfl, run_equalIn_agg w 9999 36 _ _ (by kernel_rfl) (by kernel_rfl)]
  simp only [Program.fieldsOf, Tryd.underlying36]
  go_simp
theorem step_do (wd : Int) (k : Nat) (zs : List Int) (M : ByteArray) (hc : chB wd = true) (h6 : kindI (insOf wd).op ≠ 6) :
    stepS ((List.replicate (k + 1) (0 : Int)).set k wd) ⟨4 * (k : Int), zs, M, 0⟩ = doS ⟨4 * (k : Int), zs, M, 0⟩ (insOf wd) := by
  have hl : ((List.replicate (k + 1) (0 : Int)).set k wd).length = k + 1 := by simp
  have e4 : 4 * (k : Int) / 4 = (k : Int) := by omega
  have hb : ftB ((List.replicate (k + 1) (0 : Int)).set k wd).length (4 * (k : Int)) = true := by
    unfold ftB
    rw [hl]
    exact decide_eq_true ⟨by omega, by omega⟩
  have hv : ftV ((List.replicate (k + 1) (0 : Int)).set k wd) ((List.replicate (k + 1) (0 : Int)).set k wd).length (4 * (k : Int)) = wd := by
    unfold ftV
    rw [hl, if_pos ⟨by omega, by omega⟩, e4, List.getD_eq_getElem?_getD, Int.toNat_natCast]
    simp
  have hw : whyS ((List.replicate (k + 1) (0 : Int)).set k wd) (4 * (k : Int)) = 0 := by
    unfold whyS
    rw [hb, hv, hc, if_neg (by simp), if_neg (by simp), if_neg (fun h => h6 (by rw [h]; decide)), if_neg (fun h => h6 (by rw [h]; decide))]
  unfold stepS
  rw [if_neg (by simp)]
  simp only
  rw [hw, if_neg (by simp), hv]
theorem left_go1 {e : En} (h : -9223372036854775808 ≤ e.left ∧ e.left ≤ 9223372036854775807) : -9223372036854775808 ≤ (goW e).left ∧ (goW e).left ≤ 9223372036854775807 := by
  unfold goW goE
  split
  · exact ⟨by show (-9223372036854775808 : Int) ≤ 9223372036854775807; omega, Int.le_refl _⟩
  · split
    · exact h
    · split
      · exact ⟨by show -9223372036854775808 ≤ e.left - 1; omega, by show e.left - 1 ≤ 9223372036854775807; omega⟩
      · exact ⟨by show (-9223372036854775808 : Int) ≤ 0; omega, by show (0 : Int) ≤ 9223372036854775807; omega⟩
theorem left_go {e : En} (h : -9223372036854775808 ≤ e.left ∧ e.left ≤ 9223372036854775807) (n : Nat) : -9223372036854775808 ≤ (goN n e).left ∧ (goN n e).left ≤ 9223372036854775807 := by
  induction n with
  | zero => exact h
  | succ n ih => rw [goN_snoc]; exact left_go1 ih
theorem left_start (pc : Int) (i : Ins) (x y : Int) (hx0 : 0 ≤ x) (hx1 : x < 4294967296) (hy0 : 0 ≤ y) (hy1 : y < 4294967296) : 0 ≤ (startE (entE pc i) x y).left ∧ (startE (entE pc i) x y).left ≤ 40 := by
  unfold startE
  split
  · exact ⟨Int.le_refl 0, by show (0 : Int) ≤ 40; omega⟩
  · unfold startG
    simp only
    split
    · exact ⟨by show (0 : Int) ≤ 3; omega, by show (3 : Int) ≤ 40; omega⟩
    · split
      · rename_i h2
        have := took_rangeM i.op x y h2 hx0 hx1 hy0 hy1
        exact ⟨by show 0 ≤ tookW i.op x y; omega, this.2⟩
      · repeat' split
        all_goals exact ⟨by show (0 : Int) ≤ 1; omega, by show (1 : Int) ≤ 40; omega⟩
theorem left_in (pc : Int) (i : Ins) (M : ByteArray) (x y : Int) (hx0 : 0 ≤ x) (hx1 : x < 4294967296) (hy0 : 0 ≤ y) (hy1 : y < 4294967296) : 0 ≤ (inE pc i M x y).left ∧ (inE pc i M x y).left ≤ 40 := by
  have h := left_start pc i x y hx0 hx1 hy0 hy1
  have ha : (adE pc i M.size x y).left = (startE (entE pc i) x y).left := by
    unfold adE addrE
    repeat' split
    all_goals rfl
  rw [← ha] at h
  unfold inE
  simp only
  generalize adE pc i M.size x y = e at h
  have hs : ∀ e : En, (storeE e y).left = e.left := fun e => by
    unfold storeE
    split <;> rfl
  rw [hs]
  split
  · unfold takeE
    split
    · exact h
    · exact ⟨by show (0 : Int) ≤ 1; decide, by show (1 : Int) ≤ 40; decide⟩
  · exact h
theorem ad_facts (pc : Int) (i : Ins) (size x y : Int) (h3 : kindI i.op = 3) (hk : (adE pc i size x y).known = true) :
    (adE pc i size x y).addr = (x + i.imm) % 4294967296 ∧ rtB size (adE pc i size x y).addr (sizeOp i.op) = true := by
  have hS : startE (entE pc i) x y = entE pc i := by unfold startE; rw [if_pos (by right; left; exact h3)]
  unfold adE at hk ⊢
  rw [hS] at hk ⊢
  unfold addrE at hk ⊢
  have e0 : ¬ ((entE pc i).is ≠ 0 ∨ (entE pc i).known = true ∨ (kindI (entE pc i).op ≠ 3 ∧ kindI (entE pc i).op ≠ 4)) := by simp [entE, zeroE, h3]
  rw [if_neg e0] at hk ⊢
  by_cases hr : rtA size ((x + (entE pc i).imm) % 4294967296) (sizeOp (entE pc i).op) = true
  · rw [if_pos hr] at hk ⊢
    exact ⟨rfl, hr⟩
  · rw [if_neg hr, if_pos (show kindI (entE pc i).op = 3 from h3)] at hk
    exact absurd hk (by simp [entE, zeroE])
theorem fin_do (wd : Int) (k : Nat) (zs : List Int) (M : ByteArray) (hc : chB wd = true) (I : Ins) (hI : insOf wd = I) (h6 : kindI I.op ≠ 6) (hw4 : kindI I.op = 4 → wrI I.op I.rd = 0)
    (x y : Int) (hx : rg zs I.rs1 = x) (hy : rg zs I.rs2 = y) (hx0 : 0 ≤ x) (hx1 : x < 4294967296) (hy0 : 0 ≤ y) (hy1 : y < 4294967296) (S : Sq) (t : St)
    (hs : stepS ((List.replicate (k + 1) (0 : Int)).set k wd) ⟨4 * (k : Int), zs, M, 0⟩ = (S, t)) :
    (goN 40 (inE (4 * (k : Int)) I M x y)).is = 3 ∧ toldE (goN 40 (inE (4 * (k : Int)) I M x y)) = t := by
  have h := told_run ⟨4 * (k : Int), zs, M, 0⟩ I hw4 h6 rfl x y hx hy hx0 hx1 hy0 hy1
  rw [step_do wd k zs M hc (by rw [hI]; exact h6), hI] at hs
  rw [hs] at h
  exact h
theorem walk (wd at0 : Int) (zs : List Int) (m : ByteArray) (ww : (Lit.int .u32 wd).wf = true) (wa : (Lit.int .i64 at0).wf = true) (wz : regOK zs) (wm : m.size ≤ maxLen) (w : World) (ht : TabIs w ∧ 0 < w.heap.size) :
    Calls Tryd.prog 3 #[.int .u32 wd, .int .i64 at0, regV zs, .string m] w fun e w' => e = .returned (.bool true) ∧ Below w.heap.size w w' := by
  obtain ⟨htb, hg⟩ := ht
  have hwd : 0 ≤ wd ∧ wd < 4294967296 := by have := bounds_u32 ww; omega
  have hat := bounds_i64 wa
  obtain ⟨hzl, hzw⟩ := wz
  have hzb : ∀ z ∈ zs, 0 ≤ z ∧ z < 4294967296 := fun z hz => by have := bounds_u32 (hzw z hz); omega
  have HT := Lib.hid htb
  have HG := Lib.hid hg
  obtain ⟨rs, hrs⟩ : ∃ rs, regL zs = rs := ⟨_, rfl⟩
  have HRS := Lib.hid hrs
  rw [show regV zs = .agg rs.toArray by rw [← hrs]; rfl]
  have HDE := Lib.hid (fun w => refDec_any wd hwd w)
  clear ww wa hzw htb hg hrs
  cases hc : chB wd
  · rw [(decV_no hc).1, (decV_no hc).2] at HDE
    obtain ⟨I, hI⟩ : ∃ I : Ins, zeroAgg = inV I := ⟨⟨0, 0, 0, 0, 0⟩, rfl⟩
    rw [hI] at HDE
    clear hI hc
    obtain ⟨xs, hxs⟩ : ∃ xs, inC I = xs := ⟨_, rfl⟩
    have hx5 : xs.length = 5 := by rw [← hxs]; rfl
    have hxo := in5_one I
    rw [hxs] at hxo
    rw [show inV I = .agg xs.toArray by rw [← hxs]; rfl] at HDE
    have HX := Lib.hid (show (Tryd.prog.info? 25).map (·.size) = some xs.length by rw [hx5]; exact in_info)
    have HXO := Lib.hid hxo
    have HX5 := Lib.hid hx5
    have HXS := Lib.hid hxs
    clear hxs hx5 hxo
    go_enter Tryd.func3, Tryd.ntmps3
    go_upto_region 1 with fail
    refine wp_allocs [(rs, 23)] rfl ?_
    intro W0 y1 KB y3
    have X1 := Lib.hid (show Blk W0 w.heap.size rs from y3 0 _ rfl)
    replace KB := Lib.hid KB
    clear y1 y3
    go_wp2_with (first | (go_at_call 4
                          refine (HDE.out _).mono ?_
                          rintro e w1 ⟨rfl, b⟩
                          have z1 := X1.out.below b X1.out.1
                          have z2 := KB.out.trans (b.mono KB.out.size)
                          clear X1 KB b
                          have X1 := Lib.hid z1
                          have KB := Lib.hid z2
                          clear z1 z2) | (refine wpList_store_new rfl 25 (.tmp 9) (.tmp 21) rfl w1.heap.size rfl _ xs _ rfl rfl (by rw [HX5.out]; rfl) HX.out HXO.out ?_
                                          intro W2 hb2 hB2 hs2
                                          have hb9 : w.heap.size < w1.heap.size := X1.out.1
                                          have z1 := X1.out.below hb2 X1.out.1
                                          have z2 := KB.out.trans (hb2.mono KB.out.size)
                                          clear X1 KB
                                          have X1 := Lib.hid z1
                                          have KB := Lib.hid z2
                                          have X2 := Lib.hid hB2
                                          clear hb2 hB2 hs2 z1 z2) | (go_at_call 6
                                                                      refine (alive18_any _ (HT.out.below KB.out HG.out) (Nat.lt_of_lt_of_le HG.out KB.out.size)).mono ?_
                                                                      rintro e w9 ⟨rfl, b⟩
                                                                      have K9 := Lib.hid (KB.out.trans (b.mono KB.out.size))
                                                                      clear b))
    go_ret
    exact ⟨rfl, K9.out⟩
  · rw [decV_in wd hc, (decV_yes hc).2] at HDE
    have hok := insOf_ok wd hc
    obtain ⟨I, hI⟩ : ∃ I, insOf wd = I := ⟨_, rfl⟩
    rw [hI] at HDE hok
    obtain ⟨op, rd, r1, r2, im⟩ := I
    obtain ⟨I, hI2⟩ : ∃ I : Ins, I = ⟨op, rd, r1, r2, im⟩ := ⟨_, rfl⟩
    rw [← hI2] at HDE hI
    have HI0 := Lib.hid (show (inC I)[0]? = some (.int .i64 op) by rw [hI2]; rfl)
    have HII := Lib.hid (And.intro hI hI2)
    have HC := Lib.hid hc
    clear hI hI2 hc
    obtain ⟨xs, hxs⟩ : ∃ xs, inC I = xs := ⟨_, rfl⟩
    have hx5 : xs.length = 5 := by rw [← hxs]; rfl
    have hxo := in5_one I
    rw [hxs] at hxo
    rw [show inV I = .agg xs.toArray by rw [← hxs]; rfl] at HDE
    have HX := Lib.hid (show (Tryd.prog.info? 25).map (·.size) = some xs.length by rw [hx5]; exact in_info)
    have HXO := Lib.hid hxo
    have HX5 := Lib.hid hx5
    have HXS := Lib.hid hxs
    clear hxs hx5 hxo
    rw [HXS.out] at HI0
    have HK := Lib.hid (fun w => refKind_any op w)
    obtain ⟨kd, hkd⟩ : ∃ kd, kindI op = kd := ⟨_, rfl⟩
    rw [hkd] at HK
    have HKD := Lib.hid hkd
    clear hkd
    by_cases h6 : kd = 6
    · subst h6
      go_enter Tryd.func3, Tryd.ntmps3
      go_upto_region 1 with fail
      refine wp_allocs [(rs, 23)] rfl ?_
      intro W0 y1 KB y3
      have X1 := Lib.hid (show Blk W0 w.heap.size rs from y3 0 _ rfl)
      replace KB := Lib.hid KB
      clear y1 y3
      go_upto_region 2 with (first | (go_at_call 4
                                      refine (HDE.out _).mono ?_
                                      rintro e w1 ⟨rfl, b⟩
                                      have z1 := X1.out.below b X1.out.1
                                      have z2 := KB.out.trans (b.mono KB.out.size)
                                      clear X1 KB b
                                      have X1 := Lib.hid z1
                                      have KB := Lib.hid z2
                                      clear z1 z2) | (refine wpList_store_new rfl 25 (.tmp 9) (.tmp 21) rfl w1.heap.size rfl _ xs _ rfl rfl (by rw [HX5.out]; rfl) HX.out HXO.out ?_
                                                      intro W2 hb2 hB2 hs2
                                                      have hb9 : w.heap.size < w1.heap.size := X1.out.1
                                                      have z1 := X1.out.below hb2 X1.out.1
                                                      have z2 := KB.out.trans (hb2.mono KB.out.size)
                                                      clear X1 KB
                                                      have X1 := Lib.hid z1
                                                      have KB := Lib.hid z2
                                                      have X2 := Lib.hid hB2
                                                      clear hb2 hB2 hs2 z1 z2))
      have c0 := X2.out.2.1 0 _ HI0.out
      go_wp2_with (first
        | (go_at_call 5; refine (HK.out _).mono ?_; rintro e w4 ⟨rfl, rfl⟩)
        | (go_at_call 6
           refine (alive18_any _ (HT.out.below KB.out HG.out) (Nat.lt_of_lt_of_le HG.out KB.out.size)).mono ?_
           rintro e w9 ⟨rfl, b⟩
           have K9 := Lib.hid (KB.out.trans (b.mono KB.out.size))
           clear b))
      go_ret
      exact ⟨rfl, K9.out⟩
    · have q6 : (kd == 6) = false := by simpa using h6
      obtain ⟨ho, hrd, h1, h2, him, hw, hw4⟩ := hok
      simp only at ho hrd h1 h2 him hw hw4
      obtain ⟨k1, rfl⟩ : ∃ k : Nat, r1 = (k : Int) := ⟨r1.toNat, by omega⟩
      obtain ⟨k2, rfl⟩ : ∃ k : Nat, r2 = (k : Int) := ⟨r2.toNat, by omega⟩
      have hk1 : (k1 : Int) < 32 := by omega
      have hk2 : (k2 : Int) < 32 := by omega
      have HI2' := Lib.hid (show xs[2]? = some (.int .i64 (k1 : Int)) by rw [← HXS.out, HII.out.2]; rfl)
      have HI3' := Lib.hid (show xs[3]? = some (.int .i64 (k2 : Int)) by rw [← HXS.out, HII.out.2]; rfl)
      have HOK := Lib.hid (And.intro ho (And.intro hrd (And.intro him (And.intro hw hw4))))
      clear ho hrd h1 h2 him hw hw4
      go_enter Tryd.func3, Tryd.ntmps3
      go_upto_region 1 with fail
      refine wp_allocs [(rs, 23)] rfl ?_
      intro W0 y1 KB y3
      have X1 := Lib.hid (show Blk W0 w.heap.size rs from y3 0 _ rfl)
      replace KB := Lib.hid KB
      clear y1 y3
      go_upto_region 2 with (first | (go_at_call 4
                                      refine (HDE.out _).mono ?_
                                      rintro e w1 ⟨rfl, b⟩
                                      have z1 := X1.out.below b X1.out.1
                                      have z2 := KB.out.trans (b.mono KB.out.size)
                                      clear X1 KB b
                                      have X1 := Lib.hid z1
                                      have KB := Lib.hid z2
                                      clear z1 z2) | (refine wpList_store_new rfl 25 (.tmp 9) (.tmp 21) rfl w1.heap.size rfl _ xs _ rfl rfl (by rw [HX5.out]; rfl) HX.out HXO.out ?_
                                                      intro W2 hb2 hB2 hs2
                                                      have hb9 : w.heap.size < w1.heap.size := X1.out.1
                                                      have z1 := X1.out.below hb2 X1.out.1
                                                      have z2 := KB.out.trans (hb2.mono KB.out.size)
                                                      clear X1 KB
                                                      have X1 := Lib.hid z1
                                                      have KB := Lib.hid z2
                                                      have X2 := Lib.hid hB2
                                                      clear hb2 hB2 hs2 z1 z2))
      have c0 := X2.out.2.1 0 _ HI0.out
      go_upto_region 4 with (go_at_call 5; refine (HK.out _).mono ?_; rintro e w4 ⟨rfl, rfl⟩)
      clear c0
      generalize w1.heap.size = b9 at *
      obtain ⟨i0, hi, hz0, hz1, hz2⟩ := info_parts info_u32
      obtain ⟨a1, ha1⟩ : ∃ y, (if at0 < 0 then 0 else at0) = y := ⟨_, rfl⟩
      obtain ⟨a2, ha2⟩ : ∃ y, (if 20 < a1 then 20 else a1) = y := ⟨_, rfl⟩
      have j1 : 0 ≤ a1 := by rw [← ha1]; split <;> omega
      have j2 : 0 ≤ a2 ∧ a2 ≤ 20 := by rw [← ha2]; split <;> omega
      obtain ⟨k, rfl⟩ : ∃ k : Nat, a2 = (k : Int) := ⟨a2.toNat, by omega⟩
      have j3 : k ≤ 20 := by omega
      obtain ⟨l', hl'⟩ : ∃ k, min m.size 300 = k := ⟨_, rfl⟩
      have e2 : (if (300 : Int) < (m.size : Int) then (300 : Int) else (m.size : Int)) = (l' : Int) := by split <;> omega
      have j4 : l' ≤ 300 := by omega
      have j5 : l' ≤ m.size := by omega
      have j6 : (m.extract 0 l').size ≤ 1000 := by rw [ByteArray.size_extract]; omega
      have HCL := Lib.hid (fun w => refClean_any (m.extract 0 l') j6 w)
      have hms : (clS (m.extract 0 l')).size ≤ 256 := by
        rw [clS_size]
        rcases clN_of (min (m.extract 0 l').size 256) with h | h | h | h | h <;> rw [h] <;> decide
      obtain ⟨M, hM⟩ : ∃ M, clS (m.extract 0 l') = M := ⟨_, rfl⟩
      rw [hM] at HCL hms
      have HM := Lib.hid hms
      clear hM hms j6 hl'
      unfold maxLen at wm
      go_upto_region 6 with (go_at_call 7
                             refine (HCL.out _).mono ?_
                             rintro e w4 ⟨rfl, b⟩
                             have z1 := X1.out.below b X1.out.1
                             have z2 := X2.out.below b X2.out.1
                             have z3 := KB.out.trans (b.mono KB.out.size)
                             clear X1 X2 KB b
                             have X1 := Lib.hid z1
                             have X2 := Lib.hid z2
                             have KB := Lib.hid z3
                             clear z1 z2 z3)
      clear ha1 ha2 e2 j1 j4 j5
      go_upto_region 7 with (at_make; refine wpList_make_full _ rfl _ _ 32 rfl w4.heap.size 22 i0 (.int .u32 0) 1 Tryd.underlying32 hi hz0 hz1 .i64 .i64 _ _ (k + 1) rfl rfl rfl rfl (by rw [hz2]; omega) (by unfold maxLen; omega) (Nat.le_refl _) ?_; intro w5 hown5 hgrow5)
      have b5 : RowKit.Below w4.heap.size w4 w5 := (RowKit.Below.refl _ _).grown hgrow5 (Nat.le_refl _) (fun k hk => by cases hk)
      rw [show (madeCells (Value.int .u32 0).cells ((k + 1) * 1)).toList = (List.replicate (k + 1) (0 : Int)).map (Value.int .u32) by rw [Nat.mul_one]; simp [Value.cells, toList_madeCells_one]] at hown5
      have z1 := X1.out.below b5 X1.out.1
      have z2 := X2.out.below b5 X2.out.1
      have z4 := own_blk hown5 (by omega)
      have z3 := KB.out.trans (b5.mono KB.out.size)
      have hb11 : b9 < w4.heap.size := X2.out.1
      clear X1 X2 KB hown5 hgrow5 b5
      have X1 := Lib.hid z1
      have X2 := Lib.hid z2
      have X3 := Lib.hid z4
      have KB := Lib.hid z3
      clear z1 z2 z3 z4
      generalize w4.heap.size = b11 at *
      have tk := X3.out.2.1 k (.int .u32 0) (by simp)
      have ek := X3.out.2.2 k (by simp)
      go_upto_region 8 with fail
      clear tk ek
      have z1 := (X1.out).other (p := ⟨b11, k, none⟩) (v := .int .u32 wd) (by simp; omega)
      have z2 := (X2.out).other (p := ⟨b11, k, none⟩) (v := .int .u32 wd) (by simp; omega)
      have z4 := (X3.out).set (i := k) (v := .int .u32 wd) (by simp)
      have z3 := (KB.out).setCell (p := ⟨b11, k, none⟩) (by show w.heap.size ≤ b11; omega) (.int .u32 wd)
      clear X1 X2 X3 KB
      generalize (World.setCell w5 ⟨b11, k, none⟩ (.int .u32 wd)) = W6 at *
      rw [show (((List.replicate (k + 1) (0 : Int)).map (Value.int .u32)).set k (.int .u32 wd)) = ((List.replicate (k + 1) (0 : Int)).set k wd).map (Value.int .u32) by rw [List.map_set]] at z4
      have X1 := Lib.hid z1
      have X2 := Lib.hid z2
      have X3 := Lib.hid z4
      have KB := Lib.hid z3
      clear z1 z2 z3 z4
      have hr0 : rs[0]? = some (.int .u32 (zs.getD 0 0)) := by
        rw [← HRS.out]
        unfold regL
        rw [List.getElem?_map, List.getD_eq_getElem?_getD, List.getElem?_eq_getElem (by omega)]
        rfl
      have hrl : rs.length = 32 := by rw [← HRS.out]; simp [regL, hzl]
      have r0 := X1.out.2.1 0 _ hr0
      have f0 := X1.out.2.2 0 (by omega)
      clear hr0
      go_upto_region 10 with fail
      clear r0 f0
      have z1 := (X1.out).set (i := 0) (v := .int .u32 0) (by omega)
      have z2 := (X2.out).other (p := ⟨w.heap.size, 0, none⟩) (v := .int .u32 0) (by simp; omega)
      have z4 := (X3.out).other (p := ⟨w.heap.size, 0, none⟩) (v := .int .u32 0) (by simp; omega)
      have z3 := (KB.out).setCell (p := ⟨w.heap.size, 0, none⟩) (Nat.le_refl _) (.int .u32 0)
      clear X1 X2 X3 KB
      generalize (World.setCell W6 ⟨w.heap.size, 0, none⟩ (.int .u32 0)) = W7 at *
      obtain ⟨rs0, hrs0⟩ : ∃ r, rs.set 0 (.int .u32 0) = r := ⟨_, rfl⟩
      rw [hrs0] at z1
      have hr32 : rs0.length = 32 := by rw [← hrs0, List.length_set]; exact hrl
      have HR0 := Lib.hid (show rs0 = regL (zs.set 0 0) by rw [← hrs0, ← HRS.out]; unfold regL; rw [List.map_set])
      have HRI := Lib.hid (show (Tryd.prog.info? 23).map (·.size) = some rs0.length by rw [hr32]; kernel_rfl)
      have X1 := Lib.hid z1
      have X2 := Lib.hid z2
      have X3 := Lib.hid z4
      have KB := Lib.hid z3
      have HL32 := Lib.hid hr32
      clear z1 z2 z3 z4 hrs0 hrl hr32
      have q0 := HL32.out
      obtain ⟨t0, ht0⟩ : ∃ t, rs0 = t := ⟨_, rfl⟩
      rw [ht0] at q0
      obtain ⟨v0, t1, e0, q1⟩ := uncons q0
      obtain ⟨v1, t2, e1, q2⟩ := uncons q1
      obtain ⟨v2, t3, e2, q3⟩ := uncons q2
      obtain ⟨v3, t4, e3, q4⟩ := uncons q3
      obtain ⟨v4, t5, e4, q5⟩ := uncons q4
      obtain ⟨v5, t6, e5, q6⟩ := uncons q5
      obtain ⟨v6, t7, e6, q7⟩ := uncons q6
      obtain ⟨v7, t8, e7, q8⟩ := uncons q7
      obtain ⟨v8, t9, e8, q9⟩ := uncons q8
      obtain ⟨v9, t10, e9, q10⟩ := uncons q9
      obtain ⟨v10, t11, e10, q11⟩ := uncons q10
      obtain ⟨v11, t12, e11, q12⟩ := uncons q11
      obtain ⟨v12, t13, e12, q13⟩ := uncons q12
      obtain ⟨v13, t14, e13, q14⟩ := uncons q13
      obtain ⟨v14, t15, e14, q15⟩ := uncons q14
      obtain ⟨v15, t16, e15, q16⟩ := uncons q15
      obtain ⟨v16, t17, e16, q17⟩ := uncons q16
      obtain ⟨v17, t18, e17, q18⟩ := uncons q17
      obtain ⟨v18, t19, e18, q19⟩ := uncons q18
      obtain ⟨v19, t20, e19, q20⟩ := uncons q19
      obtain ⟨v20, t21, e20, q21⟩ := uncons q20
      obtain ⟨v21, t22, e21, q22⟩ := uncons q21
      obtain ⟨v22, t23, e22, q23⟩ := uncons q22
      obtain ⟨v23, t24, e23, q24⟩ := uncons q23
      obtain ⟨v24, t25, e24, q25⟩ := uncons q24
      obtain ⟨v25, t26, e25, q26⟩ := uncons q25
      obtain ⟨v26, t27, e26, q27⟩ := uncons q26
      obtain ⟨v27, t28, e27, q28⟩ := uncons q27
      obtain ⟨v28, t29, e28, q29⟩ := uncons q28
      obtain ⟨v29, t30, e29, q30⟩ := uncons q29
      obtain ⟨v30, t31, e30, q31⟩ := uncons q30
      obtain ⟨v31, t32, e31, q32⟩ := uncons q31
      have hnil : t32 = [] := List.length_eq_zero_iff.1 q32
      have hrv : rs0 = [v0, v1, v2, v3, v4, v5, v6, v7, v8, v9, v10, v11, v12, v13, v14, v15, v16, v17, v18, v19, v20, v21, v22, v23, v24, v25, v26, v27, v28, v29, v30, v31] := by rw [ht0, e0, e1, e2, e3, e4, e5, e6, e7, e8, e9, e10, e11, e12, e13, e14, e15, e16, e17, e18, e19, e20, e21, e22, e23, e24, e25, e26, e27, e28, e29, e30, e31, hnil]
      clear e0 e1 e2 e3 e4 e5 e6 e7 e8 e9 e10 e11 e12 e13 e14 e15 e16 e17 e18 e19 e20 e21 e22 e23 e24 e25 e26 e27 e28 e29 e30 e31 q0 q1 q2 q3 q4 q5 q6 q7 q8 q9 q10 q11 q12 q13 q14 q15 q16 q17 q18 q19 q20 q21 q22 q23 q24 q25 q26 q27 q28 q29 q30 q31 q32 hnil ht0
      obtain ⟨s0, hs0⟩ : ∃ s : Sq, s = ⟨4 * (k : Int), zs.set 0 0, M, 0⟩ := ⟨_, rfl⟩
      have hsv : sqV s0 = .agg #[.int .u32 (4 * (k : Int)), v0, v1, v2, v3, v4, v5, v6, v7, v8, v9, v10, v11, v12, v13, v14, v15, v16, v17, v18, v19, v20, v21, v22, v23, v24, v25, v26, v27, v28, v29, v30, v31, .string M, .int .i64 0] := by
        rw [hs0]
        unfold sqV sqC
        show Value.agg (.int .u32 (4 * (k : Int)) :: (regL (zs.set 0 0) ++ [.string M, .int .i64 0])).toArray = _
        rw [← HR0.out, hrv]
        rfl
      have HSV := Lib.hid hsv
      have HS0 := Lib.hid hs0
      have HRV := Lib.hid hrv
      clear hsv hs0 hrv
      rw [HRV.out] at X1 HRI
      have HIA := Lib.hid (show IntsAt W7 (some ⟨b11, 0, none⟩) (k + 1) .u32 ((List.replicate (k + 1) (0 : Int)).set k wd) from
        ⟨by simp, fun j x hx => ⟨_, rfl, X3.out.1, by
          have := X3.out.2.1 j (.int .u32 x) (by rw [List.getElem?_map, hx]; rfl)
          rw [Addr.add_lit, Nat.zero_add]
          exact this⟩⟩)
      have hzs' : ∀ z ∈ (List.replicate (k + 1) (0 : Int)).set k wd, 0 ≤ z ∧ z < 4294967296 := fun z hz => by
        rcases List.mem_or_eq_of_mem_set hz with h | rfl
        · rw [List.eq_of_mem_replicate h]; omega
        · exact hwd
      have hok0 : sqOK s0 := by
        rw [HS0.out]
        refine ⟨by show 0 ≤ 4 * (k : Int) ∧ 4 * (k : Int) < 4294967296; omega, by show (zs.set 0 0).length = 32; rw [List.length_set]; exact hzl, fun z hz => ?_, by have := HM.out; show M.size ≤ 1000; omega⟩
        rcases List.mem_or_eq_of_mem_set (show z ∈ zs.set 0 0 from hz) with h | rfl
        · exact hzb z h
        · omega
      have HST := Lib.hid (refStep_any (some ⟨b11, 0, none⟩) (k + 1) (k + 1) _ s0 hok0 (by omega) hzs' W7 HIA.out)
      rw [HSV.out] at HST
      obtain ⟨S, hS⟩ : ∃ S, stepS ((List.replicate (k + 1) (0 : Int)).set k wd) s0 = S := ⟨_, rfl⟩
      rw [hS] at HST
      have hokS : sqOK S.1 := by rw [← hS]; exact stepS_ok hok0
      obtain ⟨S1, xt⟩ := S
      simp only at HST hokS
      obtain ⟨cy, hcy⟩ : ∃ cy, sqC S1 = cy := ⟨_, rfl⟩
      have hly : cy.length = 35 := by rw [← hcy]; exact sqC_len hokS.2.1
      have hoy := sqC_one S1
      rw [hcy] at hoy
      rw [show sqV S1 = .agg cy.toArray by rw [← hcy]; rfl] at HST
      have YI := Lib.hid (show (Tryd.prog.info? 34).map (·.size) = some cy.toArray.size by rw [List.size_toArray, hly]; exact sq_info)
      have YO := Lib.hid hoy
      have YL := Lib.hid hly
      have HSS := Lib.hid hS
      have TO := Lib.hid (stC_one xt)
      clear hokS hS hoy hly hcy hok0 hzs'
      go_upto_region 11 with (first
        | (refine wpList_load_mid rfl 23 (.tmp 6) rfl w.heap.size 0 rfl [v0, v1, v2, v3, v4, v5, v6, v7, v8, v9, v10, v11, v12, v13, v14, v15, v16, v17, v18, v19, v20, v21, v22, v23, v24, v25, v26, v27, v28, v29, v30, v31] _ X1.out.range Tryd.underlying23 rfl HRI.out ?_)
        | (go_at_call 8
           refine HST.out.mono ?_
           rintro e w8 ⟨rfl, b⟩
           have z1 := X1.out.below b X1.out.1
           have z2 := X2.out.below b X2.out.1
           have z3 := KB.out.trans (b.mono KB.out.size)
           clear X1 X2 X3 KB b
           have X1 := Lib.hid z1
           have X2 := Lib.hid z2
           have KB := Lib.hid z3
           clear z1 z2 z3)
        | (refine wpList_store_blk rfl 34 (.tmp 13) (.tmp 59) rfl w8.heap.size z35 cy.toArray ((allocsL_spec [(z35, 34), (z9, 36)] w8).2.2 0 _ rfl) (by rw [List.size_toArray, YL.out]; rfl) rfl rfl YI.out YO.out ?_
           intro V1 h5 o5 b5 s5
           have bb := ((allocsL_spec [(z35, 34), (z9, 36)] w8).2.1).trans (b5 w8.heap.size (Nat.le_refl _))
           have Z1 := Lib.hid (o5 _ _ (by simp) ((allocsL_spec [(z35, 34), (z9, 36)] w8).2.2 1 _ rfl))
           have z1 := X1.out.below bb X1.out.1
           have z2 := X2.out.below bb X2.out.1
           have z3 := KB.out.trans (bb.mono KB.out.size)
           have hb9' : b9 < w8.heap.size := X2.out.1
           clear X1 X2 KB h5 o5 b5 s5 bb
           have X1 := Lib.hid z1
           have X2 := Lib.hid z2
           have KB := Lib.hid z3
           clear z1 z2 z3)
        | (refine wpList_store_blk rfl 36 (.tmp 14) (.tmp 60) rfl (w8.heap.size + 1) z9 (stC xt).toArray Z1.out rfl rfl rfl (by rw [List.size_toArray]; exact st_info) TO.out ?_
           intro V2 h6 o6 b6 s6
           have X4 := Lib.hid (show Blk V2 (w8.heap.size + 1) (stC xt) by simpa using h6)
           have z1 := o6 _ _ (by omega) X1.out
           have z2 := o6 _ _ (by omega) X2.out
           have z3 := KB.out.trans (b6 w.heap.size (by omega))
           clear X1 X2 KB h6 o6 b6 s6 Z1
           have X1 := Lib.hid z1
           have X2 := Lib.hid z2
           have KB := Lib.hid z3
           clear z1 z2 z3))
      have hg : ∀ q : Nat, q < 32 → [v0, v1, v2, v3, v4, v5, v6, v7, v8, v9, v10, v11, v12, v13, v14, v15, v16, v17, v18, v19, v20, v21, v22, v23, v24, v25, v26, v27, v28, v29, v30, v31][q]? = some (.int .u32 ((zs.set 0 0).getD q 0)) := fun q hq => by
        rw [← HRV.out, HR0.out]
        unfold regL
        rw [List.getElem?_map, List.getD_eq_getElem?_getD, List.getElem?_eq_getElem (by rw [List.length_set]; omega)]
        rfl
      have hg1 := hg k1 (by omega)
      have hg2 := hg k2 (by omega)
      obtain ⟨x, hx⟩ : ∃ x, (zs.set 0 0).getD k1 0 = x := ⟨_, rfl⟩
      obtain ⟨y, hy⟩ : ∃ y, (zs.set 0 0).getD k2 0 = y := ⟨_, rfl⟩
      rw [hx] at hg1
      rw [hy] at hg2
      have HXE := Lib.hid hx
      have HYE := Lib.hid hy
      clear hg hx hy
      have c2 := X2.out.2.1 2 _ HI2'.out
      have c3 := X2.out.2.1 3 _ HI3'.out
      have d1 := X1.out.2.1 k1 _ hg1
      have d2 := X1.out.2.1 k2 _ hg2
      have p2 := fun d os => cell_regrown c2 d os
      have p3 := fun d os => cell_regrown c3 d os
      have r1 := fun d os => cell_regrown d1 d os
      have r2 := fun d os => cell_regrown d2 d os
      clear hg1 hg2
      simp only [Act.put]
      refine wp_region_quiet_below (by kernel_rfl) (by kernel_rfl) ?_
      repeat (go_big_quiet_step (fail))
      refine wpQuiet_nil ?_
      intro _ hw'
      obtain ⟨⟨nq, osq⟩, hw''⟩ := hw'
      subst hw''
      have bq := below_regrown V2 nq osq
      have z1 := X1.out.below bq X1.out.1
      have z2 := X2.out.below bq X2.out.1
      have z4 := X4.out.below bq X4.out.1
      have z3 := KB.out.trans (bq.mono KB.out.size)
      clear X1 X2 X4 KB bq c2 c3 d1 d2 p2 p3 r1 r2
      have X1 := Lib.hid z1
      have X2 := Lib.hid z2
      have X4 := Lib.hid z4
      have KB := Lib.hid z3
      clear z1 z2 z3 z4
      generalize grow (redrawn V2 nq) osq = V3 at *
      have hxv : xs = [.int .i64 op, .int .i64 rd, .int .i64 (k1 : Int), .int .i64 (k2 : Int), .int .u32 im] := by rw [← HXS.out, HII.out.2]; rfl
      have hx2 := X2.out
      rw [hxv] at hx2
      replace X2 := Lib.hid hx2
      clear hx2 hxv
      have hzs0 : ∀ z ∈ zs.set 0 0, 0 ≤ z ∧ z < 4294967296 := fun z hz => by
        rcases List.mem_or_eq_of_mem_set hz with h | rfl
        · exact hzb z h
        · omega
      have hgd : ∀ q : Nat, 0 ≤ (zs.set 0 0).getD q 0 ∧ (zs.set 0 0).getD q 0 < 4294967296 := fun q => by
        rw [List.getD_eq_getElem?_getD]
        cases hq : (zs.set 0 0)[q]? with
        | none => simp
        | some z => exact hzs0 z (List.mem_of_getElem? hq)
      have hxb := hgd k1
      have hyb := hgd k2
      rw [HXE.out] at hxb
      rw [HYE.out] at hyb
      have him := HOK.out.2.2.1
      obtain ⟨E0, hE0⟩ : ∃ E0, E0 = entE (4 * (k : Int)) ⟨op, rd, (k1 : Int), (k2 : Int), im⟩ := ⟨_, rfl⟩
      have HSTA := Lib.hid (fun w ht hg => start_any E0 x y (by rw [hE0]; exact him.1) (by rw [hE0]; exact him.2) hxb.1 hxb.2 hyb.1 hyb.2 w ht hg)
      have hev : enV E0 = .agg #[.int .i64 0, .int .u32 (4 * (k : Int)), .int .i64 op, .int .i64 rd, .int .i64 (k1 : Int), .int .i64 (k2 : Int), .int .u32 im, .int .u32 0, .int .i64 0, .int .i64 0, .int .u32 0, .int .u32 0, .int .u32 0, .int .i64 0, .int .i64 0, .bool false, .bool false] := by rw [hE0]; rfl
      rw [hev] at HSTA
      obtain ⟨E1, hE1⟩ : ∃ E1, startE E0 x y = E1 := ⟨_, rfl⟩
      rw [hE1] at HSTA
      have HAD := Lib.hid (fun w => address_any E1 M.size x (by omega) (by have := HM.out; omega) w)
      obtain ⟨E2, hE2⟩ : ∃ E2, addrE E1 M.size x = E2 := ⟨_, rfl⟩
      rw [hE2] at HAD
      have HEE := Lib.hid (And.intro hE0 (And.intro hE1 hE2))
      have HXB := Lib.hid (And.intro hxb hyb)
      obtain ⟨ec, hec⟩ : ∃ ec, enC E2 = ec := ⟨_, rfl⟩
      have hel : ec.length = 17 := by rw [← hec]; rfl
      have heo := enC_one E2
      rw [hec] at heo
      rw [show enV E2 = .agg ec.toArray by rw [← hec]; rfl] at HAD
      have EI := Lib.hid (show (Tryd.prog.info? 40).map (·.size) = some ec.length by rw [hel]; exact ent_info)
      have EO := Lib.hid heo
      have EL := Lib.hid hel
      have EC := Lib.hid hec
      have T3 := Lib.hid (HT.out.below KB.out HG.out)
      have G3 := Lib.hid (Nat.lt_of_lt_of_le HG.out KB.out.size)
      clear hE0 hE1 hE2 hev hxb hyb him hzs0 hgd hec hel heo
      go_upto_region 13 with (first
        | (refine wpList_load_mid rfl 25 (.tmp 9) rfl b9 0 rfl _ _ X2.out.range Tryd.underlying25 rfl in_info ?_)
        | (go_at_call 10
           refine (HSTA.out _ T3.out G3.out).mono ?_
           rintro e wa ⟨rfl, b⟩
           have z1 := X1.out.below b X1.out.1
           have z2 := X2.out.below b X2.out.1
           have z4 := X4.out.below b X4.out.1
           have z3 := KB.out.trans (b.mono KB.out.size)
           clear X1 X2 X4 KB b
           have X1 := Lib.hid z1
           have X2 := Lib.hid z2
           have X4 := Lib.hid z4
           have KB := Lib.hid z3
           clear z1 z2 z3 z4)
        | (go_at_call 9
           refine (HAD.out _).mono ?_
           rintro e wb ⟨rfl, b⟩
           have z1 := X1.out.below b X1.out.1
           have z2 := X2.out.below b X2.out.1
           have z4 := X4.out.below b X4.out.1
           have z3 := KB.out.trans (b.mono KB.out.size)
           clear X1 X2 X4 KB b
           have X1 := Lib.hid z1
           have X2 := Lib.hid z2
           have X4 := Lib.hid z4
           have KB := Lib.hid z3
           clear z1 z2 z3 z4)
        | (refine wpList_store_new rfl 40 (.tmp 17) (.tmp 78) rfl wb.heap.size rfl _ ec _ rfl rfl (by rw [EL.out]; rfl) EI.out EO.out ?_
           intro W4 b4 k4 s4
           have hb17 : w8.heap.size + 1 < wb.heap.size := X4.out.1
           have z1 := X1.out.below b4 X1.out.1
           have z2 := X2.out.below b4 X2.out.1
           have z4 := X4.out.below b4 X4.out.1
           have z3 := KB.out.trans (b4.mono KB.out.size)
           clear X1 X2 X4 KB b4 s4
           have X1 := Lib.hid z1
           have X2 := Lib.hid z2
           have X4 := Lib.hid z4
           have KB := Lib.hid z3
           have X5 := Lib.hid k4
           clear z1 z2 z3 z4 k4))
      generalize wb.heap.size = b17 at *
      have hlo14 : w.heap.size ≤ w8.heap.size + 1 := by have := X4.out.1; omega
      generalize w8.heap.size + 1 = b14 at *
      have hlo : w.heap.size ≤ b17 := by omega
      have HFI := Lib.hid (fin_do wd k (zs.set 0 0) M HC.out I HII.out.1 (by rw [HII.out.2]; show kindI op ≠ 6; rw [HKD.out]; exact h6) (by rw [HII.out.2]; exact HOK.out.2.2.2.2) x y (by rw [HII.out.2]; exact HXE.out) (by rw [HII.out.2]; exact HYE.out) HXB.out.1.1 HXB.out.1.2 HXB.out.2.1 HXB.out.2.2 S1 xt (by rw [← HS0.out]; exact HSS.out))
      have hle0 := left_in (4 * (k : Int)) I M x y HXB.out.1.1 HXB.out.1.2 HXB.out.2.1 HXB.out.2.2
      have HLF := Lib.hid (show -9223372036854775808 ≤ (inE (4 * (k : Int)) I M x y).left ∧ (inE (4 * (k : Int)) I M x y).left ≤ 9223372036854775807 by omega)
      have hin : inE (4 * (k : Int)) I M x y = storeE (if E2.known = true ∧ kd = 3 then takeE E2 (M.extract E2.addr.toNat (E2.addr + sizeOp op).toNat) else E2) y := by
        unfold inE
        simp only
        rw [show adE (4 * (k : Int)) I M.size x y = E2 by unfold adE; rw [HII.out.2, ← HEE.out.1, HEE.out.2.1, HEE.out.2.2], HII.out.2]
        simp only [HKD.out]
      have HAF := Lib.hid (fun (h3 : kd = 3) (hk : E2.known = true) => (show rtB M.size E2.addr (sizeOp op) = true ∧ 0 ≤ E2.addr ∧ E2.addr < 4294967296 by
        have e2 : adE (4 * (k : Int)) I M.size x y = E2 := by unfold adE; rw [HII.out.2, ← HEE.out.1, HEE.out.2.1, HEE.out.2.2]
        have f := ad_facts (4 * (k : Int)) I M.size x y (by rw [HII.out.2]; show kindI op = 3; rw [HKD.out]; exact h3) (by rw [e2]; exact hk)
        rw [e2, HII.out.2] at f
        simp only at f
        exact ⟨f.2, by rw [f.1]; omega, by rw [f.1]; omega⟩))
      rw [hin] at HFI HLF
      obtain ⟨kn, hkn⟩ : ∃ b, E2.known = b := ⟨_, rfl⟩
      have h15 : ec[15]? = some (.bool kn) := by rw [← EC.out, ← hkn]; rfl
      have h12 : ec[12]? = some (.int .u32 E2.addr) := by rw [← EC.out]; rfl
      have c15 := X5.out.2.1 15 _ h15
      have c12 := X5.out.2.1 12 _ h12
      have c0 := X2.out.2.1 0 _ rfl
      clear h15 h12 hle0 hin
      cases kn
      · rw [if_neg (by rw [hkn]; simp)] at HFI HLF
        go_upto_region 17 with fail
        clear c15 c12 c0 X1 X2
        generalize E2 = E3 at *
        rw [← EC.out] at X5
        obtain ⟨E4, hE4⟩ : ∃ E4, storeE E3 y = E4 := ⟨_, rfl⟩
        have HSO := Lib.hid (fun w => store_any E3 y HXB.out.2.1 HXB.out.2.2 w)
        obtain ⟨e3, he3⟩ : ∃ v, enC E3 = v := ⟨_, rfl⟩
        obtain ⟨e4, he4⟩ : ∃ v, enC E4 = v := ⟨_, rfl⟩
        have hl3 : e3.length = 17 := by rw [← he3]; rfl
        have hl4 : e4.length = 17 := by rw [← he4]; rfl
        have ho4 := enC_one E4
        rw [he4] at ho4
        rw [hE4] at HSO HFI HLF
        rw [show enV E3 = .agg e3.toArray by rw [← he3]; rfl, show enV E4 = .agg e4.toArray by rw [← he4]; rfl] at HSO
        rw [he3] at X5
        have E3I := Lib.hid (show (Tryd.prog.info? 40).map (·.size) = some e3.length by rw [hl3]; exact ent_info)
        have E4J := Lib.hid (show (Tryd.prog.info? 40).map (·.size) = some e4.toArray.size by rw [List.size_toArray, hl4]; exact ent_info)
        have E4L := Lib.hid (show e3.length = e4.toArray.size by rw [List.size_toArray, hl4, hl3])
        have E4O := Lib.hid ho4
        have E4C := Lib.hid he4
        clear hE4 he3 he4 hl3 hl4 ho4
        go_upto_region 18 with (first
          | (refine wpList_load_mid rfl 40 (.tmp 17) rfl b17 0 rfl e3 _ X5.out.range Tryd.underlying40 rfl E3I.out ?_)
          | (go_at_call 14
             refine (HSO.out _).mono ?_
             rintro e wc ⟨rfl, b⟩
             have z4 := X4.out.below b X4.out.1
             have z5 := X5.out.below b X5.out.1
             have z3 := KB.out.trans (b.mono KB.out.size)
             clear X4 X5 KB b
             have X4 := Lib.hid z4
             have X5 := Lib.hid z5
             have KB := Lib.hid z3
             clear z4 z5 z3)
          | (refine wpList_store_blk rfl 40 (.tmp 17) (.tmp 108) rfl b17 e3 e4.toArray X5.out E4L.out rfl rfl E4J.out E4O.out ?_
             intro W9 h9 o9 b9' s9
             have z4 := o9 _ _ (by omega) X4.out
             have z3 := KB.out.trans (b9' w.heap.size (by omega))
             clear X4 X5 KB
             have X4 := Lib.hid z4
             have X5 := Lib.hid (show Blk W9 b17 e4 by simpa using h9)
             have KB := Lib.hid z3
             clear z4 z3 h9 o9 b9' s9))
        rw [← E4C.out] at X5
        clear E3I E4J E4L E4O E4C HSO
        go_wp2_with fail
        go_loopw [109] (fun i wr => ∃ q : Nat, q ≤ 40 ∧ i = .int .i64 q ∧ Blk wr b17 (enC (goN q E4)) ∧ Blk wr b14 (stC xt) ∧ RowKit.Below w.heap.size w wr) (fun i _ => 40 - (intOf i).toNat)
        case atStart => exact ⟨0, by omega, rfl, X5.out, X4.out, KB.out⟩
        case round =>
          obtain ⟨q, hq, rfl, u5, u4, u3⟩ := hrel
          clear X4 X5 KB
          have X5 := Lib.hid u5
          have X4 := Lib.hid u4
          have KB := Lib.hid u3
          clear u5 u4 u3
          by_cases hlt : q < 40
          · have hlf := left_go HLF.out q
            have HGO := Lib.hid (fun w => go_all (goN q E4) hlf.1 hlf.2 w)
            rw [show goW (goN q E4) = goN (q + 1) E4 from (goN_snoc q E4).symm] at HGO
            obtain ⟨e5, he5⟩ : ∃ v, enC (goN q E4) = v := ⟨_, rfl⟩
            obtain ⟨e6, he6⟩ : ∃ v, enC (goN (q + 1) E4) = v := ⟨_, rfl⟩
            have hl5 : e5.length = 17 := by rw [← he5]; rfl
            have hl6 : e6.length = 17 := by rw [← he6]; rfl
            have ho6 := enC_one (goN (q + 1) E4)
            rw [he6] at ho6
            unfold enV at HGO
            rw [he5] at HGO X5
            rw [he6] at HGO
            have E5I := Lib.hid (show (Tryd.prog.info? 40).map (·.size) = some e5.length by rw [hl5]; exact ent_info)
            have E6J := Lib.hid (show (Tryd.prog.info? 40).map (·.size) = some e6.toArray.size by rw [List.size_toArray, hl6]; exact ent_info)
            have E6L := Lib.hid (show e5.length = e6.toArray.size by rw [List.size_toArray, hl6, hl5])
            have E6O := Lib.hid ho6
            have E6C := Lib.hid he6
            have dk : decide ((q : Int) < 40) = true := decide_eq_true (by omega)
            clear he5 he6 hl5 hl6 ho6 hlf
            go_wp2_with (first
              | (refine wpList_load_mid rfl 40 (.tmp 17) rfl b17 0 rfl e5 _ X5.out.range Tryd.underlying40 rfl E5I.out ?_)
              | (go_at_call 15
                 refine (HGO.out _).mono ?_
                 rintro e wc ⟨rfl, b⟩
                 have Y4 := Lib.hid (X4.out.below b X4.out.1)
                 have Y5 := Lib.hid (X5.out.below b X5.out.1)
                 have YB := Lib.hid (KB.out.trans (b.mono KB.out.size))
                 clear b)
              | (refine wpList_store_blk rfl 40 (.tmp 17) (.tmp 112) rfl b17 e5 e6.toArray Y5.out E6L.out rfl rfl E6J.out E6O.out ?_
                 intro W9 h9 o9 b9' s9
                 have Z4 := Lib.hid (o9 _ _ (by omega) Y4.out)
                 have ZB := Lib.hid (YB.out.trans (b9' w.heap.size (by omega)))
                 have Z5 := Lib.hid (show Blk W9 b17 e6 by simpa using h9)
                 clear h9 o9 b9' s9))
            go_roundw
            case rel => exact ⟨q + 1, by omega, by go_num, by rw [E6C.out]; exact Z5.out, Z4.out, ZB.out⟩
            case measure => simp [intOf]; omega
          · obtain rfl : q = 40 := by omega
            have T8 := Lib.hid (HT.out.below KB.out HG.out)
            have G8 := Lib.hid (Nat.lt_of_lt_of_le HG.out KB.out.size)
            have HTO := Lib.hid (fun w ht hg => told_any (goN 40 E4) w ht hg)
            rw [HFI.out.2] at HTO
            obtain ⟨e5, he5⟩ : ∃ v, enC (goN 40 E4) = v := ⟨_, rfl⟩
            have hl5 : e5.length = 17 := by rw [← he5]; rfl
            have h58 : e5[8]? = some (.int .i64 3) := by
              rw [← he5, ← HFI.out.1]
              rfl
            obtain ⟨ds, hds⟩ : ∃ v, stC xt = v := ⟨_, rfl⟩
            have hdl : ds.length = 9 := by rw [← hds]; rfl
            have EQ := Lib.hid (eql_st18 xt)
            unfold enV at HTO
            rw [show stV xt = .agg ds.toArray by rw [← hds]; rfl, he5] at HTO
            rw [he5] at X5
            rw [hds] at X4 EQ
            have c8 := X5.out.2.1 8 _ h58
            have p8 := fun d os => cell_regrown c8 d os
            have E5I := Lib.hid (show (Tryd.prog.info? 40).map (·.size) = some e5.length by rw [hl5]; exact ent_info)
            have D5I := Lib.hid (show (Tryd.prog.info? 36).map (·.size) = some ds.length by rw [hdl]; exact st_info)
            have HHG := Lib.hid (show Tryd.prog.eqGuardType Tryd.prog.depth 36 = false by kernel_rfl)
            clear he5 hl5 h58 hds hdl hlt c8
            go_upto_region 22 with fail
            refine wp_region_quiet_below (by kernel_rfl) (by kernel_rfl) ?_
            repeat (first
              | (go_big_quiet_want; refine quiet_load_mid 40 (.tmp 17) rfl _ rfl e5 _ X5.out Tryd.underlying40 rfl E5I.out ?_; simp only [Act.put, List.setIfInBounds_toArray, List.set_cons_succ, List.set_cons_zero]; go_big_quiet_on)
              | (go_big_quiet_want; refine quiet_load_mid 36 (.tmp 14) rfl _ rfl ds _ X4.out Tryd.underlying36 rfl D5I.out ?_; simp only [Act.put, List.setIfInBounds_toArray, List.set_cons_succ, List.set_cons_zero]; go_big_quiet_on)
              | (go_big_quiet_want; refine quiet_eql 36 _ (.tmp 122) (.tmp 123) rfl _ _ rfl rfl true EQ.out HHG.out ?_; simp only [Act.put, List.setIfInBounds_toArray, List.set_cons_succ, List.set_cons_zero]; go_big_quiet_on)
              | (go_big_quiet_step (first
                | (go_at_call 6; exact Calls.regrown_of (alive18_any _ (T8.out.below (below_regrown _ _ _) G8.out) (Nat.lt_of_lt_of_le G8.out (below_regrown _ _ _).size)))
                | (go_at_call 16; exact Calls.regrown_of (HTO.out _ (T8.out.below (below_regrown _ _ _) G8.out) (Nat.lt_of_lt_of_le G8.out (below_regrown _ _ _).size))))))
            refine wpQuiet_nil ?_
            intro _ hw'
            obtain ⟨⟨nq, osq⟩, hw''⟩ := hw'
            subst hw''
            go_wp2
            go_ret
            exact ⟨rfl, KB.out.trans ((below_regrown _ _ _).mono KB.out.size)⟩
      · by_cases h3 : kd = 3
        · subst h3
          have hAF := HAF.out rfl hkn
          rw [if_pos ⟨hkn, rfl⟩] at HFI HLF
          obtain ⟨ad, had⟩ : ∃ a, E2.addr = a := ⟨_, rfl⟩
          obtain ⟨sz, hsz⟩ : ∃ a, sizeOp op = a := ⟨_, rfl⟩
          rw [had, hsz] at hAF HFI HLF
          rw [had] at c12
          have hf := rtB_facts hAF.1
          have ha0 := hAF.2.1
          have ha1 := hAF.2.2
          have hs0 : 0 ≤ sz ∧ sz ≤ 4 := by omega
          have hms := HM.out
          obtain ⟨bs, hbs⟩ : ∃ b, M.extract ad.toNat (ad + sz).toNat = b := ⟨_, rfl⟩
          rw [hbs] at HFI HLF
          have HSZ := Lib.hid (fun w : World => (refSize02_any op w).mono (fun r w' (h : _ ∧ w = w') => (show r = .returned (.int .i64 sz) ∧ RowKit.Below w.heap.size w w' from ⟨by rw [h.1, hsz], h.2 ▸ RowKit.Below.refl _ _⟩)))
          have HRD := Lib.hid (fun w : World => (refRead_any M ad sz (by omega) ha0 hs0.1 hf.2.2 w).mono (fun r w' (h : _ ∧ w = w') => (show r = .returned (.string bs) ∧ RowKit.Below w.heap.size w w' from ⟨by rw [h.1, hbs], h.2 ▸ RowKit.Below.refl _ _⟩)))
          have hbl : bs.size ≤ 9223372036854775807 := by rw [← hbs, ByteArray.size_extract]; omega
          have HTK := Lib.hid (fun w ht hg => take_any E2 bs hbl w ht hg)
          obtain ⟨E3, hE3⟩ : ∃ E, takeE E2 bs = E := ⟨_, rfl⟩
          rw [hE3] at HTK HFI HLF
          obtain ⟨et, het⟩ : ∃ v, enC E3 = v := ⟨_, rfl⟩
          have hlt3 : et.length = 17 := by rw [← het]; rfl
          have hot := enC_one E3
          rw [het] at hot
          rw [show enV E2 = .agg ec.toArray by rw [← EC.out]; rfl, show enV E3 = .agg et.toArray by rw [← het]; rfl] at HTK
          have ETJ := Lib.hid (show (Tryd.prog.info? 40).map (·.size) = some et.toArray.size by rw [List.size_toArray, hlt3]; exact ent_info)
          have ETL := Lib.hid (show ec.length = et.toArray.size by rw [List.size_toArray, hlt3, EL.out])
          have ETO := Lib.hid hot
          have ETC := Lib.hid het
          have H12 := Lib.hid (show ec[12]? = some (.int .u32 ad) by rw [← EC.out, ← had]; rfl)
          have zz : decide ((M.size : Int) < ad + sz) = false := decide_eq_false (by omega)
          have HAD2 := Lib.hid (And.intro ha0 (And.intro ha1 hs0))
          clear hAF hf hbs hbl hE3 het hlt3 hot had hsz HAF
          go_upto_region 14 with (go_at_call 5; refine (HK.out _).mono ?_; rintro e wc ⟨rfl, h⟩; subst h)
          have p0 := fun d os => cell_regrown c0 d os
          have p12 := fun d os => cell_regrown c12 d os
          clear c15 c0 c12
          refine wp_region_quiet_below (by kernel_rfl) (by kernel_rfl) ?_
          repeat (go_big_quiet_step (first | (go_at_call 11; exact Calls.regrown_of (HSZ.out _))))
          refine wpQuiet_nil ?_
          intro _ hw'
          obtain ⟨⟨nq, osq⟩, hw''⟩ := hw'
          subst hw''
          have bq := below_regrown W4 nq osq
          clear p0 p12
          have z2 := X2.out.below bq X2.out.1
          have z4 := X4.out.below bq X4.out.1
          have z5 := X5.out.below bq X5.out.1
          have z3 := KB.out.trans (bq.mono KB.out.size)
          clear X1 X2 X4 X5 KB bq
          have X2 := Lib.hid z2
          have X4 := Lib.hid z4
          have X5 := Lib.hid z5
          have KB := Lib.hid z3
          clear z2 z3 z4 z5
          generalize grow (redrawn W4 nq) osq = V5 at *
          have c0 := X2.out.2.1 0 _ rfl
          have c12 := X5.out.2.1 12 _ H12.out
          have p0 := fun d os => cell_regrown c0 d os
          have p12 := fun d os => cell_regrown c12 d os
          clear c0 c12
          have T5 := Lib.hid (HT.out.below KB.out HG.out)
          have G5 := Lib.hid (Nat.lt_of_lt_of_le HG.out KB.out.size)
          go_upto_region 16 with fail
          refine wp_region_below_tail 9 (by kernel_rfl) (by kernel_rfl) ?_
          simp only [List.take_succ_cons, List.take_zero, List.drop_succ_cons, List.drop_zero]
          repeat (first
            | (go_big_quiet_want; refine quiet_load_mid 40 (.tmp 17) rfl _ rfl ec _ X5.out Tryd.underlying40 rfl EI.out ?_; simp only [Act.put, List.setIfInBounds_toArray, List.set_cons_succ, List.set_cons_zero]; go_big_quiet_on)
            | (go_big_quiet_step (first
              | (go_at_call 11; exact Calls.regrown_of (HSZ.out _))
              | (go_at_call 13; exact Calls.regrown_of (HRD.out _))
              | (go_at_call 12; exact Calls.regrown_of (HTK.out _ (T5.out.below (below_regrown _ _ _) G5.out) (Nat.lt_of_lt_of_le G5.out (below_regrown _ _ _).size))))))
          refine wpQuiet_nil ?_
          intro _ hw'
          obtain ⟨⟨nq2, osq2⟩, hw''⟩ := hw'
          subst hw''
          have bq := below_regrown V5 nq2 osq2
          clear p0 p12
          have z4 := X4.out.below bq X4.out.1
          have z5 := X5.out.below bq X5.out.1
          have z3 := KB.out.trans (bq.mono KB.out.size)
          clear X2 X4 X5 KB bq T5 G5
          have X4 := Lib.hid z4
          have X5 := Lib.hid z5
          have KB := Lib.hid z3
          clear z3 z4 z5
          generalize grow (redrawn V5 nq2) osq2 = V6 at *
          go_upto_region 17 with (
            refine wpList_store_blk rfl 40 (.tmp 17) (.tmp 105) rfl b17 ec et.toArray X5.out ETL.out rfl rfl ETJ.out ETO.out ?_
            intro W9 h9 o9 b9' s9
            have z4 := o9 _ _ (by omega) X4.out
            have z3 := KB.out.trans (b9' w.heap.size (by omega))
            clear X4 X5 KB
            have X4 := Lib.hid z4
            have X5 := Lib.hid (show Blk W9 b17 et by simpa using h9)
            have KB := Lib.hid z3
            clear z4 z3 h9 o9 b9' s9)
          clear HTK HSZ HRD zz
          rw [← ETC.out] at X5
          obtain ⟨E4, hE4⟩ : ∃ E4, storeE E3 y = E4 := ⟨_, rfl⟩
          have HSO := Lib.hid (fun w => store_any E3 y HXB.out.2.1 HXB.out.2.2 w)
          obtain ⟨e3, he3⟩ : ∃ v, enC E3 = v := ⟨_, rfl⟩
          obtain ⟨e4, he4⟩ : ∃ v, enC E4 = v := ⟨_, rfl⟩
          have hl3 : e3.length = 17 := by rw [← he3]; rfl
          have hl4 : e4.length = 17 := by rw [← he4]; rfl
          have ho4 := enC_one E4
          rw [he4] at ho4
          rw [hE4] at HSO HFI HLF
          rw [show enV E3 = .agg e3.toArray by rw [← he3]; rfl, show enV E4 = .agg e4.toArray by rw [← he4]; rfl] at HSO
          rw [he3] at X5
          have E3I := Lib.hid (show (Tryd.prog.info? 40).map (·.size) = some e3.length by rw [hl3]; exact ent_info)
          have E4J := Lib.hid (show (Tryd.prog.info? 40).map (·.size) = some e4.toArray.size by rw [List.size_toArray, hl4]; exact ent_info)
          have E4L := Lib.hid (show e3.length = e4.toArray.size by rw [List.size_toArray, hl4, hl3])
          have E4O := Lib.hid ho4
          have E4C := Lib.hid he4
          clear hE4 he3 he4 hl3 hl4 ho4
          go_upto_region 18 with (first
            | (refine wpList_load_mid rfl 40 (.tmp 17) rfl b17 0 rfl e3 _ X5.out.range Tryd.underlying40 rfl E3I.out ?_)
            | (go_at_call 14
               refine (HSO.out _).mono ?_
               rintro e wc ⟨rfl, b⟩
               have z4 := X4.out.below b X4.out.1
               have z5 := X5.out.below b X5.out.1
               have z3 := KB.out.trans (b.mono KB.out.size)
               clear X4 X5 KB b
               have X4 := Lib.hid z4
               have X5 := Lib.hid z5
               have KB := Lib.hid z3
               clear z4 z5 z3)
            | (refine wpList_store_blk rfl 40 (.tmp 17) (.tmp 108) rfl b17 e3 e4.toArray X5.out E4L.out rfl rfl E4J.out E4O.out ?_
               intro W9 h9 o9 b9' s9
               have z4 := o9 _ _ (by omega) X4.out
               have z3 := KB.out.trans (b9' w.heap.size (by omega))
               clear X4 X5 KB
               have X4 := Lib.hid z4
               have X5 := Lib.hid (show Blk W9 b17 e4 by simpa using h9)
               have KB := Lib.hid z3
               clear z4 z3 h9 o9 b9' s9))
          rw [← E4C.out] at X5
          clear E3I E4J E4L E4O E4C HSO
          go_wp2_with fail
          go_loopw [109] (fun i wr => ∃ q : Nat, q ≤ 40 ∧ i = .int .i64 q ∧ Blk wr b17 (enC (goN q E4)) ∧ Blk wr b14 (stC xt) ∧ RowKit.Below w.heap.size w wr) (fun i _ => 40 - (intOf i).toNat)
          case atStart => exact ⟨0, by omega, rfl, X5.out, X4.out, KB.out⟩
          case round =>
            obtain ⟨q, hq, rfl, u5, u4, u3⟩ := hrel
            clear X4 X5 KB
            have X5 := Lib.hid u5
            have X4 := Lib.hid u4
            have KB := Lib.hid u3
            clear u5 u4 u3
            by_cases hlt : q < 40
            · have hlf := left_go HLF.out q
              have HGO := Lib.hid (fun w => go_all (goN q E4) hlf.1 hlf.2 w)
              rw [show goW (goN q E4) = goN (q + 1) E4 from (goN_snoc q E4).symm] at HGO
              obtain ⟨e5, he5⟩ : ∃ v, enC (goN q E4) = v := ⟨_, rfl⟩
              obtain ⟨e6, he6⟩ : ∃ v, enC (goN (q + 1) E4) = v := ⟨_, rfl⟩
              have hl5 : e5.length = 17 := by rw [← he5]; rfl
              have hl6 : e6.length = 17 := by rw [← he6]; rfl
              have ho6 := enC_one (goN (q + 1) E4)
              rw [he6] at ho6
              unfold enV at HGO
              rw [he5] at HGO X5
              rw [he6] at HGO
              have E5I := Lib.hid (show (Tryd.prog.info? 40).map (·.size) = some e5.length by rw [hl5]; exact ent_info)
              have E6J := Lib.hid (show (Tryd.prog.info? 40).map (·.size) = some e6.toArray.size by rw [List.size_toArray, hl6]; exact ent_info)
              have E6L := Lib.hid (show e5.length = e6.toArray.size by rw [List.size_toArray, hl6, hl5])
              have E6O := Lib.hid ho6
              have E6C := Lib.hid he6
              have dk : decide ((q : Int) < 40) = true := decide_eq_true (by omega)
              clear he5 he6 hl5 hl6 ho6 hlf
              go_wp2_with (first
                | (refine wpList_load_mid rfl 40 (.tmp 17) rfl b17 0 rfl e5 _ X5.out.range Tryd.underlying40 rfl E5I.out ?_)
                | (go_at_call 15
                   refine (HGO.out _).mono ?_
                   rintro e wc ⟨rfl, b⟩
                   have Y4 := Lib.hid (X4.out.below b X4.out.1)
                   have Y5 := Lib.hid (X5.out.below b X5.out.1)
                   have YB := Lib.hid (KB.out.trans (b.mono KB.out.size))
                   clear b)
                | (refine wpList_store_blk rfl 40 (.tmp 17) (.tmp 112) rfl b17 e5 e6.toArray Y5.out E6L.out rfl rfl E6J.out E6O.out ?_
                   intro W9 h9 o9 b9' s9
                   have Z4 := Lib.hid (o9 _ _ (by omega) Y4.out)
                   have ZB := Lib.hid (YB.out.trans (b9' w.heap.size (by omega)))
                   have Z5 := Lib.hid (show Blk W9 b17 e6 by simpa using h9)
                   clear h9 o9 b9' s9))
              go_roundw
              case rel => exact ⟨q + 1, by omega, by go_num, by rw [E6C.out]; exact Z5.out, Z4.out, ZB.out⟩
              case measure => simp [intOf]; omega
            · obtain rfl : q = 40 := by omega
              have T8 := Lib.hid (HT.out.below KB.out HG.out)
              have G8 := Lib.hid (Nat.lt_of_lt_of_le HG.out KB.out.size)
              have HTO := Lib.hid (fun w ht hg => told_any (goN 40 E4) w ht hg)
              rw [HFI.out.2] at HTO
              obtain ⟨e5, he5⟩ : ∃ v, enC (goN 40 E4) = v := ⟨_, rfl⟩
              have hl5 : e5.length = 17 := by rw [← he5]; rfl
              have h58 : e5[8]? = some (.int .i64 3) := by
                rw [← he5, ← HFI.out.1]
                rfl
              obtain ⟨ds, hds⟩ : ∃ v, stC xt = v := ⟨_, rfl⟩
              have hdl : ds.length = 9 := by rw [← hds]; rfl
              have EQ := Lib.hid (eql_st18 xt)
              unfold enV at HTO
              rw [show stV xt = .agg ds.toArray by rw [← hds]; rfl, he5] at HTO
              rw [he5] at X5
              rw [hds] at X4 EQ
              have c8 := X5.out.2.1 8 _ h58
              have p8 := fun d os => cell_regrown c8 d os
              have E5I := Lib.hid (show (Tryd.prog.info? 40).map (·.size) = some e5.length by rw [hl5]; exact ent_info)
              have D5I := Lib.hid (show (Tryd.prog.info? 36).map (·.size) = some ds.length by rw [hdl]; exact st_info)
              have HHG := Lib.hid (show Tryd.prog.eqGuardType Tryd.prog.depth 36 = false by kernel_rfl)
              clear he5 hl5 h58 hds hdl hlt c8
              go_upto_region 22 with fail
              refine wp_region_quiet_below (by kernel_rfl) (by kernel_rfl) ?_
              repeat (first
                | (go_big_quiet_want; refine quiet_load_mid 40 (.tmp 17) rfl _ rfl e5 _ X5.out Tryd.underlying40 rfl E5I.out ?_; simp only [Act.put, List.setIfInBounds_toArray, List.set_cons_succ, List.set_cons_zero]; go_big_quiet_on)
                | (go_big_quiet_want; refine quiet_load_mid 36 (.tmp 14) rfl _ rfl ds _ X4.out Tryd.underlying36 rfl D5I.out ?_; simp only [Act.put, List.setIfInBounds_toArray, List.set_cons_succ, List.set_cons_zero]; go_big_quiet_on)
                | (go_big_quiet_want; refine quiet_eql 36 _ (.tmp 122) (.tmp 123) rfl _ _ rfl rfl true EQ.out HHG.out ?_; simp only [Act.put, List.setIfInBounds_toArray, List.set_cons_succ, List.set_cons_zero]; go_big_quiet_on)
                | (go_big_quiet_step (first
                  | (go_at_call 6; exact Calls.regrown_of (alive18_any _ (T8.out.below (below_regrown _ _ _) G8.out) (Nat.lt_of_lt_of_le G8.out (below_regrown _ _ _).size)))
                  | (go_at_call 16; exact Calls.regrown_of (HTO.out _ (T8.out.below (below_regrown _ _ _) G8.out) (Nat.lt_of_lt_of_le G8.out (below_regrown _ _ _).size))))))
              refine wpQuiet_nil ?_
              intro _ hw'
              obtain ⟨⟨nq, osq⟩, hw''⟩ := hw'
              subst hw''
              go_wp2
              go_ret
              exact ⟨rfl, KB.out.trans ((below_regrown _ _ _).mono KB.out.size)⟩
        · rw [if_neg (fun h => h3 h.2)] at HFI HLF
          have q3 : (kd == 3) = false := by simpa using h3
          go_upto_region 17 with (go_at_call 5; refine (HK.out _).mono ?_; rintro e wc ⟨rfl, rfl⟩)
          clear c15 c12 c0 X1 X2
          generalize E2 = E3 at *
          rw [← EC.out] at X5
          obtain ⟨E4, hE4⟩ : ∃ E4, storeE E3 y = E4 := ⟨_, rfl⟩
          have HSO := Lib.hid (fun w => store_any E3 y HXB.out.2.1 HXB.out.2.2 w)
          obtain ⟨e3, he3⟩ : ∃ v, enC E3 = v := ⟨_, rfl⟩
          obtain ⟨e4, he4⟩ : ∃ v, enC E4 = v := ⟨_, rfl⟩
          have hl3 : e3.length = 17 := by rw [← he3]; rfl
          have hl4 : e4.length = 17 := by rw [← he4]; rfl
          have ho4 := enC_one E4
          rw [he4] at ho4
          rw [hE4] at HSO HFI HLF
          rw [show enV E3 = .agg e3.toArray by rw [← he3]; rfl, show enV E4 = .agg e4.toArray by rw [← he4]; rfl] at HSO
          rw [he3] at X5
          have E3I := Lib.hid (show (Tryd.prog.info? 40).map (·.size) = some e3.length by rw [hl3]; exact ent_info)
          have E4J := Lib.hid (show (Tryd.prog.info? 40).map (·.size) = some e4.toArray.size by rw [List.size_toArray, hl4]; exact ent_info)
          have E4L := Lib.hid (show e3.length = e4.toArray.size by rw [List.size_toArray, hl4, hl3])
          have E4O := Lib.hid ho4
          have E4C := Lib.hid he4
          clear hE4 he3 he4 hl3 hl4 ho4
          go_upto_region 18 with (first
            | (refine wpList_load_mid rfl 40 (.tmp 17) rfl b17 0 rfl e3 _ X5.out.range Tryd.underlying40 rfl E3I.out ?_)
            | (go_at_call 14
               refine (HSO.out _).mono ?_
               rintro e wc ⟨rfl, b⟩
               have z4 := X4.out.below b X4.out.1
               have z5 := X5.out.below b X5.out.1
               have z3 := KB.out.trans (b.mono KB.out.size)
               clear X4 X5 KB b
               have X4 := Lib.hid z4
               have X5 := Lib.hid z5
               have KB := Lib.hid z3
               clear z4 z5 z3)
            | (refine wpList_store_blk rfl 40 (.tmp 17) (.tmp 108) rfl b17 e3 e4.toArray X5.out E4L.out rfl rfl E4J.out E4O.out ?_
               intro W9 h9 o9 b9' s9
               have z4 := o9 _ _ (by omega) X4.out
               have z3 := KB.out.trans (b9' w.heap.size (by omega))
               clear X4 X5 KB
               have X4 := Lib.hid z4
               have X5 := Lib.hid (show Blk W9 b17 e4 by simpa using h9)
               have KB := Lib.hid z3
               clear z4 z3 h9 o9 b9' s9))
          rw [← E4C.out] at X5
          clear E3I E4J E4L E4O E4C HSO
          go_wp2_with fail
          go_loopw [109] (fun i wr => ∃ q : Nat, q ≤ 40 ∧ i = .int .i64 q ∧ Blk wr b17 (enC (goN q E4)) ∧ Blk wr b14 (stC xt) ∧ RowKit.Below w.heap.size w wr) (fun i _ => 40 - (intOf i).toNat)
          case atStart => exact ⟨0, by omega, rfl, X5.out, X4.out, KB.out⟩
          case round =>
            obtain ⟨q, hq, rfl, u5, u4, u3⟩ := hrel
            clear X4 X5 KB
            have X5 := Lib.hid u5
            have X4 := Lib.hid u4
            have KB := Lib.hid u3
            clear u5 u4 u3
            by_cases hlt : q < 40
            · have hlf := left_go HLF.out q
              have HGO := Lib.hid (fun w => go_all (goN q E4) hlf.1 hlf.2 w)
              rw [show goW (goN q E4) = goN (q + 1) E4 from (goN_snoc q E4).symm] at HGO
              obtain ⟨e5, he5⟩ : ∃ v, enC (goN q E4) = v := ⟨_, rfl⟩
              obtain ⟨e6, he6⟩ : ∃ v, enC (goN (q + 1) E4) = v := ⟨_, rfl⟩
              have hl5 : e5.length = 17 := by rw [← he5]; rfl
              have hl6 : e6.length = 17 := by rw [← he6]; rfl
              have ho6 := enC_one (goN (q + 1) E4)
              rw [he6] at ho6
              unfold enV at HGO
              rw [he5] at HGO X5
              rw [he6] at HGO
              have E5I := Lib.hid (show (Tryd.prog.info? 40).map (·.size) = some e5.length by rw [hl5]; exact ent_info)
              have E6J := Lib.hid (show (Tryd.prog.info? 40).map (·.size) = some e6.toArray.size by rw [List.size_toArray, hl6]; exact ent_info)
              have E6L := Lib.hid (show e5.length = e6.toArray.size by rw [List.size_toArray, hl6, hl5])
              have E6O := Lib.hid ho6
              have E6C := Lib.hid he6
              have dk : decide ((q : Int) < 40) = true := decide_eq_true (by omega)
              clear he5 he6 hl5 hl6 ho6 hlf
              go_wp2_with (first
                | (refine wpList_load_mid rfl 40 (.tmp 17) rfl b17 0 rfl e5 _ X5.out.range Tryd.underlying40 rfl E5I.out ?_)
                | (go_at_call 15
                   refine (HGO.out _).mono ?_
                   rintro e wc ⟨rfl, b⟩
                   have Y4 := Lib.hid (X4.out.below b X4.out.1)
                   have Y5 := Lib.hid (X5.out.below b X5.out.1)
                   have YB := Lib.hid (KB.out.trans (b.mono KB.out.size))
                   clear b)
                | (refine wpList_store_blk rfl 40 (.tmp 17) (.tmp 112) rfl b17 e5 e6.toArray Y5.out E6L.out rfl rfl E6J.out E6O.out ?_
                   intro W9 h9 o9 b9' s9
                   have Z4 := Lib.hid (o9 _ _ (by omega) Y4.out)
                   have ZB := Lib.hid (YB.out.trans (b9' w.heap.size (by omega)))
                   have Z5 := Lib.hid (show Blk W9 b17 e6 by simpa using h9)
                   clear h9 o9 b9' s9))
              go_roundw
              case rel => exact ⟨q + 1, by omega, by go_num, by rw [E6C.out]; exact Z5.out, Z4.out, ZB.out⟩
              case measure => simp [intOf]; omega
            · obtain rfl : q = 40 := by omega
              have T8 := Lib.hid (HT.out.below KB.out HG.out)
              have G8 := Lib.hid (Nat.lt_of_lt_of_le HG.out KB.out.size)
              have HTO := Lib.hid (fun w ht hg => told_any (goN 40 E4) w ht hg)
              rw [HFI.out.2] at HTO
              obtain ⟨e5, he5⟩ : ∃ v, enC (goN 40 E4) = v := ⟨_, rfl⟩
              have hl5 : e5.length = 17 := by rw [← he5]; rfl
              have h58 : e5[8]? = some (.int .i64 3) := by
                rw [← he5, ← HFI.out.1]
                rfl
              obtain ⟨ds, hds⟩ : ∃ v, stC xt = v := ⟨_, rfl⟩
              have hdl : ds.length = 9 := by rw [← hds]; rfl
              have EQ := Lib.hid (eql_st18 xt)
              unfold enV at HTO
              rw [show stV xt = .agg ds.toArray by rw [← hds]; rfl, he5] at HTO
              rw [he5] at X5
              rw [hds] at X4 EQ
              have c8 := X5.out.2.1 8 _ h58
              have p8 := fun d os => cell_regrown c8 d os
              have E5I := Lib.hid (show (Tryd.prog.info? 40).map (·.size) = some e5.length by rw [hl5]; exact ent_info)
              have D5I := Lib.hid (show (Tryd.prog.info? 36).map (·.size) = some ds.length by rw [hdl]; exact st_info)
              have HHG := Lib.hid (show Tryd.prog.eqGuardType Tryd.prog.depth 36 = false by kernel_rfl)
              clear he5 hl5 h58 hds hdl hlt c8
              go_upto_region 22 with fail
              refine wp_region_quiet_below (by kernel_rfl) (by kernel_rfl) ?_
              repeat (first
                | (go_big_quiet_want; refine quiet_load_mid 40 (.tmp 17) rfl _ rfl e5 _ X5.out Tryd.underlying40 rfl E5I.out ?_; simp only [Act.put, List.setIfInBounds_toArray, List.set_cons_succ, List.set_cons_zero]; go_big_quiet_on)
                | (go_big_quiet_want; refine quiet_load_mid 36 (.tmp 14) rfl _ rfl ds _ X4.out Tryd.underlying36 rfl D5I.out ?_; simp only [Act.put, List.setIfInBounds_toArray, List.set_cons_succ, List.set_cons_zero]; go_big_quiet_on)
                | (go_big_quiet_want; refine quiet_eql 36 _ (.tmp 122) (.tmp 123) rfl _ _ rfl rfl true EQ.out HHG.out ?_; simp only [Act.put, List.setIfInBounds_toArray, List.set_cons_succ, List.set_cons_zero]; go_big_quiet_on)
                | (go_big_quiet_step (first
                  | (go_at_call 6; exact Calls.regrown_of (alive18_any _ (T8.out.below (below_regrown _ _ _) G8.out) (Nat.lt_of_lt_of_le G8.out (below_regrown _ _ _).size)))
                  | (go_at_call 16; exact Calls.regrown_of (HTO.out _ (T8.out.below (below_regrown _ _ _) G8.out) (Nat.lt_of_lt_of_le G8.out (below_regrown _ _ _).size))))))
              refine wpQuiet_nil ?_
              intro _ hw'
              obtain ⟨⟨nq, osq⟩, hw''⟩ := hw'
              subst hw''
              go_wp2
              go_ret
              exact ⟨rfl, KB.out.trans ((below_regrown _ _ _).mono KB.out.size)⟩
end Go.Proofs.YtaokhegbfaokdaaDoor.execSteps
