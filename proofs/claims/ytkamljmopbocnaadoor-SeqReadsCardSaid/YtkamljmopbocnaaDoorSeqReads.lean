/- Proved: the card of SeqReads (auspexlaw06): with another byte that no load reads ahead of a store all steps are the same; for every input; on the world that holds the table of instructions. -/
import Derived.Test.YtkamljmopbocnaaDoorCards
import Derived.Test.YtkamljmopbocnaaDoorTie
import Derived.Test.YtkamljmopbocnaaDoorSeqG
import Derived.Test.YtkamljmopbocnaaDoorExecLaid
import Derived.Deep.QuietTactic
import Derived.BigQuiet
import Derived.WalkKit
import Derived.ProofKit
import Derived.OpenShut
import Derived.Deep.DeepHandedRow
import Derived.Lib.LaidTab
import Derived.ChangeMaps5
namespace Go.Proofs.YtkamljmopbocnaaDoor.seqReads
open Go.ChangeShapes Go.WideShapes Go.ChangeAt Go.RowKit Go.Sort
open Go.ChangeMaps (open_string shut_string)
set_option linter.unusedVariables false
set_option linter.unusedSimpArgs false
set_option maxHeartbeats 8000000
set_option maxRecDepth 100000

theorem field_memR (s : Sq) (h : s.regs.length = 32) (w : World) : (Instr.field 28 (.agg (sqC s).toArray) 2).run Tryd.prog w = .ok (.string s.mem) w := by
  simp [Instr.field, asAgg, part, isAgg, run_underlying Tryd.underlying28, run_underlying Tryd.underlying9, sqC_mem h]
theorem walk (A : Option Addr) (n c : Nat) (zs : List Int) (m : ByteArray) (z u wth : Int) (hn : n ≤ c) (hc : c ≤ maxLen) (wf : ∀ z ∈ zs, (Lit.int .u32 z).wf = true) (hm : m.size ≤ maxLen) (wz : (Lit.int .i64 z).wf = true) (wu : (Lit.int .i64 u).wf = true) (ww : (Lit.int .u8 wth).wf = true) (w : World) (hI : IntsAt w A n .u32 zs) (ht : TabIs w ∧ 0 < w.heap.size) :
    Calls Tryd.prog 3 #[.slice A n c, .string m, .int .i64 z, .int .i64 u, .int .u8 wth] w fun e w' => e = .returned (.bool true) ∧ Below w.heap.size w w' := by
  obtain ⟨htb, hg⟩ := ht
  have HSH := Lib.hid (fun w => short_any A n c m hn hc hm w)
  have hI' := hI.take (Nat.min_le_left n 64)
  have hz' : ∀ z ∈ zs.take (min n 64), 0 ≤ z ∧ z < 4294967296 := fun x hx => by have := bounds_u32 (wf x (List.mem_of_mem_take hx)); omega
  have hzi := bounds_i64 wz
  have hui := bounds_i64 wu
  have k1 : min n 64 ≤ 64 := Nat.min_le_right _ _
  have k2 : min n 64 ≤ c := Nat.le_trans (Nat.min_le_left _ _) hn
  generalize zs.take (min n 64) = zs' at hI' hz'
  generalize min n 64 = n' at HSH hI' k1 k2
  have k3 : (m.extract 0 (min m.size 300)).size ≤ 300 := by rw [ByteArray.size_extract]; omega
  generalize m.extract 0 (min m.size 300) = m' at HSH k3
  obtain ⟨z1, hz1⟩ : ∃ y, (if z < 0 then 0 else z) = y := ⟨_, rfl⟩
  obtain ⟨z2, hz2⟩ : ∃ y, (if 200 < z1 then 200 else z1) = y := ⟨_, rfl⟩
  have k4 : 0 ≤ z1 := by rw [← hz1]; split <;> omega
  have k5 : 0 ≤ z2 ∧ z2 ≤ 200 := by rw [← hz2]; split <;> omega
  have okm := newS_ok (m := m') (by omega)
  have HR1 := Lib.hid (fun W t g h => run_any A n' c zs' m' z2 (by omega) hz' (by omega) (by omega) W t g h)
  have HN1 := Lib.hid (fun W => new_any A n' c m' (by omega) W)
  have HAL := Lib.hid (fun W t g => alive06_any W t g)
  have hkp := runS_kept (zs := zs') (min z2 10000).toNat okm
  have hfine := runS_fine zs' (min z2 10000).toNat (newS m')
  have hl1 : (runR zs' m' z2).2.length ≤ 200 := Nat.le_trans (runS_len zs' _ _) (by omega)
  have hok1 : sqOK (runR zs' m' z2).1 := runS_ok _ okm
  have hsz : (runR zs' m' z2).1.mem.size = (clS m').size := hkp.2
  have h16 : 16 ≤ (clS m').size ∧ (clS m').size ≤ 256 := by
    have := clS_size m'
    have := clN_of (min m'.size 256)
    omega
  obtain ⟨ks, hks⟩ : ∃ x, (clS m').size = x := ⟨_, rfl⟩
  rw [hks] at hsz h16
  -- the place
  obtain ⟨t1, ht1⟩ : ∃ x, u.tmod (ks : Int) = x := ⟨_, rfl⟩
  have ht1b : -(ks : Int) < t1 ∧ t1 < ks := by
    rw [← ht1]
    exact ⟨Int.lt_tmod_of_pos u (by omega), Int.tmod_lt_of_pos u (by omega)⟩
  have ht1c : 0 ≤ t1 + ks ∧ t1 + ks ≤ 1000 := by omega
  obtain ⟨atI, hat⟩ : ∃ x, (t1 + ks) % (ks : Int) = x := ⟨_, rfl⟩
  have hatb : 0 ≤ atI ∧ atI < ks := by
    rw [← hat]
    exact ⟨Int.emod_nonneg _ (by omega), Int.emod_lt_of_pos _ (by omega)⟩
  obtain ⟨at_, rfl⟩ := Int.eq_ofNat_of_zero_le hatb.1
  -- the second memory
  obtain ⟨B, hB⟩ : ∃ x, putB (clS m') at_ wth = x := ⟨_, rfl⟩
  have hBs : B.size = ks := by rw [← hB, putB_size, hks]
  have hBc : clS B = B := by rw [← hB]; exact putB_clean m' at_ wth
  have hbut : butS at_ (newS m') (newS B) := by
    refine ⟨newS_twin m' B (by rw [hBc, hBs, hks]), fun i hi => ?_⟩
    show (clS B).data.toList[i]? = (clS m').data.toList[i]?
    rw [hBc, ← hB]
    exact putB_get _ _ _ _ hi
  have hthen : safeL at_ (runR zs' m' z2).2 = true → (runR zs' B z2).2 = (runR zs' m' z2).2 := fun hs => runS_but _ hbut okm hs
  have HR2 := Lib.hid (fun W t g h => run_any A n' c zs' B z2 (by omega) hz' (by omega) (by omega) W t g h)
  have hok2 : sqOK (runR zs' B z2).1 := runS_ok _ (newS_ok (by omega))
  have F1 := field_memR (newS m') okm.2.1
  rw [show (newS m').mem = clS m' from rfl] at F1
  have HB := Lib.hid (show strOfNums ((numsB (clS m')).set at_ wth) = B from hB)
  have HCO := Lib.hid (fun W => conv_ownR W (clS m') (by unfold maxLen; omega))
  have HNL := Lib.hid (show (numsB (clS m')).length = ks by rw [← hks]; unfold numsB; rw [List.length_map]; rfl)
  rw [hks] at HCO
  obtain ⟨nb, hnb⟩ : ∃ x, numsB (clS m') = x := ⟨_, rfl⟩
  rw [hnb] at HB HCO HNL
  obtain ⟨dm, hdm⟩ : ∃ x, clS m' = x := ⟨_, rfl⟩
  rw [hdm] at F1 HCO
  obtain ⟨cm, hcm⟩ : ∃ x, sqC (newS m') = x := ⟨_, rfl⟩
  rw [hcm] at F1
  rw [show sqV (newS m') = .agg cm.toArray by rw [← hcm]; rfl] at HN1
  obtain ⟨R, hR⟩ : ∃ R, runR zs' m' z2 = R := ⟨_, rfl⟩
  obtain ⟨T, hT⟩ : ∃ T, runR zs' B z2 = T := ⟨_, rfl⟩
  rw [hR] at HR1 hl1 hok1 hthen hsz
  rw [hT] at HR2 hthen hok2
  have hfine' : ∀ x ∈ R.2, stFine x := by rw [← hR]; exact hfine
  obtain ⟨cs, hcs⟩ : ∃ cs, sqC R.1 = cs := ⟨_, rfl⟩
  obtain ⟨ds, hds⟩ : ∃ ds, sqC T.1 = ds := ⟨_, rfl⟩
  have hlc : cs.length = 35 := by rw [← hcs]; exact sqC_len hok1.2.1
  have hld : ds.length = 35 := by rw [← hds]; exact sqC_len hok2.2.1
  have hoc := sqC_one R.1
  have hod := sqC_one T.1
  have c33 := sqC_mem hok1.2.1
  rw [hcs] at hoc c33
  rw [hds] at hod
  rw [show sqV R.1 = .agg cs.toArray by rw [← hcs]; rfl] at HR1
  rw [show sqV T.1 = .agg ds.toArray by rw [← hds]; rfl] at HR2
  have HI := Lib.hid (show (Tryd.prog.info? 28).map (·.size) = some cs.length by rw [hlc]; exact sq_info)
  have HO := Lib.hid hoc
  have HL := Lib.hid hlc
  have DI := Lib.hid (show (Tryd.prog.info? 28).map (·.size) = some ds.length by rw [hld]; exact sq_info)
  have DO := Lib.hid hod
  have DL := Lib.hid hld
  have H33 := Lib.hid c33
  obtain ⟨na, hna⟩ : ∃ x, R.2.length = x := ⟨_, rfl⟩
  rw [hna] at HR1 hl1
  have HNA := Lib.hid hna
  have HTH := Lib.hid hthen
  have HFN := Lib.hid hfine'
  have HA := Lib.hid hI
  have HA' := Lib.hid hI'
  have HT := Lib.hid htb
  have HG := Lib.hid hg
  have g1 : ((R.1.mem.size : Nat) : Int) = ks := by rw [hsz]
  have hdz : (dm.size : Int) = ks := by rw [← hdm, hks]
  have y1 : (ks : Int) ≠ 0 := by omega
  have y2 : ((ks : Int) == 0) = false := by simp; omega
  have y3 : ((ks : Int) != (ks : Int)) = false := by simp
  generalize R.1.mem = rm at g1 H33
  clear wf wz wu hI hI' hz' htb hg hkp hfine hfine' hok1 hok2 hsz hks hB hBs hBc hbut hthen hnb hdm hcm hR hT hcs hds hlc hld hoc hod c33 hna okm k3
  go_enter Tryd.func3, Tryd.ntmps3
  replace HA := HA'
  go_upto_region 9 with (first
    | (go_at_call 7
       refine (HSH.out _).mono ?_
       rintro e w1 ⟨rfl, b⟩
       have A1 := Lib.hid (HA.out.below b)
       have T1 := Lib.hid (HT.out.below b HG.out)
       have G1 := Lib.hid (Nat.lt_of_lt_of_le HG.out b.size)
       have K1 := Lib.hid b
       clear b)
    | (go_at_call 8
       refine (HR1.out _ T1.out G1.out A1.out).mono ?_
       rintro e w2 ⟨X, c2, rfl, -, -, h3, h4, h5⟩
       have A2 := Lib.hid (A1.out.below h5)
       have T2 := Lib.hid (T1.out.below h5 G1.out)
       have G2 := Lib.hid (Nat.lt_of_lt_of_le G1.out h5.size)
       have K2 := Lib.hid (K1.out.trans (h5.mono K1.out.size))
       have S2 := Lib.hid h3
       clear h3 h4 h5)
    | (refine wpList_store_new rfl 28 (.tmp 11) (.tmp 35) rfl w2.heap.size rfl _ cs _ rfl rfl (by rw [HL.out]; rfl) HI.out HO.out ?_
       intro W3 b3 k3 s3
       have p33 := k3.2.1 33 _ H33.out
       have A3 := Lib.hid (A2.out.below b3)
       have T3 := Lib.hid (T2.out.below b3 G2.out)
       have G3 := Lib.hid (Nat.lt_of_lt_of_le G2.out b3.size)
       have K3 := Lib.hid (K2.out.trans (b3.mono K2.out.size))
       have S3 := Lib.hid (S2.out.below b3)
       clear b3 k3 s3))
  generalize hWL : W3 = WL at *
  clear hWL
  have hat0 : 0 ≤ (at_ : Int) := by omega
  simp only [hat]
  clear hat
  go_wp2_with fail
  go_loopw [51, 14] (fun i st wr => ∃ (k : Nat) (b : Bool), k ≤ na ∧ i = .int .i64 k ∧ st = .bool b ∧ RowKit.Below WL.heap.size WL wr ∧ (b = false → ∀ (j : Nat) (y : St), j < k → R.2[j]? = some y → inB at_ y = false) ∧ (b = true → safeL at_ R.2 = true)) (fun i _ _ => na - (intOf i).toNat)
  case atStart => exact ⟨0, false, Nat.zero_le _, rfl, rfl, RowKit.Below.refl _ _, fun _ j y hj => absurd hj (by omega), fun h => by cases h⟩
  case round =>
    obtain ⟨k, b, hk, rfl, rfl, hbel, hb0, hb1⟩ := hrel
    have HBL := Lib.hid hbel
    have HB0 := Lib.hid hb0
    have HB1 := Lib.hid hb1
    clear hb0 hb1
    by_cases hlt : k < na
    · obtain ⟨x, hx⟩ : ∃ r, R.2[k]? = some r := ⟨_, List.getElem?_eq_getElem (by rw [HNA.out]; exact hlt)⟩
      obtain ⟨⟨x1, x2⟩, x3, x4⟩ := HFN.out x (List.mem_of_getElem? hx)
      obtain ⟨cx', hcx⟩ : ∃ c, stC x = c := ⟨_, rfl⟩
      have hl : cx'.length = 9 := by rw [← hcx]; rfl
      have hxc : (R.2.map stC)[k]? = some cx' := by rw [List.getElem?_map, hx, ← hcx]; rfl
      obtain ⟨_, pa, rfl, hpa, hva⟩ := (S3.out.below hbel).2 k cx' hxc
      have HII := Lib.hid (show (Tryd.prog.info? 33).map (·.size) = some cx'.length by rw [hl]; exact st_info)
      have HVA := Lib.hid (show ∀ j v, cx'[j]? = some v → wr.cell? ((pa.add (k * 9)).add j) = some v from fun j v hj => by have := hva j v hj; rwa [Addr.add_add])
      have HXL := Lib.hid hl
      have HXO := Lib.hid (show cx'.toArray.all (·.oneCell') = true by rw [← hcx]; exact stC_one x)
      have HX4 := Lib.hid (show cx'[4]? = some (.int .u32 x.addr) by rw [← hcx]; rfl)
      have HX5 := Lib.hid (show cx'[5]? = some (.int .i64 x.size) by rw [← hcx]; rfl)
      have hx6 : cx'[6]? = some (.bool x.store) := by rw [← hcx]; rfl
      have HX := Lib.hid hx
      clear hcx hl hxc hva hpa hbel hx
      have hin : inB at_ x = decide (0 < x.size ∧ x.addr ≤ (at_ : Int) ∧ (at_ : Int) < x.addr + x.size) := rfl
      have HNX := Lib.hid (fun (h : inB at_ x = false) (hb : b = false) => show ∀ (j : Nat) (y : St), j < k + 1 → R.2[j]? = some y → inB at_ y = false from fun j y hj hy => by
        by_cases hjk : j = k
        · subst hjk
          rw [HX.out] at hy
          cases hy
          exact h
        · exact HB0.out hb j y (by omega) hy)
      obtain ⟨xa, hxa⟩ : ∃ v, x.addr = v := ⟨_, rfl⟩
      obtain ⟨xz, hxz⟩ : ∃ v, x.size = v := ⟨_, rfl⟩
      obtain ⟨xs, hxs⟩ : ∃ v, x.store = v := ⟨_, rfl⟩
      rw [hxa, hxz] at hin
      rw [hxa] at x1 x2 HX4
      rw [hxz] at x3 x4 HX5
      rw [hxs] at hx6
      have HX6 := Lib.hid hx6
      have HXS := Lib.hid hxs
      clear hxa hxz hxs hx6
      by_cases i1 : 0 < xz
      · have d1 : decide (0 < xz) = true := decide_eq_true i1
        by_cases i2 : xa ≤ (at_ : Int)
        · have d2 : decide (xa ≤ (at_ : Int)) = true := decide_eq_true i2
          by_cases i3 : (at_ : Int) < xa + xz
          · have d3 : decide ((at_ : Int) < xa + xz) = true := decide_eq_true i3
            have HIN := Lib.hid (show inB at_ x = true by rw [hin]; exact decide_eq_true ⟨i1, i2, i3⟩)
            clear hin i1 i2 i3 HNX
            cases xs with
            | true =>
              have HSF := Lib.hid (show safeL at_ R.2 = true by
                cases b with
                | true => exact HB1.out rfl
                | false => exact safeL_first k x (HB0.out rfl) HX.out HIN.out HXS.out)
              clear HIN HXS
              go_upto_region 12 with (first
                | (refine wpList_load_row rfl 33 (.tmp 53) rfl (pa.add (k * 9)) (by first | rfl | simp) cx' _ HVA.out Tryd.underlying33 rfl HII.out ?_)
                | (refine wpList_store_new rfl 33 (.tmp 16) (.tmp 54) rfl wr.heap.size rfl _ cx' _ rfl rfl (by rw [HXL.out]; rfl) HII.out HXO.out ?_
                   intro V1 vb1 vB1 vs1
                   have p4 := vB1.2.1 4 _ HX4.out
                   have p5 := vB1.2.1 5 _ HX5.out
                   have p6 := vB1.2.1 6 _ HX6.out
                   have VB := Lib.hid (HBL.out.trans (vb1.mono HBL.out.size))
                   clear vb1 vB1 vs1))
              clear HVA HII HXL HXO HX4 HX5 HX6
              go_wp2_with fail
              go_roundw
              case rel => exact ⟨k + 1, true, by omega, by go_num, rfl, VB.out, (fun h => by cases h), fun _ => HSF.out⟩
              case measure => simp [intOf]; omega
            | false =>
              cases b with
              | true =>
                clear HIN HXS
                go_upto_region 12 with (first
                  | (refine wpList_load_row rfl 33 (.tmp 53) rfl (pa.add (k * 9)) (by first | rfl | simp) cx' _ HVA.out Tryd.underlying33 rfl HII.out ?_)
                  | (refine wpList_store_new rfl 33 (.tmp 16) (.tmp 54) rfl wr.heap.size rfl _ cx' _ rfl rfl (by rw [HXL.out]; rfl) HII.out HXO.out ?_
                     intro V1 vb1 vB1 vs1
                     have p4 := vB1.2.1 4 _ HX4.out
                     have p5 := vB1.2.1 5 _ HX5.out
                     have p6 := vB1.2.1 6 _ HX6.out
                     have VB := Lib.hid (HBL.out.trans (vb1.mono HBL.out.size))
                     clear vb1 vB1 vs1))
                clear HVA HII HXL HXO HX4 HX5 HX6
                go_wp2_with fail
                go_roundw
                case rel => exact ⟨k + 1, true, by omega, by go_num, rfl, VB.out, (fun h => by cases h), HB1.out⟩
                case measure => simp [intOf]; omega
              | false =>
                have TW := Lib.hid (T3.out.below HBL.out G3.out)
                have GW := Lib.hid (Nat.lt_of_lt_of_le G3.out HBL.out.size)
                clear HIN HXS
                go_upto_region 12 with (first
                  | (refine wpList_load_row rfl 33 (.tmp 53) rfl (pa.add (k * 9)) (by first | rfl | simp) cx' _ HVA.out Tryd.underlying33 rfl HII.out ?_)
                  | (refine wpList_store_new rfl 33 (.tmp 16) (.tmp 54) rfl wr.heap.size rfl _ cx' _ rfl rfl (by rw [HXL.out]; rfl) HII.out HXO.out ?_
                     intro V1 vb1 vB1 vs1
                     have p4 := vB1.2.1 4 _ HX4.out
                     have p5 := vB1.2.1 5 _ HX5.out
                     have p6 := vB1.2.1 6 _ HX6.out
                     have VB := Lib.hid (HBL.out.trans (vb1.mono HBL.out.size))
                     clear vb1 vB1 vs1))
                clear HVA HII HXL HXO HX4 HX5 HX6
                go_wp2_with (go_at_call 9; refine (HAL.out _ (T3.out.below VB.out G3.out) (Nat.lt_of_lt_of_le G3.out VB.out.size)).mono ?_; rintro e wA ⟨rfl, hA⟩; have KA := Lib.hid ((K3.out.trans (VB.out.mono K3.out.size)).trans (hA.mono (Nat.le_trans K3.out.size VB.out.size))); clear hA)
                go_ret
                exact ⟨rfl, KA.out⟩
          · have d3 : decide ((at_ : Int) < xa + xz) = false := decide_eq_false i3
            have HNN := Lib.hid (HNX.out (by rw [hin]; exact decide_eq_false fun h => i3 h.2.2))
            clear hin i1 i2 i3 HNX
            go_upto_region 12 with (first
              | (refine wpList_load_row rfl 33 (.tmp 53) rfl (pa.add (k * 9)) (by first | rfl | simp) cx' _ HVA.out Tryd.underlying33 rfl HII.out ?_)
              | (refine wpList_store_new rfl 33 (.tmp 16) (.tmp 54) rfl wr.heap.size rfl _ cx' _ rfl rfl (by rw [HXL.out]; rfl) HII.out HXO.out ?_
                 intro V1 vb1 vB1 vs1
                 have p4 := vB1.2.1 4 _ HX4.out
                 have p5 := vB1.2.1 5 _ HX5.out
                 have p6 := vB1.2.1 6 _ HX6.out
                 have VB := Lib.hid (HBL.out.trans (vb1.mono HBL.out.size))
                 clear vb1 vB1 vs1))
            clear HVA HII HXL HXO HX4 HX5 HX6
            go_wp2_with fail
            go_roundw
            case rel => exact ⟨k + 1, b, by omega, by go_num, rfl, VB.out, HNN.out, HB1.out⟩
            case measure => simp [intOf]; omega
        · have d2 : decide (xa ≤ (at_ : Int)) = false := decide_eq_false i2
          have HNN := Lib.hid (HNX.out (by rw [hin]; exact decide_eq_false fun h => i2 h.2.1))
          clear hin i1 i2 HNX
          go_upto_region 12 with (first
            | (refine wpList_load_row rfl 33 (.tmp 53) rfl (pa.add (k * 9)) (by first | rfl | simp) cx' _ HVA.out Tryd.underlying33 rfl HII.out ?_)
            | (refine wpList_store_new rfl 33 (.tmp 16) (.tmp 54) rfl wr.heap.size rfl _ cx' _ rfl rfl (by rw [HXL.out]; rfl) HII.out HXO.out ?_
               intro V1 vb1 vB1 vs1
               have p4 := vB1.2.1 4 _ HX4.out
               have p5 := vB1.2.1 5 _ HX5.out
               have p6 := vB1.2.1 6 _ HX6.out
               have VB := Lib.hid (HBL.out.trans (vb1.mono HBL.out.size))
               clear vb1 vB1 vs1))
          clear HVA HII HXL HXO HX4 HX5 HX6
          go_wp2_with fail
          go_roundw
          case rel => exact ⟨k + 1, b, by omega, by go_num, rfl, VB.out, HNN.out, HB1.out⟩
          case measure => simp [intOf]; omega
      · have d1 : decide (0 < xz) = false := decide_eq_false i1
        have HNN := Lib.hid (HNX.out (by rw [hin]; exact decide_eq_false fun h => i1 h.1))
        clear hin i1 HNX
        go_upto_region 12 with (first
          | (refine wpList_load_row rfl 33 (.tmp 53) rfl (pa.add (k * 9)) (by first | rfl | simp) cx' _ HVA.out Tryd.underlying33 rfl HII.out ?_)
          | (refine wpList_store_new rfl 33 (.tmp 16) (.tmp 54) rfl wr.heap.size rfl _ cx' _ rfl rfl (by rw [HXL.out]; rfl) HII.out HXO.out ?_
             intro V1 vb1 vB1 vs1
             have p4 := vB1.2.1 4 _ HX4.out
             have p5 := vB1.2.1 5 _ HX5.out
             have p6 := vB1.2.1 6 _ HX6.out
             have VB := Lib.hid (HBL.out.trans (vb1.mono HBL.out.size))
             clear vb1 vB1 vs1))
        clear HVA HII HXL HXO HX4 HX5 HX6
        go_wp2_with fail
        go_roundw
        case rel => exact ⟨k + 1, b, by omega, by go_num, rfl, VB.out, HNN.out, HB1.out⟩
        case measure => simp [intOf]; omega
    · obtain rfl : k = na := by omega
      have hsafe : safeL at_ R.2 = true := by
        cases b with
        | true => exact HB1.out rfl
        | false => exact safeL_none fun j x hj => HB0.out rfl j x (by have := (List.getElem?_eq_some_iff.1 hj).1; rw [HNA.out] at this; exact this) hj
      have hTR := HTH.out hsafe
      rw [hTR, HNA.out] at HR2
      have TW := Lib.hid (T3.out.below hbel G3.out)
      have GW := Lib.hid (Nat.lt_of_lt_of_le G3.out hbel.size)
      have AW := Lib.hid (A3.out.below hbel)
      have SW := Lib.hid (S3.out.below hbel)
      have KW := Lib.hid (K3.out.trans (hbel.mono K3.out.size))
      clear hbel HB0 HB1 HBL hsafe hTR HTH HFN
      have hlt' : at_ < ks := by omega
      go_upto_region 21 with (first
        | (go_at_call 10
           refine (HN1.out _).mono ?_
           rintro e w5 ⟨rfl, h2⟩
           obtain ⟨cap, wB, hconv, hc1, hc2, hbl, hblk⟩ := HCO.out w5
           have b5 := h2.trans (hbl.mono h2.size)
           have A5 := Lib.hid (AW.out.below b5)
           have T5 := Lib.hid (TW.out.below b5 GW.out)
           have G5 := Lib.hid (Nat.lt_of_lt_of_le GW.out b5.size)
           have S5 := Lib.hid (SW.out.below b5)
           have K5 := Lib.hid (KW.out.trans (b5.mono KW.out.size))
           have B5 := Lib.hid hblk
           have N5 := Lib.hid (show wr.heap.size ≤ w5.heap.size from h2.size)
           have BB5 := Lib.hid b5
           clear h2 hbl hblk b5))
      have s1 := B5.out.2.1 at_ (.int .u8 (nb.getD at_ 0)) (by rw [List.getElem?_map, List.getD_eq_getElem?_getD, List.getElem?_eq_getElem (by rw [HNL.out]; exact hlt')]; rfl)
      have s2 := B5.out.2.2 at_ (by rw [List.length_map, HNL.out]; exact hlt')
      have hci : (ks : Int) ≤ cap := by omega
      go_upto_region 22 with fail
      have z1 := B5.out.set (i := at_) (v := .int .u8 wth) (by rw [List.length_map, HNL.out]; exact hlt')
      rw [← List.map_set] at z1
      have bs := (RowKit.Below.refl wr.heap.size wB).setCell (p := ⟨w5.heap.size, at_, none⟩) N5.out (.int .u8 wth)
      have b6 := BB5.out.trans bs
      have A6 := Lib.hid (AW.out.below b6)
      have T6 := Lib.hid (TW.out.below b6 GW.out)
      have G6 := Lib.hid (Nat.lt_of_lt_of_le GW.out b6.size)
      have S6 := Lib.hid (SW.out.below b6)
      have K6 := Lib.hid (KW.out.trans (b6.mono KW.out.size))
      have hconv2 := conv_blk (n := ks) (cap := cap) z1 (by rw [List.length_set]; exact HNL.out)
      rw [HB.out] at hconv2
      generalize wB.setCell ⟨w5.heap.size, at_, none⟩ (.int .u8 wth) = W6 at *
      clear s1 s2 z1 bs b6 A5 T5 G5 S5 K5 B5 N5 BB5 AW TW GW SW KW HCO hconv
      go_upto_region 23 with (first
        | (go_at_call 8
           refine (HR2.out _ T6.out G6.out A6.out).mono ?_
           rintro e w7 ⟨Y, c7, rfl, -, -, h3, h4, h5⟩
           have T7 := Lib.hid (T6.out.below h5 G6.out)
           have G7 := Lib.hid (Nat.lt_of_lt_of_le G6.out h5.size)
           have S7 := Lib.hid (S6.out.below h5)
           have K7 := Lib.hid (K6.out.trans (h5.mono K6.out.size))
           have Y7 := Lib.hid h3
           clear h3 h4 h5)
        | (refine wpList_store_new rfl 28 (.tmp 19) (.tmp 106) rfl w7.heap.size rfl _ ds _ rfl rfl (by rw [DL.out]; rfl) DI.out DO.out ?_
           intro W8 b8 k8 s8
           have T8 := Lib.hid (T7.out.below b8 G7.out)
           have G8 := Lib.hid (Nat.lt_of_lt_of_le G7.out b8.size)
           have S8 := Lib.hid (S7.out.below b8)
           have K8 := Lib.hid (K7.out.trans (b8.mono K7.out.size))
           have Y8 := Lib.hid (Y7.out.below b8)
           clear b8 k8 s8))
      go_wp2_with (first
        | (go_at_call 9
           refine (HAL.out _ T8.out G8.out).mono ?_
           rintro e w9 ⟨rfl, b9⟩
           have S9 := Lib.hid (S8.out.below b9)
           have K9 := Lib.hid (K8.out.trans (b9.mono K8.out.size))
           have Y9 := Lib.hid (Y8.out.below b9)
           clear b9)
        | (go_at_call 11
           refine (like06_any _ _ _ _ _ _ (Nat.le_trans hl1 (by omega)) _ S9.out Y9.out).mono ?_
           rintro e wA ⟨rfl, bA⟩
           have KA := Lib.hid (K9.out.trans (bA.mono K9.out.size))
           clear bA))
      go_ret
      exact ⟨rfl, KA.out⟩
theorem own : ownKnob Tryd.prog.godebug = none := by kernel_rfl
theorem laidOut : laidOutB Tryd.prog = true := by kernel_rfl
set_option maxRecDepth 100000 in
theorem contract (H : Type) (enc : TypeId × Value → H) (W : World) (base : Nat) (args : Array Value) (ds gs : List (DataW H)) (before : List MemPlace)
    (hval : ∀ (j : Nat) t v, Tryd.f3.params[j]? = some t → args[j]? = some v → Value.okWide Tryd.prog W .any base t v)
    (hW : DataW.Whole enc Tryd.prog Tryd.f3.params.toList Rows.seqReadsSpec.vars false W args.toList ds gs before) (hL : laidMetH Tryd.prog Rows.seqReadsRow.laid W) :
    Calls Tryd.prog 3 args W fun e W' => ∃ v, e = .returned v ∧ Rows.seqReadsSpec.post enc Tryd.prog Tryd.f3 false true false false W args v W' := by
  have hW' := hW
  obtain ⟨p, q, hA0, hV, rfl, hfz, hnd⟩ := hW
  have hA : DataW.TrodAll enc Tryd.prog W 0 (fun _ => true) true Tryd.f3.params.toList args.toList ds p := hA0
  rw [Tryd.params3] at hA hval
  obtain ⟨v0, vs0, d0, ds0, p0, q0, hargs, rfl, rfl, h0, r0⟩ := trodAll_cons hA
  obtain ⟨v1, vs1, d1, ds1, p1, q1, rfl, rfl, rfl, h1, r1⟩ := trodAll_cons r0
  obtain ⟨v2, vs2, d2, ds2, p2, q2, rfl, rfl, rfl, h2, r2⟩ := trodAll_cons r1
  obtain ⟨v3, vs3, d3, ds3, p3, q3, rfl, rfl, rfl, h3, r3⟩ := trodAll_cons r2
  obtain ⟨v4, vs4, d4, ds4, p4, q4, rfl, rfl, rfl, h4, r4⟩ := trodAll_cons r3
  obtain ⟨rfl, rfl, rfl⟩ := trodAll_nil r4
  obtain rfl : args = #[v0, v1, v2, v3, v4] := by cases args; simp_all
  obtain ⟨rfl, rfl⟩ := trodVars_none hV
  have hlt := hW'.lt
  have k0 := h0
  obtain ⟨prog_a, prog_n, prog_c, prog, rfl, w_prog_n, w_prog_c, w_prog, w_prog_wf⟩ := arg_ints (k := .u32) Tryd.underlying22 Tryd.underlying25 (by kernel_rfl) (hval 0 22 v0 rfl rfl) h0
  have k1 := h1
  obtain ⟨m, rfl, -, -, w_m⟩ := open_string Tryd.underlying9 (hval 1 9 v1 rfl rfl) h1
  have k2 := h2
  obtain ⟨n, rfl, -, -, w_n⟩ := open_int Tryd.underlying3 (hval 2 3 v2 rfl rfl) h2
  have k3 := h3
  obtain ⟨a, rfl, -, -, w_a⟩ := open_int Tryd.underlying3 (hval 3 3 v3 rfl rfl) h3
  have k4 := h4
  obtain ⟨with_, rfl, -, -, w_with_⟩ := open_int Tryd.underlying5 (hval 4 5 v4 rfl rfl) h4
  clear hA0
  simp only [List.append_nil] at hW'
  refine (walk prog_a prog_n prog_c prog m n a with_ w_prog_n w_prog_c w_prog_wf w_m w_n w_a w_with_ W w_prog (table hL)).mono fun e W' ⟨he, bel⟩ => ?_
  subst he
  exact ⟨_, rfl, _, _, _, [], _, [], hW', trodAll_mk1 (shut_bool Tryd.underlying4 _), (trodAll_cons_mk (Below.trod laidOut (by kernel_rfl) (of_decide_eq_true (by kernel_rfl)) k0 bel (fun x hx => hlt x (by simp [hx]))) (trodAll_cons_mk (Below.trod laidOut (by kernel_rfl) (of_decide_eq_true (by kernel_rfl)) k1 bel (fun x hx => hlt x (by simp [hx]))) (trodAll_cons_mk (Below.trod laidOut (by kernel_rfl) (of_decide_eq_true (by kernel_rfl)) k2 bel (fun x hx => hlt x (by simp [hx]))) (trodAll_cons_mk (Below.trod laidOut (by kernel_rfl) (of_decide_eq_true (by kernel_rfl)) k3 bel (fun x hx => hlt x (by simp [hx]))) (trodAll_cons_mk (Below.trod laidOut (by kernel_rfl) (of_decide_eq_true (by kernel_rfl)) k4 bel (fun x hx => hlt x (by simp [hx]))) trodAll_mk0))))), rfl, bel.frame _, fun h => by cases h⟩

theorem laid_met (os : Os) : laidMet Tryd.prog Rows.seqReadsRow.laid ((laidWorld os).forCall (fun _ _ => 0) ⟨#[], #[Value.slice none 0 0, Value.string ByteArray.empty, Value.int .i64 0, Value.int .i64 0, Value.int .u8 0], []⟩).memory :=
  laidMet_of_run' 8 (by kernel_rfl) (by kernel_rfl)
theorem reads (os : Os) {H : Type} (enc : TypeId × Value → H) : ∃ places, DataW.whole enc Tryd.prog ((laidWorld os).forCall (fun _ _ => 0) ⟨#[], #[Value.slice none 0 0, Value.string ByteArray.empty, Value.int .i64 0, Value.int .i64 0, Value.int .u8 0], []⟩).memory Tryd.f3.params.toList Rows.seqReadsSpec.vars false #[Value.slice none 0 0, Value.string ByteArray.empty, Value.int .i64 0, Value.int .i64 0, Value.int .u8 0].toList 8 = some ([.nil, .lit (.string []), .lit (.int .i64 0), .lit (.int .i64 0), .lit (.int .u8 0)], [], places) :=
  ⟨[], by kernel_rfl⟩

set_option maxRecDepth 100000 in
theorem lifted (os : Os) (started : os.Started) (H : Type) (enc : TypeId × Value → H) (F : Stop.Interp) :
    ReturnsInHanded {} Tryd.checked os 3 .any ((OpenSpec.ofChange Rows.seqReadsSpec).preRow enc Tryd.prog Tryd.f3 Rows.seqReadsRow.domain false Rows.seqReadsRow.laid) (((OpenSpec.ofChange Rows.seqReadsSpec).at F).post enc Tryd.prog Tryd.f3 false true false false) := by
  obtain ⟨places, hx⟩ := reads os enc
  refine returnsInHanded_of_row (C := Tryd.checked) (s := OpenSpec.ofChange Rows.seqReadsSpec) own started (by kernel_rfl) Tryd.func3
    (witness_row_at (enc := enc) (C := Tryd.checked) false (laidWorld os) #[Value.slice none 0 0, Value.string ByteArray.empty, Value.int .i64 0, Value.int .i64 0, Value.int .u8 0] rfl (by kernel_rfl) (by kernel_rfl) (by kernel_rfl)
      (OpenSpec.preRow_of_cond 8 hx (by kernel_rfl) (fun k hk => by cases hk) (by kernel_rfl) (laid_met os))) ?_
  intro W base args ds gs before hval hW _ _ _ hL _ _
  exact contract H enc W base args ds gs before hval hW hL

theorem said : Rows.SeqReadsSaid :=
  OpenClaim.holds_of_cond 3 Tryd.f3 rfl rfl rfl rfl rfl rfl rfl ⟨rfl, rfl, rfl, rfl, rfl⟩ rfl rfl rfl rfl rfl (by kernel_rfl) Tryd.func3 (by kernel_rfl)
    (of_decide_eq_true (by kernel_rfl)) (by unfold Func.isWrapper; first | (rw [if_pos (by decide +kernel)]; kernel_rfl) | (rw [if_neg (by decide +kernel)]; exact ⟨rfl, rfl⟩))
    (fun os started H enc _ F => by rw [OpenClaim.pre_eq_preRow]; exact lifted os started H enc F)

theorem plain (f : FuncId) (fn : Func) (hf : Tryd.pinned.checked.prog.funcNamed "auspex/auspexlaw06.SeqReads" = some f) (hfn : Tryd.pinned.checked.prog.funcs[f]? = some fn) :
    false = Tryd.pinned.checked.prog.looks [] ∧ ∀ (j : Nat) t, fn.params[j]? = some t → Tryd.pinned.checked.prog.wantsStandIn t = false := by
  obtain rfl : f = 3 := Option.some.inj ((show Tryd.prog.funcNamed "auspex/auspexlaw06.SeqReads" = some 3 by kernel_rfl).symm.trans hf) |>.symm
  obtain rfl : fn = Tryd.f3 := (Option.some.inj (Tryd.func3.symm.trans hfn)).symm
  refine ⟨by kernel_rfl, fun j t ht => ?_⟩
  rw [Tryd.params3] at ht
  have hm := Array.mem_of_getElem? ht
  simp only [List.mem_toArray, List.mem_cons, List.not_mem_nil, or_false] at hm
  rcases hm with rfl | rfl | rfl | rfl | rfl
  · exact (show Tryd.prog.wantsStandIn 22 = false by kernel_rfl)
  · exact (show Tryd.prog.wantsStandIn 9 = false by kernel_rfl)
  · exact (show Tryd.prog.wantsStandIn 3 = false by kernel_rfl)
  · exact (show Tryd.prog.wantsStandIn 3 = false by kernel_rfl)
  · exact (show Tryd.prog.wantsStandIn 5 = false by kernel_rfl)

/-- THE CARD -/
theorem proved : Rows.SeqReadsCardSaid :=
  Claim7.holds_tied_plain_at .later [] _ _ _ _ said (fun _ h => by cases h) (by kernel_rfl) (fun _ h => by cases h) seqReads_row_tie rfl ⟨rfl, rfl⟩ (by kernel_rfl) rfl plain (by kernel_rfl)
#print axioms proved
end Go.Proofs.YtkamljmopbocnaaDoor.seqReads
