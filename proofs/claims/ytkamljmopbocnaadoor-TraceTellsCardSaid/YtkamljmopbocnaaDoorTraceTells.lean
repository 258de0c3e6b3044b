/- Proved: the card of TraceTells (auspexlaw07): two memories of which a program's architectural events agree have the same events of the other contract, and the same steps; for every input; on the world that holds the table of instructions. -/
import Derived.Test.YtkamljmopbocnaaDoorCards
import Derived.Test.YtkamljmopbocnaaDoorTie
import Derived.Test.YtkamljmopbocnaaDoorSeqG
import Derived.Test.YtkamljmopbocnaaDoorTraceB
import Derived.Test.YtkamljmopbocnaaDoorExecLaid
import Derived.Deep.QuietTactic
import Derived.BigQuiet
import Derived.WalkKit
import Derived.ProofKit
import Derived.OpenShut
import Derived.Deep.DeepHandedRow
import Derived.Lib.LaidTab
import Derived.ChangeMaps5
namespace Go.Proofs.YtkamljmopbocnaaDoor.traceTells
open Go.ChangeShapes Go.WideShapes Go.ChangeAt Go.RowKit Go.Sort
open Go.ChangeMaps (open_string shut_string)
set_option linter.unusedVariables false
set_option linter.unusedSimpArgs false
set_option maxHeartbeats 8000000
set_option maxRecDepth 100000

theorem bin_regs (X : List Int) (h : X.length = 32) (w : World) : (binOp .eql 26 (.agg (regL X).toArray) (.agg (regL X).toArray)).run Tryd.prog w = .ok (.bool true) w := by
  rw [run_eql_struct, show (10000 : Nat) = 9998 + 1 + 1 from rfl, eqlIn_regs X h 9998 w]
  rfl
theorem guard_regs : Tryd.prog.eqGuardType Tryd.prog.depth 26 = false := by kernel_rfl
theorem info_regs : (Tryd.prog.info? 26).map (·.size) = some 32 := by kernel_rfl
theorem field_mem (s : Sq) (h : s.regs.length = 32) (w : World) : (Instr.field 28 (.agg (sqC s).toArray) 2).run Tryd.prog w = .ok (.string s.mem) w := by
  simp [Instr.field, asAgg, part, isAgg, run_underlying Tryd.underlying28, run_underlying Tryd.underlying9, sqC_mem h]
theorem range_regs {W : World} {b : Nat} {s : Sq} (h : Blk W b (sqC s)) : W.rangeAt b 1 (regL s.regs) := fun j v hj => by
  rw [Nat.add_comm]
  refine h.2.1 (j + 1) v ?_
  unfold sqC
  rw [List.getElem?_cons_succ, List.getElem?_append_left (List.getElem?_eq_some_iff.1 hj).1]
  exact hj
theorem walk (A : Option Addr) (n c : Nat) (zs : List Int) (m v : ByteArray) (z : Int) (hn : n ≤ c) (hc : c ≤ maxLen) (wf : ∀ z ∈ zs, (Lit.int .u32 z).wf = true) (hm : m.size ≤ maxLen) (hv : v.size ≤ maxLen) (wz : (Lit.int .i64 z).wf = true) (w : World) (hI : IntsAt w A n .u32 zs) (ht : TabIs w ∧ 0 < w.heap.size) :
    Calls Tryd.prog 5 #[.slice A n c, .string m, .string v, .int .i64 z] w fun e w' => e = .returned (.bool true) ∧ Below w.heap.size w w' := by
  obtain ⟨htb, hg⟩ := ht
  unfold maxLen at hc hm hv
  have hI' := hI.take (Nat.min_le_left n 64)
  have hz' : ∀ z ∈ zs.take (min n 64), 0 ≤ z ∧ z < 4294967296 := fun x hx => by have := bounds_u32 (wf x (List.mem_of_mem_take hx)); omega
  have hzi := bounds_i64 wz
  obtain ⟨n', hn'⟩ : ∃ k, min n 64 = k := ⟨_, rfl⟩
  obtain ⟨l', hl'⟩ : ∃ k, min m.size 300 = k := ⟨_, rfl⟩
  obtain ⟨g', hg'⟩ : ∃ k, min v.size 300 = k := ⟨_, rfl⟩
  rw [hn'] at hI' hz'
  have e1 : (if (64 : Int) < (n : Int) then (64 : Int) else (n : Int)) = (n' : Int) := by split <;> omega
  have e2 : (if (300 : Int) < (m.size : Int) then (300 : Int) else (m.size : Int)) = (l' : Int) := by split <;> omega
  have e3 : (if (300 : Int) < (v.size : Int) then (300 : Int) else (v.size : Int)) = (g' : Int) := by split <;> omega
  have k1 : n' ≤ 64 := by omega
  have k2 : l' ≤ 300 := by omega
  have k3 : n' ≤ n := by omega
  have k4 : l' ≤ m.size := by omega
  have k5 : (n' : Int) ≤ c := by omega
  have k6 : (l' : Int) ≤ m.size := by omega
  have k7 : (m.extract 0 l').size ≤ 300 := by rw [ByteArray.size_extract]; omega
  have k8 : g' ≤ 300 := by omega
  have k9 : g' ≤ v.size := by omega
  have k10 : (g' : Int) ≤ v.size := by omega
  have k11 : (v.extract 0 g').size ≤ 300 := by rw [ByteArray.size_extract]; omega
  obtain ⟨z1, hz1⟩ : ∃ y, (if z < 0 then 0 else z) = y := ⟨_, rfl⟩
  obtain ⟨z2, hz2⟩ : ∃ y, (if 150 < z1 then 150 else z1) = y := ⟨_, rfl⟩
  have q1 : 0 ≤ z1 := by rw [← hz1]; split <;> omega
  have q2 : 0 ≤ z2 ∧ z2 ≤ 150 := by rw [← hz2]; split <;> omega
  generalize zs.take n' = zs' at hI' hz'
  obtain ⟨m', hm'⟩ : ∃ x, m.extract 0 l' = x := ⟨_, rfl⟩
  obtain ⟨v', hv'⟩ : ∃ x, v.extract 0 g' = x := ⟨_, rfl⟩
  rw [hm'] at k7
  rw [hv'] at k11
  have HN1 := Lib.hid (fun W => new_any A n' c m' (by omega) W)
  have HN2 := Lib.hid (fun W => new_any A n' c v' (by omega) W)
  have HA := Lib.hid hI'
  have HTB := Lib.hid htb
  have HG := Lib.hid hg
  have okm := newS_ok (m := m') (by omega)
  have okv := newS_ok (m := v') (by omega)
  have F1 := field_mem (newS m') okm.2.1
  have F2 := field_mem (newS v') okv.2.1
  rw [show (newS m').mem = clS m' from rfl] at F1
  rw [show (newS v').mem = clS v' from rfl] at F2
  obtain ⟨dm, hdm⟩ : ∃ x, clS m' = x := ⟨_, rfl⟩
  obtain ⟨dv, hdv⟩ : ∃ x, clS v' = x := ⟨_, rfl⟩
  rw [hdm] at F1
  rw [hdv] at F2
  obtain ⟨cm, hcm⟩ : ∃ x, sqC (newS m') = x := ⟨_, rfl⟩
  obtain ⟨cv, hcv⟩ : ∃ x, sqC (newS v') = x := ⟨_, rfl⟩
  rw [hcm] at F1
  rw [hcv] at F2
  rw [show sqV (newS m') = .agg cm.toArray by rw [← hcm]; rfl] at HN1
  rw [show sqV (newS v') = .agg cv.toArray by rw [← hcv]; rfl] at HN2
  by_cases hsz : dm.size = dv.size
  · have hne : ((dm.size : Int) != (dv.size : Int)) = false := by simp [hsz]
    have htw : twinS (newS m') (newS v') := newS_twin m' v' (by rw [hdm, hdv, hsz])
    have HR1 := Lib.hid (fun W t g h => run_any A n' c zs' m' z2 (by omega) hz' (by omega) (by omega) W t g h)
    have HR2 := Lib.hid (fun W t g h => run_any A n' c zs' v' z2 (by omega) hz' (by omega) (by omega) W t g h)
    obtain ⟨a1, a2, a3⟩ := runS_agree (zs := zs') (min z2 10000).toNat htw okm _ rfl
    have hl1 : (runR zs' m' z2).2.length ≤ 200 := Nat.le_trans (runS_len _ _ _) (by omega)
    have hl2 : (runR zs' v' z2).2.length ≤ 200 := Nat.le_trans (runS_len _ _ _) (by omega)
    have hok1 : sqOK (runR zs' m' z2).1 := runS_ok _ okm
    have hok2 : sqOK (runR zs' v' z2).1 := runS_ok _ okv
    rw [show runS zs' (min z2 10000).toNat (newS m') = runR zs' m' z2 from rfl, show runS zs' (min z2 10000).toNat (newS v') = runR zs' v' z2 from rfl] at a1 a2 a3
    obtain ⟨R, hR⟩ : ∃ R, runR zs' m' z2 = R := ⟨_, rfl⟩
    obtain ⟨T, hT⟩ : ∃ T, runR zs' v' z2 = T := ⟨_, rfl⟩
    rw [hR] at HR1 a1 a2 a3 hl1 hok1
    rw [hT] at HR2 a1 a2 a3 hl2 hok2
    have b1 := sameL_le (R.2.map (evOf true)) (T.2.map (evOf true))
    rw [List.length_map, List.length_map] at b1
    obtain ⟨k, hk⟩ : ∃ k, sameL (R.2.map (evOf true)) (T.2.map (evOf true)) = k := ⟨_, rfl⟩
    obtain ⟨j, hj⟩ : ∃ j, sameL (R.2.map (evOf false)) (T.2.map (evOf false)) = j := ⟨_, rfl⟩
    rw [hk] at a1 a2 a3 b1
    rw [hj] at a2
    have HK := Lib.hid hk
    have HJ := Lib.hid hj
    have HA1 := Lib.hid a1
    have HA3 := Lib.hid a3
    have HL1 := Lib.hid hl1
    have HL2 := Lib.hid hl2
    obtain ⟨cs, hcs⟩ : ∃ cs, sqC R.1 = cs := ⟨_, rfl⟩
    obtain ⟨ds, hds⟩ : ∃ ds, sqC T.1 = ds := ⟨_, rfl⟩
    have hlc : cs.length = 35 := by rw [← hcs]; exact sqC_len hok1.2.1
    have hld : ds.length = 35 := by rw [← hds]; exact sqC_len hok2.2.1
    have hoc := sqC_one R.1
    have hod := sqC_one T.1
    rw [hcs] at hoc
    rw [hds] at hod
    rw [show sqV R.1 = .agg cs.toArray by rw [← hcs]; rfl] at HR1
    rw [show sqV T.1 = .agg ds.toArray by rw [← hds]; rfl] at HR2
    have HI := Lib.hid (show (Tryd.prog.info? 28).map (·.size) = some cs.length by rw [hlc]; exact sq_info)
    have HO := Lib.hid hoc
    have HL := Lib.hid hlc
    have DI := Lib.hid (show (Tryd.prog.info? 28).map (·.size) = some ds.length by rw [hld]; exact sq_info)
    have DO := Lib.hid hod
    have DL := Lib.hid hld
    have HCS := Lib.hid hcs
    have HDS := Lib.hid hds
    have HRL := Lib.hid (And.intro hok1.2.1 hok2.2.1)
    obtain ⟨na, hna⟩ : ∃ x, R.2.length = x := ⟨_, rfl⟩
    obtain ⟨nb, hnb⟩ : ∃ x, T.2.length = x := ⟨_, rfl⟩
    rw [hna, hnb] at b1 HA3
    rw [hna] at HR1
    rw [hnb] at HR2
    have HNA := Lib.hid hna
    have HNB := Lib.hid hnb
    have y1 : na ≤ 200 := by rw [← hna]; exact hl1
    have y2 : nb ≤ 200 := by rw [← hnb]; exact hl2
    have c1 : k ≤ na := b1.1
    have c2 : k ≤ nb := b1.2
    have d1 : decide (na < k) = false := decide_eq_false (by omega)
    have d2 : decide (nb < k) = false := decide_eq_false (by omega)
    have d3 : decide (j < k) = false := decide_eq_false (by omega)
    have d1' : decide ((na : Int) < (k : Int)) = false := decide_eq_false (by omega)
    have d2' : decide ((nb : Int) < (k : Int)) = false := decide_eq_false (by omega)
    have d3' : decide ((j : Int) < (k : Int)) = false := decide_eq_false (by omega)
    clear wf wz hI hI' hz' hn' hl' hg' htb hg hdm hdv hcm hcv okm okv htw a1 a3 hl1 hl2 hok1 hok2 hR hT hk hj b1 hcs hds hlc hld hoc hod hna hnb hsz k7 k11
    go_enter Tryd.func5, Tryd.ntmps5
    go_wp2
    go_quiet (fail)
    have b0 := below_dr6 w.heap.size w nq
    have A0 := Lib.hid (HA.out.below b0)
    have T0 := Lib.hid (HTB.out.below b0 HG.out)
    have G0 := Lib.hid (Nat.lt_of_lt_of_le HG.out b0.size)
    have B0 := Lib.hid b0
    clear b0
    generalize w.drewN nq = w0 at *
    try simp only [hm', hv']
    go_upto_region 10 with (first
      | (go_at_call 10
         refine (HN1.out _).mono ?_
         rintro e w1 ⟨rfl, h2⟩
         have A1 := Lib.hid (A0.out.below h2)
         have T1 := Lib.hid (T0.out.below h2 G0.out)
         have G1 := Lib.hid (Nat.lt_of_lt_of_le G0.out h2.size)
         have B1 := Lib.hid (B0.out.trans (h2.mono B0.out.size))
         clear h2 T0 HN1)
      | (go_at_call 10
         refine (HN2.out _).mono ?_
         rintro e w2 ⟨rfl, h2⟩
         have A2 := Lib.hid (A1.out.below h2)
         have T2 := Lib.hid (T1.out.below h2 G1.out)
         have G2 := Lib.hid (Nat.lt_of_lt_of_le G1.out h2.size)
         have B2 := Lib.hid (B1.out.trans (h2.mono B1.out.size))
         clear h2 T1 HN2)
      | (go_at_call 8
         refine (HR1.out _ T2.out G2.out A2.out).mono ?_
         rintro e w3 ⟨X, cx, rfl, h1, h2, h3, h4, h5⟩
         have A3 := Lib.hid (A2.out.below h5)
         have T3 := Lib.hid (T2.out.below h5 G2.out)
         have G3 := Lib.hid (Nat.lt_of_lt_of_le G2.out h5.size)
         have B3 := Lib.hid (B2.out.trans (h5.mono B2.out.size))
         have S3 := Lib.hid h3
         clear h1 h2 h3 h4 h5 T2 HR1)
      | (refine wpList_store_new rfl 28 (.tmp 9) (.tmp 50) rfl w3.heap.size rfl _ cs _ rfl rfl (by rw [HL.out]; rfl) HI.out HO.out ?_
         intro W4 b4 k4 s4
         have A4 := Lib.hid (A3.out.below b4)
         have T4 := Lib.hid (T3.out.below b4 G3.out)
         have G4 := Lib.hid (Nat.lt_of_lt_of_le G3.out b4.size)
         have B4 := Lib.hid (B3.out.trans (b4.mono B3.out.size))
         have S4 := Lib.hid (S3.out.below b4)
         have K4 := Lib.hid k4
         clear b4 k4 s4)
      | (go_at_call 8
         refine (HR2.out _ T4.out G4.out A4.out).mono ?_
         rintro e w5 ⟨Y, cy, rfl, h1, h2, h3, h4, h5⟩
         have B5 := Lib.hid (B4.out.trans (h5.mono B4.out.size))
         have S5 := Lib.hid (S4.out.below h5)
         have K5 := Lib.hid (K4.out.below h5 K4.out.1)
         have Y5 := Lib.hid h3
         clear h1 h2 h3 h4 h5)
      | (refine wpList_store_new rfl 28 (.tmp 11) (.tmp 57) rfl w5.heap.size rfl _ ds _ rfl rfl (by rw [DL.out]; rfl) DI.out DO.out ?_
         intro W6 b6 k6' s6
         have B6 := Lib.hid (B5.out.trans (b6.mono B5.out.size))
         have S6 := Lib.hid (S5.out.below b6)
         have K6 := Lib.hid (K5.out.below b6 K5.out.1)
         have Y6 := Lib.hid (Y5.out.below b6)
         have D6 := Lib.hid k6'
         clear b6 k6' s6)
      | (go_at_call 14
         refine (trOf_any _ _ _ _ true (by omega) _ S6.out).mono ?_
         rintro e w7 ⟨U, cu, rfl, -, -, h1, h2⟩
         have B7 := Lib.hid (B6.out.trans (h2.mono B6.out.size))
         have S7 := Lib.hid (S6.out.below h2)
         have K7 := Lib.hid (K6.out.below h2 K6.out.1)
         have Y7 := Lib.hid (Y6.out.below h2)
         have D7 := Lib.hid (D6.out.below h2 D6.out.1)
         have U7 := Lib.hid h1
         clear h1 h2 S6)
      | (go_at_call 14
         refine (trOf_any _ _ _ _ true (by omega) _ Y7.out).mono ?_
         rintro e w8 ⟨V, cv', rfl, -, -, h1, h2⟩
         have B8 := Lib.hid (B7.out.trans (h2.mono B7.out.size))
         have S8 := Lib.hid (S7.out.below h2)
         have K8 := Lib.hid (K7.out.below h2 K7.out.1)
         have Y8 := Lib.hid (Y7.out.below h2)
         have D8 := Lib.hid (D7.out.below h2 D7.out.1)
         have U8 := Lib.hid (U7.out.below h2)
         have V8 := Lib.hid h1
         clear h1 h2 Y7)
      | (go_at_call 13
         refine (same_any _ _ _ _ _ _ _ _ (by omega) (by omega) _ U8.out V8.out).mono ?_
         rintro e w9 ⟨q8, rfl, rfl⟩
         rw [HK.out]
         have h2 := below_dr6 w8.heap.size w8 q8
         have B9 := Lib.hid (B8.out.trans (h2.mono B8.out.size))
         have S9 := Lib.hid (S8.out.below h2)
         have K9 := Lib.hid (K8.out.below h2 K8.out.1)
         have Y9 := Lib.hid (Y8.out.below h2)
         have D9 := Lib.hid (D8.out.below h2 D8.out.1)
         clear h2 U8
         generalize w8.drewN q8 = w9 at *)
      | (go_at_call 14
         refine (trOf_any _ _ _ _ false (by omega) _ S9.out).mono ?_
         rintro e w10 ⟨U', cu', rfl, -, -, h1, h2⟩
         have B10 := Lib.hid (B9.out.trans (h2.mono B9.out.size))
         have S10 := Lib.hid (S9.out.below h2)
         have K10 := Lib.hid (K9.out.below h2 K9.out.1)
         have Y10 := Lib.hid (Y9.out.below h2)
         have D10 := Lib.hid (D9.out.below h2 D9.out.1)
         have U10 := Lib.hid h1
         clear h1 h2 S9)
      | (go_at_call 14
         refine (trOf_any _ _ _ _ false (by omega) _ Y10.out).mono ?_
         rintro e w11 ⟨V', cv'', rfl, -, -, h1, h2⟩
         have B11 := Lib.hid (B10.out.trans (h2.mono B10.out.size))
         have S11 := Lib.hid (S10.out.below h2)
         have K11 := Lib.hid (K10.out.below h2 K10.out.1)
         have Y11 := Lib.hid (Y10.out.below h2)
         have D11 := Lib.hid (D10.out.below h2 D10.out.1)
         have U11 := Lib.hid (U10.out.below h2)
         have V11 := Lib.hid h1
         clear h1 h2)
      | (go_at_call 13
         refine (same_any _ _ _ _ _ _ _ _ (by omega) (by omega) _ U11.out V11.out).mono ?_
         rintro e w12 ⟨q12, rfl, rfl⟩
         rw [HJ.out]
         have h2 := below_dr6 w11.heap.size w11 q12
         have B12 := Lib.hid (B11.out.trans (h2.mono B11.out.size))
         have S12 := Lib.hid (S11.out.below h2)
         have K12 := Lib.hid (K11.out.below h2 K11.out.1)
         have Y12 := Lib.hid (Y11.out.below h2)
         have D12 := Lib.hid (D11.out.below h2 D11.out.1)
         clear h2
         generalize w11.drewN q12 = w12 at *))
    go_wp2_with fail
    go_loopw [84] (fun i wr => ∃ i' : Nat, i' ≤ k ∧ i = .int .i64 i' ∧ RowKit.Below w12.heap.size w12 wr) (fun i _ => k - (intOf i).toNat)
    case atStart => exact ⟨0, Nat.zero_le _, rfl, RowKit.Below.refl _ _⟩
    case round =>
      obtain ⟨i', hi', rfl, hbel⟩ := hrel
      by_cases hlt : i' < k
      · obtain ⟨x, hx⟩ : ∃ r, R.2[i']? = some r := ⟨_, List.getElem?_eq_getElem (by rw [HNA.out]; omega)⟩
        have hy : T.2[i']? = some x := by rw [HA1.out i' hlt]; exact hx
        obtain ⟨cx', hcx⟩ : ∃ c, stC x = c := ⟨_, rfl⟩
        have hl : cx'.length = 9 := by rw [← hcx]; rfl
        have hxc : (R.2.map stC)[i']? = some cx' := by rw [List.getElem?_map, hx, ← hcx]; rfl
        have hyc : (T.2.map stC)[i']? = some cx' := by rw [List.getElem?_map, hy, ← hcx]; rfl
        obtain ⟨_, pa, rfl, hpa, hva⟩ := (S12.out.below hbel).2 i' cx' hxc
        obtain ⟨_, pb, rfl, hpb, hvb⟩ := (Y12.out.below hbel).2 i' cx' hyc
        have heq := fun w => eql_st x w
        rw [hcx] at heq
        have HEQ := Lib.hid heq
        have HII := Lib.hid (show (Tryd.prog.info? 33).map (·.size) = some cx'.length by rw [hl]; exact st_info)
        have HVA := Lib.hid (show ∀ j v, cx'[j]? = some v → wr.cell? ((pa.add (i' * 9)).add j) = some v from fun j v hj => by have := hva j v hj; rwa [Addr.add_add])
        have HVB := Lib.hid (show ∀ j v, cx'[j]? = some v → wr.cell? ((pb.add (i' * 9)).add j) = some v from fun j v hj => by have := hvb j v hj; rwa [Addr.add_add])
        have HBL := Lib.hid hbel
        have z1 : (i' : Int) < na := by omega
        have z2 : (i' : Int) < nb := by omega
        clear hx hy hcx hl hxc hyc hva hvb hpa hpb heq hbel
        go_wp2
        refine wp_region_quiet_lit (by kernel_rfl) (by kernel_rfl) ?_
        repeat (first
          | (go_big_quiet_want; refine quiet_load_drew 33 (.tmp 89) rfl (pa.add (i' * 9)) rfl cx' _ HVA.out Tryd.underlying33 rfl HII.out ?_; simp only [Act.put, List.setIfInBounds_toArray, List.set_cons_succ, List.set_cons_zero]; go_big_quiet_on)
          | (go_big_quiet_want; refine quiet_load_drew 33 (.tmp 93) rfl (pb.add (i' * 9)) rfl cx' _ HVB.out Tryd.underlying33 rfl HII.out ?_; simp only [Act.put, List.setIfInBounds_toArray, List.set_cons_succ, List.set_cons_zero]; go_big_quiet_on)
          | (go_big_quiet_want; refine quiet_neq 33 33 (.tmp 90) (.tmp 94) rfl cx'.toArray cx'.toArray rfl rfl true HEQ.out guard_st ?_; simp only [Act.put, List.setIfInBounds_toArray, List.set_cons_succ, List.set_cons_zero]; go_big_quiet_on)
          | (go_big_quiet_step (fail)))
        refine wpQuiet_nil ?_
        intro _ hw'
        obtain ⟨nq', hw''⟩ := hw'
        subst hw''
        go_wp2
        go_roundw
        case rel => exact ⟨i' + 1, by omega, by go_num, HBL.out.trans ⟨rfl, rfl, rfl, Nat.le_refl _, fun _ _ => rfl⟩⟩
        case measure => simp [intOf]; omega
      · obtain rfl : i' = k := by omega
        have KF := Lib.hid (B12.out.trans (hbel.mono B12.out.size))
        have KB := Lib.hid (K12.out.below hbel K12.out.1)
        have DB := Lib.hid (D12.out.below hbel D12.out.1)
        clear hbel
        by_cases ca : i' < na
        · have ca1 : decide (i' < na) = true := decide_eq_true ca
          have ca2 : decide ((i' : Int) < (na : Int)) = true := decide_eq_true (by omega)
          clear ca
          go_upto_region 16 with fail
          go_wp2_with (first
            | (go_at_call 12
               refine (alive07_any _).mono ?_
               rintro e wA ⟨rfl, hA⟩
               have KA := Lib.hid (KF.out.trans (hA.mono KF.out.size))
                
               clear hA)
             )
          go_ret
          exact ⟨rfl, KA.out⟩
        · have ca1 : decide (i' < na) = false := decide_eq_false ca
          have ca2 : decide ((i' : Int) < (na : Int)) = false := decide_eq_false (by omega)
          by_cases cb : i' < nb
          · have cb1 : decide (i' < nb) = true := decide_eq_true cb
            have cb2 : decide ((i' : Int) < (nb : Int)) = true := decide_eq_true (by omega)
            clear ca cb
            go_upto_region 16 with fail
            go_wp2_with (first
              | (go_at_call 12
                 refine (alive07_any _).mono ?_
                 rintro e wA ⟨rfl, hA⟩
                 have KA := Lib.hid (KF.out.trans (hA.mono KF.out.size))
                  
                 clear hA)
               )
            go_ret
            exact ⟨rfl, KA.out⟩
          · have cb1 : decide (i' < nb) = false := decide_eq_false cb
            have cb2 : decide ((i' : Int) < (nb : Int)) = false := decide_eq_false (by omega)
            obtain ⟨t1, t2, t3, -⟩ := HA3.out (by omega) (by omega)
            have kb := KB.out
            have db := DB.out
            rw [← HCS.out] at kb
            rw [← HDS.out] at db
            have R1 := range_regs kb
            have R2 := range_regs db
            have P0 := kb.2.1 0 _ (sqC_pc R.1)
            have Q0 := db.2.1 0 _ (sqC_pc T.1)
            have P34 := kb.2.1 34 _ (sqC_halt HRL.out.1)
            have Q34 := db.2.1 34 _ (sqC_halt HRL.out.2)
            rw [t2] at R2
            rw [t1] at Q0
            rw [t3] at Q34
            have HRG := Lib.hid HRL.out.1
            generalize R.1.pc = vpc at P0 Q0
            generalize R.1.halt = vh at P34 Q34
            generalize R.1.regs = xs at R1 R2 HRG
            have lx : (regL xs).length = 32 := by simp [regL, HRG.out]
            have EQX := Lib.hid (bin_regs xs HRG.out)
            have IX := Lib.hid (show (Tryd.prog.info? 26).map (·.size) = some (regL xs).length by rw [lx]; exact info_regs)
            obtain ⟨rx, hrx⟩ : ∃ x, regL xs = x := ⟨_, rfl⟩
            rw [hrx] at R1 R2 EQX IX
            have b1 := KB.out.1
            have b2 := DB.out.1
            have CB := Lib.hid (And.intro R1 (And.intro R2 (And.intro P0 (And.intro Q0 (And.intro P34 Q34)))))
            have LB := Lib.hid (And.intro b1 b2)
            clear t1 t2 t3 kb db R1 R2 P0 Q0 P34 Q34 lx hrx ca cb b1 b2
            go_upto_region 16 with fail
            go_wp2_with (first
              | (go_at_call 12
                 refine (alive07_any _).mono ?_
                 rintro e wA ⟨rfl, hA⟩
                 have KA := Lib.hid (KF.out.trans (hA.mono KF.out.size))
                 have x1 := rangeAt_below CB.out.1 hA LB.out.1; have x2 := rangeAt_below CB.out.2.1 hA LB.out.2; have P0 := (hA.cell (p := ⟨w3.heap.size, 0, none⟩) LB.out.1).trans CB.out.2.2.1; have Q0 := (hA.cell (p := ⟨w5.heap.size, 0, none⟩) LB.out.2).trans CB.out.2.2.2.1; have P34 := (hA.cell (p := ⟨w3.heap.size, 34, none⟩) LB.out.1).trans CB.out.2.2.2.2.1; have Q34 := (hA.cell (p := ⟨w5.heap.size, 34, none⟩) LB.out.2).trans CB.out.2.2.2.2.2; have X1 := Lib.hid x1; have X2 := Lib.hid x2; clear x1 x2
                 clear hA)
              | (refine wpList_load_want 26 (.tmp 110) rfl rfl w3.heap.size 1 rfl rx _ X1.out Tryd.underlying26 rfl IX.out ?_) | (refine wpList_load_want 26 (.tmp 112) rfl rfl w5.heap.size 1 rfl rx _ X2.out Tryd.underlying26 rfl IX.out ?_) | (refine wpList_eql_want 26 26 (.tmp 111) (.tmp 113) rfl rfl rx.toArray rx.toArray rfl rfl true EQX.out guard_regs ?_))
            go_ret
            exact ⟨rfl, KA.out⟩
  · have hne : ((dm.size : Int) != (dv.size : Int)) = true := by simp; omega
    clear wf wz hI hI' hz' hn' hl' hg' htb hg hdm hdv hcm hcv okm okv hsz k7 k11
    go_enter Tryd.func5, Tryd.ntmps5
    go_wp2
    go_quiet (fail)
    have b0 := below_dr6 w.heap.size w nq
    have B0 := Lib.hid b0
    clear b0
    generalize w.drewN nq = w0 at *
    try simp only [hm', hv']
    go_wp2_with (first
      | (go_at_call 10
         refine (HN1.out _).mono ?_
         rintro e w1 ⟨rfl, h2⟩
         have B1 := Lib.hid (B0.out.trans (h2.mono B0.out.size))
         clear h2 HN1)
      | (go_at_call 10
         refine (HN2.out _).mono ?_
         rintro e w2 ⟨rfl, h2⟩
         have B2 := Lib.hid (B1.out.trans (h2.mono B1.out.size))
         clear h2)
      | (go_at_call 12
         refine (alive07_any _).mono ?_
         rintro e w3 ⟨rfl, h2⟩
         have B3 := Lib.hid (B2.out.trans (h2.mono B2.out.size))
         clear h2))
    go_ret
    exact ⟨rfl, B3.out⟩
theorem own : ownKnob Tryd.prog.godebug = none := by kernel_rfl
theorem laidOut : laidOutB Tryd.prog = true := by kernel_rfl
set_option maxRecDepth 100000 in
theorem contract (H : Type) (enc : TypeId × Value → H) (W : World) (base : Nat) (args : Array Value) (ds gs : List (DataW H)) (before : List MemPlace)
    (hval : ∀ (j : Nat) t v, Tryd.f5.params[j]? = some t → args[j]? = some v → Value.okWide Tryd.prog W .any base t v)
    (hW : DataW.Whole enc Tryd.prog Tryd.f5.params.toList Rows.traceTellsSpec.vars false W args.toList ds gs before) (hL : laidMetH Tryd.prog Rows.traceTellsRow.laid W) :
    Calls Tryd.prog 5 args W fun e W' => ∃ v, e = .returned v ∧ Rows.traceTellsSpec.post enc Tryd.prog Tryd.f5 false true false false W args v W' := by
  have hW' := hW
  obtain ⟨p, q, hA0, hV, rfl, hfz, hnd⟩ := hW
  have hA : DataW.TrodAll enc Tryd.prog W 0 (fun _ => true) true Tryd.f5.params.toList args.toList ds p := hA0
  rw [Tryd.params5] at hA hval
  obtain ⟨v0, vs0, d0, ds0, p0, q0, hargs, rfl, rfl, h0, r0⟩ := trodAll_cons hA
  obtain ⟨v1, vs1, d1, ds1, p1, q1, rfl, rfl, rfl, h1, r1⟩ := trodAll_cons r0
  obtain ⟨v2, vs2, d2, ds2, p2, q2, rfl, rfl, rfl, h2, r2⟩ := trodAll_cons r1
  obtain ⟨v3, vs3, d3, ds3, p3, q3, rfl, rfl, rfl, h3, r3⟩ := trodAll_cons r2
  obtain ⟨rfl, rfl, rfl⟩ := trodAll_nil r3
  obtain rfl : args = #[v0, v1, v2, v3] := by cases args; simp_all
  obtain ⟨rfl, rfl⟩ := trodVars_none hV
  have hlt := hW'.lt
  have k0 := h0
  obtain ⟨prog_a, prog_n, prog_c, prog, rfl, w_prog_n, w_prog_c, w_prog, w_prog_wf⟩ := arg_ints (k := .u32) Tryd.underlying22 Tryd.underlying25 (by kernel_rfl) (hval 0 22 v0 rfl rfl) h0
  have k1 := h1
  obtain ⟨m, rfl, -, -, w_m⟩ := open_string Tryd.underlying9 (hval 1 9 v1 rfl rfl) h1
  have k2 := h2
  obtain ⟨v, rfl, -, -, w_v⟩ := open_string Tryd.underlying9 (hval 2 9 v2 rfl rfl) h2
  have k3 := h3
  obtain ⟨n, rfl, -, -, w_n⟩ := open_int Tryd.underlying3 (hval 3 3 v3 rfl rfl) h3
  clear hA0
  simp only [List.append_nil] at hW'
  refine (walk prog_a prog_n prog_c prog m v n w_prog_n w_prog_c w_prog_wf w_m w_v w_n W w_prog (table hL)).mono fun e W' ⟨he, bel⟩ => ?_
  subst he
  exact ⟨_, rfl, _, _, _, [], _, [], hW', trodAll_mk1 (shut_bool Tryd.underlying4 _), (trodAll_cons_mk (Below.trod laidOut (by kernel_rfl) (of_decide_eq_true (by kernel_rfl)) k0 bel (fun x hx => hlt x (by simp [hx]))) (trodAll_cons_mk (Below.trod laidOut (by kernel_rfl) (of_decide_eq_true (by kernel_rfl)) k1 bel (fun x hx => hlt x (by simp [hx]))) (trodAll_cons_mk (Below.trod laidOut (by kernel_rfl) (of_decide_eq_true (by kernel_rfl)) k2 bel (fun x hx => hlt x (by simp [hx]))) (trodAll_cons_mk (Below.trod laidOut (by kernel_rfl) (of_decide_eq_true (by kernel_rfl)) k3 bel (fun x hx => hlt x (by simp [hx]))) trodAll_mk0)))), rfl, bel.frame _, fun h => by cases h⟩

theorem laid_met (os : Os) : laidMet Tryd.prog Rows.traceTellsRow.laid ((laidWorld os).forCall (fun _ _ => 0) ⟨#[], #[Value.slice none 0 0, Value.string ByteArray.empty, Value.string ByteArray.empty, Value.int .i64 0], []⟩).memory :=
  laidMet_of_run' 8 (by kernel_rfl) (by kernel_rfl)
theorem reads (os : Os) {H : Type} (enc : TypeId × Value → H) : ∃ places, DataW.whole enc Tryd.prog ((laidWorld os).forCall (fun _ _ => 0) ⟨#[], #[Value.slice none 0 0, Value.string ByteArray.empty, Value.string ByteArray.empty, Value.int .i64 0], []⟩).memory Tryd.f5.params.toList Rows.traceTellsSpec.vars false #[Value.slice none 0 0, Value.string ByteArray.empty, Value.string ByteArray.empty, Value.int .i64 0].toList 8 = some ([.nil, .lit (.string []), .lit (.string []), .lit (.int .i64 0)], [], places) :=
  ⟨[], by kernel_rfl⟩

set_option maxRecDepth 100000 in
theorem lifted (os : Os) (started : os.Started) (H : Type) (enc : TypeId × Value → H) (F : Stop.Interp) :
    ReturnsInHanded {} Tryd.checked os 5 .any ((OpenSpec.ofChange Rows.traceTellsSpec).preRow enc Tryd.prog Tryd.f5 Rows.traceTellsRow.domain false Rows.traceTellsRow.laid) (((OpenSpec.ofChange Rows.traceTellsSpec).at F).post enc Tryd.prog Tryd.f5 false true false false) := by
  obtain ⟨places, hx⟩ := reads os enc
  refine returnsInHanded_of_row (C := Tryd.checked) (s := OpenSpec.ofChange Rows.traceTellsSpec) own started (by kernel_rfl) Tryd.func5
    (witness_row_at (enc := enc) (C := Tryd.checked) false (laidWorld os) #[Value.slice none 0 0, Value.string ByteArray.empty, Value.string ByteArray.empty, Value.int .i64 0] rfl (by kernel_rfl) (by kernel_rfl) (by kernel_rfl)
      (OpenSpec.preRow_of_cond 8 hx (by kernel_rfl) (fun k hk => by cases hk) (by kernel_rfl) (laid_met os))) ?_
  intro W base args ds gs before hval hW _ _ _ hL _ _
  exact contract H enc W base args ds gs before hval hW hL

theorem said : Rows.TraceTellsSaid :=
  OpenClaim.holds_of_cond 5 Tryd.f5 rfl rfl rfl rfl rfl rfl rfl ⟨rfl, rfl, rfl, rfl, rfl⟩ rfl rfl rfl rfl rfl (by kernel_rfl) Tryd.func5 (by kernel_rfl)
    (of_decide_eq_true (by kernel_rfl)) (by unfold Func.isWrapper; first | (rw [if_pos (by decide +kernel)]; kernel_rfl) | (rw [if_neg (by decide +kernel)]; exact ⟨rfl, rfl⟩))
    (fun os started H enc _ F => by rw [OpenClaim.pre_eq_preRow]; exact lifted os started H enc F)

theorem plain (f : FuncId) (fn : Func) (hf : Tryd.pinned.checked.prog.funcNamed "auspex/auspexlaw07.TraceTells" = some f) (hfn : Tryd.pinned.checked.prog.funcs[f]? = some fn) :
    false = Tryd.pinned.checked.prog.looks [] ∧ ∀ (j : Nat) t, fn.params[j]? = some t → Tryd.pinned.checked.prog.wantsStandIn t = false := by
  obtain rfl : f = 5 := Option.some.inj ((show Tryd.prog.funcNamed "auspex/auspexlaw07.TraceTells" = some 5 by kernel_rfl).symm.trans hf) |>.symm
  obtain rfl : fn = Tryd.f5 := (Option.some.inj (Tryd.func5.symm.trans hfn)).symm
  refine ⟨by kernel_rfl, fun j t ht => ?_⟩
  rw [Tryd.params5] at ht
  have hm := Array.mem_of_getElem? ht
  simp only [List.mem_toArray, List.mem_cons, List.not_mem_nil, or_false] at hm
  rcases hm with rfl | rfl | rfl | rfl
  · exact (show Tryd.prog.wantsStandIn 22 = false by kernel_rfl)
  · exact (show Tryd.prog.wantsStandIn 9 = false by kernel_rfl)
  · exact (show Tryd.prog.wantsStandIn 9 = false by kernel_rfl)
  · exact (show Tryd.prog.wantsStandIn 3 = false by kernel_rfl)

/-- THE CARD -/
theorem proved : Rows.TraceTellsCardSaid :=
  Claim7.holds_tied_plain_at .later [] _ _ _ _ said (fun _ h => by cases h) (by kernel_rfl) (fun _ h => by cases h) traceTells_row_tie rfl ⟨rfl, rfl⟩ (by kernel_rfl) rfl plain (by kernel_rfl)
#print axioms proved
end Go.Proofs.YtkamljmopbocnaaDoor.traceTells
