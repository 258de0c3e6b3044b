/- Proved: the card of TaintVisible (auspexlaw14): entries ahead of a visible one are visible; a root is a load that is not visible, ahead of its entry, or it itself; a visible entry reads nothing that is tainted; for every input; on the world that holds the table of instructions. -/
import Derived.Test.YtfekknalchjkiaaDoorCards
import Derived.Test.YtfekknalchjkiaaDoorTie
import Derived.Test.YtfekknalchjkiaaDoorTaintV
import Derived.Test.YtfekknalchjkiaaDoorExecLaid
import Derived.WalkKit
import Derived.ProofKit
import Derived.OpenShut
import Derived.Deep.DeepHandedRow
import Derived.Lib.LaidTab
namespace Go.Proofs.YtfekknalchjkiaaDoor.taintVisible
open Go.ChangeShapes Go.WideShapes Go.ChangeAt Go.RowKit Go.Sort
set_option linter.unusedVariables false
set_option linter.unusedSimpArgs false
set_option maxHeartbeats 6000000
set_option maxRecDepth 100000

theorem walk (A : Option Addr) (n c : Nat) (es : List En) (hn : n ≤ c) (hc : c ≤ maxLen) (hz : A = none → c = 0) (wf : ∀ s ∈ es, enOK s) (w : World) (hE : EntsAt w A n es) (ht : TabIs w ∧ 0 < w.heap.size) :
    Calls Tryd.prog 9 #[.slice A n c] w fun e w' => e = .returned (.bool true) ∧ Below w.heap.size w w' := by
  obtain ⟨htb, hg⟩ := ht
  clear wf hz
  have HT := Lib.hid htb
  have HC := Lib.hid hc
  have HW := Lib.hid (few14_any A n c hn hc)
  obtain ⟨m, hm⟩ : ∃ m, min n 20 = m := ⟨_, rfl⟩
  rw [hm] at HW
  have hmn : m ≤ n := by omega
  have hmc : m ≤ c := by omega
  have hm20 : m ≤ 20 := by omega
  obtain ⟨fs, hfs⟩ : ∃ l, es.take m = l := ⟨_, rfl⟩
  have hF := hE.take (m := m) hmn
  rw [hfs] at hF
  clear hE hfs hm hmn hn htb hc
  have HL := hF.len
  have HE := Lib.hid hF
  have HFR := Lib.hid (fun w' (h : EntsAt w' A m fs) => front_any A m c fs hmc HC.out w' h)
  have HVI := Lib.hid (fun i w' (h : EntsAt w' A m fs) => visible_any A m c fs i hmc HC.out w' h)
  have HRO := Lib.hid (fun w' ht hg (h : EntsAt w' A m fs) => roots_any A m c fs hmc HC.out (by omega) w' ht hg h)
  have HTA := Lib.hid (fun i reg w' ht hg (h : EntsAt w' A m fs) => tainted_any A m c fs i reg hmc HC.out (by omega) w' ht hg h)
  have HOK := Lib.hid (fun k (h : k < m) => rootI_ok fs k (by rw [HL]; exact h))
  have HSE := Lib.hid (fun k (h : k < m) hf => rootI_seen fs k (by rw [HL]; exact h) hf)
  have HTS := Lib.hid (fun (i : Nat) reg (h : i < m) hf => taint_seen fs i reg (by rw [HL]; omega) hf)
  obtain ⟨f, hf⟩ : ∃ f, frontN fs = f := ⟨_, rfl⟩
  rw [hf] at HFR HVI HOK HSE HTS
  clear hf hF
  go_enter Tryd.func9, Tryd.ntmps9
  go_wp2_with (first
    | (go_at_call 28; refine (HW.out _).mono ?_; rintro r w1 ⟨rfl, b1⟩; have K1 := Lib.hid b1; clear b1)
    | (go_at_call 29; refine (HRO.out _ (HT.out.below K1.out hg) (Nat.lt_of_lt_of_le hg K1.out.size) (HE.out.below K1.out)).mono ?_; rintro r w2 ⟨AR, cR, rfl, hr1, hr2, hri, b2⟩; have K2 := Lib.hid (K1.out.trans (b2.mono K1.out.size)); have R2 := Lib.hid hri; clear b2 hri)
    | (go_at_call 30; refine (alive14_any _).mono ?_; rintro r w3 ⟨rfl, b3⟩; have K3 := Lib.hid (K2.out.trans (b3.mono K2.out.size)); have R3 := Lib.hid (R2.out.below b3); clear b3)
    | (go_at_call 31; refine (HFR.out _ (HE.out.below K3.out)).mono ?_; rintro r w4 ⟨rfl, b4⟩; have K4 := Lib.hid (K3.out.trans (b4.mono K3.out.size)); have R4 := Lib.hid (R3.out.below b4); clear b4))
  clear K1 K2 K3 R2 R3 HW HFR HRO
  go_loopw [27] (fun i wr => ∃ k : Nat, k ≤ m ∧ i = .int .i64 k ∧ IntsAt wr AR m .i64 (rootsL fs) ∧ Below w.heap.size w wr) (fun i _ => m - (intOf i).toNat)
  case atStart => exact ⟨0, by omega, rfl, R4.out, K4.out⟩
  case round =>
    obtain ⟨k, hk, rfl, r0, k0⟩ := hrel
    have R0 := Lib.hid r0
    have K0 := Lib.hid k0
    clear r0 k0 R4 K4
    by_cases hlt : k < m
    · obtain ⟨e, he⟩ : ∃ e, fs[k]? = some e := ⟨_, List.getElem?_eq_getElem (by omega)⟩
      obtain ⟨a, rfl, hal, hcell⟩ := (HE.out.below K0.out).at_ he
      obtain ⟨r, hr⟩ : ∃ r, rootI fs k = r := ⟨_, rfl⟩
      have RG := Lib.hid (show (rootsL fs).getD k 0 = r by
        rw [← hr]; unfold rootI
        rw [List.getD_eq_getElem?_getD, List.getElem?_eq_getElem (by rw [rootsL_len, HL]; exact hlt)]; rfl)
      obtain ⟨o1, o2, o3⟩ := HOK.out k hlt
      rw [hr] at o1 o2 o3
      have O3 := Lib.hid o3
      have HRD := Lib.hid (fun w => reads_any e.op e.rd e.rs1 e.rs2 e.imm w)
      have HVK := Lib.hid (HVI.out (k : Int))
      clear o3 he
      obtain ⟨cs, hcs⟩ : ∃ cs, enC e = cs := ⟨_, rfl⟩
      have h17 : cs.length = 17 := by rw [← hcs]; rfl
      have h1 : cs.toArray.all (·.oneCell') = true := by rw [← hcs]; exact enC_one e
      rw [hcs] at hcell
      have HX := Lib.hid hcell
      have HI := Lib.hid (show (Tryd.prog.info? 60).map (·.size) = some cs.length by rw [h17]; exact ent_info)
      have HA := Lib.hid h1
      have HZ := Lib.hid h17
      have H2 := Lib.hid (show cs[2]? = some (.int .i64 e.op) by rw [← hcs]; rfl)
      have H3 := Lib.hid (show cs[3]? = some (.int .i64 e.rd) by rw [← hcs]; rfl)
      have H4 := Lib.hid (show cs[4]? = some (.int .i64 e.rs1) by rw [← hcs]; rfl)
      have H5 := Lib.hid (show cs[5]? = some (.int .i64 e.rs2) by rw [← hcs]; rfl)
      have H6 := Lib.hid (show cs[6]? = some (.int .u32 e.imm) by rw [← hcs]; rfl)
      clear hcell h1 h17 hcs
      by_cases hf : k ≤ f
      · have hv : decide (0 ≤ (k : Int) ∧ (k : Int) ≤ f) = true := decide_eq_true (by omega)
        rw [hv] at HVK
        have hrm : r = -1 := by rw [← hr]; exact HSE.out k hlt hf
        subst hrm
        have hta := HTS.out k e.rs1 hlt hf
        have htb := HTS.out k e.rs2 hlt hf
        have HTA1 := Lib.hid (HTA.out (k : Int) e.rs1)
        have HTA2 := Lib.hid (HTA.out (k : Int) e.rs2)
        rw [hta] at HTA1
        rw [htb] at HTA2
        have HV := Lib.hid HVK.out
        have d1 : decide ((k : Int) ≤ f) = true := decide_eq_true (by omega)
        have d2 : decide (k ≤ f) = true := decide_eq_true hf
        clear hr hta htb hv O3 o1 o2
        have HV3 := Lib.hid HVK.out
        go_wp2_with (first
          | (refine wpList_load_row rfl 60 (.tmp 30) rfl _ rfl cs _ HX.out Tryd.underlying60 rfl HI.out ?_)
            | (refine wpList_store_new rfl 60 (.tmp 6) (.tmp 31) rfl wr.heap.size rfl _ cs _ rfl rfl HZ.out.symm HI.out HA.out ?_; intro W4 hb4 hB4 hs4
               have G := Lib.hid hB4
               have KB := Lib.hid (K0.out.trans (hb4.mono K0.out.size))
               have RI := Lib.hid (R0.out.below hb4)
               clear hb4 hB4 hs4)
            | (go_at_call 32; refine (HV.out _ (HE.out.below KB.out)).mono ?_; clear HV; rintro r w5 ⟨rfl, b5⟩
               replace KB := Lib.hid (KB.out.trans (b5.mono KB.out.size))
               replace RI := Lib.hid (RI.out.below b5)
               replace G := Lib.hid (G.out.below b5 G.out.1)
               clear b5
               obtain ⟨aR, hAR, g1⟩ := RI.out.at_ hlt
               cases hAR
               rw [RG.out] at g1
               have s2 := G.out.2.1 2 _ H2.out
               have s3 := G.out.2.1 3 _ H3.out
               have s4 := G.out.2.1 4 _ H4.out
               have s5 := G.out.2.1 5 _ H5.out
               have s6 := G.out.2.1 6 _ H6.out
               skip)
            | (go_at_call 33; refine (HKQ.out _).mono ?_; rintro r w6 ⟨rfl, b5⟩
               replace KB := Lib.hid (KB.out.trans (b5.mono KB.out.size))
               replace RI := Lib.hid (RI.out.below b5)
               replace G := Lib.hid (G.out.below b5 G.out.1)
               clear b5
               clear s2 s3 s4 s5 s6 t2 t3 t4 t5 t6
               have s2 := G.out.2.1 2 _ H2.out
               have s3 := G.out.2.1 3 _ H3.out
               have s4 := G.out.2.1 4 _ H4.out
               have s5 := G.out.2.1 5 _ H5.out
               have s6 := G.out.2.1 6 _ H6.out)
            | (go_at_call 32; refine (HV2.out _ (HE.out.below KB.out)).mono ?_; clear HV2; rintro r w7 ⟨rfl, b5⟩
               replace KB := Lib.hid (KB.out.trans (b5.mono KB.out.size))
               replace RI := Lib.hid (RI.out.below b5)
               replace G := Lib.hid (G.out.below b5 G.out.1)
               clear b5
               clear s2 s3 s4 s5 s6
               have s2 := G.out.2.1 2 _ H2.out
               have s3 := G.out.2.1 3 _ H3.out
               have s4 := G.out.2.1 4 _ H4.out
               have s5 := G.out.2.1 5 _ H5.out
               have s6 := G.out.2.1 6 _ H6.out)
            | (go_at_call 34; refine (HRD.out _).mono ?_; rintro r w8 ⟨rfl, b5⟩
               replace KB := Lib.hid (KB.out.trans (b5.mono KB.out.size))
               replace RI := Lib.hid (RI.out.below b5)
               replace G := Lib.hid (G.out.below b5 G.out.1)
               clear b5
               clear s2 s3 s4 s5 s6)
            | (go_at_call 32; refine (HV3.out _ (HE.out.below KB.out)).mono ?_; clear HV3; rintro r w9 ⟨rfl, b5⟩
               replace KB := Lib.hid (KB.out.trans (b5.mono KB.out.size))
               replace RI := Lib.hid (RI.out.below b5)
               replace G := Lib.hid (G.out.below b5 G.out.1)
               clear b5)
            | (go_at_call 35; refine (HTA1.out _ (HT.out.below KB.out hg) (Nat.lt_of_lt_of_le hg KB.out.size) (HE.out.below KB.out)).mono ?_; clear HTA1; rintro r w10 ⟨rfl, b5⟩
               replace KB := Lib.hid (KB.out.trans (b5.mono KB.out.size))
               replace RI := Lib.hid (RI.out.below b5)
               replace G := Lib.hid (G.out.below b5 G.out.1)
               clear b5)
            | (go_at_call 35; refine (HTA2.out _ (HT.out.below KB.out hg) (Nat.lt_of_lt_of_le hg KB.out.size) (HE.out.below KB.out)).mono ?_; clear HTA2; rintro r w11 ⟨rfl, b5⟩
               replace KB := Lib.hid (KB.out.trans (b5.mono KB.out.size))
               replace RI := Lib.hid (RI.out.below b5)
               replace G := Lib.hid (G.out.below b5 G.out.1)
               clear b5))
        go_roundw
        case rel => exact ⟨k + 1, by omega, by go_num, RI.out, KB.out⟩
        case measure => simp [intOf]; omega
      · have hv : decide (0 ≤ (k : Int) ∧ (k : Int) ≤ f) = false := decide_eq_false (by omega)
        rw [hv] at HVK
        have HV := Lib.hid HVK.out
        have HV3 := Lib.hid HVK.out
        have d1 : decide ((k : Int) ≤ f) = false := decide_eq_false (by omega)
        have d2 : decide (k ≤ f) = false := decide_eq_false hf
        by_cases hr0 : 0 ≤ r
        · obtain ⟨q, rfl⟩ := Int.eq_ofNat_of_zero_le hr0
          obtain ⟨hfq, eq, heq, hkq⟩ := O3.out hr0
          rw [Int.toNat_natCast] at heq
          have HKQ := Lib.hid (fun w => kind_any eq.op eq.rd eq.rs1 eq.rs2 eq.imm w)
          rw [hkq] at HKQ
          have hv2 : decide (0 ≤ (q : Int) ∧ (q : Int) ≤ f) = false := decide_eq_false (by omega)
          have HV2 := Lib.hid (HVI.out (q : Int))
          rw [hv2] at HV2
          have e1 : decide ((q : Int) < -1) = false := decide_eq_false (by omega)
          have e2 : decide ((k : Int) < q) = false := decide_eq_false (by omega)
          have e3 : decide ((0 : Int) ≤ q) = true := decide_eq_true (by omega)
          have e4 : decide (k < q) = false := decide_eq_false (by omega)
          have hqm : q < m := by omega
          have HQ := Lib.hid heq
          clear hr hv hv2 O3 hkq heq hr0
          go_wp2_with (first
            | (refine wpList_load_row rfl 60 (.tmp 30) rfl _ rfl cs _ HX.out Tryd.underlying60 rfl HI.out ?_)
              | (refine wpList_store_new rfl 60 (.tmp 6) (.tmp 31) rfl wr.heap.size rfl _ cs _ rfl rfl HZ.out.symm HI.out HA.out ?_; intro W4 hb4 hB4 hs4
                 have G := Lib.hid hB4
                 have KB := Lib.hid (K0.out.trans (hb4.mono K0.out.size))
                 have RI := Lib.hid (R0.out.below hb4)
                 clear hb4 hB4 hs4)
              | (go_at_call 32; refine (HV.out _ (HE.out.below KB.out)).mono ?_; clear HV; rintro r w5 ⟨rfl, b5⟩
                 replace KB := Lib.hid (KB.out.trans (b5.mono KB.out.size))
                 replace RI := Lib.hid (RI.out.below b5)
                 replace G := Lib.hid (G.out.below b5 G.out.1)
                 clear b5
                 obtain ⟨aR, hAR, g1⟩ := RI.out.at_ hlt
                 cases hAR
                 rw [RG.out] at g1
                 have s2 := G.out.2.1 2 _ H2.out
                 have s3 := G.out.2.1 3 _ H3.out
                 have s4 := G.out.2.1 4 _ H4.out
                 have s5 := G.out.2.1 5 _ H5.out
                 have s6 := G.out.2.1 6 _ H6.out
                 (obtain ⟨ab, hab, -, -, hq1⟩ := RowsAt.at_ (HE.out.below KB.out) (j := q) (c := enC eq) (by rw [List.getElem?_map, HQ.out]; rfl); cases hab; have t2 := hq1 1 _ rfl; have t3 := hq1 2 _ rfl; have t4 := hq1 3 _ rfl; have t5 := hq1 4 _ rfl; have t6 := hq1 5 _ rfl; clear hq1))
              | (go_at_call 33; refine (HKQ.out _).mono ?_; rintro r w6 ⟨rfl, b5⟩
                 replace KB := Lib.hid (KB.out.trans (b5.mono KB.out.size))
                 replace RI := Lib.hid (RI.out.below b5)
                 replace G := Lib.hid (G.out.below b5 G.out.1)
                 clear b5
                 clear s2 s3 s4 s5 s6 t2 t3 t4 t5 t6
                 have s2 := G.out.2.1 2 _ H2.out
                 have s3 := G.out.2.1 3 _ H3.out
                 have s4 := G.out.2.1 4 _ H4.out
                 have s5 := G.out.2.1 5 _ H5.out
                 have s6 := G.out.2.1 6 _ H6.out)
              | (go_at_call 32; refine (HV2.out _ (HE.out.below KB.out)).mono ?_; clear HV2; rintro r w7 ⟨rfl, b5⟩
                 replace KB := Lib.hid (KB.out.trans (b5.mono KB.out.size))
                 replace RI := Lib.hid (RI.out.below b5)
                 replace G := Lib.hid (G.out.below b5 G.out.1)
                 clear b5
                 clear s2 s3 s4 s5 s6
                 have s2 := G.out.2.1 2 _ H2.out
                 have s3 := G.out.2.1 3 _ H3.out
                 have s4 := G.out.2.1 4 _ H4.out
                 have s5 := G.out.2.1 5 _ H5.out
                 have s6 := G.out.2.1 6 _ H6.out)
              | (go_at_call 34; refine (HRD.out _).mono ?_; rintro r w8 ⟨rfl, b5⟩
                 replace KB := Lib.hid (KB.out.trans (b5.mono KB.out.size))
                 replace RI := Lib.hid (RI.out.below b5)
                 replace G := Lib.hid (G.out.below b5 G.out.1)
                 clear b5
                 clear s2 s3 s4 s5 s6)
              | (go_at_call 32; refine (HV3.out _ (HE.out.below KB.out)).mono ?_; clear HV3; rintro r w9 ⟨rfl, b5⟩
                 replace KB := Lib.hid (KB.out.trans (b5.mono KB.out.size))
                 replace RI := Lib.hid (RI.out.below b5)
                 replace G := Lib.hid (G.out.below b5 G.out.1)
                 clear b5)
              | (go_at_call 35; refine (HTA1.out _ (HT.out.below KB.out hg) (Nat.lt_of_lt_of_le hg KB.out.size) (HE.out.below KB.out)).mono ?_; clear HTA1; rintro r w10 ⟨rfl, b5⟩
                 replace KB := Lib.hid (KB.out.trans (b5.mono KB.out.size))
                 replace RI := Lib.hid (RI.out.below b5)
                 replace G := Lib.hid (G.out.below b5 G.out.1)
                 clear b5)
              | (go_at_call 35; refine (HTA2.out _ (HT.out.below KB.out hg) (Nat.lt_of_lt_of_le hg KB.out.size) (HE.out.below KB.out)).mono ?_; clear HTA2; rintro r w11 ⟨rfl, b5⟩
                 replace KB := Lib.hid (KB.out.trans (b5.mono KB.out.size))
                 replace RI := Lib.hid (RI.out.below b5)
                 replace G := Lib.hid (G.out.below b5 G.out.1)
                 clear b5))
          go_roundw
          case rel => exact ⟨k + 1, by omega, by go_num, RI.out, KB.out⟩
          case measure => simp [intOf]; omega
        · obtain rfl : r = -1 := by omega
          clear hr hv O3
          go_wp2_with (first
            | (refine wpList_load_row rfl 60 (.tmp 30) rfl _ rfl cs _ HX.out Tryd.underlying60 rfl HI.out ?_)
              | (refine wpList_store_new rfl 60 (.tmp 6) (.tmp 31) rfl wr.heap.size rfl _ cs _ rfl rfl HZ.out.symm HI.out HA.out ?_; intro W4 hb4 hB4 hs4
                 have G := Lib.hid hB4
                 have KB := Lib.hid (K0.out.trans (hb4.mono K0.out.size))
                 have RI := Lib.hid (R0.out.below hb4)
                 clear hb4 hB4 hs4)
              | (go_at_call 32; refine (HV.out _ (HE.out.below KB.out)).mono ?_; clear HV; rintro r w5 ⟨rfl, b5⟩
                 replace KB := Lib.hid (KB.out.trans (b5.mono KB.out.size))
                 replace RI := Lib.hid (RI.out.below b5)
                 replace G := Lib.hid (G.out.below b5 G.out.1)
                 clear b5
                 obtain ⟨aR, hAR, g1⟩ := RI.out.at_ hlt
                 cases hAR
                 rw [RG.out] at g1
                 have s2 := G.out.2.1 2 _ H2.out
                 have s3 := G.out.2.1 3 _ H3.out
                 have s4 := G.out.2.1 4 _ H4.out
                 have s5 := G.out.2.1 5 _ H5.out
                 have s6 := G.out.2.1 6 _ H6.out
                 skip)
              | (go_at_call 33; refine (HKQ.out _).mono ?_; rintro r w6 ⟨rfl, b5⟩
                 replace KB := Lib.hid (KB.out.trans (b5.mono KB.out.size))
                 replace RI := Lib.hid (RI.out.below b5)
                 replace G := Lib.hid (G.out.below b5 G.out.1)
                 clear b5
                 clear s2 s3 s4 s5 s6 t2 t3 t4 t5 t6
                 have s2 := G.out.2.1 2 _ H2.out
                 have s3 := G.out.2.1 3 _ H3.out
                 have s4 := G.out.2.1 4 _ H4.out
                 have s5 := G.out.2.1 5 _ H5.out
                 have s6 := G.out.2.1 6 _ H6.out)
              | (go_at_call 32; refine (HV2.out _ (HE.out.below KB.out)).mono ?_; clear HV2; rintro r w7 ⟨rfl, b5⟩
                 replace KB := Lib.hid (KB.out.trans (b5.mono KB.out.size))
                 replace RI := Lib.hid (RI.out.below b5)
                 replace G := Lib.hid (G.out.below b5 G.out.1)
                 clear b5
                 clear s2 s3 s4 s5 s6
                 have s2 := G.out.2.1 2 _ H2.out
                 have s3 := G.out.2.1 3 _ H3.out
                 have s4 := G.out.2.1 4 _ H4.out
                 have s5 := G.out.2.1 5 _ H5.out
                 have s6 := G.out.2.1 6 _ H6.out)
              | (go_at_call 34; refine (HRD.out _).mono ?_; rintro r w8 ⟨rfl, b5⟩
                 replace KB := Lib.hid (KB.out.trans (b5.mono KB.out.size))
                 replace RI := Lib.hid (RI.out.below b5)
                 replace G := Lib.hid (G.out.below b5 G.out.1)
                 clear b5
                 clear s2 s3 s4 s5 s6)
              | (go_at_call 32; refine (HV3.out _ (HE.out.below KB.out)).mono ?_; clear HV3; rintro r w9 ⟨rfl, b5⟩
                 replace KB := Lib.hid (KB.out.trans (b5.mono KB.out.size))
                 replace RI := Lib.hid (RI.out.below b5)
                 replace G := Lib.hid (G.out.below b5 G.out.1)
                 clear b5)
              | (go_at_call 35; refine (HTA1.out _ (HT.out.below KB.out hg) (Nat.lt_of_lt_of_le hg KB.out.size) (HE.out.below KB.out)).mono ?_; clear HTA1; rintro r w10 ⟨rfl, b5⟩
                 replace KB := Lib.hid (KB.out.trans (b5.mono KB.out.size))
                 replace RI := Lib.hid (RI.out.below b5)
                 replace G := Lib.hid (G.out.below b5 G.out.1)
                 clear b5)
              | (go_at_call 35; refine (HTA2.out _ (HT.out.below KB.out hg) (Nat.lt_of_lt_of_le hg KB.out.size) (HE.out.below KB.out)).mono ?_; clear HTA2; rintro r w11 ⟨rfl, b5⟩
                 replace KB := Lib.hid (KB.out.trans (b5.mono KB.out.size))
                 replace RI := Lib.hid (RI.out.below b5)
                 replace G := Lib.hid (G.out.below b5 G.out.1)
                 clear b5))
          go_roundw
          case rel => exact ⟨k + 1, by omega, by go_num, RI.out, KB.out⟩
          case measure => simp [intOf]; omega
    · obtain rfl : k = m := by omega
      go_wp2_with (go_at_call 30; refine (alive14_any _).mono ?_; rintro r w3 ⟨rfl, b3⟩; have K3 := Lib.hid (K0.out.trans (b3.mono K0.out.size)); clear b3)
      go_ret
      exact ⟨rfl, K0.out⟩
theorem own : ownKnob Tryd.prog.godebug = none := by kernel_rfl
theorem laidOut : laidOutB Tryd.prog = true := by kernel_rfl
set_option maxRecDepth 100000 in
theorem contract (H : Type) (enc : TypeId × Value → H) (W : World) (base : Nat) (args : Array Value) (ds gs : List (DataW H)) (before : List MemPlace)
    (hval : ∀ (j : Nat) t v, Tryd.f9.params[j]? = some t → args[j]? = some v → Value.okWide Tryd.prog W .any base t v)
    (hW : DataW.Whole enc Tryd.prog Tryd.f9.params.toList Rows.taintVisibleSpec.vars false W args.toList ds gs before) (hL : laidMetH Tryd.prog Rows.taintVisibleRow.laid W) :
    Calls Tryd.prog 9 args W fun e W' => ∃ v, e = .returned v ∧ Rows.taintVisibleSpec.post enc Tryd.prog Tryd.f9 false true false false W args v W' := by
  have hW' := hW
  obtain ⟨p, q, hA0, hV, rfl, hfz, hnd⟩ := hW
  have hA : DataW.TrodAll enc Tryd.prog W 0 (fun _ => true) true Tryd.f9.params.toList args.toList ds p := hA0
  rw [Tryd.params9] at hA hval
  obtain ⟨v0, vs0, d0, ds0, p0, q0, hargs, rfl, rfl, h0, r0⟩ := trodAll_cons hA
  obtain ⟨rfl, rfl, rfl⟩ := trodAll_nil r0
  obtain rfl : args = #[v0] := by cases args; simp_all
  obtain ⟨rfl, rfl⟩ := trodVars_none hV
  have hlt := hW'.lt
  have k0 := h0
  obtain ⟨r_a, r_n, r_c, r, rfl, w_r_n, w_r_c, w_r_z, w_r, w_r_wf⟩ := arg_entries (hval 0 52 v0 rfl rfl) h0
  clear hA0
  simp only [List.append_nil] at hW'
  refine (walk r_a r_n r_c r w_r_n w_r_c w_r_z w_r_wf W w_r (table hL)).mono fun e W' ⟨he, bel⟩ => ?_
  subst he
  exact ⟨_, rfl, _, _, _, [], _, [], hW', trodAll_mk1 (shut_bool Tryd.underlying4 _), (trodAll_cons_mk (Below.trod laidOut (by kernel_rfl) (of_decide_eq_true (by kernel_rfl)) k0 bel (fun x hx => hlt x (by simp [hx]))) trodAll_mk0), rfl, bel.frame _, fun h => by cases h⟩

theorem laid_met (os : Os) : laidMet Tryd.prog Rows.taintVisibleRow.laid ((laidWorld os).forCall (fun _ _ => 0) ⟨#[], #[Value.slice none 0 0], []⟩).memory :=
  laidMet_of_run' 8 (by kernel_rfl) (by kernel_rfl)
theorem reads (os : Os) {H : Type} (enc : TypeId × Value → H) : ∃ places, DataW.whole enc Tryd.prog ((laidWorld os).forCall (fun _ _ => 0) ⟨#[], #[Value.slice none 0 0], []⟩).memory Tryd.f9.params.toList Rows.taintVisibleSpec.vars false #[Value.slice none 0 0].toList 8 = some ([.nil], [], places) :=
  ⟨[], by kernel_rfl⟩

set_option maxRecDepth 100000 in
theorem lifted (os : Os) (started : os.Started) (H : Type) (enc : TypeId × Value → H) (F : Stop.Interp) :
    ReturnsInHanded {} Tryd.checked os 9 .any ((OpenSpec.ofChange Rows.taintVisibleSpec).preRow enc Tryd.prog Tryd.f9 Rows.taintVisibleRow.domain false Rows.taintVisibleRow.laid) (((OpenSpec.ofChange Rows.taintVisibleSpec).at F).post enc Tryd.prog Tryd.f9 false true false false) := by
  obtain ⟨places, hx⟩ := reads os enc
  refine returnsInHanded_of_row (C := Tryd.checked) (s := OpenSpec.ofChange Rows.taintVisibleSpec) own started (by kernel_rfl) Tryd.func9
    (witness_row_at (enc := enc) (C := Tryd.checked) false (laidWorld os) #[Value.slice none 0 0] rfl (by kernel_rfl) (by kernel_rfl) (by kernel_rfl)
      (OpenSpec.preRow_of_cond 8 hx (by kernel_rfl) (fun k hk => by cases hk) (by kernel_rfl) (laid_met os))) ?_
  intro W base args ds gs before hval hW _ _ _ hL _ _
  exact contract H enc W base args ds gs before hval hW hL

theorem said : Rows.TaintVisibleSaid :=
  OpenClaim.holds_of_cond 9 Tryd.f9 rfl rfl rfl rfl rfl rfl rfl ⟨rfl, rfl, rfl, rfl, rfl⟩ rfl rfl rfl rfl rfl (by kernel_rfl) Tryd.func9 (by kernel_rfl)
    (of_decide_eq_true (by kernel_rfl)) (by unfold Func.isWrapper; first | (rw [if_pos (by decide +kernel)]; kernel_rfl) | (rw [if_neg (by decide +kernel)]; exact ⟨rfl, rfl⟩))
    (fun os started H enc _ F => by rw [OpenClaim.pre_eq_preRow]; exact lifted os started H enc F)

theorem plain (f : FuncId) (fn : Func) (hf : Tryd.pinned.checked.prog.funcNamed "auspex/auspexlaw14.TaintVisible" = some f) (hfn : Tryd.pinned.checked.prog.funcs[f]? = some fn) :
    false = Tryd.pinned.checked.prog.looks [] ∧ ∀ (j : Nat) t, fn.params[j]? = some t → Tryd.pinned.checked.prog.wantsStandIn t = false := by
  obtain rfl : f = 9 := Option.some.inj ((show Tryd.prog.funcNamed "auspex/auspexlaw14.TaintVisible" = some 9 by kernel_rfl).symm.trans hf) |>.symm
  obtain rfl : fn = Tryd.f9 := (Option.some.inj (Tryd.func9.symm.trans hfn)).symm
  refine ⟨by kernel_rfl, fun j t ht => ?_⟩
  rw [Tryd.params9] at ht
  have hm := Array.mem_of_getElem? ht
  simp only [List.mem_toArray, List.mem_cons, List.not_mem_nil, or_false] at hm
  obtain rfl := hm
  exact (show Tryd.prog.wantsStandIn 52 = false by kernel_rfl)

/-- THE CARD -/
theorem proved : Rows.TaintVisibleCardSaid :=
  Claim7.holds_tied_plain_at .later [] _ _ _ _ said (fun _ h => by cases h) (by kernel_rfl) (fun _ h => by cases h) taintVisible_row_tie rfl ⟨rfl, rfl⟩ (by kernel_rfl) rfl plain (by kernel_rfl)
#print axioms proved
end Go.Proofs.YtfekknalchjkiaaDoor.taintVisible
