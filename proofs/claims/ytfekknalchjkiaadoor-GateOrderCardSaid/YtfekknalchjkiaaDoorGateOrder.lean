/- Proved: the card of GateOrder (auspexlaw15): what may in the strict mode may in the other ones, and what may in the middle one may in the open one; the first entry may in each; as more entries are known, what may once still may; for every input; on the world that holds the table of instructions. -/
import Derived.Test.YtfekknalchjkiaaDoorCards
import Derived.Test.YtfekknalchjkiaaDoorTie
import Derived.Test.YtfekknalchjkiaaDoorMore
import Derived.Test.YtfekknalchjkiaaDoorExecLaid
import Derived.WalkKit
import Derived.ProofKit
import Derived.OpenShut
import Derived.Deep.DeepHandedRow
import Derived.Lib.LaidTab
namespace Go.Proofs.YtfekknalchjkiaaDoor.gateOrder
open Go.ChangeShapes Go.WideShapes Go.ChangeAt Go.RowKit Go.Sort
set_option linter.unusedVariables false
set_option linter.unusedSimpArgs false
set_option maxHeartbeats 6000000
set_option maxRecDepth 100000

theorem walk (A : Option Addr) (n c : Nat) (es : List En) (B : Option Addr) (nb cb : Nat) (ks : List Bool) (hn : n ≤ c) (hc : c ≤ maxLen) (hz : A = none → c = 0) (wf : ∀ s ∈ es, enOK s) (hnb : nb ≤ cb) (hcb : cb ≤ maxLen) (w : World) (hE : EntsAt w A n es) (hK : BoolsAt w B nb ks) (ht : TabIs w ∧ 0 < w.heap.size) :
    Calls Tryd.prog 12 #[.slice A n c, .slice B nb cb] w fun e w' => e = .returned (.bool true) ∧ Below w.heap.size w w' := by
  obtain ⟨htb, hg⟩ := ht
  clear wf
  have HT := Lib.hid htb
  have HC := Lib.hid hc
  have HCB := Lib.hid hcb
  have HZ := Lib.hid hz
  have HKS := Lib.hid hK
  have HW := Lib.hid (few15_any A n c hn hc)
  obtain ⟨m, hm⟩ : ∃ m, min n 20 = m := ⟨_, rfl⟩
  rw [hm] at HW
  have hmn : m ≤ n := by omega
  have hmc : m ≤ c := by omega
  have hm20 : m ≤ 20 := by omega
  obtain ⟨fs, hfs⟩ : ∃ l, es.take m = l := ⟨_, rfl⟩
  have hF := hE.take (m := m) hmn
  rw [hfs] at hF
  clear hE hfs hm hmn hn htb hc hz hcb hK
  have HL := hF.len
  have HE := Lib.hid hF
  clear hF
  have HMA := Lib.hid (fun mode i w' ht hg (h : EntsAt w' A m fs) => may_any mode A m c fs i hmc HC.out (by omega) w' ht hg h)
  have HOFF := Lib.hid (fun (i : Nat) (h : i < m) => may_off (es := fs) (i := i) (by omega))
  have HST := Lib.hid (fun (i : Nat) (h : i < m) => may_strict (es := fs) (i := i) (by omega))
  have HFI := Lib.hid (may_first fs)
  have HOUT := Lib.hid (may_out 0 fs)
  rw [HL] at HOUT
  go_enter Tryd.func12, Tryd.ntmps12
  go_wp2_with (first
    | (go_at_call 37; refine (HW.out _).mono ?_; rintro r w1 ⟨rfl, b1⟩
       have hbel := (Below.refl w1.heap.size w1).alloc (Nat.le_refl _) (.cells #[] 60)
       have K1 := Lib.hid b1
       have HB1 := Lib.hid hbel
       have HO := Lib.hid (World.ownsRow_made w1 (base := w1.heap.size) (e := 60) (size := 17) #[] 0 (Nat.le_refl _) (Nat.zero_le _) rfl)
       clear b1 hbel)
    | (at_builtin; refine wpList_append_ents rfl (.tmp 14) (.tmp 15) rfl w1.heap.size _ _ _ rfl HO.out A m c fs rfl ((HE.out.below K1.out).below HB1.out) HZ.out (by omega) (by simp) ?_; intro v2 w2 hown2 hgrow2; rw [List.nil_append, Nat.zero_add] at hown2; obtain ⟨A2, c2, rfl, hc1, hc2, hmo⟩ := more_own hown2 HL; have HM := Lib.hid hmo; have HB := Lib.hid (K1.out.trans ((HB1.out.grown hgrow2 (by simp) (fun k hk => (HO.out.lt k hk).1)).mono K1.out.size)); clear hown2 hgrow2 hmo))
  have HBA := Lib.hid K1.out.size
  generalize w1.heap.size = base at *
  clear K1 HB1 HO HW
  go_loopw [19] (fun i wr => ∃ (k : Nat) (gs : List En), k ≤ m ∧ i = .int .i64 k ∧ Rel fs gs ∧ MoreAt wr base A2 m gs ∧ Below w.heap.size w wr) (fun i _ => m - (intOf i).toNat)
  case atStart => exact ⟨0, fs, by omega, rfl, Rel.refl fs, HM.out, HB.out⟩
  case round =>
    clear HM HB
    obtain ⟨k, gs, hk, rfl, hr, hmo, hb⟩ := hrel
    have HR := Lib.hid hr
    have HM := Lib.hid hmo
    have HB := Lib.hid hb
    clear hr hmo hb
    by_cases hlt : k < m
    · by_cases hkb : k < nb
      · obtain ⟨a, rfl, hca⟩ := (HKS.out.below HB.out).at_ hkb
        obtain ⟨kb, hkv⟩ : ∃ b, ks.getD k false = b := ⟨_, rfl⟩
        rw [hkv] at hca
        clear hkv
        cases kb
        · go_wp2
          go_roundw
          case rel => exact ⟨k + 1, gs, by omega, by go_num, HR.out, HM.out, HB.out⟩
          case measure => simp [intOf]; omega
        · obtain ⟨e, he⟩ : ∃ e, gs[k]? = some e := ⟨_, List.getElem?_eq_getElem (by rw [HR.out.1]; omega)⟩
          obtain ⟨g, rfl, -, -, -⟩ := HM.out.2 (by omega)
          obtain ⟨z1, z2, z3⟩ := HM.out.known he
          have HR2 := Lib.hid (HR.out.set he)
          have HM2 := Lib.hid (HM.out.set he)
          have HB2 := Lib.hid (HB.out.setCell (p := ⟨g, k * 17 + 15, none⟩) (Nat.le_trans HBA.out z3) (.bool true))
          clear he
          go_wp2
          go_roundw
          case rel => exact ⟨k + 1, _, by omega, by go_num, HR2.out, HM2.out, HB2.out⟩
          case measure => simp [intOf]; omega
      · have d : decide ((k : Int) < nb) = false := decide_eq_false (by omega)
        have d' : decide (k < nb) = false := decide_eq_false hkb
        go_wp2
        go_roundw
        case rel => exact ⟨k + 1, gs, by omega, by go_num, HR.out, HM.out, HB.out⟩
        case measure => simp [intOf]; omega
    · obtain rfl : k = m := by omega
      have HGL := Lib.hid (show gs.length = k by rw [HR.out.1]; exact HL)
      have HMB := Lib.hid (fun mode i w' ht hg (h : EntsAt w' A2 k gs) => may_any mode A2 k c2 gs i hc1 hc2 (by omega) w' ht hg h)
      have HRM := Lib.hid (fun mode i => HR.out.may mode i)
      clear hlt HR HBA
      go_wp2
      go_loopw [39] (fun i wr => ∃ j : Nat, j ≤ k ∧ i = .int .i64 j ∧ MoreAt wr base A2 k gs ∧ Below w.heap.size w wr) (fun i _ => k - (intOf i).toNat)
      case atStart => exact ⟨0, by omega, rfl, HM.out, HB.out⟩
      case round =>
        clear HM HB
        obtain ⟨j, hj, rfl, hmo, hb⟩ := hrel
        have HM := Lib.hid hmo
        have HB := Lib.hid hb
        clear hmo hb
        by_cases hlt : j < k
        · have h0 := HOFF.out j hlt
          have hs := HST.out j hlt
          obtain ⟨m1, hm1⟩ : ∃ b, mayB 1 fs j = b := ⟨_, rfl⟩
          obtain ⟨m2, hm2⟩ : ∃ b, mayB 2 fs j = b := ⟨_, rfl⟩
          rw [hm1, hm2] at hs
          have hjz : m2 = false → (((j : Nat) : Int) == 0) = false := fun h => by
            rcases Nat.eq_zero_or_pos j with e | e
            · subst e
              have := HFI.out (by omega)
              rw [show ((0 : Nat) : Int) = 0 from rfl] at hm2
              rw [hm2, h] at this
              cases this
            · simp; omega
          have C0 := Lib.hid (HMA.out 0 (j : Int))
          have C1 := Lib.hid (HMA.out 1 (j : Int))
          have C2 := Lib.hid (HMA.out 2 (j : Int))
          rw [h0] at C0
          rw [hm1] at C1
          rw [hm2] at C2
          clear h0 hm1 hm2
          have hcase : (m2 = true ∧ m1 = true) ∨ (m2 = false) := by
            cases m2
            · exact Or.inr rfl
            · exact Or.inl ⟨rfl, hs rfl⟩
          clear hs
          rcases hcase with ⟨rfl, rfl⟩ | rfl
          · clear hjz
            rcases Bool.eq_false_or_eq_true (((j : Nat) : Int) == 0) with hj0 | hj0
            · go_wp2_with (first
                | (go_at_call 38; refine (C0.out _ (HT.out.below HB.out hg) (Nat.lt_of_lt_of_le hg HB.out.size) (HE.out.below HB.out)).mono ?_; clear C0; rintro r wa ⟨rfl, b⟩
                   replace HM := Lib.hid (HM.out.below b)
                   replace HB := Lib.hid (HB.out.trans (b.mono HB.out.size))
                   clear b)
                | (go_at_call 38; refine (C1.out _ (HT.out.below HB.out hg) (Nat.lt_of_lt_of_le hg HB.out.size) (HE.out.below HB.out)).mono ?_; clear C1; rintro r wb ⟨rfl, b⟩
                   replace HM := Lib.hid (HM.out.below b)
                   replace HB := Lib.hid (HB.out.trans (b.mono HB.out.size))
                   clear b)
                | (go_at_call 38; refine (C2.out _ (HT.out.below HB.out hg) (Nat.lt_of_lt_of_le hg HB.out.size) (HE.out.below HB.out)).mono ?_; clear C2; rintro r wc ⟨rfl, b⟩
                   replace HM := Lib.hid (HM.out.below b)
                   replace HB := Lib.hid (HB.out.trans (b.mono HB.out.size))
                   clear b))
              go_loopw [11] (fun i wr => ∃ q : Nat, q ≤ 3 ∧ i = .int .i64 q ∧ MoreAt wr base A2 k gs ∧ Below w.heap.size w wr) (fun i _ => 3 - (intOf i).toNat)
              case atStart => exact ⟨0, by omega, rfl, HM.out, HB.out⟩
              case round =>
                clear HM HB
                obtain ⟨q, hq, rfl, hmo, hb⟩ := hrel
                have HM := Lib.hid hmo
                have HB := Lib.hid hb
                clear hmo hb
                by_cases hq3 : q < 3
                · have d : decide ((q : Int) ≤ 2) = true := decide_eq_true (by omega)
                  have D1 := Lib.hid (HMA.out (q : Int) (j : Int))
                  have D2 := Lib.hid (HMB.out (q : Int) (j : Int))
                  have hrm := HRM.out (q : Int) (j : Int)
                  obtain ⟨p1, hp1⟩ : ∃ b, mayB (q : Int) fs j = b := ⟨_, rfl⟩
                  obtain ⟨p2, hp2⟩ : ∃ b, mayB (q : Int) gs j = b := ⟨_, rfl⟩
                  rw [hp1] at D1 hrm
                  rw [hp2] at D2 hrm
                  clear hp1 hp2
                  cases p1
                  · clear hrm
                    go_wp2_with (first
                      | (go_at_call 38; refine (D1.out _ (HT.out.below HB.out hg) (Nat.lt_of_lt_of_le hg HB.out.size) (HE.out.below HB.out)).mono ?_; clear D1; rintro r wa ⟨rfl, b⟩
                         replace HM := Lib.hid (HM.out.below b)
                         replace HB := Lib.hid (HB.out.trans (b.mono HB.out.size))
                         clear b))
                    go_roundw
                    case rel => exact ⟨q + 1, by omega, by go_num, HM.out, HB.out⟩
                    case measure => simp [intOf]; omega
                  · have hp := hrm rfl
                    subst hp
                    clear hrm
                    go_wp2_with (first
                      | (go_at_call 38; refine (D1.out _ (HT.out.below HB.out hg) (Nat.lt_of_lt_of_le hg HB.out.size) (HE.out.below HB.out)).mono ?_; clear D1; rintro r wa ⟨rfl, b⟩
                         replace HM := Lib.hid (HM.out.below b)
                         replace HB := Lib.hid (HB.out.trans (b.mono HB.out.size))
                         clear b)
                      | (go_at_call 38; refine (D2.out _ (HT.out.below HB.out hg) (Nat.lt_of_lt_of_le hg HB.out.size) HM.out.1).mono ?_; clear D2; rintro r wb ⟨rfl, b⟩
                         replace HM := Lib.hid (HM.out.below b)
                         replace HB := Lib.hid (HB.out.trans (b.mono HB.out.size))
                         clear b))
                    go_roundw
                    case rel => exact ⟨q + 1, by omega, by go_num, HM.out, HB.out⟩
                    case measure => simp [intOf]; omega
                · obtain rfl : q = 3 := by omega
                  go_wp2
                  go_roundw
                  case rel => exact ⟨j + 1, by omega, by go_num, HM.out, HB.out⟩
                  case measure => simp [intOf]; omega
            · go_wp2_with (first
                | (go_at_call 38; refine (C0.out _ (HT.out.below HB.out hg) (Nat.lt_of_lt_of_le hg HB.out.size) (HE.out.below HB.out)).mono ?_; clear C0; rintro r wa ⟨rfl, b⟩
                   replace HM := Lib.hid (HM.out.below b)
                   replace HB := Lib.hid (HB.out.trans (b.mono HB.out.size))
                   clear b)
                | (go_at_call 38; refine (C1.out _ (HT.out.below HB.out hg) (Nat.lt_of_lt_of_le hg HB.out.size) (HE.out.below HB.out)).mono ?_; clear C1; rintro r wb ⟨rfl, b⟩
                   replace HM := Lib.hid (HM.out.below b)
                   replace HB := Lib.hid (HB.out.trans (b.mono HB.out.size))
                   clear b)
                | (go_at_call 38; refine (C2.out _ (HT.out.below HB.out hg) (Nat.lt_of_lt_of_le hg HB.out.size) (HE.out.below HB.out)).mono ?_; clear C2; rintro r wc ⟨rfl, b⟩
                   replace HM := Lib.hid (HM.out.below b)
                   replace HB := Lib.hid (HB.out.trans (b.mono HB.out.size))
                   clear b))
              go_loopw [11] (fun i wr => ∃ q : Nat, q ≤ 3 ∧ i = .int .i64 q ∧ MoreAt wr base A2 k gs ∧ Below w.heap.size w wr) (fun i _ => 3 - (intOf i).toNat)
              case atStart => exact ⟨0, by omega, rfl, HM.out, HB.out⟩
              case round =>
                clear HM HB
                obtain ⟨q, hq, rfl, hmo, hb⟩ := hrel
                have HM := Lib.hid hmo
                have HB := Lib.hid hb
                clear hmo hb
                by_cases hq3 : q < 3
                · have d : decide ((q : Int) ≤ 2) = true := decide_eq_true (by omega)
                  have D1 := Lib.hid (HMA.out (q : Int) (j : Int))
                  have D2 := Lib.hid (HMB.out (q : Int) (j : Int))
                  have hrm := HRM.out (q : Int) (j : Int)
                  obtain ⟨p1, hp1⟩ : ∃ b, mayB (q : Int) fs j = b := ⟨_, rfl⟩
                  obtain ⟨p2, hp2⟩ : ∃ b, mayB (q : Int) gs j = b := ⟨_, rfl⟩
                  rw [hp1] at D1 hrm
                  rw [hp2] at D2 hrm
                  clear hp1 hp2
                  cases p1
                  · clear hrm
                    go_wp2_with (first
                      | (go_at_call 38; refine (D1.out _ (HT.out.below HB.out hg) (Nat.lt_of_lt_of_le hg HB.out.size) (HE.out.below HB.out)).mono ?_; clear D1; rintro r wa ⟨rfl, b⟩
                         replace HM := Lib.hid (HM.out.below b)
                         replace HB := Lib.hid (HB.out.trans (b.mono HB.out.size))
                         clear b))
                    go_roundw
                    case rel => exact ⟨q + 1, by omega, by go_num, HM.out, HB.out⟩
                    case measure => simp [intOf]; omega
                  · have hp := hrm rfl
                    subst hp
                    clear hrm
                    go_wp2_with (first
                      | (go_at_call 38; refine (D1.out _ (HT.out.below HB.out hg) (Nat.lt_of_lt_of_le hg HB.out.size) (HE.out.below HB.out)).mono ?_; clear D1; rintro r wa ⟨rfl, b⟩
                         replace HM := Lib.hid (HM.out.below b)
                         replace HB := Lib.hid (HB.out.trans (b.mono HB.out.size))
                         clear b)
                      | (go_at_call 38; refine (D2.out _ (HT.out.below HB.out hg) (Nat.lt_of_lt_of_le hg HB.out.size) HM.out.1).mono ?_; clear D2; rintro r wb ⟨rfl, b⟩
                         replace HM := Lib.hid (HM.out.below b)
                         replace HB := Lib.hid (HB.out.trans (b.mono HB.out.size))
                         clear b))
                    go_roundw
                    case rel => exact ⟨q + 1, by omega, by go_num, HM.out, HB.out⟩
                    case measure => simp [intOf]; omega
                · obtain rfl : q = 3 := by omega
                  go_wp2
                  go_roundw
                  case rel => exact ⟨j + 1, by omega, by go_num, HM.out, HB.out⟩
                  case measure => simp [intOf]; omega
          · have hjz := hjz rfl
            cases m1
            · go_wp2_with (first
                | (go_at_call 38; refine (C0.out _ (HT.out.below HB.out hg) (Nat.lt_of_lt_of_le hg HB.out.size) (HE.out.below HB.out)).mono ?_; clear C0; rintro r wa ⟨rfl, b⟩
                   replace HM := Lib.hid (HM.out.below b)
                   replace HB := Lib.hid (HB.out.trans (b.mono HB.out.size))
                   clear b)
                | (go_at_call 38; refine (C1.out _ (HT.out.below HB.out hg) (Nat.lt_of_lt_of_le hg HB.out.size) (HE.out.below HB.out)).mono ?_; clear C1; rintro r wb ⟨rfl, b⟩
                   replace HM := Lib.hid (HM.out.below b)
                   replace HB := Lib.hid (HB.out.trans (b.mono HB.out.size))
                   clear b)
                | (go_at_call 38; refine (C2.out _ (HT.out.below HB.out hg) (Nat.lt_of_lt_of_le hg HB.out.size) (HE.out.below HB.out)).mono ?_; clear C2; rintro r wc ⟨rfl, b⟩
                   replace HM := Lib.hid (HM.out.below b)
                   replace HB := Lib.hid (HB.out.trans (b.mono HB.out.size))
                   clear b))
              go_loopw [11] (fun i wr => ∃ q : Nat, q ≤ 3 ∧ i = .int .i64 q ∧ MoreAt wr base A2 k gs ∧ Below w.heap.size w wr) (fun i _ => 3 - (intOf i).toNat)
              case atStart => exact ⟨0, by omega, rfl, HM.out, HB.out⟩
              case round =>
                clear HM HB
                obtain ⟨q, hq, rfl, hmo, hb⟩ := hrel
                have HM := Lib.hid hmo
                have HB := Lib.hid hb
                clear hmo hb
                by_cases hq3 : q < 3
                · have d : decide ((q : Int) ≤ 2) = true := decide_eq_true (by omega)
                  have D1 := Lib.hid (HMA.out (q : Int) (j : Int))
                  have D2 := Lib.hid (HMB.out (q : Int) (j : Int))
                  have hrm := HRM.out (q : Int) (j : Int)
                  obtain ⟨p1, hp1⟩ : ∃ b, mayB (q : Int) fs j = b := ⟨_, rfl⟩
                  obtain ⟨p2, hp2⟩ : ∃ b, mayB (q : Int) gs j = b := ⟨_, rfl⟩
                  rw [hp1] at D1 hrm
                  rw [hp2] at D2 hrm
                  clear hp1 hp2
                  cases p1
                  · clear hrm
                    go_wp2_with (first
                      | (go_at_call 38; refine (D1.out _ (HT.out.below HB.out hg) (Nat.lt_of_lt_of_le hg HB.out.size) (HE.out.below HB.out)).mono ?_; clear D1; rintro r wa ⟨rfl, b⟩
                         replace HM := Lib.hid (HM.out.below b)
                         replace HB := Lib.hid (HB.out.trans (b.mono HB.out.size))
                         clear b))
                    go_roundw
                    case rel => exact ⟨q + 1, by omega, by go_num, HM.out, HB.out⟩
                    case measure => simp [intOf]; omega
                  · have hp := hrm rfl
                    subst hp
                    clear hrm
                    go_wp2_with (first
                      | (go_at_call 38; refine (D1.out _ (HT.out.below HB.out hg) (Nat.lt_of_lt_of_le hg HB.out.size) (HE.out.below HB.out)).mono ?_; clear D1; rintro r wa ⟨rfl, b⟩
                         replace HM := Lib.hid (HM.out.below b)
                         replace HB := Lib.hid (HB.out.trans (b.mono HB.out.size))
                         clear b)
                      | (go_at_call 38; refine (D2.out _ (HT.out.below HB.out hg) (Nat.lt_of_lt_of_le hg HB.out.size) HM.out.1).mono ?_; clear D2; rintro r wb ⟨rfl, b⟩
                         replace HM := Lib.hid (HM.out.below b)
                         replace HB := Lib.hid (HB.out.trans (b.mono HB.out.size))
                         clear b))
                    go_roundw
                    case rel => exact ⟨q + 1, by omega, by go_num, HM.out, HB.out⟩
                    case measure => simp [intOf]; omega
                · obtain rfl : q = 3 := by omega
                  go_wp2
                  go_roundw
                  case rel => exact ⟨j + 1, by omega, by go_num, HM.out, HB.out⟩
                  case measure => simp [intOf]; omega
            · go_wp2_with (first
                | (go_at_call 38; refine (C0.out _ (HT.out.below HB.out hg) (Nat.lt_of_lt_of_le hg HB.out.size) (HE.out.below HB.out)).mono ?_; clear C0; rintro r wa ⟨rfl, b⟩
                   replace HM := Lib.hid (HM.out.below b)
                   replace HB := Lib.hid (HB.out.trans (b.mono HB.out.size))
                   clear b)
                | (go_at_call 38; refine (C1.out _ (HT.out.below HB.out hg) (Nat.lt_of_lt_of_le hg HB.out.size) (HE.out.below HB.out)).mono ?_; clear C1; rintro r wb ⟨rfl, b⟩
                   replace HM := Lib.hid (HM.out.below b)
                   replace HB := Lib.hid (HB.out.trans (b.mono HB.out.size))
                   clear b)
                | (go_at_call 38; refine (C2.out _ (HT.out.below HB.out hg) (Nat.lt_of_lt_of_le hg HB.out.size) (HE.out.below HB.out)).mono ?_; clear C2; rintro r wc ⟨rfl, b⟩
                   replace HM := Lib.hid (HM.out.below b)
                   replace HB := Lib.hid (HB.out.trans (b.mono HB.out.size))
                   clear b))
              go_loopw [11] (fun i wr => ∃ q : Nat, q ≤ 3 ∧ i = .int .i64 q ∧ MoreAt wr base A2 k gs ∧ Below w.heap.size w wr) (fun i _ => 3 - (intOf i).toNat)
              case atStart => exact ⟨0, by omega, rfl, HM.out, HB.out⟩
              case round =>
                clear HM HB
                obtain ⟨q, hq, rfl, hmo, hb⟩ := hrel
                have HM := Lib.hid hmo
                have HB := Lib.hid hb
                clear hmo hb
                by_cases hq3 : q < 3
                · have d : decide ((q : Int) ≤ 2) = true := decide_eq_true (by omega)
                  have D1 := Lib.hid (HMA.out (q : Int) (j : Int))
                  have D2 := Lib.hid (HMB.out (q : Int) (j : Int))
                  have hrm := HRM.out (q : Int) (j : Int)
                  obtain ⟨p1, hp1⟩ : ∃ b, mayB (q : Int) fs j = b := ⟨_, rfl⟩
                  obtain ⟨p2, hp2⟩ : ∃ b, mayB (q : Int) gs j = b := ⟨_, rfl⟩
                  rw [hp1] at D1 hrm
                  rw [hp2] at D2 hrm
                  clear hp1 hp2
                  cases p1
                  · clear hrm
                    go_wp2_with (first
                      | (go_at_call 38; refine (D1.out _ (HT.out.below HB.out hg) (Nat.lt_of_lt_of_le hg HB.out.size) (HE.out.below HB.out)).mono ?_; clear D1; rintro r wa ⟨rfl, b⟩
                         replace HM := Lib.hid (HM.out.below b)
                         replace HB := Lib.hid (HB.out.trans (b.mono HB.out.size))
                         clear b))
                    go_roundw
                    case rel => exact ⟨q + 1, by omega, by go_num, HM.out, HB.out⟩
                    case measure => simp [intOf]; omega
                  · have hp := hrm rfl
                    subst hp
                    clear hrm
                    go_wp2_with (first
                      | (go_at_call 38; refine (D1.out _ (HT.out.below HB.out hg) (Nat.lt_of_lt_of_le hg HB.out.size) (HE.out.below HB.out)).mono ?_; clear D1; rintro r wa ⟨rfl, b⟩
                         replace HM := Lib.hid (HM.out.below b)
                         replace HB := Lib.hid (HB.out.trans (b.mono HB.out.size))
                         clear b)
                      | (go_at_call 38; refine (D2.out _ (HT.out.below HB.out hg) (Nat.lt_of_lt_of_le hg HB.out.size) HM.out.1).mono ?_; clear D2; rintro r wb ⟨rfl, b⟩
                         replace HM := Lib.hid (HM.out.below b)
                         replace HB := Lib.hid (HB.out.trans (b.mono HB.out.size))
                         clear b))
                    go_roundw
                    case rel => exact ⟨q + 1, by omega, by go_num, HM.out, HB.out⟩
                    case measure => simp [intOf]; omega
                · obtain rfl : q = 3 := by omega
                  go_wp2
                  go_roundw
                  case rel => exact ⟨j + 1, by omega, by go_num, HM.out, HB.out⟩
                  case measure => simp [intOf]; omega
        · obtain rfl : j = k := by omega
          have HO2 := Lib.hid (HMA.out 0 (j : Int))
          rw [HOUT.out] at HO2
          go_wp2_with (first
            | (go_at_call 39; refine (alive15_any _).mono ?_; rintro r w3 ⟨rfl, b⟩; have K3 := Lib.hid (HB.out.trans (b.mono HB.out.size)); clear b)
            | (go_at_call 38; refine (HO2.out _ (HT.out.below K3.out hg) (Nat.lt_of_lt_of_le hg K3.out.size) (HE.out.below K3.out)).mono ?_; rintro r w4 ⟨rfl, b⟩; have K4 := Lib.hid (K3.out.trans (b.mono K3.out.size)); clear b))
          go_ret
          exact ⟨rfl, K4.out⟩
theorem own : ownKnob Tryd.prog.godebug = none := by kernel_rfl
theorem laidOut : laidOutB Tryd.prog = true := by kernel_rfl
set_option maxRecDepth 100000 in
theorem contract (H : Type) (enc : TypeId × Value → H) (W : World) (base : Nat) (args : Array Value) (ds gs : List (DataW H)) (before : List MemPlace)
    (hval : ∀ (j : Nat) t v, Tryd.f12.params[j]? = some t → args[j]? = some v → Value.okWide Tryd.prog W .any base t v)
    (hW : DataW.Whole enc Tryd.prog Tryd.f12.params.toList Rows.gateOrderSpec.vars false W args.toList ds gs before) (hL : laidMetH Tryd.prog Rows.gateOrderRow.laid W) :
    Calls Tryd.prog 12 args W fun e W' => ∃ v, e = .returned v ∧ Rows.gateOrderSpec.post enc Tryd.prog Tryd.f12 false true false false W args v W' := by
  have hW' := hW
  obtain ⟨p, q, hA0, hV, rfl, hfz, hnd⟩ := hW
  have hA : DataW.TrodAll enc Tryd.prog W 0 (fun _ => true) true Tryd.f12.params.toList args.toList ds p := hA0
  rw [Tryd.params12] at hA hval
  obtain ⟨v0, vs0, d0, ds0, p0, q0, hargs, rfl, rfl, h0, r0⟩ := trodAll_cons hA
  obtain ⟨v1, vs1, d1, ds1, p1, q1, rfl, rfl, rfl, h1, r1⟩ := trodAll_cons r0
  obtain ⟨rfl, rfl, rfl⟩ := trodAll_nil r1
  obtain rfl : args = #[v0, v1] := by cases args; simp_all
  obtain ⟨rfl, rfl⟩ := trodVars_none hV
  have hlt := hW'.lt
  have k0 := h0
  obtain ⟨r_a, r_n, r_c, r, rfl, w_r_n, w_r_c, w_r_z, w_r, w_r_wf⟩ := arg_entries (hval 0 52 v0 rfl rfl) h0
  have k1 := h1
  obtain ⟨k_a, k_n, k_c, k, rfl, w_k_n, w_k_c, w_k⟩ := arg_bools Tryd.underlying67 Tryd.underlying4 (by kernel_rfl) (hval 1 67 v1 rfl rfl) h1
  clear hA0
  simp only [List.append_nil] at hW'
  refine (walk r_a r_n r_c r k_a k_n k_c k w_r_n w_r_c w_r_z w_r_wf w_k_n w_k_c W w_r w_k (table hL)).mono fun e W' ⟨he, bel⟩ => ?_
  subst he
  exact ⟨_, rfl, _, _, _, [], _, [], hW', trodAll_mk1 (shut_bool Tryd.underlying4 _), (trodAll_cons_mk (Below.trod laidOut (by kernel_rfl) (of_decide_eq_true (by kernel_rfl)) k0 bel (fun x hx => hlt x (by simp [hx]))) (trodAll_cons_mk (Below.trod laidOut (by kernel_rfl) (of_decide_eq_true (by kernel_rfl)) k1 bel (fun x hx => hlt x (by simp [hx]))) trodAll_mk0)), rfl, bel.frame _, fun h => by cases h⟩

theorem laid_met (os : Os) : laidMet Tryd.prog Rows.gateOrderRow.laid ((laidWorld os).forCall (fun _ _ => 0) ⟨#[], #[Value.slice none 0 0, Value.slice none 0 0], []⟩).memory :=
  laidMet_of_run' 8 (by kernel_rfl) (by kernel_rfl)
theorem reads (os : Os) {H : Type} (enc : TypeId × Value → H) : ∃ places, DataW.whole enc Tryd.prog ((laidWorld os).forCall (fun _ _ => 0) ⟨#[], #[Value.slice none 0 0, Value.slice none 0 0], []⟩).memory Tryd.f12.params.toList Rows.gateOrderSpec.vars false #[Value.slice none 0 0, Value.slice none 0 0].toList 8 = some ([.nil, .nil], [], places) :=
  ⟨[], by kernel_rfl⟩

set_option maxRecDepth 100000 in
theorem lifted (os : Os) (started : os.Started) (H : Type) (enc : TypeId × Value → H) (F : Stop.Interp) :
    ReturnsInHanded {} Tryd.checked os 12 .any ((OpenSpec.ofChange Rows.gateOrderSpec).preRow enc Tryd.prog Tryd.f12 Rows.gateOrderRow.domain false Rows.gateOrderRow.laid) (((OpenSpec.ofChange Rows.gateOrderSpec).at F).post enc Tryd.prog Tryd.f12 false true false false) := by
  obtain ⟨places, hx⟩ := reads os enc
  refine returnsInHanded_of_row (C := Tryd.checked) (s := OpenSpec.ofChange Rows.gateOrderSpec) own started (by kernel_rfl) Tryd.func12
    (witness_row_at (enc := enc) (C := Tryd.checked) false (laidWorld os) #[Value.slice none 0 0, Value.slice none 0 0] rfl (by kernel_rfl) (by kernel_rfl) (by kernel_rfl)
      (OpenSpec.preRow_of_cond 8 hx (by kernel_rfl) (fun k hk => by cases hk) (by kernel_rfl) (laid_met os))) ?_
  intro W base args ds gs before hval hW _ _ _ hL _ _
  exact contract H enc W base args ds gs before hval hW hL

theorem said : Rows.GateOrderSaid :=
  OpenClaim.holds_of_cond 12 Tryd.f12 rfl rfl rfl rfl rfl rfl rfl ⟨rfl, rfl, rfl, rfl, rfl⟩ rfl rfl rfl rfl rfl (by kernel_rfl) Tryd.func12 (by kernel_rfl)
    (of_decide_eq_true (by kernel_rfl)) (by unfold Func.isWrapper; first | (rw [if_pos (by decide +kernel)]; kernel_rfl) | (rw [if_neg (by decide +kernel)]; exact ⟨rfl, rfl⟩))
    (fun os started H enc _ F => by rw [OpenClaim.pre_eq_preRow]; exact lifted os started H enc F)

theorem plain (f : FuncId) (fn : Func) (hf : Tryd.pinned.checked.prog.funcNamed "auspex/auspexlaw15.GateOrder" = some f) (hfn : Tryd.pinned.checked.prog.funcs[f]? = some fn) :
    false = Tryd.pinned.checked.prog.looks [] ∧ ∀ (j : Nat) t, fn.params[j]? = some t → Tryd.pinned.checked.prog.wantsStandIn t = false := by
  obtain rfl : f = 12 := Option.some.inj ((show Tryd.prog.funcNamed "auspex/auspexlaw15.GateOrder" = some 12 by kernel_rfl).symm.trans hf) |>.symm
  obtain rfl : fn = Tryd.f12 := (Option.some.inj (Tryd.func12.symm.trans hfn)).symm
  refine ⟨by kernel_rfl, fun j t ht => ?_⟩
  rw [Tryd.params12] at ht
  have hm := Array.mem_of_getElem? ht
  simp only [List.mem_toArray, List.mem_cons, List.not_mem_nil, or_false] at hm
  rcases hm with rfl | rfl
  · exact (show Tryd.prog.wantsStandIn 52 = false by kernel_rfl)
  · exact (show Tryd.prog.wantsStandIn 67 = false by kernel_rfl)

/-- THE CARD -/
theorem proved : Rows.GateOrderCardSaid :=
  Claim7.holds_tied_plain_at .later [] _ _ _ _ said (fun _ h => by cases h) (by kernel_rfl) (fun _ h => by cases h) gateOrder_row_tie rfl ⟨rfl, rfl⟩ (by kernel_rfl) rfl plain (by kernel_rfl)
#print axioms proved
end Go.Proofs.YtfekknalchjkiaaDoor.gateOrder
