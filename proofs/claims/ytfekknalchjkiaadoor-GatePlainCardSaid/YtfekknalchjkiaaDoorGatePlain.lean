/- Proved: the card of GatePlain (auspexlaw15): what does not tell may in each mode; what reads no register may in the middle one; what is visible may in each; for every input; on the world that holds the table of instructions. -/
import Derived.Test.YtfekknalchjkiaaDoorCards
import Derived.Test.YtfekknalchjkiaaDoorTie
import Derived.Test.YtfekknalchjkiaaDoorTaintN
import Derived.Test.YtfekknalchjkiaaDoorRef14
import Derived.Test.YtfekknalchjkiaaDoorExecLaid
import Derived.WalkKit
import Derived.ProofKit
import Derived.OpenShut
import Derived.Deep.DeepHandedRow
import Derived.Lib.LaidTab
namespace Go.Proofs.YtfekknalchjkiaaDoor.gatePlain
open Go.ChangeShapes Go.WideShapes Go.ChangeAt Go.RowKit Go.Sort
set_option linter.unusedVariables false
set_option linter.unusedSimpArgs false
set_option maxHeartbeats 6000000
set_option maxRecDepth 100000

theorem may_quiet {es : List En} {i : Nat} {e : En} (he : es[i]? = some e) (h : tellB e = false) (mode : Int) : mayB mode es i = true := by
  have hi := (List.getElem?_eq_some_iff.1 he).1
  unfold mayB
  rw [if_neg (by omega), Int.toNat_natCast, he]
  simp [h]
theorem may_three {es : List En} {i : Nat} {e : En} (he : es[i]? = some e) (h : tellB e = true) : mayB 3 es i = false := by
  have hi := (List.getElem?_eq_some_iff.1 he).1
  unfold mayB
  rw [if_neg (by omega), Int.toNat_natCast, he]
  simp [h]
theorem may_seen {es : List En} {i : Nat} (hi : i < es.length) (h : i ≤ frontN es) (q : Nat) (hq : q < 3) : mayB (q : Int) es i = true := by
  unfold mayB
  obtain ⟨e, he⟩ : ∃ e, es[i]? = some e := ⟨_, List.getElem?_eq_getElem hi⟩
  rw [if_neg (by omega), Int.toNat_natCast, he]
  simp only
  by_cases ht : tellB e = false
  · rw [if_pos ht]
  · rw [if_neg ht]
    have hx : (needL e).any (taintB es (i : Int)) = false := by
      cases hx : (needL e).any (taintB es (i : Int))
      · rfl
      · obtain ⟨x, hx1, hx2⟩ := List.any_eq_true.1 hx
        rw [taint_seen es i x (by omega) h] at hx2
        cases hx2
    obtain rfl | rfl | rfl : q = 0 ∨ q = 1 ∨ q = 2 := by omega
    · simp
    · simp [hx]
    · simp; omega
theorem may_zero {es : List En} {i : Nat} {e : En} (he : es[i]? = some e) (hz : ∀ y ∈ needL e, y = 0) : mayB 1 es i = true := by
  have hi := (List.getElem?_eq_some_iff.1 he).1
  unfold mayB
  rw [if_neg (by omega), Int.toNat_natCast, he]
  simp only
  by_cases ht : tellB e = false
  · rw [if_pos ht]
  · rw [if_neg ht]
    have hx : (needL e).any (taintB es (i : Int)) = false := by
      cases hx : (needL e).any (taintB es (i : Int))
      · rfl
      · obtain ⟨x, hx1, hx2⟩ := List.any_eq_true.1 hx
        have hx0 := hz x hx1
        subst hx0
        have : makI es (i : Int) 0 = -1 := by unfold makI isW; simp
        unfold taintB at hx2
        rw [this] at hx2
        simp at hx2
    simp [hx]

theorem walk (A : Option Addr) (n c : Nat) (es : List En) (hn : n ≤ c) (hc : c ≤ maxLen) (hz : A = none → c = 0) (wf : ∀ s ∈ es, enOK s) (w : World) (hE : EntsAt w A n es) (ht : TabIs w ∧ 0 < w.heap.size) :
    Calls Tryd.prog 13 #[.slice A n c] w fun e w' => e = .returned (.bool true) ∧ Below w.heap.size w w' := by
  obtain ⟨htb, hg⟩ := ht
  clear wf hz
  have HT := Lib.hid htb
  have HC := Lib.hid hc
  have HW := Lib.hid (few15_any A n c hn hc)
  obtain ⟨m, hm⟩ : ∃ m, min n 20 = m := ⟨_, rfl⟩
  rw [hm] at HW
  have hmn : m ≤ n := by omega
  have hmc : m ≤ c := by omega
  have hm20 : m ≤ 20 := by omega
  obtain ⟨fs, hfs⟩ : ∃ l, es.take m = l := ⟨_, rfl⟩
  have hF := hE.take (m := m) hmn
  rw [hfs] at hF
  clear hE hfs hm hmn hn htb hc
  have HL := hF.len
  have HE := Lib.hid hF
  clear hF
  have HMA := Lib.hid (fun mode i w' ht hg (h : EntsAt w' A m fs) => may_any mode A m c fs i hmc HC.out (by omega) w' ht hg h)
  have HRV := Lib.hid (fun (i : Nat) hi w' (h : EntsAt w' A m fs) => refVisible_any A m c fs i hi hmc HC.out w' h)
  go_enter Tryd.func13, Tryd.ntmps13
  go_wp2_with (go_at_call 37; refine (HW.out _).mono ?_; rintro r w1 ⟨rfl, b1⟩; have K1 := Lib.hid b1; clear b1)
  clear HW
  go_loopw [14] (fun v wr => ∃ k : Nat, k ≤ m ∧ v = .int .i64 k ∧ Below w.heap.size w wr) (fun v _ => m - (intOf v).toNat)
  case atStart => exact ⟨0, by omega, rfl, K1.out⟩
  case round =>
    clear K1
    obtain ⟨k, hk, rfl, hb⟩ := hrel
    have K0 := Lib.hid hb
    clear hb
    by_cases hlt : k < m
    · obtain ⟨e, he⟩ : ∃ e, fs[k]? = some e := ⟨_, List.getElem?_eq_getElem (by omega)⟩
      obtain ⟨a, rfl, hal, hcell⟩ := (HE.out.below K0.out).at_ he
      have HTE := Lib.hid (fun w => tells_any e w)
      have HNE := Lib.hid (fun w => needs_any e w)
      have HVI := Lib.hid (HRV.out k (by omega))
      have hnl := needL_len e
      have hmq := fun h => may_quiet he h
      have hm3 := fun h => may_three he h
      have hms := fun (h : k ≤ frontN fs) => may_seen (es := fs) (i := k) (by omega) h
      have hmz := fun h => may_zero he h
      obtain ⟨tb, htb⟩ : ∃ b, tellB e = b := ⟨_, rfl⟩
      rw [htb] at HTE hmq hm3
      have HM3 := Lib.hid hm3
      obtain ⟨vb, hvb⟩ : ∃ b, decide (k ≤ frontN fs) = b := ⟨_, rfl⟩
      rw [hvb] at HVI
      obtain ⟨L, hL⟩ : ∃ L, needL e = L := ⟨_, rfl⟩
      rw [hL] at HNE hnl hmz
      unfold enV at HTE HNE
      have HMQ := Lib.hid hmq
      have HMS := Lib.hid (fun (h : vb = true) => hms (of_decide_eq_true (hvb.trans h)))
      have HMZ := Lib.hid hmz
      obtain ⟨cs, hcs⟩ : ∃ cs, enC e = cs := ⟨_, rfl⟩
      have h17 : cs.length = 17 := by rw [← hcs]; rfl
      have h1 : cs.toArray.all (·.oneCell') = true := by rw [← hcs]; exact enC_one e
      rw [hcs] at HTE HNE hcell
      have HX := Lib.hid hcell
      have HI := Lib.hid (show (Tryd.prog.info? 60).map (·.size) = some cs.length by rw [h17]; exact ent_info)
      have HA := Lib.hid h1
      have HZ := Lib.hid h17
      clear hcell h1 h17 hcs hmq hm3 hms hmz htb hvb hL he
      go_wp2_with (first
        | (refine wpList_load_row rfl 60 (.tmp 17) rfl _ rfl cs _ HX.out Tryd.underlying60 rfl HI.out ?_)
        | (refine wpList_store_new rfl 60 (.tmp 4) (.tmp 18) rfl wr.heap.size rfl _ cs _ rfl rfl HZ.out.symm HI.out HA.out ?_; intro W4 hb4 hB4 hs4
           have G := Lib.hid hB4
           have HB := Lib.hid (K0.out.trans (hb4.mono K0.out.size))
           clear hb4 hB4 hs4)
        | (refine wpList_load_mid rfl 60 (.tmp 4) rfl wr.heap.size 0 rfl cs _ G.out.range Tryd.underlying60 rfl HI.out ?_)
        | (go_at_call 40; refine (HNE.out _).mono ?_; rintro r w2 ⟨BN, rfl, hz, b⟩
           replace HB := Lib.hid (HB.out.trans (b.mono HB.out.size))
           replace G := Lib.hid (G.out.below b G.out.1)
           clear b
           have NZ := Lib.hid hz
           clear hz))
      obtain ⟨EB, hEB⟩ : ∃ EB, wr.heap.size = EB := ⟨_, rfl⟩
      rw [hEB] at G ⊢
      clear hEB HX HA HZ HNE K0
      have HNL := Lib.hid NZ.out.1
      go_loopw [5, 22] (fun z v wr => ∃ (j : Nat) (zb : Bool), j ≤ L.length ∧ v = .int .i64 j ∧ z = .bool zb ∧ (zb = true → ∀ y ∈ L.take j, y = 0) ∧ IntsAt wr BN L.length .i64 L ∧ Blk wr EB cs ∧ Below w.heap.size w wr) (fun _ v _ => L.length - (intOf v).toNat)
      case atStart => exact ⟨0, true, by omega, rfl, rfl, by simp, NZ.out, G.out, HB.out⟩
      case round =>
        clear NZ G HB
        obtain ⟨j, zb, hj, rfl, rfl, hzb, nz, g, hb⟩ := hrel
        have NZ := Lib.hid nz
        have G := Lib.hid g
        have HB := Lib.hid hb
        have HZB := Lib.hid hzb
        clear nz g hb hzb
        by_cases hjl : j < L.length
        · obtain ⟨x, hx⟩ : ∃ x, L[j]? = some x := ⟨_, List.getElem?_eq_getElem hjl⟩
          obtain ⟨aN, rfl, hcx⟩ := NZ.out.at_ hjl
          rw [List.getD_eq_getElem?_getD, hx] at hcx
          simp only [Option.getD_some] at hcx
          have HXJ := Lib.hid hx
          clear hx
          cases zb
          · go_wp2
            go_roundw
            case rel => exact ⟨j + 1, false, by omega, by go_num, rfl, (fun h => by cases h), NZ.out, G.out, HB.out⟩
            case measure => simp [intOf]; omega
          · by_cases hx0 : x = 0
            · subst hx0
              go_wp2
              go_roundw
              case rel => exact ⟨j + 1, true, by omega, by go_num, rfl, (fun _ y hy => by
                rw [List.take_add_one, HXJ.out, List.mem_append] at hy
                rcases hy with hy | hy
                · exact HZB.out rfl y hy
                · simpa using hy), NZ.out, G.out, HB.out⟩
              case measure => simp [intOf]; omega
            · have e0 : (x == 0) = false := by simpa using hx0
              go_wp2
              go_roundw
              case rel => exact ⟨j + 1, false, by omega, by go_num, rfl, (fun h => by cases h), NZ.out, G.out, HB.out⟩
              case measure => simp [intOf]; omega
        · obtain rfl : j = L.length := by omega
          have HMY := Lib.hid (show ∀ q : Nat, q < 3 → (tb = false ∨ vb = true ∨ (zb = true ∧ q = 1)) → mayB (q : Int) fs k = true from fun q hq h => by
            rcases h with h | h | ⟨h, rfl⟩
            · exact HMQ.out h _
            · exact HMS.out h q hq
            · exact HMZ.out (by have := HZB.out h; rwa [List.take_length] at this))
          clear HZB NZ hjl hj HMQ HMS HMZ
          go_wp2
          go_loopw [8] (fun v wr => ∃ q : Nat, q ≤ 3 ∧ v = .int .i64 q ∧ Blk wr EB cs ∧ Below w.heap.size w wr) (fun v _ => 3 - (intOf v).toNat)
          case atStart => exact ⟨0, by omega, rfl, G.out, HB.out⟩
          case round =>
            clear G HB
            obtain ⟨q, hq, rfl, g, hb⟩ := hrel
            have G := Lib.hid g
            have HB := Lib.hid hb
            clear g hb
            by_cases hq3 : q < 3
            · have d : decide ((q : Int) ≤ 2) = true := decide_eq_true (by omega)
              have hmy := HMY.out q hq3
              have HM1 := Lib.hid (HMA.out (q : Int) (k : Int))
              obtain ⟨mb, hmb⟩ : ∃ b, mayB (q : Int) fs k = b := ⟨_, rfl⟩
              rw [hmb] at HM1 hmy
              clear hmb
              cases tb
              · obtain rfl : mb = true := hmy (Or.inl rfl)
                clear hmy
                go_wp2_with (first
                  | (refine wpList_load_mid rfl 60 (.tmp 4) rfl EB 0 rfl cs _ G.out.range Tryd.underlying60 rfl HI.out ?_)
                    | (go_at_call 41; refine (HTE.out _).mono ?_; rintro r wt ⟨rfl, b⟩
                       replace HB := Lib.hid (HB.out.trans (b.mono HB.out.size))
                       replace G := Lib.hid (G.out.below b G.out.1)
                       clear b)
                  | (go_at_call 38; refine (HM1.out _ (HT.out.below HB.out hg) (Nat.lt_of_lt_of_le hg HB.out.size) (HE.out.below HB.out)).mono ?_; clear HM1; rintro r wm ⟨rfl, b⟩
                     replace HB := Lib.hid (HB.out.trans (b.mono HB.out.size))
                     replace G := Lib.hid (G.out.below b G.out.1)
                     clear b))
                go_roundw
                case rel => exact ⟨q + 1, by omega, by go_num, G.out, HB.out⟩
                case measure => simp [intOf]; omega
              · cases vb
                · cases zb
                  · clear hmy
                    go_wp2_with (first
                      | (refine wpList_load_mid rfl 60 (.tmp 4) rfl EB 0 rfl cs _ G.out.range Tryd.underlying60 rfl HI.out ?_)
                        | (go_at_call 41; refine (HTE.out _).mono ?_; rintro r wt ⟨rfl, b⟩
                           replace HB := Lib.hid (HB.out.trans (b.mono HB.out.size))
                           replace G := Lib.hid (G.out.below b G.out.1)
                           clear b)
                      | (go_at_call 42; refine (HVI.out _ (HE.out.below HB.out)).mono ?_; rintro r wv ⟨rfl, b⟩
                         replace HB := Lib.hid (HB.out.trans (b.mono HB.out.size))
                         replace G := Lib.hid (G.out.below b G.out.1)
                         clear b))
                    go_roundw
                    case rel => exact ⟨q + 1, by omega, by go_num, G.out, HB.out⟩
                    case measure => simp [intOf]; omega
                  · by_cases hq1 : q = 1
                    · have e1 : ((q : Int) == 1) = true := by simp; omega
                      obtain rfl : mb = true := hmy (Or.inr (Or.inr ⟨rfl, hq1⟩))
                      clear hmy hq1
                      go_wp2_with (first
                        | (refine wpList_load_mid rfl 60 (.tmp 4) rfl EB 0 rfl cs _ G.out.range Tryd.underlying60 rfl HI.out ?_)
                          | (go_at_call 41; refine (HTE.out _).mono ?_; rintro r wt ⟨rfl, b⟩
                             replace HB := Lib.hid (HB.out.trans (b.mono HB.out.size))
                             replace G := Lib.hid (G.out.below b G.out.1)
                             clear b)
                        | (go_at_call 42; refine (HVI.out _ (HE.out.below HB.out)).mono ?_; rintro r wv ⟨rfl, b⟩
                           replace HB := Lib.hid (HB.out.trans (b.mono HB.out.size))
                           replace G := Lib.hid (G.out.below b G.out.1)
                           clear b)
                        | (go_at_call 38; refine (HM1.out _ (HT.out.below HB.out hg) (Nat.lt_of_lt_of_le hg HB.out.size) (HE.out.below HB.out)).mono ?_; clear HM1; rintro r wm ⟨rfl, b⟩
                           replace HB := Lib.hid (HB.out.trans (b.mono HB.out.size))
                           replace G := Lib.hid (G.out.below b G.out.1)
                           clear b))
                      go_roundw
                      case rel => exact ⟨q + 1, by omega, by go_num, G.out, HB.out⟩
                      case measure => simp [intOf]; omega
                    · have e1 : ((q : Int) == 1) = false := by simp; omega
                      clear hmy hq1
                      go_wp2_with (first
                        | (refine wpList_load_mid rfl 60 (.tmp 4) rfl EB 0 rfl cs _ G.out.range Tryd.underlying60 rfl HI.out ?_)
                          | (go_at_call 41; refine (HTE.out _).mono ?_; rintro r wt ⟨rfl, b⟩
                             replace HB := Lib.hid (HB.out.trans (b.mono HB.out.size))
                             replace G := Lib.hid (G.out.below b G.out.1)
                             clear b)
                        | (go_at_call 42; refine (HVI.out _ (HE.out.below HB.out)).mono ?_; rintro r wv ⟨rfl, b⟩
                           replace HB := Lib.hid (HB.out.trans (b.mono HB.out.size))
                           replace G := Lib.hid (G.out.below b G.out.1)
                           clear b))
                      go_roundw
                      case rel => exact ⟨q + 1, by omega, by go_num, G.out, HB.out⟩
                      case measure => simp [intOf]; omega
                · obtain rfl : mb = true := hmy (Or.inr (Or.inl rfl))
                  clear hmy
                  go_wp2_with (first
                    | (refine wpList_load_mid rfl 60 (.tmp 4) rfl EB 0 rfl cs _ G.out.range Tryd.underlying60 rfl HI.out ?_)
                      | (go_at_call 41; refine (HTE.out _).mono ?_; rintro r wt ⟨rfl, b⟩
                         replace HB := Lib.hid (HB.out.trans (b.mono HB.out.size))
                         replace G := Lib.hid (G.out.below b G.out.1)
                         clear b)
                    | (go_at_call 42; refine (HVI.out _ (HE.out.below HB.out)).mono ?_; rintro r wv ⟨rfl, b⟩
                       replace HB := Lib.hid (HB.out.trans (b.mono HB.out.size))
                       replace G := Lib.hid (G.out.below b G.out.1)
                       clear b)
                    | (go_at_call 38; refine (HM1.out _ (HT.out.below HB.out hg) (Nat.lt_of_lt_of_le hg HB.out.size) (HE.out.below HB.out)).mono ?_; clear HM1; rintro r wm ⟨rfl, b⟩
                       replace HB := Lib.hid (HB.out.trans (b.mono HB.out.size))
                       replace G := Lib.hid (G.out.below b G.out.1)
                       clear b))
                  go_roundw
                  case rel => exact ⟨q + 1, by omega, by go_num, G.out, HB.out⟩
                  case measure => simp [intOf]; omega
            · obtain rfl : q = 3 := by omega
              cases tb
              · go_wp2_with (first
                  | (refine wpList_load_mid rfl 60 (.tmp 4) rfl EB 0 rfl cs _ G.out.range Tryd.underlying60 rfl HI.out ?_)
                    | (go_at_call 41; refine (HTE.out _).mono ?_; rintro r wt ⟨rfl, b⟩
                       replace HB := Lib.hid (HB.out.trans (b.mono HB.out.size))
                       replace G := Lib.hid (G.out.below b G.out.1)
                       clear b))
                go_roundw
                case rel => exact ⟨k + 1, by omega, by go_num, HB.out⟩
                case measure => simp [intOf]; omega
              · have H3 := Lib.hid (HMA.out 3 (k : Int))
                rw [HM3.out rfl] at H3
                go_wp2_with (first
                  | (refine wpList_load_mid rfl 60 (.tmp 4) rfl EB 0 rfl cs _ G.out.range Tryd.underlying60 rfl HI.out ?_)
                    | (go_at_call 41; refine (HTE.out _).mono ?_; rintro r wt ⟨rfl, b⟩
                       replace HB := Lib.hid (HB.out.trans (b.mono HB.out.size))
                       replace G := Lib.hid (G.out.below b G.out.1)
                       clear b)
                  | (go_at_call 38; refine (H3.out _ (HT.out.below HB.out hg) (Nat.lt_of_lt_of_le hg HB.out.size) (HE.out.below HB.out)).mono ?_; clear H3; rintro r wm ⟨rfl, b⟩
                     replace HB := Lib.hid (HB.out.trans (b.mono HB.out.size))
                     replace G := Lib.hid (G.out.below b G.out.1)
                     clear b))
                go_roundw
                case rel => exact ⟨k + 1, by omega, by go_num, HB.out⟩
                case measure => simp [intOf]; omega
    · obtain rfl : k = m := by omega
      go_wp2_with (go_at_call 39; refine (alive15_any _).mono ?_; rintro r w3 ⟨rfl, b⟩; have K3 := Lib.hid (K0.out.trans (b.mono K0.out.size)); clear b)
      go_ret
      exact ⟨rfl, K3.out⟩
theorem own : ownKnob Tryd.prog.godebug = none := by kernel_rfl
theorem laidOut : laidOutB Tryd.prog = true := by kernel_rfl
set_option maxRecDepth 100000 in
theorem contract (H : Type) (enc : TypeId × Value → H) (W : World) (base : Nat) (args : Array Value) (ds gs : List (DataW H)) (before : List MemPlace)
    (hval : ∀ (j : Nat) t v, Tryd.f13.params[j]? = some t → args[j]? = some v → Value.okWide Tryd.prog W .any base t v)
    (hW : DataW.Whole enc Tryd.prog Tryd.f13.params.toList Rows.gatePlainSpec.vars false W args.toList ds gs before) (hL : laidMetH Tryd.prog Rows.gatePlainRow.laid W) :
    Calls Tryd.prog 13 args W fun e W' => ∃ v, e = .returned v ∧ Rows.gatePlainSpec.post enc Tryd.prog Tryd.f13 false true false false W args v W' := by
  have hW' := hW
  obtain ⟨p, q, hA0, hV, rfl, hfz, hnd⟩ := hW
  have hA : DataW.TrodAll enc Tryd.prog W 0 (fun _ => true) true Tryd.f13.params.toList args.toList ds p := hA0
  rw [Tryd.params13] at hA hval
  obtain ⟨v0, vs0, d0, ds0, p0, q0, hargs, rfl, rfl, h0, r0⟩ := trodAll_cons hA
  obtain ⟨rfl, rfl, rfl⟩ := trodAll_nil r0
  obtain rfl : args = #[v0] := by cases args; simp_all
  obtain ⟨rfl, rfl⟩ := trodVars_none hV
  have hlt := hW'.lt
  have k0 := h0
  obtain ⟨r_a, r_n, r_c, r, rfl, w_r_n, w_r_c, w_r_z, w_r, w_r_wf⟩ := arg_entries (hval 0 52 v0 rfl rfl) h0
  clear hA0
  simp only [List.append_nil] at hW'
  refine (walk r_a r_n r_c r w_r_n w_r_c w_r_z w_r_wf W w_r (table hL)).mono fun e W' ⟨he, bel⟩ => ?_
  subst he
  exact ⟨_, rfl, _, _, _, [], _, [], hW', trodAll_mk1 (shut_bool Tryd.underlying4 _), (trodAll_cons_mk (Below.trod laidOut (by kernel_rfl) (of_decide_eq_true (by kernel_rfl)) k0 bel (fun x hx => hlt x (by simp [hx]))) trodAll_mk0), rfl, bel.frame _, fun h => by cases h⟩

theorem laid_met (os : Os) : laidMet Tryd.prog Rows.gatePlainRow.laid ((laidWorld os).forCall (fun _ _ => 0) ⟨#[], #[Value.slice none 0 0], []⟩).memory :=
  laidMet_of_run' 8 (by kernel_rfl) (by kernel_rfl)
theorem reads (os : Os) {H : Type} (enc : TypeId × Value → H) : ∃ places, DataW.whole enc Tryd.prog ((laidWorld os).forCall (fun _ _ => 0) ⟨#[], #[Value.slice none 0 0], []⟩).memory Tryd.f13.params.toList Rows.gatePlainSpec.vars false #[Value.slice none 0 0].toList 8 = some ([.nil], [], places) :=
  ⟨[], by kernel_rfl⟩

set_option maxRecDepth 100000 in
theorem lifted (os : Os) (started : os.Started) (H : Type) (enc : TypeId × Value → H) (F : Stop.Interp) :
    ReturnsInHanded {} Tryd.checked os 13 .any ((OpenSpec.ofChange Rows.gatePlainSpec).preRow enc Tryd.prog Tryd.f13 Rows.gatePlainRow.domain false Rows.gatePlainRow.laid) (((OpenSpec.ofChange Rows.gatePlainSpec).at F).post enc Tryd.prog Tryd.f13 false true false false) := by
  obtain ⟨places, hx⟩ := reads os enc
  refine returnsInHanded_of_row (C := Tryd.checked) (s := OpenSpec.ofChange Rows.gatePlainSpec) own started (by kernel_rfl) Tryd.func13
    (witness_row_at (enc := enc) (C := Tryd.checked) false (laidWorld os) #[Value.slice none 0 0] rfl (by kernel_rfl) (by kernel_rfl) (by kernel_rfl)
      (OpenSpec.preRow_of_cond 8 hx (by kernel_rfl) (fun k hk => by cases hk) (by kernel_rfl) (laid_met os))) ?_
  intro W base args ds gs before hval hW _ _ _ hL _ _
  exact contract H enc W base args ds gs before hval hW hL

theorem said : Rows.GatePlainSaid :=
  OpenClaim.holds_of_cond 13 Tryd.f13 rfl rfl rfl rfl rfl rfl rfl ⟨rfl, rfl, rfl, rfl, rfl⟩ rfl rfl rfl rfl rfl (by kernel_rfl) Tryd.func13 (by kernel_rfl)
    (of_decide_eq_true (by kernel_rfl)) (by unfold Func.isWrapper; first | (rw [if_pos (by decide +kernel)]; kernel_rfl) | (rw [if_neg (by decide +kernel)]; exact ⟨rfl, rfl⟩))
    (fun os started H enc _ F => by rw [OpenClaim.pre_eq_preRow]; exact lifted os started H enc F)

theorem plain (f : FuncId) (fn : Func) (hf : Tryd.pinned.checked.prog.funcNamed "auspex/auspexlaw15.GatePlain" = some f) (hfn : Tryd.pinned.checked.prog.funcs[f]? = some fn) :
    false = Tryd.pinned.checked.prog.looks [] ∧ ∀ (j : Nat) t, fn.params[j]? = some t → Tryd.pinned.checked.prog.wantsStandIn t = false := by
  obtain rfl : f = 13 := Option.some.inj ((show Tryd.prog.funcNamed "auspex/auspexlaw15.GatePlain" = some 13 by kernel_rfl).symm.trans hf) |>.symm
  obtain rfl : fn = Tryd.f13 := (Option.some.inj (Tryd.func13.symm.trans hfn)).symm
  refine ⟨by kernel_rfl, fun j t ht => ?_⟩
  rw [Tryd.params13] at ht
  have hm := Array.mem_of_getElem? ht
  simp only [List.mem_toArray, List.mem_cons, List.not_mem_nil, or_false] at hm
  obtain rfl := hm
  exact (show Tryd.prog.wantsStandIn 52 = false by kernel_rfl)

/-- THE CARD -/
theorem proved : Rows.GatePlainCardSaid :=
  Claim7.holds_tied_plain_at .later [] _ _ _ _ said (fun _ h => by cases h) (by kernel_rfl) (fun _ h => by cases h) gatePlain_row_tie rfl ⟨rfl, rfl⟩ (by kernel_rfl) rfl plain (by kernel_rfl)
#print axioms proved
end Go.Proofs.YtfekknalchjkiaaDoor.gatePlain
