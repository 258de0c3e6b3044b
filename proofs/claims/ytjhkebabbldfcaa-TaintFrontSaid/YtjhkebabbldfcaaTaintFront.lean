/- Proved: the statement of TaintFront (auspexlaw14): all ahead of the front are safe, the entry there is not; without the entries from there on all are; for every input; no condition. -/
import Derived.Test.YtjhkebabbldfcaaRows
import Derived.Test.YtjhkebabbldfcaaTaint
import Derived.OpenShut
import Derived.Lib.QuietBelow
namespace Go.Proofs.Ytjhkebabbldfcaa.taintFront
open Go.ChangeShapes Go.WideShapes Go.ChangeAt Go.RowKit Go.Sort
set_option linter.unusedVariables false
set_option linter.unusedSimpArgs false
set_option maxHeartbeats 2000000
set_option maxRecDepth 100000

theorem safe_halt {e : En} (h : safeB e = true) : e.halt = 0 := by
  unfold safeB at h
  by_cases h0 : e.halt = 0
  · exact h0
  · rw [if_pos h0] at h; cases h

theorem walk (A : Option Addr) (n c : Nat) (es : List En) (hn : n ≤ c) (hc : c ≤ maxLen) (hz : A = none → c = 0) (wf : ∀ s ∈ es, enOK s) (w : World) (hE : EntsAt w A n es) :
    Calls Try.prog 5 #[.slice A n c] w fun e w' => e = .returned (.bool true) ∧ Below w.heap.size w w' := by
  clear wf hz
  have HW := Lib.hid (few14_any A n c hn hc)
  obtain ⟨m, hm⟩ : ∃ m, min n 20 = m := ⟨_, rfl⟩
  rw [hm] at HW
  have hmn : m ≤ n := by omega
  have hmc : m ≤ c := by omega
  have hm20 : m ≤ 20 := by omega
  obtain ⟨fs, hfs⟩ : ∃ l, es.take m = l := ⟨_, rfl⟩
  have hF := hE.take (m := m) hmn
  rw [hfs] at hF
  clear hE hfs hm hmn hn
  have HL := hF.len
  have HE := Lib.hid hF
  have HFR := Lib.hid (fun w' (h : EntsAt w' A m fs) => front_any A m c fs hmc hc w' h)
  have hfm := front_le fs
  rw [HL] at hfm
  have HFT := Lib.hid (front_take fs (frontN fs) (Nat.le_refl _))
  have HVI := Lib.hid (fun i w' (h : EntsAt w' A m fs) => visible_any A m c fs i hmc hc w' h)
  have HBE := Lib.hid (fun k e (hk : fs[k]? = some e) (h : k < frontN fs) => front_before hk h)
  have HNO := Lib.hid (fun e (hk : fs[frontN fs]? = some e) => front_not hk rfl)
  obtain ⟨f, hf⟩ : ∃ f, frontN fs = f := ⟨_, rfl⟩
  rw [hf] at HFR hfm HFT HVI HBE HNO
  have HT := Lib.hid (fun w' (h : EntsAt w' A f (fs.take f)) => front_any A f c (fs.take f) (Nat.le_trans hfm hmc) hc w' h)
  rw [HFT.out] at HT
  clear hf HFT hF
  have HV1 := Lib.hid (fun w' (h : EntsAt w' A m fs) => by have := HVI.out (f : Int) w' h; rwa [decide_eq_true (show 0 ≤ (f : Int) ∧ (f : Int) ≤ f by omega)] at this)
  have HV2 := Lib.hid (fun w' (h : EntsAt w' A m fs) => by have := HVI.out ((f : Int) + 1) w' h; rwa [decide_eq_false (show ¬ (0 ≤ (f : Int) + 1 ∧ (f : Int) + 1 ≤ f) by omega)] at this)
  clear HVI
  unfold maxLen at hc
  go_enter Try.func5, Try.ntmps5
  go_wp2_with fail
  go_at_call 14
  refine (HW.out _).mono ?_
  rintro r w1 ⟨rfl, b1⟩
  have B1 := Lib.hid b1
  clear b1
  go_wp2_with fail
  go_at_call 15
  refine (HFR.out _ (HE.out.below B1.out)).mono ?_
  rintro r w2 ⟨rfl, b2⟩
  have B2 := Lib.hid (B1.out.trans (b2.mono B1.out.size))
  clear b2
  have q1 : decide ((f : Int) < 0) = false := decide_eq_false (by omega)
  have q2 : decide ((m : Int) < f) = false := decide_eq_false (by omega)
  have q4 : decide (m < f) = false := decide_eq_false (by omega)
  by_cases hfl : f < m
  · have q3 : decide ((f : Int) < m) = true := decide_eq_true (by omega)
    have q5 : decide (f < m) = true := decide_eq_true hfl
    obtain ⟨e, he⟩ : ∃ e, fs[f]? = some e := ⟨_, List.getElem?_eq_getElem (by omega)⟩
    obtain ⟨a, rfl, hal, hcell⟩ := (HE.out.below B2.out).at_ he
    have HS := Lib.hid (fun w => safe_any e w)
    rw [HNO.out e he] at HS
    unfold enV at HS
    clear he
    obtain ⟨cs, hcs⟩ : ∃ cs, enC e = cs := ⟨_, rfl⟩
    have h17 : cs.length = 17 := by rw [← hcs]; rfl
    have h1 : cs.toArray.all (·.oneCell') = true := by rw [← hcs]; exact enC_one e
    have hc13 : cs[13]? = some (.int .i64 e.halt) := by rw [← hcs]; rfl
    rw [hcs] at HS hcell
    clear hcs
    have HX := Lib.hid hcell
    have HI := Lib.hid (show (Try.prog.info? 40).map (·.size) = some cs.length by rw [h17]; exact ent_info)
    have HA := Lib.hid h1
    have HZ := Lib.hid h17
    have H13 := Lib.hid hc13
    clear hcell h1 h17 hc13
    go_wp2_with (first
      | (refine wpList_load_row_want 40 (.tmp 26) rfl rfl _ rfl cs _ HX.out Try.underlying40 rfl HI.out ?_)
      | (go_at_call 16; refine (HS.out _).mono ?_; rintro r w3 ⟨rfl, b3⟩; have B3 := Lib.hid (B2.out.trans (b3.mono B2.out.size)); clear b3))
    clear HX HI HA HZ H13 HS hal q3 q5
    go_loopw [35] (fun i wr => ∃ k : Nat, k ≤ f ∧ i = .int .i64 k ∧ Below w.heap.size w wr) (fun i _ => f - (intOf i).toNat)
    case atStart => exact ⟨0, by omega, rfl, B3.out⟩
    case round =>
      obtain ⟨k, hk, rfl, hb⟩ := hrel
      have HB := Lib.hid hb
      clear hb
      by_cases hlt : k < f
      · obtain ⟨e, he⟩ : ∃ e, fs[k]? = some e := ⟨_, List.getElem?_eq_getElem (by omega)⟩
        obtain ⟨a2, ha2, hal, hcell⟩ := (HE.out.below HB.out).at_ he
        cases ha2
        have HS := Lib.hid (fun w => safe_any e w)
        have hsf := HBE.out k e he hlt
        rw [hsf] at HS
        unfold enV at HS
        have hh := safe_halt hsf
        clear he hsf
        obtain ⟨cs, hcs⟩ : ∃ cs, enC e = cs := ⟨_, rfl⟩
        have h17 : cs.length = 17 := by rw [← hcs]; rfl
        have h1 : cs.toArray.all (·.oneCell') = true := by rw [← hcs]; exact enC_one e
        have hc13 : cs[13]? = some (.int .i64 e.halt) := by rw [← hcs]; rfl
        rw [hcs] at HS hcell
        clear hcs
        have HX := Lib.hid hcell
        have HI := Lib.hid (show (Try.prog.info? 40).map (·.size) = some cs.length by rw [h17]; exact ent_info)
        have HA := Lib.hid h1
        have HZ := Lib.hid h17
        have H13 := Lib.hid hc13
        clear hcell h1 h17 hc13
        rw [hh] at H13
        clear hh
        go_wp2_with (first
          | (refine wpList_load_row rfl 40 (.tmp 37) rfl _ rfl cs _ HX.out Try.underlying40 rfl HI.out ?_)
          | (refine wpList_store_new rfl 40 (.tmp 5) (.tmp 38) rfl wr.heap.size rfl _ cs _ rfl rfl HZ.out.symm HI.out HA.out ?_; intro W4 hb4 hB4 hs4; have G := Lib.hid hB4; have GB := Lib.hid (HB.out.trans (hb4.mono HB.out.size)); clear hb4 hB4)
          | (refine wpList_load_mid rfl 40 (.tmp 5) rfl wr.heap.size 0 rfl cs _ G.out.range Try.underlying40 rfl HI.out ?_)
          | (go_at_call 16; refine (HS.out _).mono ?_; rintro r w5 ⟨rfl, b5⟩; have KB := Lib.hid (GB.out.trans (b5.mono GB.out.size)); have c13 := (G.out.below b5 G.out.1).2.1 13 _ H13.out; clear b5))
        go_roundw
        case rel => exact ⟨k + 1, by omega, by go_num, KB.out⟩
        case measure => simp [intOf]; omega
      · obtain rfl : k = f := by omega
        go_wp2_with fail
        go_at_call 17
        refine (alive14_any _).mono ?_
        rintro r w5 ⟨rfl, b5⟩
        have K5 := Lib.hid (HB.out.trans (b5.mono HB.out.size))
        clear b5
        go_wp2_with fail
        go_at_call 15
        refine (HT.out _ ((HE.out.below K5.out).take hfm)).mono ?_
        rintro r w6 ⟨rfl, b6⟩
        have K6 := Lib.hid (K5.out.trans (b6.mono K5.out.size))
        clear b6
        go_wp2_with fail
        go_at_call 18
        refine (HV1.out _ (HE.out.below K6.out)).mono ?_
        rintro r w7 ⟨rfl, b7⟩
        have K7 := Lib.hid (K6.out.trans (b7.mono K6.out.size))
        clear b7
        go_wp2_with fail
        go_at_call 18
        refine (HV2.out _ (HE.out.below K7.out)).mono ?_
        rintro r w8 ⟨rfl, b8⟩
        have K8 := Lib.hid (K7.out.trans (b8.mono K7.out.size))
        clear b8
        go_wp2
        go_ret
        exact ⟨rfl, K8.out⟩
  · have q3 : decide ((f : Int) < m) = false := decide_eq_false (by omega)
    have q5 : decide (f < m) = false := decide_eq_false hfl
    go_wp2
    clear q3 q5
    go_loopw [35] (fun i wr => ∃ k : Nat, k ≤ f ∧ i = .int .i64 k ∧ Below w.heap.size w wr) (fun i _ => f - (intOf i).toNat)
    case atStart => exact ⟨0, by omega, rfl, B2.out⟩
    case round =>
      obtain ⟨k, hk, rfl, hb⟩ := hrel
      have HB := Lib.hid hb
      clear hb
      by_cases hlt : k < f
      · obtain ⟨e, he⟩ : ∃ e, fs[k]? = some e := ⟨_, List.getElem?_eq_getElem (by omega)⟩
        obtain ⟨a2, ha2, hal, hcell⟩ := (HE.out.below HB.out).at_ he
        cases ha2
        have HS := Lib.hid (fun w => safe_any e w)
        have hsf := HBE.out k e he hlt
        rw [hsf] at HS
        unfold enV at HS
        have hh := safe_halt hsf
        clear he hsf
        obtain ⟨cs, hcs⟩ : ∃ cs, enC e = cs := ⟨_, rfl⟩
        have h17 : cs.length = 17 := by rw [← hcs]; rfl
        have h1 : cs.toArray.all (·.oneCell') = true := by rw [← hcs]; exact enC_one e
        have hc13 : cs[13]? = some (.int .i64 e.halt) := by rw [← hcs]; rfl
        rw [hcs] at HS hcell
        clear hcs
        have HX := Lib.hid hcell
        have HI := Lib.hid (show (Try.prog.info? 40).map (·.size) = some cs.length by rw [h17]; exact ent_info)
        have HA := Lib.hid h1
        have HZ := Lib.hid h17
        have H13 := Lib.hid hc13
        clear hcell h1 h17 hc13
        rw [hh] at H13
        clear hh
        go_wp2_with (first
          | (refine wpList_load_row rfl 40 (.tmp 37) rfl _ rfl cs _ HX.out Try.underlying40 rfl HI.out ?_)
          | (refine wpList_store_new rfl 40 (.tmp 5) (.tmp 38) rfl wr.heap.size rfl _ cs _ rfl rfl HZ.out.symm HI.out HA.out ?_; intro W4 hb4 hB4 hs4; have G := Lib.hid hB4; have GB := Lib.hid (HB.out.trans (hb4.mono HB.out.size)); clear hb4 hB4)
          | (refine wpList_load_mid rfl 40 (.tmp 5) rfl wr.heap.size 0 rfl cs _ G.out.range Try.underlying40 rfl HI.out ?_)
          | (go_at_call 16; refine (HS.out _).mono ?_; rintro r w5 ⟨rfl, b5⟩; have KB := Lib.hid (GB.out.trans (b5.mono GB.out.size)); have c13 := (G.out.below b5 G.out.1).2.1 13 _ H13.out; clear b5))
        go_roundw
        case rel => exact ⟨k + 1, by omega, by go_num, KB.out⟩
        case measure => simp [intOf]; omega
      · obtain rfl : k = f := by omega
        go_wp2_with fail
        go_at_call 17
        refine (alive14_any _).mono ?_
        rintro r w5 ⟨rfl, b5⟩
        have K5 := Lib.hid (HB.out.trans (b5.mono HB.out.size))
        clear b5
        go_wp2_with fail
        go_at_call 15
        refine (HT.out _ ((HE.out.below K5.out).take hfm)).mono ?_
        rintro r w6 ⟨rfl, b6⟩
        have K6 := Lib.hid (K5.out.trans (b6.mono K5.out.size))
        clear b6
        go_wp2_with fail
        go_at_call 18
        refine (HV1.out _ (HE.out.below K6.out)).mono ?_
        rintro r w7 ⟨rfl, b7⟩
        have K7 := Lib.hid (K6.out.trans (b7.mono K6.out.size))
        clear b7
        go_wp2_with fail
        go_at_call 18
        refine (HV2.out _ (HE.out.below K7.out)).mono ?_
        rintro r w8 ⟨rfl, b8⟩
        have K8 := Lib.hid (K7.out.trans (b8.mono K7.out.size))
        clear b8
        go_wp2
        go_ret
        exact ⟨rfl, K8.out⟩
theorem own : ownKnob Try.prog.godebug = none := by kernel_rfl
theorem laidOut : laidOutB Try.prog = true := by kernel_rfl

set_option maxRecDepth 100000 in
theorem lifted (os : Os) (started : os.Started) (H : Type) (enc : TypeId × Value → H) :
    ReturnsInHanded {} Try.checked os 5 .any (Rows.taintFrontSpec.pre6 enc Try.prog Try.f5 Rows.taintFrontRow.domain false) (Rows.taintFrontSpec.post enc Try.prog Try.f5 false true false false) := by
  refine returnsInHanded_of_change (C := Try.checked) own started (by kernel_rfl) Try.func5
    (ChangeSpec.witness6 (enc := enc) (C := Try.checked) false ⟨#[], #[Value.slice none 0 0], []⟩ 8 (by kernel_rfl) (by kernel_rfl) (by kernel_rfl) (by kernel_rfl)) ?_
  intro W base args ds gs before hval0 hW hcnd _
  have hval : ∀ (j : Nat) t v, Try.f5.params[j]? = some t → args[j]? = some v → Value.okWide Try.prog W .any base t v := hval0
  have hW' := hW
  obtain ⟨p, q, hA0, hV, rfl, hfz, hnd⟩ := hW
  have hA : DataW.TrodAll enc Try.prog W 0 (fun _ => true) true Try.f5.params.toList args.toList ds p := hA0
  rw [Try.params5] at hA hval
  obtain ⟨v0, vs0, d0, ds0, p0, q0, hargs, rfl, rfl, h0, r0⟩ := trodAll_cons hA
  obtain ⟨rfl, rfl, rfl⟩ := trodAll_nil r0
  obtain rfl : args = #[v0] := by cases args; simp_all
  obtain ⟨rfl, rfl⟩ := trodVars_none hV
  have hlt := hW'.lt
  have k0 := h0
  obtain ⟨r_a, r_n, r_c, r, rfl, w_r_n, w_r_c, w_r_z, w_r, w_r_wf⟩ := arg_entries (hval 0 33 v0 rfl rfl) h0
  clear hA0 hval0
  simp only [List.append_nil] at hW'
  refine (walk r_a r_n r_c r w_r_n w_r_c w_r_z w_r_wf W w_r).mono fun e W' ⟨he, bel⟩ => ?_
  subst he
  exact ⟨_, rfl, _, _, _, [], _, [], hW', trodAll_mk1 (shut_bool Try.underlying4 _), (trodAll_cons_mk (Below.trod laidOut (by kernel_rfl) (of_decide_eq_true (by kernel_rfl)) k0 bel (fun x hx => hlt x (by simp [hx]))) trodAll_mk0), rfl, bel.frame _, fun h => by cases h⟩

/-- THE STATEMENT -/
theorem proved : Rows.TaintFrontSaid :=
  OpenClaim.holds_of_wide 5 Try.f5 rfl rfl rfl rfl rfl rfl rfl ⟨rfl, rfl, rfl, rfl, rfl⟩ rfl rfl rfl rfl rfl (by kernel_rfl) Try.func5 (by kernel_rfl)
    (of_decide_eq_true (by kernel_rfl)) (by unfold Func.isWrapper; first | (rw [if_pos (by decide +kernel)]; kernel_rfl) | (rw [if_neg (by decide +kernel)]; exact ⟨rfl, rfl⟩))
    (fun os started H enc _ => lifted os started H enc)
#print axioms proved
end Go.Proofs.Ytjhkebabbldfcaa.taintFront
