/- Proved: the card of TaintNone (auspexlaw14): where all that stands is known and faultless and no halt nothing is tainted and all is visible; for every input; on the world that holds the table of instructions. -/
import Derived.Test.YtfekknalchjkiaaDoorCards
import Derived.Test.YtfekknalchjkiaaDoorTie
import Derived.Test.YtfekknalchjkiaaDoorMore
import Derived.Test.YtfekknalchjkiaaDoorTaintV
import Derived.Test.YtfekknalchjkiaaDoorOwnS
import Derived.Test.YtfekknalchjkiaaDoorExecLaid
import Derived.WalkKit
import Derived.ProofKit
import Derived.OpenShut
import Derived.Deep.DeepHandedRow
import Derived.Lib.LaidTab
namespace Go.Proofs.YtfekknalchjkiaaDoor.taintNone
open Go.ChangeShapes Go.WideShapes Go.ChangeAt Go.RowKit Go.Sort
set_option linter.unusedVariables false
set_option linter.unusedSimpArgs false
set_option maxHeartbeats 6000000
set_option maxRecDepth 100000

theorem there17 {w : World} {base m g k : Nat} {es : List En} (h : MoreAt w base (some ⟨g, 0, none⟩) m es) (hk : k < m) : w.there g (k * 17) 17 := fun j hj => by
  obtain ⟨e, he⟩ : ∃ e, es[k]? = some e := ⟨_, List.getElem?_eq_getElem (by rw [h.1.len]; exact hk)⟩
  obtain ⟨g', hA, hg, hl, hf⟩ := h.2 (by omega)
  cases hA
  obtain ⟨_, a, ha, _, hv⟩ := h.1.2 k (enC e) (by rw [List.getElem?_map, he]; rfl)
  cases ha
  obtain ⟨v, hvv⟩ : ∃ v, (enC e)[j]? = some v := ⟨_, List.getElem?_eq_getElem (by rw [enC_len]; exact hj)⟩
  have h0 := hv j v hvv
  rw [Addr.add_lit, Nat.zero_add] at h0
  rw [h0, hf]
  exact ⟨rfl, rfl⟩
theorem putAll {w : World} {base m g k : Nat} {es : List En} (h : MoreAt w base (some ⟨g, 0, none⟩) m es) (hk : k < m) (e' : En) : MoreAt (w.setCells g (k * 17) (enC e')) base (some ⟨g, 0, none⟩) m (es.set k e') := by
  have hth := there17 h hk
  obtain ⟨g', hA, hg, hl, hf⟩ := h.2 (by omega)
  cases hA
  refine ⟨⟨by simp [h.1.len], fun j c hj => ?_⟩, fun h0 => ⟨g, rfl, hg, by rw [setCells_size]; exact hl, fun j => by rw [setCells_frozen]; exact hf j⟩⟩
  refine ⟨enC_lens _ j c hj, _, rfl, by rw [setCells_size]; exact hl, fun i v hi => ?_⟩
  rw [List.getElem?_map] at hj
  obtain ⟨e1, he1, rfl⟩ := Option.map_eq_some_iff.1 hj
  rw [Addr.add_lit, Nat.zero_add]
  by_cases hjk : j = k
  · subst hjk
    rw [List.getElem?_set_self (by rw [h.1.len]; exact hk)] at he1
    have he1' := Option.some.inj he1
    subst he1'
    exact World.rangeAt_setCells_same w g (j * 17) (enC e') (by rw [enC_len]; exact hth) i v hi
  · rw [List.getElem?_set_ne (fun h' => hjk h'.symm)] at he1
    obtain ⟨_, a, ha, _, hv⟩ := h.1.2 j (enC e1) (by rw [List.getElem?_map, he1]; rfl)
    cases ha
    have hr : w.rangeAt g (j * 17) (enC e1) := fun i v hi => by
      have h0 := hv i v hi
      rw [Addr.add_lit, Nat.zero_add] at h0
      exact h0
    exact World.rangeAt_setCells_apart hr g (k * 17) (enC e') (.inr (by rw [enC_len, enC_len]; omega)) i v hi

theorem all_front (es : List En) (h : ∀ (j : Nat) e, es[j]? = some e → safeB e = true) : frontN es = es.length := by
  refine Nat.le_antisymm (front_le es) (Nat.le_of_not_lt fun hlt => ?_)
  obtain ⟨e, he⟩ : ∃ e, es[frontN es]? = some e := ⟨_, List.getElem?_eq_getElem hlt⟩
  have h1 := front_not he rfl
  rw [h _ _ he] at h1
  cases h1

theorem walk (A : Option Addr) (n c : Nat) (es : List En) (hn : n ≤ c) (hc : c ≤ maxLen) (hz : A = none → c = 0) (wf : ∀ s ∈ es, enOK s) (w : World) (hE : EntsAt w A n es) (ht : TabIs w ∧ 0 < w.heap.size) :
    Calls Tryd.prog 11 #[.slice A n c] w fun e w' => e = .returned (.bool true) ∧ Below w.heap.size w w' := by
  obtain ⟨htb, hg⟩ := ht
  clear wf
  have HT := Lib.hid htb
  have HC := Lib.hid hc
  have HZ := Lib.hid hz
  have HW := Lib.hid (few14_any A n c hn hc)
  obtain ⟨m, hm⟩ : ∃ m, min n 20 = m := ⟨_, rfl⟩
  rw [hm] at HW
  have hmn : m ≤ n := by omega
  have hmc : m ≤ c := by omega
  have hm20 : m ≤ 20 := by omega
  obtain ⟨fs, hfs⟩ : ∃ l, es.take m = l := ⟨_, rfl⟩
  have hF := hE.take (m := m) hmn
  rw [hfs] at hF
  clear hE hfs hm hmn hn htb hc hz
  have HL := hF.len
  have HE := Lib.hid hF
  clear hF
  have HO := Lib.hid (World.ownsRow_made w (base := w.heap.size) (e := 60) (size := 17) #[] 0 (Nat.le_refl _) (Nat.zero_le _) rfl)
  have HB0 := Lib.hid ((Below.refl w.heap.size w).alloc (Nat.le_refl _) (.cells #[] 60))
  go_enter Tryd.func11, Tryd.ntmps11
  go_wp2_with (first
    | (go_at_call 28; refine (HW.out _).mono ?_; rintro r w1 ⟨rfl, b1⟩
       have HO1 := Lib.hid (own_below HO.out b1)
       have K1 := Lib.hid (HB0.out.trans (b1.mono HB0.out.size))
       clear b1)
    | (at_builtin; refine wpList_append_ents rfl (.tmp 9) (.tmp 11) rfl w.heap.size _ _ _ rfl HO1.out A m c fs rfl (HE.out.below K1.out) HZ.out (by omega) K1.out.size ?_; intro v2 w2 hown2 hgrow2; rw [List.nil_append, Nat.zero_add] at hown2; obtain ⟨A2, c2, rfl, hc1, hc2, hmo⟩ := more_own hown2 HL; have HM := Lib.hid hmo; have HB := Lib.hid (K1.out.grown hgrow2 K1.out.size (fun k hk => (HO1.out.lt k hk).1)); clear hown2 hgrow2 hmo))
  clear K1 HO1 HO HB0 HW
  go_loopw [3, 15] (fun t v wr => ∃ (k q : Nat) (L : List En), k ≤ m ∧ q ≤ k ∧ v = .int .i64 k ∧ t = .int .i64 q ∧ L.length = m ∧ (∀ (j : Nat) x, j < q → L[j]? = some x → safeB x = true) ∧ MoreAt wr w.heap.size A2 m L ∧ Below w.heap.size w wr) (fun _ v _ => m - (intOf v).toNat)
  case atStart => exact ⟨0, 0, fs, by omega, by omega, rfl, rfl, HL, (fun j x h => absurd h (Nat.not_lt_zero _)), HM.out, HB.out⟩
  case round =>
    clear HM HB
    obtain ⟨k, q, L, hk, hqk, rfl, rfl, hLm, hsf, hmo, hb⟩ := hrel
    have HSF := Lib.hid hsf
    have HM := Lib.hid hmo
    have HB := Lib.hid hb
    have HLM := Lib.hid hLm
    clear hsf hmo hb hLm
    by_cases hlt : k < m
    · obtain ⟨e, he⟩ : ∃ e, L[k]? = some e := ⟨_, List.getElem?_eq_getElem (by rw [HLM.out]; exact hlt)⟩
      obtain ⟨g, rfl, hg1, hg2, -⟩ := HM.out.2 (by omega)
      obtain ⟨a, haa, hal, hcell⟩ := HM.out.1.at_ he
      cases haa
      have HG1 := Lib.hid hg1
      have HG2 := Lib.hid hg2
      clear hg1 hg2 hal
      obtain ⟨e2, he2⟩ : ∃ e2 : En, { e with known := true, halt := 0 } = e2 := ⟨_, rfl⟩
      obtain ⟨cs, hcs⟩ : ∃ cs, enC e = cs := ⟨_, rfl⟩
      have h17 : cs.length = 17 := by rw [← hcs]; rfl
      have h1 : cs.toArray.all (·.oneCell') = true := by rw [← hcs]; exact enC_one e
      rw [hcs] at hcell
      have HX := Lib.hid (show wr.rangeAt g (k * 17) cs from fun i v hv => by
        have h0 := hcell i v hv
        rw [Addr.add_lit, Addr.add_lit, Nat.zero_add] at h0
        exact h0)
      have HI := Lib.hid (show (Tryd.prog.info? 60).map (·.size) = some cs.length by rw [h17]; exact ent_info)
      have HA := Lib.hid h1
      have HZ := Lib.hid h17
      have H2 := Lib.hid (show cs[2]? = some (.int .i64 e.op) by rw [← hcs]; rfl)
      have H3 := Lib.hid (show cs[3]? = some (.int .i64 e.rd) by rw [← hcs]; rfl)
      have H4 := Lib.hid (show cs[4]? = some (.int .i64 e.rs1) by rw [← hcs]; rfl)
      have H5 := Lib.hid (show cs[5]? = some (.int .i64 e.rs2) by rw [← hcs]; rfl)
      have H6 := Lib.hid (show cs[6]? = some (.int .u32 e.imm) by rw [← hcs]; rfl)
      have H13 := Lib.hid (show cs[13]? = some (.int .i64 e.halt) by rw [← hcs]; rfl)
      have H15 := Lib.hid (show cs[15]? = some (.bool e.known) by rw [← hcs]; rfl)
      have H13L := Lib.hid (show 13 < cs.length by rw [h17]; decide)
      have H15L := Lib.hid (show 15 < cs.length by rw [h17]; decide)
      have HC2 := Lib.hid (show (cs.set 15 (.bool true)).set 13 (.int .i64 0) = enC e2 by rw [← hcs, ← he2]; rfl)
      have HKQ := Lib.hid (fun w => kind_any e.op e.rd e.rs1 e.rs2 e.imm w)
      by_cases hk6 : kindI e.op = 6
      · rw [hk6] at HKQ
        clear hcell h1 h17 hcs he2 hk6
        go_wp2_with (first
          | (refine wpList_load_mid rfl 60 (.tmp 17) rfl g (k * 17) rfl cs _ HX.out Tryd.underlying60 rfl HI.out ?_)
            | (refine wpList_store_new rfl 60 (.tmp 5) (.tmp 18) rfl wr.heap.size rfl _ cs _ rfl rfl HZ.out.symm HI.out HA.out ?_; intro W4 hb4 hB4 hs4
               have G := Lib.hid hB4
               have HS := Lib.hid hs4
               have K := Lib.hid hb4
               clear hb4 hB4 hs4
               have s2 := G.out.2.1 2 _ H2.out
               have s3 := G.out.2.1 3 _ H3.out
               have s4 := G.out.2.1 4 _ H4.out
               have s5 := G.out.2.1 5 _ H5.out
               have s6 := G.out.2.1 6 _ H6.out
               have s13 := G.out.2.1 13 _ H13.out
               have s15 := G.out.2.1 15 _ H15.out
               have f13 := G.out.2.2 13 H13L.out
               have f15 := G.out.2.2 15 H15L.out)
            | (go_at_call 33; refine (HKQ.out _).mono ?_; rintro r w6 ⟨rfl, b5⟩
               replace K := Lib.hid (K.out.trans (b5.mono (by rw [HS.out]; omega)))
               replace G := Lib.hid (G.out.below b5 G.out.1)
               clear b5 s2 s3 s4 s5 s6 s13 s15 f13 f15
               have s2 := G.out.2.1 2 _ H2.out
               have s3 := G.out.2.1 3 _ H3.out
               have s4 := G.out.2.1 4 _ H4.out
               have s5 := G.out.2.1 5 _ H5.out
               have s6 := G.out.2.1 6 _ H6.out
               have s13 := G.out.2.1 13 _ H13.out
               have s15 := G.out.2.1 15 _ H15.out
               have f13 := G.out.2.2 13 H13L.out
               have f15 := G.out.2.2 15 H15L.out))
        have hK := HB.out.trans (K.out.mono HB.out.size)
        have hM := HM.out.below K.out
        go_roundw
        case rel => exact ⟨k + 1, q, L, by omega, by omega, by go_num, rfl, HLM.out, HSF.out, hM, hK⟩
        case measure => simp [intOf]; omega
      · have q6 : (kindI e.op != 6) = true := by simpa using hk6
        have hs2 : safeB e2 = true := by
          rw [← he2]
          unfold safeB
          simp only
          rw [if_neg (by decide), if_neg hk6]
          split <;> rfl
        have HS2 := Lib.hid hs2
        obtain ⟨kd, hkd⟩ : ∃ kd, kindI e.op = kd := ⟨_, rfl⟩
        rw [hkd] at HKQ q6
        clear hcell h1 h17 hcs he2 hk6 hs2 hkd
        go_upto_region 7 with (first
          | (refine wpList_load_mid rfl 60 (.tmp 17) rfl g (k * 17) rfl cs _ HX.out Tryd.underlying60 rfl HI.out ?_)
            | (refine wpList_store_new rfl 60 (.tmp 5) (.tmp 18) rfl wr.heap.size rfl _ cs _ rfl rfl HZ.out.symm HI.out HA.out ?_; intro W4 hb4 hB4 hs4
               have G := Lib.hid hB4
               have HS := Lib.hid hs4
               have K := Lib.hid hb4
               clear hb4 hB4 hs4
               have s2 := G.out.2.1 2 _ H2.out
               have s3 := G.out.2.1 3 _ H3.out
               have s4 := G.out.2.1 4 _ H4.out
               have s5 := G.out.2.1 5 _ H5.out
               have s6 := G.out.2.1 6 _ H6.out
               have s13 := G.out.2.1 13 _ H13.out
               have s15 := G.out.2.1 15 _ H15.out
               have f13 := G.out.2.2 13 H13L.out
               have f15 := G.out.2.2 15 H15L.out)
            | (go_at_call 33; refine (HKQ.out _).mono ?_; rintro r w6 ⟨rfl, b5⟩
               replace K := Lib.hid (K.out.trans (b5.mono (by rw [HS.out]; omega)))
               replace G := Lib.hid (G.out.below b5 G.out.1)
               clear b5 s2 s3 s4 s5 s6 s13 s15 f13 f15
               have s2 := G.out.2.1 2 _ H2.out
               have s3 := G.out.2.1 3 _ H3.out
               have s4 := G.out.2.1 4 _ H4.out
               have s5 := G.out.2.1 5 _ H5.out
               have s6 := G.out.2.1 6 _ H6.out
               have s13 := G.out.2.1 13 _ H13.out
               have s15 := G.out.2.1 15 _ H15.out
               have f13 := G.out.2.2 13 H13L.out
               have f15 := G.out.2.2 15 H15L.out))
        go_upto_region 8 with fail
        have z1 := (G.out.set (i := 15) (v := .bool true) H15L.out).set (i := 13) (v := .int .i64 0) (by simpa using H13L.out)
        rw [HC2.out] at z1
        have z3 := (K.out.setCell (p := ⟨wr.heap.size, 15, none⟩) (Nat.le_refl _) (.bool true)).setCell (p := ⟨wr.heap.size, 13, none⟩) (Nat.le_refl _) (.int .i64 0)
        generalize ((w6.setCell ⟨wr.heap.size, 15, none⟩ (.bool true)).setCell ⟨wr.heap.size, 13, none⟩ (.int .i64 0)) = W7 at *
        clear s2 s3 s4 s5 s6 s13 s15 f13 f15 G K q6 HX HI HA HZ H2 H3 H4 H5 H6 H13 H15 H13L H15L HC2 HKQ
        have G := Lib.hid z1
        have HM2 := Lib.hid (HM.out.below z3)
        have HB2 := Lib.hid (HB.out.trans (z3.mono HB.out.size))
        clear z1 z3
        have hqm : q < m := by omega
        obtain ⟨cs2, hcs2⟩ : ∃ c, enC e2 = c := ⟨_, rfl⟩
        have h17 : cs2.length = 17 := by rw [← hcs2]; rfl
        have h1 : cs2.toArray.all (·.oneCell') = true := by rw [← hcs2]; exact enC_one e2
        have hput := putAll HM2.out hqm e2
        have hbel := setCells_below g HG1.out (enC e2) (q * 17) W7
        have hth : W7.there g (q * 17) cs2.toArray.size := by rw [List.size_toArray, h17]; exact there17 HM2.out hqm
        have g2 := G.out
        rw [hcs2] at hput hbel g2
        have HTH := Lib.hid hth
        have HP := Lib.hid hput
        have HBL := Lib.hid (HB2.out.trans hbel)
        clear G
        have G := Lib.hid g2
        have HI := Lib.hid (show (Tryd.prog.info? 60).map (·.size) = some cs2.length by rw [h17]; exact ent_info)
        have HJ := Lib.hid (show (Tryd.prog.info? 60).map (·.size) = some cs2.toArray.size by rw [List.size_toArray, h17]; exact ent_info)
        have HA := Lib.hid h1
        clear hcs2 h17 h1 hput hbel hth g2
        generalize hW8 : W7.setCells g (q * 17) cs2 = W8 at HP HBL
        go_wp2_with (first
          | (refine wpList_load_mid rfl 60 (.tmp 5) rfl wr.heap.size 0 rfl cs2 _ G.out.range Tryd.underlying60 rfl HI.out ?_)
          | (refine wpList_store_mid rfl 60 (.tmp 28) (.tmp 27) rfl g (q * 17) cs2.toArray rfl rfl HTH.out HJ.out HA.out ?_; rw [show cs2.toArray.toList = cs2 from rfl, hW8]))
        go_roundw
        case rel => exact ⟨k + 1, q + 1, L.set q e2, by omega, by omega, by go_num, by go_num, by rw [List.length_set]; exact HLM.out, (fun j x hj hx => by
          by_cases hjq : j = q
          · subst hjq
            rw [List.getElem?_set_self (by rw [HLM.out]; exact hqm)] at hx
            cases hx
            exact HS2.out
          · rw [List.getElem?_set_ne (fun h => hjq h.symm)] at hx
            exact HSF.out j x (by omega) hx), HP.out, HBL.out⟩
        case measure => simp [intOf]; omega
    · obtain rfl : k = m := by omega
      have hqc : q ≤ c2 := by omega
      have hG := HM.out.1.take (m := q) hqk
      obtain ⟨gs, hgs⟩ : ∃ l, L.take q = l := ⟨_, rfl⟩
      have hall : ∀ (j : Nat) e, gs[j]? = some e → safeB e = true := fun j e he => by
        rw [← hgs] at he
        have hjq : j < q := by
          have := (List.getElem?_eq_some_iff.1 he).1
          rw [List.length_take] at this
          omega
        rw [List.getElem?_take_of_lt hjq] at he
        exact HSF.out j e hjq he
      rw [hgs] at hG
      have HGL := hG.len
      have hfr := all_front gs hall
      rw [HGL] at hfr
      have HFR := Lib.hid (fun w' (h : EntsAt w' A2 q gs) => front_any A2 q c2 gs hqc hc2 w' h)
      have HVI := Lib.hid (fun i w' (h : EntsAt w' A2 q gs) => visible_any A2 q c2 gs i hqc hc2 w' h)
      have HRO := Lib.hid (fun w' ht hg (h : EntsAt w' A2 q gs) => roots_any A2 q c2 gs hqc hc2 (by omega) w' ht hg h)
      have HTA := Lib.hid (fun w' ht hg (h : EntsAt w' A2 q gs) => tainted_any A2 q c2 gs q 1 hqc hc2 (by omega) w' ht hg h)
      have htn := taint_seen gs q 1 (by omega) (by omega)
      rw [hfr] at HFR HVI
      rw [htn] at HTA
      have HRS := Lib.hid (fun j (h : j < q) => rootI_seen gs j (by omega) (by omega))
      have HG := Lib.hid hG
      clear hG hgs hall hfr htn HM HSF HLM hlt
      unfold maxLen at hc2
      go_wp2_with (first
        | (go_at_call 29; refine (HRO.out _ (HT.out.below HB.out hg) (Nat.lt_of_lt_of_le hg HB.out.size) HG.out).mono ?_; rintro r w2 ⟨AR, cR, rfl, hr1, hr2, hri, b2⟩; have K2 := Lib.hid (HB.out.trans (b2.mono HB.out.size)); have R2 := Lib.hid hri; have G2 := Lib.hid (HG.out.below b2); clear b2 hri)
        | (go_at_call 31; refine (HFR.out _ G2.out).mono ?_; rintro r w4 ⟨rfl, b4⟩; have K4 := Lib.hid (K2.out.trans (b4.mono K2.out.size)); have R4 := Lib.hid (R2.out.below b4); have G4 := Lib.hid (G2.out.below b4); clear b4))
      clear K2 R2 G2 HB HG HFR HRO
      go_loopw [49] (fun v wr => ∃ j : Nat, j ≤ q ∧ v = .int .i64 j ∧ EntsAt wr A2 q gs ∧ IntsAt wr AR q .i64 (rootsL gs) ∧ Below w.heap.size w wr) (fun v _ => q - (intOf v).toNat)
      case atStart => exact ⟨0, by omega, rfl, G4.out, R4.out, K4.out⟩
      case round =>
        obtain ⟨j, hj, rfl, g0, r0, k0⟩ := hrel
        have RI := Lib.hid r0
        have KB := Lib.hid k0
        have HG := Lib.hid g0
        clear r0 k0 g0 R4 K4 G4
        by_cases hlt : j < q
        · have hr := HRS.out j hlt
          have RG := Lib.hid (show (rootsL gs).getD j 0 = -1 by
            rw [← hr]; unfold rootI
            rw [List.getD_eq_getElem?_getD, List.getElem?_eq_getElem (by rw [rootsL_len, HGL]; exact hlt)]; rfl)
          obtain ⟨aR, hAR, g1⟩ := RI.out.at_ hlt
          cases hAR
          rw [RG.out] at g1
          clear hr
          have HV := Lib.hid (HVI.out (j : Int))
          rw [show decide (0 ≤ (j : Int) ∧ (j : Int) ≤ q) = true from decide_eq_true (by omega)] at HV
          go_wp2_with (first
            | (go_at_call 32; refine (HV.out _ HG.out).mono ?_; rintro r w9 ⟨rfl, b5⟩
               replace RI := Lib.hid (RI.out.below b5)
               replace KB := Lib.hid (KB.out.trans (b5.mono KB.out.size))
               replace HG := Lib.hid (HG.out.below b5)
               clear b5)
            | (go_at_call 35; refine (HTA.out _ (HT.out.below KB.out hg) (Nat.lt_of_lt_of_le hg KB.out.size) HG.out).mono ?_; rintro r w10 ⟨rfl, b5⟩
               replace RI := Lib.hid (RI.out.below b5)
               replace KB := Lib.hid (KB.out.trans (b5.mono KB.out.size))
               replace HG := Lib.hid (HG.out.below b5)
               clear b5))
          go_roundw
          case rel => exact ⟨j + 1, by omega, by go_num, HG.out, RI.out, KB.out⟩
          case measure => simp [intOf]; omega
        · obtain rfl : j = q := by omega
          go_wp2_with (go_at_call 30; refine (alive14_any _).mono ?_; rintro r w3 ⟨rfl, b3⟩; have K3 := Lib.hid (KB.out.trans (b3.mono KB.out.size)); clear b3)
          go_ret
          exact ⟨rfl, K3.out⟩
theorem own : ownKnob Tryd.prog.godebug = none := by kernel_rfl
theorem laidOut : laidOutB Tryd.prog = true := by kernel_rfl
set_option maxRecDepth 100000 in
theorem contract (H : Type) (enc : TypeId × Value → H) (W : World) (base : Nat) (args : Array Value) (ds gs : List (DataW H)) (before : List MemPlace)
    (hval : ∀ (j : Nat) t v, Tryd.f11.params[j]? = some t → args[j]? = some v → Value.okWide Tryd.prog W .any base t v)
    (hW : DataW.Whole enc Tryd.prog Tryd.f11.params.toList Rows.taintNoneSpec.vars false W args.toList ds gs before) (hL : laidMetH Tryd.prog Rows.taintNoneRow.laid W) :
    Calls Tryd.prog 11 args W fun e W' => ∃ v, e = .returned v ∧ Rows.taintNoneSpec.post enc Tryd.prog Tryd.f11 false true false false W args v W' := by
  have hW' := hW
  obtain ⟨p, q, hA0, hV, rfl, hfz, hnd⟩ := hW
  have hA : DataW.TrodAll enc Tryd.prog W 0 (fun _ => true) true Tryd.f11.params.toList args.toList ds p := hA0
  rw [Tryd.params11] at hA hval
  obtain ⟨v0, vs0, d0, ds0, p0, q0, hargs, rfl, rfl, h0, r0⟩ := trodAll_cons hA
  obtain ⟨rfl, rfl, rfl⟩ := trodAll_nil r0
  obtain rfl : args = #[v0] := by cases args; simp_all
  obtain ⟨rfl, rfl⟩ := trodVars_none hV
  have hlt := hW'.lt
  have k0 := h0
  obtain ⟨r_a, r_n, r_c, r, rfl, w_r_n, w_r_c, w_r_z, w_r, w_r_wf⟩ := arg_entries (hval 0 52 v0 rfl rfl) h0
  clear hA0
  simp only [List.append_nil] at hW'
  refine (walk r_a r_n r_c r w_r_n w_r_c w_r_z w_r_wf W w_r (table hL)).mono fun e W' ⟨he, bel⟩ => ?_
  subst he
  exact ⟨_, rfl, _, _, _, [], _, [], hW', trodAll_mk1 (shut_bool Tryd.underlying4 _), (trodAll_cons_mk (Below.trod laidOut (by kernel_rfl) (of_decide_eq_true (by kernel_rfl)) k0 bel (fun x hx => hlt x (by simp [hx]))) trodAll_mk0), rfl, bel.frame _, fun h => by cases h⟩

theorem laid_met (os : Os) : laidMet Tryd.prog Rows.taintNoneRow.laid ((laidWorld os).forCall (fun _ _ => 0) ⟨#[], #[Value.slice none 0 0], []⟩).memory :=
  laidMet_of_run' 8 (by kernel_rfl) (by kernel_rfl)
theorem reads (os : Os) {H : Type} (enc : TypeId × Value → H) : ∃ places, DataW.whole enc Tryd.prog ((laidWorld os).forCall (fun _ _ => 0) ⟨#[], #[Value.slice none 0 0], []⟩).memory Tryd.f11.params.toList Rows.taintNoneSpec.vars false #[Value.slice none 0 0].toList 8 = some ([.nil], [], places) :=
  ⟨[], by kernel_rfl⟩

set_option maxRecDepth 100000 in
theorem lifted (os : Os) (started : os.Started) (H : Type) (enc : TypeId × Value → H) (F : Stop.Interp) :
    ReturnsInHanded {} Tryd.checked os 11 .any ((OpenSpec.ofChange Rows.taintNoneSpec).preRow enc Tryd.prog Tryd.f11 Rows.taintNoneRow.domain false Rows.taintNoneRow.laid) (((OpenSpec.ofChange Rows.taintNoneSpec).at F).post enc Tryd.prog Tryd.f11 false true false false) := by
  obtain ⟨places, hx⟩ := reads os enc
  refine returnsInHanded_of_row (C := Tryd.checked) (s := OpenSpec.ofChange Rows.taintNoneSpec) own started (by kernel_rfl) Tryd.func11
    (witness_row_at (enc := enc) (C := Tryd.checked) false (laidWorld os) #[Value.slice none 0 0] rfl (by kernel_rfl) (by kernel_rfl) (by kernel_rfl)
      (OpenSpec.preRow_of_cond 8 hx (by kernel_rfl) (fun k hk => by cases hk) (by kernel_rfl) (laid_met os))) ?_
  intro W base args ds gs before hval hW _ _ _ hL _ _
  exact contract H enc W base args ds gs before hval hW hL

theorem said : Rows.TaintNoneSaid :=
  OpenClaim.holds_of_cond 11 Tryd.f11 rfl rfl rfl rfl rfl rfl rfl ⟨rfl, rfl, rfl, rfl, rfl⟩ rfl rfl rfl rfl rfl (by kernel_rfl) Tryd.func11 (by kernel_rfl)
    (of_decide_eq_true (by kernel_rfl)) (by unfold Func.isWrapper; first | (rw [if_pos (by decide +kernel)]; kernel_rfl) | (rw [if_neg (by decide +kernel)]; exact ⟨rfl, rfl⟩))
    (fun os started H enc _ F => by rw [OpenClaim.pre_eq_preRow]; exact lifted os started H enc F)

theorem plain (f : FuncId) (fn : Func) (hf : Tryd.pinned.checked.prog.funcNamed "auspex/auspexlaw14.TaintNone" = some f) (hfn : Tryd.pinned.checked.prog.funcs[f]? = some fn) :
    false = Tryd.pinned.checked.prog.looks [] ∧ ∀ (j : Nat) t, fn.params[j]? = some t → Tryd.pinned.checked.prog.wantsStandIn t = false := by
  obtain rfl : f = 11 := Option.some.inj ((show Tryd.prog.funcNamed "auspex/auspexlaw14.TaintNone" = some 11 by kernel_rfl).symm.trans hf) |>.symm
  obtain rfl : fn = Tryd.f11 := (Option.some.inj (Tryd.func11.symm.trans hfn)).symm
  refine ⟨by kernel_rfl, fun j t ht => ?_⟩
  rw [Tryd.params11] at ht
  have hm := Array.mem_of_getElem? ht
  simp only [List.mem_toArray, List.mem_cons, List.not_mem_nil, or_false] at hm
  obtain rfl := hm
  exact (show Tryd.prog.wantsStandIn 52 = false by kernel_rfl)

/-- THE CARD -/
theorem proved : Rows.TaintNoneCardSaid :=
  Claim7.holds_tied_plain_at .later [] _ _ _ _ said (fun _ h => by cases h) (by kernel_rfl) (fun _ h => by cases h) taintNone_row_tie rfl ⟨rfl, rfl⟩ (by kernel_rfl) rfl plain (by kernel_rfl)
#print axioms proved
end Go.Proofs.YtfekknalchjkiaaDoor.taintNone
