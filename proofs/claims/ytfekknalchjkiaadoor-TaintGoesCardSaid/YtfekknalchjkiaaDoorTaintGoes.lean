/- Proved: the card of TaintGoes (auspexlaw14): with more entries known no root comes to be and what is visible stays so; an entry put behind all changes nothing of theirs; for every input; on the world that holds the table of instructions. -/
import Derived.Test.YtfekknalchjkiaaDoorCards
import Derived.Test.YtfekknalchjkiaaDoorTie
import Derived.Test.YtfekknalchjkiaaDoorMore
import Derived.Test.YtfekknalchjkiaaDoorQuietTail
import Derived.Test.YtfekknalchjkiaaDoorTaintV
import Derived.Test.YtfekknalchjkiaaDoorOwnS
import Derived.Great.BuildSlice
import Derived.Deep.RegionLaw
import Derived.Deep.RegionWith
import Derived.Deep.Cut
import Derived.Deep.CutRange
import Derived.Test.YtfekknalchjkiaaDoorExecLaid
import Derived.WalkKit
import Derived.ProofKit
import Derived.OpenShut
import Derived.Deep.DeepHandedRow
import Derived.Lib.LaidTab
namespace Go.Proofs.YtfekknalchjkiaaDoor.taintGoes
open Go.ChangeShapes Go.WideShapes Go.ChangeAt Go.RowKit Go.Sort
set_option linter.unusedVariables false
set_option linter.unusedSimpArgs false
set_option maxHeartbeats 6000000
set_option maxRecDepth 100000

theorem makN_app (es : List En) (e : En) (reg : Int) : ∀ k, k ≤ es.length → makN (es ++ [e]) reg k = makN es reg k
  | 0, _ => rfl
  | k + 1, h => by
    unfold makN
    rw [List.getElem?_append_left (by omega), makN_app es e reg k (by omega)]
theorem makI_app (es : List En) (e : En) (k : Nat) (reg : Int) (h : k ≤ es.length) : makI (es ++ [e]) k reg = makI es k reg := by
  unfold makI
  rw [ahd_nat _ k (by simp; omega), ahd_nat _ k h, makN_app es e reg k h]
theorem front_app (es : List En) (e : En) : frontN (es ++ [e]) = frontN es ∨ (frontN es = es.length ∧ es.length ≤ frontN (es ++ [e])) := by
  by_cases h : frontN es < es.length
  · left
    obtain ⟨x, hx⟩ : ∃ x, es[frontN es]? = some x := ⟨_, List.getElem?_eq_getElem h⟩
    have h1 := front_not hx rfl
    refine front_at (e := x) (by rw [List.getElem?_append_left h]; exact hx) h1 ?_
    refine Nat.le_of_not_lt fun hlt => ?_
    obtain ⟨y, hy⟩ : ∃ y, es[frontN (es ++ [e])]? = some y := ⟨_, List.getElem?_eq_getElem (by omega)⟩
    have h2 := front_before hy hlt
    have h3 := front_not (es := es ++ [e]) (by rw [List.getElem?_append_left (by omega)]; exact hy) rfl
    rw [h2] at h3
    cases h3
  · have h0 := front_le es
    right
    refine ⟨by omega, Nat.le_of_not_lt fun hlt => ?_⟩
    obtain ⟨y, hy⟩ : ∃ y, es[frontN (es ++ [e])]? = some y := ⟨_, List.getElem?_eq_getElem hlt⟩
    have h2 := front_before hy (by omega)
    have h3 := front_not (es := es ++ [e]) (by rw [List.getElem?_append_left hlt]; exact hy) rfl
    rw [h2] at h3
    cases h3
theorem roots_app (es : List En) (e : En) : ∀ k, k ≤ es.length → rootsN (es ++ [e]) (frontN (es ++ [e])) k = rootsN es (frontN es) k
  | 0, _ => rfl
  | k + 1, h => by
    obtain ⟨x, hx⟩ : ∃ x, es[k]? = some x := ⟨_, List.getElem?_eq_getElem (by omega)⟩
    rw [rootsN_at hx, rootsN_at (es := es ++ [e]) (by rw [List.getElem?_append_left (by omega)]; exact hx), roots_app es e k (by omega)]
    congr 2
    unfold rootAt
    rw [makI_app es e k _ (by omega), makI_app es e k _ (by omega)]
    have hf : (frontN (es ++ [e]) < k) = (frontN es < k) := by
      rcases front_app es e with h1 | ⟨h1, h2⟩
      · rw [h1]
      · have a1 : ¬ frontN es < k := by omega
        have a2 : ¬ frontN (es ++ [e]) < k := by omega
        simp [a1, a2]
    simp only [hf]
theorem rootsL_app (es : List En) (e : En) : (rootsL (es ++ [e])).take es.length = rootsL es := by
  unfold rootsL
  rw [List.length_append, List.length_singleton, ← roots_app es e es.length (Nat.le_refl _), rootsN, List.take_left' (rootsN_len _ _ _)]

theorem refSame_any (A B : Option Addr) (n ca cb : Nat) (zs : List Int) (hn : n ≤ 100) (w : World) (hA : IntsAt w A n .i64 zs) (hB : IntsAt w B n .i64 zs) :
    Calls Tryd.prog 36 #[.slice A n ca, .slice B n cb] w fun r w' => r = .returned (.bool true) ∧ Below w.heap.size w w' := by
  have HA := Lib.hid hA
  have HB := Lib.hid hB
  have HL := hA.1
  clear hA hB
  go_enter Tryd.func36, Tryd.ntmps36
  go_wp2
  go_loopw [13] (fun v wr => ∃ j : Nat, j ≤ n ∧ v = .int .i64 j ∧ Below w.heap.size w wr) (fun v _ => n - (intOf v).toNat)
  case atStart => exact ⟨0, by omega, rfl, Below.refl _ _⟩
  case round =>
    obtain ⟨j, hj, rfl, hb⟩ := hrel
    have HBL := Lib.hid hb
    clear hb
    by_cases hlt : j < n
    · obtain ⟨a, rfl, ha⟩ := (HA.out.below HBL.out).at_ hlt
      obtain ⟨b, rfl, hb⟩ := (HB.out.below HBL.out).at_ hlt
      obtain ⟨x, hx⟩ : ∃ x, zs.getD j 0 = x := ⟨_, rfl⟩
      rw [hx] at ha hb
      clear hx
      have g1 := fun d os => cell_regrown ha d os
      have g2 := fun d os => cell_regrown hb d os
      clear ha hb
      go_wp2
      refine wp_region_quiet_below (by kernel_rfl) (by kernel_rfl) ?_
      repeat (go_big_quiet_step (fail))
      refine wpQuiet_nil ?_
      intro _ hw'
      obtain ⟨⟨nq, osq⟩, hw''⟩ := hw'
      subst hw''
      have bq := Lib.hid (HBL.out.trans ((below_regrown wr nq osq).mono HBL.out.size))
      clear g1 g2
      go_wp2
      go_roundw
      case rel => exact ⟨j + 1, by omega, by go_num, bq.out⟩
      case measure => simp [intOf]; omega
    · obtain rfl : j = n := by omega
      go_wp2
      go_ret
      exact ⟨rfl, HBL.out⟩

theorem one_new {w : World} (t : TypeId) (e : En) : EntsAt (w.alloc (.cells (enC e).toArray t)) (some ⟨w.heap.size, 0, none⟩) 1 [e] :=
  ⟨rfl, fun j c hj => by
    have hj0 : j = 0 := by
      have := (List.getElem?_eq_some_iff.1 hj).1
      simp at this
      exact this
    subst hj0
    have hc : enC e = c := by simpa using hj
    subst hc
    exact ⟨rfl, _, rfl, by simp, fun i v hi => by rw [Addr.add_lit, World.cell?_alloc_at _ _ _ _ rfl]; simpa using hi⟩⟩
/-- a row of one entry is built, at a step of a region that draws -/
theorem step_build_one {w : World} {ops : Array Oper} {o : Oper} {a : Act} {K : Act → World → Prop} {Q : Exit → Act → World → Prop} {E : Prop} (hgd : o.guard = none) (parts : Array (Nat × Operand)) (e : En) (cs : List Value) (hcs : enC e = cs) (ho : o.op = .buildSlice 52 1 parts)
    (hp : (parts.map fun (i, x) => (i, a.eval x)).toList = [(0, .agg cs.toArray)])
    (h : ∀ W2, EntsAt W2 (some ⟨w.heap.size, 0, none⟩) 1 [e] → Below w.heap.size w W2 → W2.heap.size = w.heap.size + 1 → K (a.put o.dst (.slice (some ⟨w.heap.size, 0, none⟩) 1 1)) W2) :
    if Region.wanted o (yielded ops a.tmps) = true then Oper.wp Tryd.prog o a w K Q else E := by
  subst hcs
  have hw : Region.wanted o (yielded ops a.tmps) = true := by simp [Region.wanted, hgd]
  rw [if_pos hw]
  obtain ⟨ie, hie, hs⟩ := Option.map_eq_some_iff.1 ent_info
  obtain ⟨z, hz, hzs⟩ : ∃ z, ie.zero = some z ∧ z.cells.size = 17 := by
    have : (Tryd.prog.info? 60).bind (fun i => i.zero.map (·.cells.size)) = some 17 := by kernel_rfl
    rw [hie] at this
    simpa using this
  refine wp_buildSlice 52 60 1 parts ho (enC e).toArray ie z Tryd.underlying52 hie hz (by rw [hs]; omega) (by rw [hs]; omega) ?_ ?_
  · rw [hp, hs, show [(0, Value.agg (enC e).toArray)] = ([enV e].zipIdx 0).map (fun x => (x.2, x.1)) from rfl]
    refine (Great.fill_whole (by decide) [enV e] _ (fun v hv => by simp at hv; subst hv; rfl) (by simp)).trans ?_
    simp [enV, Value.cells]
  · exact h _ (one_new _ e) ((Below.refl _ _).alloc (Nat.le_refl _) _) (by simp)
/-- entries are appended to a row of the call's own, at a step of a region that draws -/
theorem step_append_ents {w : World} {ops : Array Oper} {o : Oper} {a : Act} {K : Act → World → Prop} {Q : Exit → Act → World → Prop} {E : Prop} (hgd : o.guard = none) (s x : Operand)
    (ho : o.op = .call { callee := .builtin .append, args := #[s, x], argTypes := #[52, 52] }) (base : Nat)
    (v : Value) (n : Nat) (xs : List Value) (hs : a.eval s = v) (hown : w.ownsRow base 60 17 v n xs) (A : Option Addr) (m c : Nat) (es : List En) (hx : a.eval x = .slice A m c) (hr : EntsAt w A m es) (hA : A = none → c = 0)
    (hnm : n + m ≤ 100000) (hbase : base ≤ w.heap.size)
    (h : ∀ v' w', w'.ownsRow base 60 17 v' (n + m) (xs ++ (es.map enC).flatten) → w.grownBy w' v.ownBlock → K (a.put o.dst v') w') : if Region.wanted o (yielded ops a.tmps) = true then Oper.wp Tryd.prog o a w K Q else E := by
  obtain ⟨i0, hi, h3⟩ := Option.map_eq_some_iff.1 info_entE
  injection h3 with hz0 h3
  injection h3 with hz1 hz2
  obtain ⟨z, hz, hzs⟩ := Option.map_eq_some_iff.1 hz0
  cases A with
  | none =>
    have hw : Region.wanted o (yielded ops a.tmps) = true := by simp [Region.wanted, hgd]
    rw [if_pos hw]
    obtain rfl : m = 0 := by
      rcases Nat.eq_zero_or_pos m with e | e
      · exact e
      · obtain ⟨r, hr'⟩ : ∃ r, es[0]? = some r := ⟨_, List.getElem?_eq_getElem (by rw [hr.len]; exact e)⟩
        obtain ⟨a, ha, _⟩ := hr.at_ hr'
        cases ha
    obtain rfl : es = [] := List.length_eq_zero_iff.1 hr.len
    obtain rfl : c = 0 := hA rfl
    have hrun := run_append_owned_none (P := Tryd.prog) (w := w) base 52 o.type 60 i0 17 Tryd.underlying52 hi v n xs hown
    unfold Oper.wp
    simp [execOp, ho, resolve, invoke, builtin, hs, hx, hrun, Result.andThen]
    exact h v w (by simpa using hown) (World.grownBy.refl _ _)
  | some b =>
    have hnews := RowsAt.news hr (by decide)
    exact step_append_own hgd s x 52 ho base 60 i0 z 17 120 Tryd.underlying52 hi hz hz1 hz2 hzs (by decide) v n xs hs hown b m c _ hx hnews.1 hnews.2 (enC_ones es) (by unfold maxLen; omega) (by omega) hbase (fun v' w' h1 h2 _ => h v' w' h1 h2)
theorem one_grown {w w' : World} {b m : Nat} {ob : Option Nat} {es : List En} (h : EntsAt w (some ⟨b, 0, none⟩) m es) (hg : w.grownBy w' ob) (hne : some b ≠ ob) : EntsAt w' (some ⟨b, 0, none⟩) m es := by
  refine ⟨h.1, fun j c hj => ?_⟩
  obtain ⟨hl, a, ha, hlt, hv⟩ := h.2 j c hj
  cases ha
  refine ⟨hl, _, rfl, Nat.lt_of_lt_of_le hlt hg.size, fun i v hi => ?_⟩
  have h0 := hv i v hi
  rw [Addr.add_lit] at h0 ⊢
  exact hg.cell h0 hne
/-- a struct is read whole, at a step of a region that draws -/
theorem step_load_blk {w : World} {ops : Array Oper} {o : Oper} {a : Act} {K : Act → World → Prop} {Q : Exit → Act → World → Prop} {E : Prop} (hgd : o.guard = none) (ty : TypeId) (x : Operand) (ho : o.op = .load ty x) (b : Nat) (hx : a.eval x = .pointer (some ⟨b, 0, none⟩)) (cs : List Value) (d : TypeDesc)
    (hc : w.rangeAt b 0 cs) (hu : Tryd.prog.underlying ty = some d) (hd : d.isRow = true) (hi : (Tryd.prog.info? ty).map (·.size) = some cs.length) (h : K (a.put o.dst (.agg cs.toArray)) w) :
    if Region.wanted o (yielded ops a.tmps) = true then Oper.wp Tryd.prog o a w K Q else E := by
  have hw : Region.wanted o (yielded ops a.tmps) = true := by simp [Region.wanted, hgd]
  rw [if_pos hw]
  exact wp_load_mid ty x ho b 0 hx cs d hc hu hd hi h

theorem bdrew {B : Nat} {a w : World} (h : Below B a w) : Below B a w.drew := ⟨h.os, h.tape, h.output, h.size, h.block⟩
theorem walk (A : Option Addr) (n c : Nat) (es : List En) (B : Option Addr) (nb cb : Nat) (ks : List Bool) (e : En) (hn : n ≤ c) (hc : c ≤ maxLen) (hz : A = none → c = 0) (wf : ∀ s ∈ es, enOK s) (hnb : nb ≤ cb) (hcb : cb ≤ maxLen) (we : enOK e) (w : World) (hE : EntsAt w A n es) (hK : BoolsAt w B nb ks) (ht : TabIs w ∧ 0 < w.heap.size) :
    Calls Tryd.prog 10 #[.slice A n c, .slice B nb cb, enV e] w fun e w' => e = .returned (.bool true) ∧ Below w.heap.size w w' := by
  obtain ⟨htb, hg0⟩ := ht
  clear wf we
  obtain ⟨cs, hcs⟩ : ∃ cs, enC e = cs := ⟨_, rfl⟩
  have hl : cs.length = 17 := by rw [← hcs]; rfl
  have HI := Lib.hid (show (Tryd.prog.info? 60).map (·.size) = some cs.length by rw [hl]; exact ent_info)
  unfold enV
  rw [hcs]
  have HCS := Lib.hid hcs
  clear hcs hl
  have f1 := Blk.new w 60 cs
  have f3 : Below w.heap.size w (w.alloc (.cells cs.toArray 60)) := (Below.refl _ _).alloc (Nat.le_refl _) _
  have f4 : w.heap.size < (w.alloc (.cells cs.toArray 60)).heap.size := by simp
  go_enter Tryd.func10, Tryd.ntmps10
  go_upto_region 1 with fail
  generalize w.alloc (.cells cs.toArray 60) = W0 at *
  have HT := Lib.hid (htb.below f3 hg0)
  have hg := Nat.lt_of_lt_of_le hg0 f3.size
  have HX := Lib.hid f1
  have HF3 := Lib.hid f3
  have HF4 := Lib.hid f4
  have HC := Lib.hid hc
  have HCB := Lib.hid hcb
  have HZ := Lib.hid hz
  have HKS := Lib.hid (hK.below f3)
  have HW := Lib.hid (few14_any A n c hn hc)
  obtain ⟨m, hm⟩ : ∃ m, min n 20 = m := ⟨_, rfl⟩
  rw [hm] at HW
  have hmn : m ≤ n := by omega
  have hmc : m ≤ c := by omega
  have hm20 : m ≤ 20 := by omega
  obtain ⟨fs, hfs⟩ : ∃ l, es.take m = l := ⟨_, rfl⟩
  have hF := (hE.below f3).take (m := m) hmn
  rw [hfs] at hF
  clear hE hfs hm hmn hn htb hc hz hcb hK f1 f3 f4
  have HL := hF.len
  have HE := Lib.hid hF
  clear hF
  obtain ⟨EB, hEB⟩ : ∃ EB, w.heap.size = EB := ⟨_, rfl⟩
  have HEE := Lib.hid hEB
  rw [hEB] at hg0 HX HF3 HF4 ⊢
  clear hEB
  go_wp2_with (first
    | (go_at_call 28; refine (HW.out _).mono ?_; rintro r w1 ⟨rfl, b1⟩
       have hbel := (Below.refl w1.heap.size w1).alloc (Nat.le_refl _) (.cells #[] 60)
       have K1 := Lib.hid b1
       have HB1 := Lib.hid hbel
       have HO := Lib.hid (World.ownsRow_made w1 (base := w1.heap.size) (e := 60) (size := 17) #[] 0 (Nat.le_refl _) (Nat.zero_le _) rfl)
       clear b1 hbel)
    | (at_builtin; refine wpList_append_ents rfl (.tmp 15) (.tmp 16) rfl w1.heap.size _ _ _ rfl HO.out A m c fs rfl ((HE.out.below K1.out).below HB1.out) HZ.out (by omega) (by simp) ?_; intro v2 w2 hown2 hgrow2; rw [List.nil_append, Nat.zero_add] at hown2; obtain ⟨A2, c2, rfl, hc1, hc2, hmo⟩ := more_own hown2 HL; have HM := Lib.hid hmo; have HB := Lib.hid (K1.out.trans ((HB1.out.grown hgrow2 (by simp) (fun k hk => (HO.out.lt k hk).1)).mono K1.out.size)); clear hown2 hgrow2 hmo))
  have HBA := Lib.hid K1.out.size
  generalize w1.heap.size = base at *
  clear K1 HB1 HO HW
  go_loopw [20] (fun i wr => ∃ (k : Nat) (gs : List En), k ≤ m ∧ i = .int .i64 k ∧ Rel fs gs ∧ MoreAt wr base A2 m gs ∧ Below W0.heap.size W0 wr) (fun i _ => m - (intOf i).toNat)
  case atStart => exact ⟨0, fs, by omega, rfl, Rel.refl fs, HM.out, HB.out⟩
  case round =>
    clear HM HB
    obtain ⟨k, gs, hk, rfl, hr, hmo, hb⟩ := hrel
    have HR := Lib.hid hr
    have HM := Lib.hid hmo
    have HB := Lib.hid hb
    clear hr hmo hb
    by_cases hlt : k < m
    · by_cases hkb : k < nb
      · obtain ⟨a, rfl, hca⟩ := (HKS.out.below HB.out).at_ hkb
        obtain ⟨kb, hkv⟩ : ∃ b, ks.getD k false = b := ⟨_, rfl⟩
        rw [hkv] at hca
        clear hkv
        cases kb
        · go_wp2
          go_roundw
          case rel => exact ⟨k + 1, gs, by omega, by go_num, HR.out, HM.out, HB.out⟩
          case measure => simp [intOf]; omega
        · obtain ⟨e, he⟩ : ∃ e, gs[k]? = some e := ⟨_, List.getElem?_eq_getElem (by rw [HR.out.1]; omega)⟩
          obtain ⟨g, rfl, -, -, -⟩ := HM.out.2 (by omega)
          obtain ⟨z1, z2, z3⟩ := HM.out.known he
          have HR2 := Lib.hid (HR.out.set he)
          have HM2 := Lib.hid (HM.out.set he)
          have HB2 := Lib.hid (HB.out.setCell (p := ⟨g, k * 17 + 15, none⟩) (Nat.le_trans HBA.out z3) (.bool true))
          clear he
          go_wp2
          go_roundw
          case rel => exact ⟨k + 1, _, by omega, by go_num, HR2.out, HM2.out, HB2.out⟩
          case measure => simp [intOf]; omega
      · have d : decide ((k : Int) < nb) = false := decide_eq_false (by omega)
        have d' : decide (k < nb) = false := decide_eq_false hkb
        go_wp2
        go_roundw
        case rel => exact ⟨k + 1, gs, by omega, by go_num, HR.out, HM.out, HB.out⟩
        case measure => simp [intOf]; omega
    · obtain rfl : k = m := by omega
      have HGL := Lib.hid (show gs.length = k by rw [HR.out.1]; exact HL)
      have HRO := Lib.hid (fun w' ht hg (h : EntsAt w' A k fs) => roots_any A k c fs hmc HC.out (by omega) w' ht hg h)
      have HRM := Lib.hid (fun w' ht hg (h : EntsAt w' A2 k gs) => roots_any A2 k c2 gs hc1 hc2 (by omega) w' ht hg h)
      have HRQ := Lib.hid (fun A3 c3 h1 h2 w' ht hg (h : EntsAt w' A3 (k + 1) (fs ++ [e])) => roots_any A3 (k + 1) c3 (fs ++ [e]) h1 h2 (by omega) w' ht hg h)
      clear hlt HBA
      go_upto_region 10 with (first
        | (go_at_call 29; refine (HRO.out _ (HT.out.below HB.out hg) (Nat.lt_of_lt_of_le hg HB.out.size) (HE.out.below HB.out)).mono ?_; rintro r w2 ⟨AR, cR, rfl, hr1, hr2, hri, b⟩
           clear HRO
           have R1 := Lib.hid hri
           replace HM := Lib.hid (HM.out.below b)
           replace HB := Lib.hid (HB.out.trans (b.mono HB.out.size))
           clear b hri)
        | (go_at_call 29; refine (HRM.out _ (HT.out.below HB.out hg) (Nat.lt_of_lt_of_le hg HB.out.size) HM.out.1).mono ?_; rintro r w3 ⟨AS, cS, rfl, hs1, hs2, hri, b⟩
           replace R1 := Lib.hid (R1.out.below b)
           clear HRM
           have R2 := Lib.hid hri
           replace HM := Lib.hid (HM.out.below b)
           replace HB := Lib.hid (HB.out.trans (b.mono HB.out.size))
           clear b hri))
      have HX3 := Lib.hid (HX.out.below HB.out HF4.out)
      have HLT := Lib.hid (show EB < w3.heap.size from Nat.lt_of_lt_of_le HF4.out HB.out.size)
      have HE3 := Lib.hid (HE.out.below HB.out)
      have HT3 := Lib.hid (HT.out.below HB.out hg)
      have HG3 := Lib.hid (Nat.lt_of_lt_of_le hg HB.out.size)
      have k0 : Below w3.heap.size w3 w3.drew := bdrew (Below.refl _ _)
      have k1 : Below w3.heap.size w3 (w3.alloc (.cells #[] 60)).drew := bdrew ((Below.refl _ _).alloc (Nat.le_refl _) _)
      have K0 := Lib.hid k0
      have K1 := Lib.hid k1
      have HOa := Lib.hid (show World.ownsRow (w3.alloc (.cells #[] 60)).drew w3.heap.size 60 17 (.slice (some ⟨w3.heap.size, 0, none⟩) 0 0) 0 [] from (World.ownsRow_made w3 (base := w3.heap.size) (e := 60) (size := 17) #[] 0 (Nat.le_refl _) (Nat.zero_le _) rfl).drew)
      clear k0 k1
      go_cut [11] from 42 to 48 (fun v wx => ∃ (AT : Option Addr) (cT : Nat), v = .slice AT (k + 1) cT ∧ k + 1 ≤ cT ∧ cT ≤ maxLen ∧ IntsAt wx AT (k + 1) .i64 (rootsL (fs ++ [e])) ∧ Below w3.heap.size w3 wx)
      case first =>
        refine wp_region_any (by kernel_rfl) ?_
        try (change wpAny _ _ _ _ _ _ _ (World.drew _))
        refine wpAny_take (i := 1) (v := .slice A k c) rfl (by kernel_rfl) (by kernel_rfl) (by kernel_rfl) (fun _ _ _ h => h) (Or.inl ⟨by rfl, ?_⟩) ?_
        · intro w
          go_simp
        refine wpAny_ready (rs := [0, 3]) (by kernel_rfl) (by simp) ?_
        refine AllReady.cons (o := { dst := some 42, op := .buildSlice 52 0 #[], type := 52, pos := "law.go:63", after := #[], guard := none }) rfl (fun K hK => ?_) ?_
        · go_simp
          refine hK _ _ ?_
          clear hK K
          refine wpAny_ready (rs := [2, 3]) (by kernel_rfl) (by simp) ?_
          refine AllReady.cons (o := { dst := some 44, op := .call { callee := .builtin .append, args := #[.tmp 42, .tmp 43], argTypes := #[52, 52] }, type := 52, pos := "law.go:63", after := #[{ on := 0, ground := .data }, { on := 1, ground := .data }], guard := none }) rfl (fun K hK => ?_) ?_
          · refine step_append_ents (by rfl) (.tmp 42) (.tmp 43) (by rfl) w3.heap.size _ 0 [] (by rfl) HOa.out A k c fs (by rfl) (HE3.out.below K1.out) HZ.out (by omega) K1.out.size ?_
            intro v4 w4 ho4 hg4
            have K4 := Lib.hid (K1.out.grown hg4 K1.out.size (fun j hj => (HOa.out.lt j hj).1))
            have HO4 := Lib.hid ho4
            clear ho4 hg4
            try go_simp
            refine hK _ _ ?_
            clear hK K
            refine wpAny_ready (rs := [3]) (by kernel_rfl) (by simp) ?_
            refine AllReady.cons (o := { dst := some 45, op := .load 60 (.tmp 5), type := 60, pos := "law.go:63", after := #[], guard := none }) rfl (fun K hK => ?_) ?_
            · refine step_load_blk (by rfl) 60 (.tmp 5) (by rfl) EB (by rfl) cs _ (HX3.out.below K4.out HLT.out).range Tryd.underlying60 rfl HI.out ?_
              try go_simp
              refine hK _ _ ?_
              clear hK K
              refine wpAny_ready (rs := [4]) (by kernel_rfl) (by simp) ?_
              refine AllReady.cons (o := { dst := some 46, op := .buildSlice 52 1 #[(0, .tmp 45)], type := 52, pos := "law.go:63", after := #[{ on := 3, ground := .data }], guard := none }) rfl (fun K hK => ?_) ?_
              · refine step_build_one (by rfl) _ e cs HCS.out (by rfl) (by simp [Act.eval]) ?_
                intro W6 hE6 hb6 hs6
                have KF := Lib.hid (K4.out.trans (hb6.mono K4.out.size))
                have HOF := Lib.hid (own_below HO4.out hb6)
                clear hb6 hs6
                generalize w4.heap.size = b6 at hE6 ⊢
                have HEF := Lib.hid hE6
                clear hE6
                try go_simp
                refine hK _ _ ?_
                clear hK K
                refine wpAny_ready (rs := [5]) (by kernel_rfl) (by simp) ?_
                refine AllReady.cons (o := { dst := some 47, op := .call { callee := .builtin .append, args := #[.tmp 44, .tmp 46], argTypes := #[52, 52] }, type := 52, pos := "law.go:63", after := #[{ on := 2, ground := .data }, { on := 4, ground := .data }, { on := 2, ground := .chain }], guard := none }) rfl (fun K hK => ?_) AllReady.nil
                refine step_append_ents (by rfl) (.tmp 44) (.tmp 46) (by rfl) w3.heap.size _ (0 + k) _ (by rfl) HOF.out (some ⟨b6, 0, none⟩) 1 1 [e] (by rfl) HEF.out (fun h => by cases h) (by omega) KF.out.size ?_
                intro v5 w5 ho5 hg5
                have K5 := Lib.hid (KF.out.grown hg5 KF.out.size (fun j hj => (HOF.out.lt j hj).1))
                rw [Nat.zero_add, List.nil_append, ← List.flatten_append, ← List.map_append] at ho5
                obtain ⟨A5, c5, rfl, hc51, hc52, hm5⟩ := more_own ho5 (by rw [List.length_append, HL]; rfl)
                have HN5 := Lib.hid hm5.1
                clear ho5 hg5 hm5
                try go_simp
                refine hK _ _ ?_
                clear hK K
                refine wpAny_ready (rs := [6]) (by kernel_rfl) (by simp) ?_
                refine AllReady.cons (o := { dst := some 48, op := .call { callee := .value (.func 29), args := #[.tmp 47], argTypes := #[52] }, type := 54, pos := "law.go:63", after := #[{ on := 5, ground := .data }, { on := 5, ground := .chain }], guard := none }) rfl (fun K hK => ?_) AllReady.nil
                go_simp
                go_at_call 29
                refine (HRQ.out _ _ hc51 hc52 _ (HT3.out.below K5.out HG3.out) (Nat.lt_of_lt_of_le HG3.out K5.out.size) HN5.out).mono ?_
                rintro r w7 ⟨AT, cT, rfl, ht1, ht2, hti, b⟩
                have KT := Lib.hid (K5.out.trans (b.mono K5.out.size))
                have RT := Lib.hid hti
                clear b hti
                try go_simp
                first
                  | (refine hK _ _ ?_; clear hK K)
                  | skip
                refine wpAny_ready (rs := [7]) (by kernel_rfl) (by simp) ?_
                refine AllReady.cons rfl (fun K hK => ?_) AllReady.nil
                go_simp
                refine hK _ _ ?_
                clear hK K
                refine wpAny_done (by kernel_rfl) ?_ _
                go_wp2_with fail
                go_meet
                exact ⟨AT, cT, rfl, ht1, ht2, RT.out, KT.out⟩
              exact AllReady.nil
            exact AllReady.nil
          refine AllReady.cons (o := { dst := some 45, op := .load 60 (.tmp 5), type := 60, pos := "law.go:63", after := #[], guard := none }) rfl (fun K hK => ?_) ?_
          · refine step_load_blk (by rfl) 60 (.tmp 5) (by rfl) EB (by rfl) cs _ (HX3.out.below K1.out HLT.out).range Tryd.underlying60 rfl HI.out ?_
            try go_simp
            refine hK _ _ ?_
            clear hK K
            refine wpAny_ready (rs := [2, 4]) (by kernel_rfl) (by simp) ?_
            refine AllReady.cons (o := { dst := some 44, op := .call { callee := .builtin .append, args := #[.tmp 42, .tmp 43], argTypes := #[52, 52] }, type := 52, pos := "law.go:63", after := #[{ on := 0, ground := .data }, { on := 1, ground := .data }], guard := none }) rfl (fun K hK => ?_) ?_
            · refine step_append_ents (by rfl) (.tmp 42) (.tmp 43) (by rfl) w3.heap.size _ 0 [] (by rfl) HOa.out A k c fs (by rfl) (HE3.out.below K1.out) HZ.out (by omega) K1.out.size ?_
              intro v4 w4 ho4 hg4
              have K4 := Lib.hid (K1.out.grown hg4 K1.out.size (fun j hj => (HOa.out.lt j hj).1))
              have HO4 := Lib.hid ho4
              clear ho4 hg4
              try go_simp
              refine hK _ _ ?_
              clear hK K
              refine wpAny_ready (rs := [4]) (by kernel_rfl) (by simp) ?_
              refine AllReady.cons (o := { dst := some 46, op := .buildSlice 52 1 #[(0, .tmp 45)], type := 52, pos := "law.go:63", after := #[{ on := 3, ground := .data }], guard := none }) rfl (fun K hK => ?_) ?_
              · refine step_build_one (by rfl) _ e cs HCS.out (by rfl) (by simp [Act.eval]) ?_
                intro W6 hE6 hb6 hs6
                have KF := Lib.hid (K4.out.trans (hb6.mono K4.out.size))
                have HOF := Lib.hid (own_below HO4.out hb6)
                clear hb6 hs6
                generalize w4.heap.size = b6 at hE6 ⊢
                have HEF := Lib.hid hE6
                clear hE6
                try go_simp
                refine hK _ _ ?_
                clear hK K
                refine wpAny_ready (rs := [5]) (by kernel_rfl) (by simp) ?_
                refine AllReady.cons (o := { dst := some 47, op := .call { callee := .builtin .append, args := #[.tmp 44, .tmp 46], argTypes := #[52, 52] }, type := 52, pos := "law.go:63", after := #[{ on := 2, ground := .data }, { on := 4, ground := .data }, { on := 2, ground := .chain }], guard := none }) rfl (fun K hK => ?_) AllReady.nil
                refine step_append_ents (by rfl) (.tmp 44) (.tmp 46) (by rfl) w3.heap.size _ (0 + k) _ (by rfl) HOF.out (some ⟨b6, 0, none⟩) 1 1 [e] (by rfl) HEF.out (fun h => by cases h) (by omega) KF.out.size ?_
                intro v5 w5 ho5 hg5
                have K5 := Lib.hid (KF.out.grown hg5 KF.out.size (fun j hj => (HOF.out.lt j hj).1))
                rw [Nat.zero_add, List.nil_append, ← List.flatten_append, ← List.map_append] at ho5
                obtain ⟨A5, c5, rfl, hc51, hc52, hm5⟩ := more_own ho5 (by rw [List.length_append, HL]; rfl)
                have HN5 := Lib.hid hm5.1
                clear ho5 hg5 hm5
                try go_simp
                refine hK _ _ ?_
                clear hK K
                refine wpAny_ready (rs := [6]) (by kernel_rfl) (by simp) ?_
                refine AllReady.cons (o := { dst := some 48, op := .call { callee := .value (.func 29), args := #[.tmp 47], argTypes := #[52] }, type := 54, pos := "law.go:63", after := #[{ on := 5, ground := .data }, { on := 5, ground := .chain }], guard := none }) rfl (fun K hK => ?_) AllReady.nil
                go_simp
                go_at_call 29
                refine (HRQ.out _ _ hc51 hc52 _ (HT3.out.below K5.out HG3.out) (Nat.lt_of_lt_of_le HG3.out K5.out.size) HN5.out).mono ?_
                rintro r w7 ⟨AT, cT, rfl, ht1, ht2, hti, b⟩
                have KT := Lib.hid (K5.out.trans (b.mono K5.out.size))
                have RT := Lib.hid hti
                clear b hti
                try go_simp
                first
                  | (refine hK _ _ ?_; clear hK K)
                  | skip
                refine wpAny_ready (rs := [7]) (by kernel_rfl) (by simp) ?_
                refine AllReady.cons rfl (fun K hK => ?_) AllReady.nil
                go_simp
                refine hK _ _ ?_
                clear hK K
                refine wpAny_done (by kernel_rfl) ?_ _
                go_wp2_with fail
                go_meet
                exact ⟨AT, cT, rfl, ht1, ht2, RT.out, KT.out⟩
              exact AllReady.nil
            refine AllReady.cons (o := { dst := some 46, op := .buildSlice 52 1 #[(0, .tmp 45)], type := 52, pos := "law.go:63", after := #[{ on := 3, ground := .data }], guard := none }) rfl (fun K hK => ?_) ?_
            · refine step_build_one (by rfl) _ e cs HCS.out (by rfl) (by simp [Act.eval]) ?_
              intro W6 hE6 hb6 hs6
              have K6 := Lib.hid (K1.out.trans (hb6.mono K1.out.size))
              have HO6 := Lib.hid (own_below HOa.out hb6)
              have hne : (w3.alloc (.cells #[] 60)).drew.heap.size ≠ w3.heap.size := by simp
              clear hb6 hs6
              generalize (w3.alloc (.cells #[] 60)).drew.heap.size = b6 at hE6 hne ⊢
              have HE6 := Lib.hid hE6
              have HNE := Lib.hid (show some b6 ≠ Value.ownBlock (.slice (some ⟨w3.heap.size, 0, none⟩) 0 0) from fun h => hne (Option.some.inj h))
              clear hE6 hne
              try go_simp
              refine hK _ _ ?_
              clear hK K
              refine wpAny_ready (rs := [2]) (by kernel_rfl) (by simp) ?_
              refine AllReady.cons (o := { dst := some 44, op := .call { callee := .builtin .append, args := #[.tmp 42, .tmp 43], argTypes := #[52, 52] }, type := 52, pos := "law.go:63", after := #[{ on := 0, ground := .data }, { on := 1, ground := .data }], guard := none }) rfl (fun K hK => ?_) ?_
              · refine step_append_ents (by rfl) (.tmp 42) (.tmp 43) (by rfl) w3.heap.size _ 0 [] (by rfl) HO6.out A k c fs (by rfl) (HE3.out.below K6.out) HZ.out (by omega) K6.out.size ?_
                intro v4 w4 ho4 hg4
                have KF := Lib.hid (K6.out.grown hg4 K6.out.size (fun j hj => (HO6.out.lt j hj).1))
                have HOF := Lib.hid ho4
                have HEF := Lib.hid (one_grown HE6.out hg4 HNE.out)
                clear ho4 hg4
                try go_simp
                refine hK _ _ ?_
                clear hK K
                refine wpAny_ready (rs := [5]) (by kernel_rfl) (by simp) ?_
                refine AllReady.cons (o := { dst := some 47, op := .call { callee := .builtin .append, args := #[.tmp 44, .tmp 46], argTypes := #[52, 52] }, type := 52, pos := "law.go:63", after := #[{ on := 2, ground := .data }, { on := 4, ground := .data }, { on := 2, ground := .chain }], guard := none }) rfl (fun K hK => ?_) AllReady.nil
                refine step_append_ents (by rfl) (.tmp 44) (.tmp 46) (by rfl) w3.heap.size _ (0 + k) _ (by rfl) HOF.out (some ⟨b6, 0, none⟩) 1 1 [e] (by rfl) HEF.out (fun h => by cases h) (by omega) KF.out.size ?_
                intro v5 w5 ho5 hg5
                have K5 := Lib.hid (KF.out.grown hg5 KF.out.size (fun j hj => (HOF.out.lt j hj).1))
                rw [Nat.zero_add, List.nil_append, ← List.flatten_append, ← List.map_append] at ho5
                obtain ⟨A5, c5, rfl, hc51, hc52, hm5⟩ := more_own ho5 (by rw [List.length_append, HL]; rfl)
                have HN5 := Lib.hid hm5.1
                clear ho5 hg5 hm5
                try go_simp
                refine hK _ _ ?_
                clear hK K
                refine wpAny_ready (rs := [6]) (by kernel_rfl) (by simp) ?_
                refine AllReady.cons (o := { dst := some 48, op := .call { callee := .value (.func 29), args := #[.tmp 47], argTypes := #[52] }, type := 54, pos := "law.go:63", after := #[{ on := 5, ground := .data }, { on := 5, ground := .chain }], guard := none }) rfl (fun K hK => ?_) AllReady.nil
                go_simp
                go_at_call 29
                refine (HRQ.out _ _ hc51 hc52 _ (HT3.out.below K5.out HG3.out) (Nat.lt_of_lt_of_le HG3.out K5.out.size) HN5.out).mono ?_
                rintro r w7 ⟨AT, cT, rfl, ht1, ht2, hti, b⟩
                have KT := Lib.hid (K5.out.trans (b.mono K5.out.size))
                have RT := Lib.hid hti
                clear b hti
                try go_simp
                first
                  | (refine hK _ _ ?_; clear hK K)
                  | skip
                refine wpAny_ready (rs := [7]) (by kernel_rfl) (by simp) ?_
                refine AllReady.cons rfl (fun K hK => ?_) AllReady.nil
                go_simp
                refine hK _ _ ?_
                clear hK K
                refine wpAny_done (by kernel_rfl) ?_ _
                go_wp2_with fail
                go_meet
                exact ⟨AT, cT, rfl, ht1, ht2, RT.out, KT.out⟩
              exact AllReady.nil
            exact AllReady.nil
          exact AllReady.nil
        refine AllReady.cons (o := { dst := some 45, op := .load 60 (.tmp 5), type := 60, pos := "law.go:63", after := #[], guard := none }) rfl (fun K hK => ?_) ?_
        · refine step_load_blk (by rfl) 60 (.tmp 5) (by rfl) EB (by rfl) cs _ HX3.out.range Tryd.underlying60 rfl HI.out ?_
          try go_simp
          refine hK _ _ ?_
          clear hK K
          refine wpAny_ready (rs := [0, 4]) (by kernel_rfl) (by simp) ?_
          refine AllReady.cons (o := { dst := some 42, op := .buildSlice 52 0 #[], type := 52, pos := "law.go:63", after := #[], guard := none }) rfl (fun K hK => ?_) ?_
          · go_simp
            refine hK _ _ ?_
            clear hK K
            refine wpAny_ready (rs := [2, 4]) (by kernel_rfl) (by simp) ?_
            refine AllReady.cons (o := { dst := some 44, op := .call { callee := .builtin .append, args := #[.tmp 42, .tmp 43], argTypes := #[52, 52] }, type := 52, pos := "law.go:63", after := #[{ on := 0, ground := .data }, { on := 1, ground := .data }], guard := none }) rfl (fun K hK => ?_) ?_
            · refine step_append_ents (by rfl) (.tmp 42) (.tmp 43) (by rfl) w3.heap.size _ 0 [] (by rfl) HOa.out A k c fs (by rfl) (HE3.out.below K1.out) HZ.out (by omega) K1.out.size ?_
              intro v4 w4 ho4 hg4
              have K4 := Lib.hid (K1.out.grown hg4 K1.out.size (fun j hj => (HOa.out.lt j hj).1))
              have HO4 := Lib.hid ho4
              clear ho4 hg4
              try go_simp
              refine hK _ _ ?_
              clear hK K
              refine wpAny_ready (rs := [4]) (by kernel_rfl) (by simp) ?_
              refine AllReady.cons (o := { dst := some 46, op := .buildSlice 52 1 #[(0, .tmp 45)], type := 52, pos := "law.go:63", after := #[{ on := 3, ground := .data }], guard := none }) rfl (fun K hK => ?_) ?_
              · refine step_build_one (by rfl) _ e cs HCS.out (by rfl) (by simp [Act.eval]) ?_
                intro W6 hE6 hb6 hs6
                have KF := Lib.hid (K4.out.trans (hb6.mono K4.out.size))
                have HOF := Lib.hid (own_below HO4.out hb6)
                clear hb6 hs6
                generalize w4.heap.size = b6 at hE6 ⊢
                have HEF := Lib.hid hE6
                clear hE6
                try go_simp
                refine hK _ _ ?_
                clear hK K
                refine wpAny_ready (rs := [5]) (by kernel_rfl) (by simp) ?_
                refine AllReady.cons (o := { dst := some 47, op := .call { callee := .builtin .append, args := #[.tmp 44, .tmp 46], argTypes := #[52, 52] }, type := 52, pos := "law.go:63", after := #[{ on := 2, ground := .data }, { on := 4, ground := .data }, { on := 2, ground := .chain }], guard := none }) rfl (fun K hK => ?_) AllReady.nil
                refine step_append_ents (by rfl) (.tmp 44) (.tmp 46) (by rfl) w3.heap.size _ (0 + k) _ (by rfl) HOF.out (some ⟨b6, 0, none⟩) 1 1 [e] (by rfl) HEF.out (fun h => by cases h) (by omega) KF.out.size ?_
                intro v5 w5 ho5 hg5
                have K5 := Lib.hid (KF.out.grown hg5 KF.out.size (fun j hj => (HOF.out.lt j hj).1))
                rw [Nat.zero_add, List.nil_append, ← List.flatten_append, ← List.map_append] at ho5
                obtain ⟨A5, c5, rfl, hc51, hc52, hm5⟩ := more_own ho5 (by rw [List.length_append, HL]; rfl)
                have HN5 := Lib.hid hm5.1
                clear ho5 hg5 hm5
                try go_simp
                refine hK _ _ ?_
                clear hK K
                refine wpAny_ready (rs := [6]) (by kernel_rfl) (by simp) ?_
                refine AllReady.cons (o := { dst := some 48, op := .call { callee := .value (.func 29), args := #[.tmp 47], argTypes := #[52] }, type := 54, pos := "law.go:63", after := #[{ on := 5, ground := .data }, { on := 5, ground := .chain }], guard := none }) rfl (fun K hK => ?_) AllReady.nil
                go_simp
                go_at_call 29
                refine (HRQ.out _ _ hc51 hc52 _ (HT3.out.below K5.out HG3.out) (Nat.lt_of_lt_of_le HG3.out K5.out.size) HN5.out).mono ?_
                rintro r w7 ⟨AT, cT, rfl, ht1, ht2, hti, b⟩
                have KT := Lib.hid (K5.out.trans (b.mono K5.out.size))
                have RT := Lib.hid hti
                clear b hti
                try go_simp
                first
                  | (refine hK _ _ ?_; clear hK K)
                  | skip
                refine wpAny_ready (rs := [7]) (by kernel_rfl) (by simp) ?_
                refine AllReady.cons rfl (fun K hK => ?_) AllReady.nil
                go_simp
                refine hK _ _ ?_
                clear hK K
                refine wpAny_done (by kernel_rfl) ?_ _
                go_wp2_with fail
                go_meet
                exact ⟨AT, cT, rfl, ht1, ht2, RT.out, KT.out⟩
              exact AllReady.nil
            refine AllReady.cons (o := { dst := some 46, op := .buildSlice 52 1 #[(0, .tmp 45)], type := 52, pos := "law.go:63", after := #[{ on := 3, ground := .data }], guard := none }) rfl (fun K hK => ?_) ?_
            · refine step_build_one (by rfl) _ e cs HCS.out (by rfl) (by simp [Act.eval]) ?_
              intro W6 hE6 hb6 hs6
              have K6 := Lib.hid (K1.out.trans (hb6.mono K1.out.size))
              have HO6 := Lib.hid (own_below HOa.out hb6)
              have hne : (w3.alloc (.cells #[] 60)).drew.heap.size ≠ w3.heap.size := by simp
              clear hb6 hs6
              generalize (w3.alloc (.cells #[] 60)).drew.heap.size = b6 at hE6 hne ⊢
              have HE6 := Lib.hid hE6
              have HNE := Lib.hid (show some b6 ≠ Value.ownBlock (.slice (some ⟨w3.heap.size, 0, none⟩) 0 0) from fun h => hne (Option.some.inj h))
              clear hE6 hne
              try go_simp
              refine hK _ _ ?_
              clear hK K
              refine wpAny_ready (rs := [2]) (by kernel_rfl) (by simp) ?_
              refine AllReady.cons (o := { dst := some 44, op := .call { callee := .builtin .append, args := #[.tmp 42, .tmp 43], argTypes := #[52, 52] }, type := 52, pos := "law.go:63", after := #[{ on := 0, ground := .data }, { on := 1, ground := .data }], guard := none }) rfl (fun K hK => ?_) ?_
              · refine step_append_ents (by rfl) (.tmp 42) (.tmp 43) (by rfl) w3.heap.size _ 0 [] (by rfl) HO6.out A k c fs (by rfl) (HE3.out.below K6.out) HZ.out (by omega) K6.out.size ?_
                intro v4 w4 ho4 hg4
                have KF := Lib.hid (K6.out.grown hg4 K6.out.size (fun j hj => (HO6.out.lt j hj).1))
                have HOF := Lib.hid ho4
                have HEF := Lib.hid (one_grown HE6.out hg4 HNE.out)
                clear ho4 hg4
                try go_simp
                refine hK _ _ ?_
                clear hK K
                refine wpAny_ready (rs := [5]) (by kernel_rfl) (by simp) ?_
                refine AllReady.cons (o := { dst := some 47, op := .call { callee := .builtin .append, args := #[.tmp 44, .tmp 46], argTypes := #[52, 52] }, type := 52, pos := "law.go:63", after := #[{ on := 2, ground := .data }, { on := 4, ground := .data }, { on := 2, ground := .chain }], guard := none }) rfl (fun K hK => ?_) AllReady.nil
                refine step_append_ents (by rfl) (.tmp 44) (.tmp 46) (by rfl) w3.heap.size _ (0 + k) _ (by rfl) HOF.out (some ⟨b6, 0, none⟩) 1 1 [e] (by rfl) HEF.out (fun h => by cases h) (by omega) KF.out.size ?_
                intro v5 w5 ho5 hg5
                have K5 := Lib.hid (KF.out.grown hg5 KF.out.size (fun j hj => (HOF.out.lt j hj).1))
                rw [Nat.zero_add, List.nil_append, ← List.flatten_append, ← List.map_append] at ho5
                obtain ⟨A5, c5, rfl, hc51, hc52, hm5⟩ := more_own ho5 (by rw [List.length_append, HL]; rfl)
                have HN5 := Lib.hid hm5.1
                clear ho5 hg5 hm5
                try go_simp
                refine hK _ _ ?_
                clear hK K
                refine wpAny_ready (rs := [6]) (by kernel_rfl) (by simp) ?_
                refine AllReady.cons (o := { dst := some 48, op := .call { callee := .value (.func 29), args := #[.tmp 47], argTypes := #[52] }, type := 54, pos := "law.go:63", after := #[{ on := 5, ground := .data }, { on := 5, ground := .chain }], guard := none }) rfl (fun K hK => ?_) AllReady.nil
                go_simp
                go_at_call 29
                refine (HRQ.out _ _ hc51 hc52 _ (HT3.out.below K5.out HG3.out) (Nat.lt_of_lt_of_le HG3.out K5.out.size) HN5.out).mono ?_
                rintro r w7 ⟨AT, cT, rfl, ht1, ht2, hti, b⟩
                have KT := Lib.hid (K5.out.trans (b.mono K5.out.size))
                have RT := Lib.hid hti
                clear b hti
                try go_simp
                first
                  | (refine hK _ _ ?_; clear hK K)
                  | skip
                refine wpAny_ready (rs := [7]) (by kernel_rfl) (by simp) ?_
                refine AllReady.cons rfl (fun K hK => ?_) AllReady.nil
                go_simp
                refine hK _ _ ?_
                clear hK K
                refine wpAny_done (by kernel_rfl) ?_ _
                go_wp2_with fail
                go_meet
                exact ⟨AT, cT, rfl, ht1, ht2, RT.out, KT.out⟩
              exact AllReady.nil
            exact AllReady.nil
          refine AllReady.cons (o := { dst := some 46, op := .buildSlice 52 1 #[(0, .tmp 45)], type := 52, pos := "law.go:63", after := #[{ on := 3, ground := .data }], guard := none }) rfl (fun K hK => ?_) ?_
          · refine step_build_one (w := w3.drew) (by rfl) _ e cs HCS.out (by rfl) (by simp [Act.eval]) ?_
            intro W6 hE6 hb6 hs6
            have k6 : Below w3.heap.size w3 W6 := K0.out.trans hb6
            have K6 := Lib.hid (show Below w3.heap.size w3 (W6.alloc (.cells #[] 60)) from k6.alloc k6.size _)
            have HO6 := Lib.hid (show (W6.alloc (.cells #[] 60)).ownsRow w3.heap.size 60 17 (.slice (some ⟨W6.heap.size, 0, none⟩) 0 0) 0 [] from World.ownsRow_made W6 (base := w3.heap.size) (e := 60) (size := 17) #[] 0 k6.size (Nat.zero_le _) rfl)
            have hne : w3.drew.heap.size ≠ W6.heap.size := by rw [hs6]; omega
            have hec := hE6.below ((Below.refl W6.heap.size W6).alloc (Nat.le_refl _) (.cells #[] 60))
            clear hb6 hs6 hE6 k6
            generalize w3.drew.heap.size = b6 at hec hne ⊢
            have HE6 := Lib.hid hec
            have HNE := Lib.hid (show some b6 ≠ Value.ownBlock (.slice (some ⟨W6.heap.size, 0, none⟩) 0 0) from fun h => hne (Option.some.inj h))
            clear hec hne
            try go_simp
            refine hK _ _ ?_
            clear hK K
            refine wpAny_ready (rs := [0]) (by kernel_rfl) (by simp) ?_
            refine AllReady.cons (o := { dst := some 42, op := .buildSlice 52 0 #[], type := 52, pos := "law.go:63", after := #[], guard := none }) rfl (fun K hK => ?_) ?_
            · go_simp
              refine hK _ _ ?_
              clear hK K
              refine wpAny_ready (rs := [2]) (by kernel_rfl) (by simp) ?_
              refine AllReady.cons (o := { dst := some 44, op := .call { callee := .builtin .append, args := #[.tmp 42, .tmp 43], argTypes := #[52, 52] }, type := 52, pos := "law.go:63", after := #[{ on := 0, ground := .data }, { on := 1, ground := .data }], guard := none }) rfl (fun K hK => ?_) ?_
              · refine step_append_ents (by rfl) (.tmp 42) (.tmp 43) (by rfl) w3.heap.size _ 0 [] (by rfl) HO6.out A k c fs (by rfl) (HE3.out.below K6.out) HZ.out (by omega) K6.out.size ?_
                intro v4 w4 ho4 hg4
                have KF := Lib.hid (K6.out.grown hg4 K6.out.size (fun j hj => (HO6.out.lt j hj).1))
                have HOF := Lib.hid ho4
                have HEF := Lib.hid (one_grown HE6.out hg4 HNE.out)
                clear ho4 hg4
                try go_simp
                refine hK _ _ ?_
                clear hK K
                refine wpAny_ready (rs := [5]) (by kernel_rfl) (by simp) ?_
                refine AllReady.cons (o := { dst := some 47, op := .call { callee := .builtin .append, args := #[.tmp 44, .tmp 46], argTypes := #[52, 52] }, type := 52, pos := "law.go:63", after := #[{ on := 2, ground := .data }, { on := 4, ground := .data }, { on := 2, ground := .chain }], guard := none }) rfl (fun K hK => ?_) AllReady.nil
                refine step_append_ents (by rfl) (.tmp 44) (.tmp 46) (by rfl) w3.heap.size _ (0 + k) _ (by rfl) HOF.out (some ⟨b6, 0, none⟩) 1 1 [e] (by rfl) HEF.out (fun h => by cases h) (by omega) KF.out.size ?_
                intro v5 w5 ho5 hg5
                have K5 := Lib.hid (KF.out.grown hg5 KF.out.size (fun j hj => (HOF.out.lt j hj).1))
                rw [Nat.zero_add, List.nil_append, ← List.flatten_append, ← List.map_append] at ho5
                obtain ⟨A5, c5, rfl, hc51, hc52, hm5⟩ := more_own ho5 (by rw [List.length_append, HL]; rfl)
                have HN5 := Lib.hid hm5.1
                clear ho5 hg5 hm5
                try go_simp
                refine hK _ _ ?_
                clear hK K
                refine wpAny_ready (rs := [6]) (by kernel_rfl) (by simp) ?_
                refine AllReady.cons (o := { dst := some 48, op := .call { callee := .value (.func 29), args := #[.tmp 47], argTypes := #[52] }, type := 54, pos := "law.go:63", after := #[{ on := 5, ground := .data }, { on := 5, ground := .chain }], guard := none }) rfl (fun K hK => ?_) AllReady.nil
                go_simp
                go_at_call 29
                refine (HRQ.out _ _ hc51 hc52 _ (HT3.out.below K5.out HG3.out) (Nat.lt_of_lt_of_le HG3.out K5.out.size) HN5.out).mono ?_
                rintro r w7 ⟨AT, cT, rfl, ht1, ht2, hti, b⟩
                have KT := Lib.hid (K5.out.trans (b.mono K5.out.size))
                have RT := Lib.hid hti
                clear b hti
                try go_simp
                first
                  | (refine hK _ _ ?_; clear hK K)
                  | skip
                refine wpAny_ready (rs := [7]) (by kernel_rfl) (by simp) ?_
                refine AllReady.cons rfl (fun K hK => ?_) AllReady.nil
                go_simp
                refine hK _ _ ?_
                clear hK K
                refine wpAny_done (by kernel_rfl) ?_ _
                go_wp2_with fail
                go_meet
                exact ⟨AT, cT, rfl, ht1, ht2, RT.out, KT.out⟩
              exact AllReady.nil
            exact AllReady.nil
          exact AllReady.nil
        exact AllReady.nil
      case rest =>
        obtain ⟨AT, cT, rfl, hT1, hT2, hTi, kT⟩ := hcut
        have hr1i := R1.out.below kT
        have hr2i := R2.out.below kT
        have hm2 := HM.out.below kT
        have hb2 := HB.out.trans (kT.mono HB.out.size)
        have hti := hTi.take (m := k) (Nat.le_succ k)
        rw [show k = fs.length from HL.symm, rootsL_app, HL] at hti
        generalize wc = w8 at *
        clear K0 K1 HOa
        have HFA := Lib.hid (fun w' (h : EntsAt w' A k fs) => front_any A k c fs hmc HC.out w' h)
        have HFB := Lib.hid (fun w' (h : EntsAt w' A2 k gs) => front_any A2 k c2 gs hc1 hc2 w' h)
        have HVA := Lib.hid (fun i w' (h : EntsAt w' A k fs) => visible_any A k c fs i hmc HC.out w' h)
        have HVB := Lib.hid (fun i w' (h : EntsAt w' A2 k gs) => visible_any A2 k c2 gs i hc1 hc2 w' h)
        have hfr := HR.out.front
        have HRI := Lib.hid (fun (j : Nat) (hj : j < k) (h0 : 0 ≤ rootI gs j) => HR.out.rootI (by omega) h0)
        obtain ⟨f1, hf1⟩ : ∃ f, frontN fs = f := ⟨_, rfl⟩
        obtain ⟨f2, hf2⟩ : ∃ f, frontN gs = f := ⟨_, rfl⟩
        rw [hf1] at HFA HVA hfr
        rw [hf2] at HFB HVB hfr
        clear hf1 hf2 R1 R2 HM HB HRQ HX HX3 HCS HI HKS HLT HE3 HT3 HG3 kT hTi
        have RA := Lib.hid hr1i
        have RB := Lib.hid hr2i
        have RT := Lib.hid hti
        have HM := Lib.hid hm2
        have HB := Lib.hid hb2
        clear hr1i hr2i hti hm2 hb2
        unfold maxLen at hT2
        have q1 : (((k + 1 : Nat) : Int) != (k : Int) + 1) = false := by simp
        go_wp2_with (first
          | (go_at_call 36; refine (refSame_any AT AR k cT cR (rootsL fs) (by omega) _ RT.out RA.out).mono ?_; rintro r w9 ⟨rfl, b⟩
             replace RA := Lib.hid (RA.out.below b)
             replace RB := Lib.hid (RB.out.below b)
             replace HM := Lib.hid (HM.out.below b)
             replace HB := Lib.hid (HB.out.trans (b.mono HB.out.size))
             clear b)
          | (go_at_call 30; refine (alive14_any _).mono ?_; rintro r w10 ⟨rfl, b⟩
             replace RA := Lib.hid (RA.out.below b)
             replace RB := Lib.hid (RB.out.below b)
             replace HM := Lib.hid (HM.out.below b)
             replace HB := Lib.hid (HB.out.trans (b.mono HB.out.size))
             clear b))
        clear q1 RT
        go_loopw [84] (fun v wr => ∃ j : Nat, j ≤ k ∧ v = .int .i64 j ∧ IntsAt wr AR k .i64 (rootsL fs) ∧ IntsAt wr AS k .i64 (rootsL gs) ∧ MoreAt wr base A2 k gs ∧ Below W0.heap.size W0 wr) (fun v _ => k - (intOf v).toNat)
        case atStart => exact ⟨0, by omega, rfl, RA.out, RB.out, HM.out, HB.out⟩
        case round =>
          clear RA RB HM HB
          obtain ⟨j, hj, rfl, ra, rb, hmo, hb⟩ := hrel
          have RA := Lib.hid ra
          have RB := Lib.hid rb
          have HM := Lib.hid hmo
          have HB := Lib.hid hb
          clear ra rb hmo hb
          by_cases hlt : j < k
          · have hri := HRI.out j hlt
            obtain ⟨x, hx⟩ : ∃ x, rootI fs j = x := ⟨_, rfl⟩
            obtain ⟨y, hy⟩ : ∃ y, rootI gs j = y := ⟨_, rfl⟩
            rw [hx, hy] at hri
            have GA := Lib.hid (show (rootsL fs).getD j 0 = x by
              rw [← hx]; unfold rootI
              rw [List.getD_eq_getElem?_getD, List.getElem?_eq_getElem (by rw [rootsL_len, HL]; exact hlt)]; rfl)
            have GB := Lib.hid (show (rootsL gs).getD j 0 = y by
              rw [← hy]; unfold rootI
              rw [List.getD_eq_getElem?_getD, List.getElem?_eq_getElem (by rw [rootsL_len, HGL.out]; exact hlt)]; rfl)
            obtain ⟨aA, hA, g1⟩ := RA.out.at_ hlt
            cases hA
            obtain ⟨aB, hB, g2⟩ := RB.out.at_ hlt
            cases hB
            rw [GA.out] at g1
            rw [GB.out] at g2
            clear hx hy GA GB
            have VA := Lib.hid (HVA.out (j : Int))
            have VB := Lib.hid (HVB.out (j : Int))
            by_cases hx0 : x < 0
            · have d1 : decide (x < 0) = true := decide_eq_true hx0
              have d2 : decide (0 ≤ y) = false := decide_eq_false (by omega)
              by_cases hp : j ≤ f1
              · rw [show decide (0 ≤ (j : Int) ∧ (j : Int) ≤ f1) = true from decide_eq_true (by omega)] at VA
                rw [show decide (0 ≤ (j : Int) ∧ (j : Int) ≤ f2) = true from decide_eq_true (by omega)] at VB
                go_wp2_with (first
                  | (go_at_call 32; refine (VA.out _ (HE.out.below HB.out)).mono ?_; clear VA; rintro r wa ⟨rfl, b⟩
                     replace RA := Lib.hid (RA.out.below b)
                     replace RB := Lib.hid (RB.out.below b)
                     replace HM := Lib.hid (HM.out.below b)
                     replace HB := Lib.hid (HB.out.trans (b.mono HB.out.size))
                     clear b)
                  | (go_at_call 32; refine (VB.out _ HM.out.1).mono ?_; clear VB; rintro r wb ⟨rfl, b⟩
                     replace RA := Lib.hid (RA.out.below b)
                     replace RB := Lib.hid (RB.out.below b)
                     replace HM := Lib.hid (HM.out.below b)
                     replace HB := Lib.hid (HB.out.trans (b.mono HB.out.size))
                     clear b))
                go_roundw
                case rel => exact ⟨j + 1, by omega, by go_num, RA.out, RB.out, HM.out, HB.out⟩
                case measure => simp [intOf]; omega
              · rw [show decide (0 ≤ (j : Int) ∧ (j : Int) ≤ f1) = false from decide_eq_false (by omega)] at VA
                go_wp2_with (first
                  | (go_at_call 32; refine (VA.out _ (HE.out.below HB.out)).mono ?_; clear VA; rintro r wa ⟨rfl, b⟩
                     replace RA := Lib.hid (RA.out.below b)
                     replace RB := Lib.hid (RB.out.below b)
                     replace HM := Lib.hid (HM.out.below b)
                     replace HB := Lib.hid (HB.out.trans (b.mono HB.out.size))
                     clear b)
                  | (go_at_call 32; refine (VB.out _ HM.out.1).mono ?_; clear VB; rintro r wb ⟨rfl, b⟩
                     replace RA := Lib.hid (RA.out.below b)
                     replace RB := Lib.hid (RB.out.below b)
                     replace HM := Lib.hid (HM.out.below b)
                     replace HB := Lib.hid (HB.out.trans (b.mono HB.out.size))
                     clear b))
                go_roundw
                case rel => exact ⟨j + 1, by omega, by go_num, RA.out, RB.out, HM.out, HB.out⟩
                case measure => simp [intOf]; omega
            · have d1 : decide (x < 0) = false := decide_eq_false hx0
              by_cases hp : j ≤ f1
              · rw [show decide (0 ≤ (j : Int) ∧ (j : Int) ≤ f1) = true from decide_eq_true (by omega)] at VA
                rw [show decide (0 ≤ (j : Int) ∧ (j : Int) ≤ f2) = true from decide_eq_true (by omega)] at VB
                go_wp2_with (first
                  | (go_at_call 32; refine (VA.out _ (HE.out.below HB.out)).mono ?_; clear VA; rintro r wa ⟨rfl, b⟩
                     replace RA := Lib.hid (RA.out.below b)
                     replace RB := Lib.hid (RB.out.below b)
                     replace HM := Lib.hid (HM.out.below b)
                     replace HB := Lib.hid (HB.out.trans (b.mono HB.out.size))
                     clear b)
                  | (go_at_call 32; refine (VB.out _ HM.out.1).mono ?_; clear VB; rintro r wb ⟨rfl, b⟩
                     replace RA := Lib.hid (RA.out.below b)
                     replace RB := Lib.hid (RB.out.below b)
                     replace HM := Lib.hid (HM.out.below b)
                     replace HB := Lib.hid (HB.out.trans (b.mono HB.out.size))
                     clear b))
                go_roundw
                case rel => exact ⟨j + 1, by omega, by go_num, RA.out, RB.out, HM.out, HB.out⟩
                case measure => simp [intOf]; omega
              · rw [show decide (0 ≤ (j : Int) ∧ (j : Int) ≤ f1) = false from decide_eq_false (by omega)] at VA
                go_wp2_with (first
                  | (go_at_call 32; refine (VA.out _ (HE.out.below HB.out)).mono ?_; clear VA; rintro r wa ⟨rfl, b⟩
                     replace RA := Lib.hid (RA.out.below b)
                     replace RB := Lib.hid (RB.out.below b)
                     replace HM := Lib.hid (HM.out.below b)
                     replace HB := Lib.hid (HB.out.trans (b.mono HB.out.size))
                     clear b)
                  | (go_at_call 32; refine (VB.out _ HM.out.1).mono ?_; clear VB; rintro r wb ⟨rfl, b⟩
                     replace RA := Lib.hid (RA.out.below b)
                     replace RB := Lib.hid (RB.out.below b)
                     replace HM := Lib.hid (HM.out.below b)
                     replace HB := Lib.hid (HB.out.trans (b.mono HB.out.size))
                     clear b))
                go_roundw
                case rel => exact ⟨j + 1, by omega, by go_num, RA.out, RB.out, HM.out, HB.out⟩
                case measure => simp [intOf]; omega
          · obtain rfl : j = k := by omega
            have d : decide ((f1 : Int) ≤ f2) = true := decide_eq_true (by omega)
            have d' : decide (f1 ≤ f2) = true := decide_eq_true hfr
            go_wp2_with (first
              | (go_at_call 31; refine (HFB.out _ HM.out.1).mono ?_; clear HFB; rintro r wa ⟨rfl, b⟩
                 replace HB := Lib.hid (HB.out.trans (b.mono HB.out.size))
                 clear b)
              | (go_at_call 31; refine (HFA.out _ (HE.out.below HB.out)).mono ?_; clear HFA; rintro r wb ⟨rfl, b⟩
                 replace HB := Lib.hid (HB.out.trans (b.mono HB.out.size))
                 clear b))
            go_ret
            exact ⟨rfl, by rw [HEE.out]; exact HF3.out.trans (HB.out.mono (Nat.le_of_lt HF4.out))⟩
theorem own : ownKnob Tryd.prog.godebug = none := by kernel_rfl
theorem laidOut : laidOutB Tryd.prog = true := by kernel_rfl
set_option maxRecDepth 100000 in
theorem contract (H : Type) (enc : TypeId × Value → H) (W : World) (base : Nat) (args : Array Value) (ds gs : List (DataW H)) (before : List MemPlace)
    (hval : ∀ (j : Nat) t v, Tryd.f10.params[j]? = some t → args[j]? = some v → Value.okWide Tryd.prog W .any base t v)
    (hW : DataW.Whole enc Tryd.prog Tryd.f10.params.toList Rows.taintGoesSpec.vars false W args.toList ds gs before) (hL : laidMetH Tryd.prog Rows.taintGoesRow.laid W) :
    Calls Tryd.prog 10 args W fun e W' => ∃ v, e = .returned v ∧ Rows.taintGoesSpec.post enc Tryd.prog Tryd.f10 false true false false W args v W' := by
  have hW' := hW
  obtain ⟨p, q, hA0, hV, rfl, hfz, hnd⟩ := hW
  have hA : DataW.TrodAll enc Tryd.prog W 0 (fun _ => true) true Tryd.f10.params.toList args.toList ds p := hA0
  rw [Tryd.params10] at hA hval
  obtain ⟨v0, vs0, d0, ds0, p0, q0, hargs, rfl, rfl, h0, r0⟩ := trodAll_cons hA
  obtain ⟨v1, vs1, d1, ds1, p1, q1, rfl, rfl, rfl, h1, r1⟩ := trodAll_cons r0
  obtain ⟨v2, vs2, d2, ds2, p2, q2, rfl, rfl, rfl, h2, r2⟩ := trodAll_cons r1
  obtain ⟨rfl, rfl, rfl⟩ := trodAll_nil r2
  obtain rfl : args = #[v0, v1, v2] := by cases args; simp_all
  obtain ⟨rfl, rfl⟩ := trodVars_none hV
  have hlt := hW'.lt
  have k0 := h0
  obtain ⟨r_a, r_n, r_c, r, rfl, w_r_n, w_r_c, w_r_z, w_r, w_r_wf⟩ := arg_entries (hval 0 52 v0 rfl rfl) h0
  have k1 := h1
  obtain ⟨k_a, k_n, k_c, k, rfl, w_k_n, w_k_c, w_k⟩ := arg_bools Tryd.underlying67 Tryd.underlying4 (by kernel_rfl) (hval 1 67 v1 rfl rfl) h1
  have k2 := h2
  obtain ⟨e, rfl, w_e⟩ := arg_entry (hval 2 60 v2 rfl rfl) h2
  clear hA0
  simp only [List.append_nil] at hW'
  refine (walk r_a r_n r_c r k_a k_n k_c k e w_r_n w_r_c w_r_z w_r_wf w_k_n w_k_c w_e W w_r w_k (table hL)).mono fun e W' ⟨he, bel⟩ => ?_
  subst he
  exact ⟨_, rfl, _, _, _, [], _, [], hW', trodAll_mk1 (shut_bool Tryd.underlying4 _), (trodAll_cons_mk (Below.trod laidOut (by kernel_rfl) (of_decide_eq_true (by kernel_rfl)) k0 bel (fun x hx => hlt x (by simp [hx]))) (trodAll_cons_mk (Below.trod laidOut (by kernel_rfl) (of_decide_eq_true (by kernel_rfl)) k1 bel (fun x hx => hlt x (by simp [hx]))) (trodAll_cons_mk (Below.trod laidOut (by kernel_rfl) (of_decide_eq_true (by kernel_rfl)) k2 bel (fun x hx => hlt x (by simp [hx]))) trodAll_mk0))), rfl, bel.frame _, fun h => by cases h⟩

theorem laid_met (os : Os) : laidMet Tryd.prog Rows.taintGoesRow.laid ((laidWorld os).forCall (fun _ _ => 0) ⟨#[], #[Value.slice none 0 0, Value.slice none 0 0, Value.agg #[.int .i64 0, .int .u32 0, .int .i64 0, .int .i64 0, .int .i64 0, .int .i64 0, .int .u32 0, .int .u32 0, .int .i64 0, .int .i64 0, .int .u32 0, .int .u32 0, .int .u32 0, .int .i64 0, .int .i64 0, .bool false, .bool false]], []⟩).memory :=
  laidMet_of_run' 8 (by kernel_rfl) (by kernel_rfl)
theorem reads (os : Os) {H : Type} (enc : TypeId × Value → H) : ∃ places, DataW.whole enc Tryd.prog ((laidWorld os).forCall (fun _ _ => 0) ⟨#[], #[Value.slice none 0 0, Value.slice none 0 0, Value.agg #[.int .i64 0, .int .u32 0, .int .i64 0, .int .i64 0, .int .i64 0, .int .i64 0, .int .u32 0, .int .u32 0, .int .i64 0, .int .i64 0, .int .u32 0, .int .u32 0, .int .u32 0, .int .i64 0, .int .i64 0, .bool false, .bool false]], []⟩).memory Tryd.f10.params.toList Rows.taintGoesSpec.vars false #[Value.slice none 0 0, Value.slice none 0 0, Value.agg #[.int .i64 0, .int .u32 0, .int .i64 0, .int .i64 0, .int .i64 0, .int .i64 0, .int .u32 0, .int .u32 0, .int .i64 0, .int .i64 0, .int .u32 0, .int .u32 0, .int .u32 0, .int .i64 0, .int .i64 0, .bool false, .bool false]].toList 8 = some ([.nil, .nil, .agg [.lit (.int .i64 0), .lit (.int .u32 0), .agg [.lit (.int .i64 0), .lit (.int .i64 0), .lit (.int .i64 0), .lit (.int .i64 0), .lit (.int .u32 0)], .lit (.int .u32 0), .lit (.int .i64 0), .lit (.int .i64 0), .lit (.int .u32 0), .lit (.int .u32 0), .lit (.int .u32 0), .lit (.int .i64 0), .lit (.int .i64 0), .lit (.bool false), .lit (.bool false)]], [], places) :=
  ⟨[], by kernel_rfl⟩

set_option maxRecDepth 100000 in
theorem lifted (os : Os) (started : os.Started) (H : Type) (enc : TypeId × Value → H) (F : Stop.Interp) :
    ReturnsInHanded {} Tryd.checked os 10 .any ((OpenSpec.ofChange Rows.taintGoesSpec).preRow enc Tryd.prog Tryd.f10 Rows.taintGoesRow.domain false Rows.taintGoesRow.laid) (((OpenSpec.ofChange Rows.taintGoesSpec).at F).post enc Tryd.prog Tryd.f10 false true false false) := by
  obtain ⟨places, hx⟩ := reads os enc
  refine returnsInHanded_of_row (C := Tryd.checked) (s := OpenSpec.ofChange Rows.taintGoesSpec) own started (by kernel_rfl) Tryd.func10
    (witness_row_at (enc := enc) (C := Tryd.checked) false (laidWorld os) #[Value.slice none 0 0, Value.slice none 0 0, Value.agg #[.int .i64 0, .int .u32 0, .int .i64 0, .int .i64 0, .int .i64 0, .int .i64 0, .int .u32 0, .int .u32 0, .int .i64 0, .int .i64 0, .int .u32 0, .int .u32 0, .int .u32 0, .int .i64 0, .int .i64 0, .bool false, .bool false]] rfl (by kernel_rfl) (by kernel_rfl) (by kernel_rfl)
      (OpenSpec.preRow_of_cond 8 hx (by kernel_rfl) (fun k hk => by cases hk) (by kernel_rfl) (laid_met os))) ?_
  intro W base args ds gs before hval hW _ _ _ hL _ _
  exact contract H enc W base args ds gs before hval hW hL

theorem said : Rows.TaintGoesSaid :=
  OpenClaim.holds_of_cond 10 Tryd.f10 rfl rfl rfl rfl rfl rfl rfl ⟨rfl, rfl, rfl, rfl, rfl⟩ rfl rfl rfl rfl rfl (by kernel_rfl) Tryd.func10 (by kernel_rfl)
    (of_decide_eq_true (by kernel_rfl)) (by unfold Func.isWrapper; first | (rw [if_pos (by decide +kernel)]; kernel_rfl) | (rw [if_neg (by decide +kernel)]; exact ⟨rfl, rfl⟩))
    (fun os started H enc _ F => by rw [OpenClaim.pre_eq_preRow]; exact lifted os started H enc F)

theorem plain (f : FuncId) (fn : Func) (hf : Tryd.pinned.checked.prog.funcNamed "auspex/auspexlaw14.TaintGoes" = some f) (hfn : Tryd.pinned.checked.prog.funcs[f]? = some fn) :
    false = Tryd.pinned.checked.prog.looks [] ∧ ∀ (j : Nat) t, fn.params[j]? = some t → Tryd.pinned.checked.prog.wantsStandIn t = false := by
  obtain rfl : f = 10 := Option.some.inj ((show Tryd.prog.funcNamed "auspex/auspexlaw14.TaintGoes" = some 10 by kernel_rfl).symm.trans hf) |>.symm
  obtain rfl : fn = Tryd.f10 := (Option.some.inj (Tryd.func10.symm.trans hfn)).symm
  refine ⟨by kernel_rfl, fun j t ht => ?_⟩
  rw [Tryd.params10] at ht
  have hm := Array.mem_of_getElem? ht
  simp only [List.mem_toArray, List.mem_cons, List.not_mem_nil, or_false] at hm
  rcases hm with rfl | rfl | rfl
  · exact (show Tryd.prog.wantsStandIn 52 = false by kernel_rfl)
  · exact (show Tryd.prog.wantsStandIn 67 = false by kernel_rfl)
  · exact (show Tryd.prog.wantsStandIn 60 = false by kernel_rfl)

/-- THE CARD -/
theorem proved : Rows.TaintGoesCardSaid :=
  Claim7.holds_tied_plain_at .later [] _ _ _ _ said (fun _ h => by cases h) (by kernel_rfl) (fun _ h => by cases h) taintGoes_row_tie rfl ⟨rfl, rfl⟩ (by kernel_rfl) rfl plain (by kernel_rfl)
#print axioms proved
end Go.Proofs.YtfekknalchjkiaaDoor.taintGoes
