/- THE CONTRACT of taint.Tainted. -/
import Derived.Test.YtfekknalchjkiaaDoorTaintR
namespace Go.Proofs.YtfekknalchjkiaaDoor
open Go.ChangeShapes Go.WideShapes Go.ChangeAt Go.RowKit Go.Sort
set_option linter.unusedVariables false
set_option linter.unusedSimpArgs false
set_option maxHeartbeats 2000000
set_option maxRecDepth 100000

theorem tainted_any (A : Option Addr) (n c : Nat) (es : List En) (i reg : Int) (hn : n ≤ c) (hc : c ≤ maxLen) (h20 : n ≤ 100) (w : World) (ht : TabIs w) (hg : 0 < w.heap.size) (hE : EntsAt w A n es) :
    Calls Tryd.prog 35 #[.slice A n c, .int .i64 i, .int .i64 reg] w fun r w' => r = .returned (.bool (taintB es i reg)) ∧ Below w.heap.size w w' := by
  have HM := Lib.hid (maker_any A n c es i reg hn hc w ht hg hE)
  have HR := Lib.hid (fun w ht hg hE => roots_any A n c es hn hc h20 w ht hg hE)
  have hr := makI_range es i reg
  rw [hE.len] at hr
  have HE := Lib.hid hE
  have HT := Lib.hid ht
  have HL := hE.len
  have HB := Lib.hid (show taintB es i reg = decide (0 ≤ makI es i reg ∧ 0 ≤ rootI es (makI es i reg).toNat) from rfl)
  obtain ⟨q, hq⟩ : ∃ q, makI es i reg = q := ⟨_, rfl⟩
  rw [hq] at HM hr HB
  clear ht hE hn hc hq
  obtain ⟨tb, htb⟩ : ∃ tb, taintB es i reg = tb := ⟨_, rfl⟩
  rw [htb] at HB ⊢
  clear htb
  go_enter Tryd.func35, Tryd.ntmps35
  by_cases h0 : 0 ≤ q
  · obtain ⟨m, rfl⟩ := Int.eq_ofNat_of_zero_le h0
    have hmk : m < n := by omega
    obtain ⟨v, hv⟩ : ∃ v, (rootsL es).getD m 0 = v := ⟨_, rfl⟩
    have hro : rootI es m = v := by
      unfold rootI
      rw [← hv, List.getD_eq_getElem?_getD, List.getElem?_eq_getElem (by rw [rootsL_len, HL]; exact hmk)]
      rfl
    have HQ := Lib.hid (show tb = decide (0 ≤ v) by rw [HB.out, Int.toNat_natCast, hro]; simp)
    have HV := Lib.hid hv
    clear hv hro HB
    have d1 : decide (0 ≤ (m : Int)) = true := decide_eq_true h0
    go_wp2_with (first
      | (go_at_call 71; refine HM.out.mono ?_; rintro r w1 ⟨rfl, b⟩; have B1 := Lib.hid b; clear b)
      | (go_at_call 29; refine (HR.out _ (HT.out.below B1.out hg) (Nat.lt_of_lt_of_le hg B1.out.size) (HE.out.below B1.out)).mono ?_; rintro r w2 ⟨A', c', rfl, g1, g2, g3, b⟩
         have B2 := Lib.hid (B1.out.trans (b.mono B1.out.size))
         obtain ⟨a, rfl, hca⟩ := g3.at_ hmk
         rw [HV.out] at hca
         clear b g3))
    all_goals
      go_ret
      refine ⟨retb ?_, B2.out⟩
      rw [HQ.out]
  · have HQ := Lib.hid (show tb = false by rw [HB.out]; exact decide_eq_false (fun h => h0 h.1))
    have d1 : decide (0 ≤ q) = false := decide_eq_false h0
    go_wp2_with (go_at_call 71; refine HM.out.mono ?_; rintro r w1 ⟨rfl, b⟩; have B1 := Lib.hid b; clear b)
    go_ret
    exact ⟨retb HQ.out.symm, B1.out⟩
end Go.Proofs.YtfekknalchjkiaaDoor
