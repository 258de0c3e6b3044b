/- THE WALK of InstOne (auspexlaw02): two words that tell one instruction are one word. -/
import Derived.Test.YtbpafbogjhbogaaDoorInstBackR
import Derived.Test.YtbpafbogjhbogaaDoorInstDec
import Derived.WalkLawsBesides
namespace Go.Proofs.YtbpafbogjhbogaaDoor.instOne
open Go.ChangeShapes Go.WideShapes Go.ChangeAt Go.RowKit

theorem one (w v : Int) (hw : 0 ≤ w ∧ w < 4294967296) (hv : 0 ≤ v ∧ v < 4294967296) (h : chB w = true) (g : chB v = true) (e0 : (chR w).1 = (chR v).1)
    (e1 : gth w (rdL (chR w).2.1) = gth v (rdL (chR v).2.1)) (e2 : gth w (rs1L (chR w).2.1) = gth v (rs1L (chR v).2.1)) (e3 : gth w (rs2L (chR w).2.1) = gth v (rs2L (chR v).2.1)) (e4' : numV w (chR w).2.1 = numV v (chR v).2.1) : w = v := by
  obtain ⟨a1, _, a3⟩ := back_any w hw h
  obtain ⟨b1, _, b3⟩ := back_any v hv g
  have er : chR w = chR v := by rw [← a1, ← b1, e0]
  rw [← a3, ← b3, e1, e2, e3, e4', er]

set_option maxHeartbeats 4000000
theorem walk (w v : Int) (hw : 0 ≤ w ∧ w < 4294967296) (hv : 0 ≤ v ∧ v < 4294967296) (W : World) (ht : TabIs W) (hg : 0 < W.heap.size) :
    Calls Tryd.prog 8 #[.int .u32 w, .int .u32 v] W fun e w' => e = .returned (.bool true) ∧ Below W.heap.size W w' := by
  have HT := Lib.hid ht
  clear ht
  have HV := Lib.hid hv
  have HW := Lib.hid hw
  clear hv hw
  go_enter Tryd.func8, Tryd.ntmps8
  go_wp2_with fail
  go_at_call 10
  refine (decode_any _ HW.out.1 HW.out.2 _ HT.out hg).mono ?_
  rintro e w1 ⟨rfl, b1⟩
  cases hcW : chB w
  · rw [(decV_no hcW).1, (decV_no hcW).2]
    simp only [zeroAgg]
    go_wp2_with fail
    have hi := five_new w1 24 (.int .i64 0) (.int .i64 0) (.int .i64 0) (.int .i64 0) (.int .u32 0)
    have hb := b1.trans (((Below.refl _ _).alloc (Nat.le_refl _) (.cells #[.int .i64 0, .int .i64 0, .int .i64 0, .int .i64 0, .int .u32 0] 24) : Below w1.heap.size w1 (w1.alloc (.cells #[.int .i64 0, .int .i64 0, .int .i64 0, .int .i64 0, .int .u32 0] 24))).mono b1.size)
    have hs : w1.heap.size < (w1.alloc (.cells #[.int .i64 0, .int .i64 0, .int .i64 0, .int .i64 0, .int .u32 0] 24)).heap.size := by simp
    generalize hw2 : w1.alloc (.cells #[.int .i64 0, .int .i64 0, .int .i64 0, .int .i64 0, .int .u32 0] 24) = w2 at *
    clear hw2
    go_at_call 10
    refine (decode_any _ HV.out.1 HV.out.2 _ (HT.out.below hb hg) (Nat.lt_of_lt_of_le hg hb.size)).mono ?_
    rintro e w3 ⟨rfl, b3⟩
    replace hi := hi.below b3 hs
    replace hb := hb.trans (b3.mono hb.size)
    replace hs := Nat.lt_of_lt_of_le hs b3.size
    clear b3 b1
    cases hcV : chB v
    · rw [(decV_no hcV).1, (decV_no hcV).2]
      simp only [zeroAgg]
      go_wp2_with fail
      have hk := five_new w3 24 (.int .i64 0) (.int .i64 0) (.int .i64 0) (.int .i64 0) (.int .u32 0)
      have hb4 : Below w3.heap.size w3 (w3.alloc (.cells #[.int .i64 0, .int .i64 0, .int .i64 0, .int .i64 0, .int .u32 0] 24)) := (Below.refl _ _).alloc (Nat.le_refl _) _
      have hs4 : w3.heap.size < (w3.alloc (.cells #[.int .i64 0, .int .i64 0, .int .i64 0, .int .i64 0, .int .u32 0] 24)).heap.size := by simp
      replace hi := hi.below hb4 hs
      replace hb := hb.trans (hb4.mono hb.size)
      generalize hw4 : w3.alloc (.cells #[.int .i64 0, .int .i64 0, .int .i64 0, .int .i64 0, .int .u32 0] 24) = w4 at *
      clear hw4
      go_at_call 12
      refine (alive02_any _ (HT.out.below hb hg) (Nat.lt_of_lt_of_le hg hb.size)).mono ?_
      rintro e w5 ⟨rfl, b5⟩
      replace hi := hi.below b5 (Nat.lt_trans hs hs4)
      replace hk := hk.below b5 hs4
      replace hb := hb.trans (b5.mono hb.size)
      have HB := Lib.hid hb
      obtain ⟨⟨a0, a1, a2, a3, a4⟩, _⟩ := hi
      obtain ⟨⟨k0, k1, k2, k3, k4⟩, _⟩ := hk
      clear hb4 b5 hb hs hs4
      go_wp2
      go_ret
      exact ⟨rfl, HB.out⟩
    · rw [(decV_yes hcV).1, (decV_yes hcV).2]
      simp only [decAgg]
      generalize (chR v).1 = q0
      generalize gth v (rdL (chR v).2.1) = q1
      generalize gth v (rs1L (chR v).2.1) = q2
      generalize gth v (rs2L (chR v).2.1) = q3
      generalize numV v (chR v).2.1 = q4
      go_wp2_with fail
      have hk := five_new w3 24 (.int .i64 q0) (.int .i64 q1) (.int .i64 q2) (.int .i64 q3) (.int .u32 q4)
      have hb4 : Below w3.heap.size w3 (w3.alloc (.cells #[.int .i64 q0, .int .i64 q1, .int .i64 q2, .int .i64 q3, .int .u32 q4] 24)) := (Below.refl _ _).alloc (Nat.le_refl _) _
      have hs4 : w3.heap.size < (w3.alloc (.cells #[.int .i64 q0, .int .i64 q1, .int .i64 q2, .int .i64 q3, .int .u32 q4] 24)).heap.size := by simp
      replace hi := hi.below hb4 hs
      replace hb := hb.trans (hb4.mono hb.size)
      generalize hw4 : w3.alloc (.cells #[.int .i64 q0, .int .i64 q1, .int .i64 q2, .int .i64 q3, .int .u32 q4] 24) = w4 at *
      clear hw4
      go_at_call 12
      refine (alive02_any _ (HT.out.below hb hg) (Nat.lt_of_lt_of_le hg hb.size)).mono ?_
      rintro e w5 ⟨rfl, b5⟩
      replace hi := hi.below b5 (Nat.lt_trans hs hs4)
      replace hk := hk.below b5 hs4
      replace hb := hb.trans (b5.mono hb.size)
      have HB := Lib.hid hb
      obtain ⟨⟨a0, a1, a2, a3, a4⟩, _⟩ := hi
      obtain ⟨⟨k0, k1, k2, k3, k4⟩, _⟩ := hk
      clear hb4 b5 hb hs hs4
      go_wp2
      go_ret
      exact ⟨rfl, HB.out⟩
  · rw [(decV_yes hcW).1, (decV_yes hcW).2]
    simp only [decAgg]
    have O1 := fun (hc : chB v = true) => one w v HW.out HV.out hcW hc
    have O2 : w = v → (chR w).1 = (chR v).1 ∧ gth w (rdL (chR w).2.1) = gth v (rdL (chR v).2.1) ∧ gth w (rs1L (chR w).2.1) = gth v (rs1L (chR v).2.1) ∧ gth w (rs2L (chR w).2.1) = gth v (rs2L (chR v).2.1) ∧ numV w (chR w).2.1 = numV v (chR v).2.1 := fun h => by rw [h]; exact ⟨rfl, rfl, rfl, rfl, rfl⟩
    generalize (chR w).1 = p0 at *
    generalize gth w (rdL (chR w).2.1) = p1 at *
    generalize gth w (rs1L (chR w).2.1) = p2 at *
    generalize gth w (rs2L (chR w).2.1) = p3 at *
    generalize numV w (chR w).2.1 = p4 at *
    have O1' := Lib.hid O1
    have O2' := Lib.hid O2
    clear O1 O2
    go_wp2_with fail
    have hi := five_new w1 24 (.int .i64 p0) (.int .i64 p1) (.int .i64 p2) (.int .i64 p3) (.int .u32 p4)
    have hb := b1.trans (((Below.refl _ _).alloc (Nat.le_refl _) (.cells #[.int .i64 p0, .int .i64 p1, .int .i64 p2, .int .i64 p3, .int .u32 p4] 24) : Below w1.heap.size w1 (w1.alloc (.cells #[.int .i64 p0, .int .i64 p1, .int .i64 p2, .int .i64 p3, .int .u32 p4] 24))).mono b1.size)
    have hs : w1.heap.size < (w1.alloc (.cells #[.int .i64 p0, .int .i64 p1, .int .i64 p2, .int .i64 p3, .int .u32 p4] 24)).heap.size := by simp
    generalize hw2 : w1.alloc (.cells #[.int .i64 p0, .int .i64 p1, .int .i64 p2, .int .i64 p3, .int .u32 p4] 24) = w2 at *
    clear hw2
    go_at_call 10
    refine (decode_any _ HV.out.1 HV.out.2 _ (HT.out.below hb hg) (Nat.lt_of_lt_of_le hg hb.size)).mono ?_
    rintro e w3 ⟨rfl, b3⟩
    replace hi := hi.below b3 hs
    replace hb := hb.trans (b3.mono hb.size)
    replace hs := Nat.lt_of_lt_of_le hs b3.size
    clear b3 b1
    cases hcV : chB v
    · rw [(decV_no hcV).1, (decV_no hcV).2]
      simp only [zeroAgg]
      go_wp2_with fail
      have hk := five_new w3 24 (.int .i64 0) (.int .i64 0) (.int .i64 0) (.int .i64 0) (.int .u32 0)
      have hb4 : Below w3.heap.size w3 (w3.alloc (.cells #[.int .i64 0, .int .i64 0, .int .i64 0, .int .i64 0, .int .u32 0] 24)) := (Below.refl _ _).alloc (Nat.le_refl _) _
      have hs4 : w3.heap.size < (w3.alloc (.cells #[.int .i64 0, .int .i64 0, .int .i64 0, .int .i64 0, .int .u32 0] 24)).heap.size := by simp
      replace hi := hi.below hb4 hs
      replace hb := hb.trans (hb4.mono hb.size)
      generalize hw4 : w3.alloc (.cells #[.int .i64 0, .int .i64 0, .int .i64 0, .int .i64 0, .int .u32 0] 24) = w4 at *
      clear hw4
      go_at_call 12
      refine (alive02_any _ (HT.out.below hb hg) (Nat.lt_of_lt_of_le hg hb.size)).mono ?_
      rintro e w5 ⟨rfl, b5⟩
      replace hi := hi.below b5 (Nat.lt_trans hs hs4)
      replace hk := hk.below b5 hs4
      replace hb := hb.trans (b5.mono hb.size)
      have HB := Lib.hid hb
      obtain ⟨⟨a0, a1, a2, a3, a4⟩, _⟩ := hi
      obtain ⟨⟨k0, k1, k2, k3, k4⟩, _⟩ := hk
      clear hb4 b5 hb hs hs4
      go_wp2
      go_ret
      exact ⟨rfl, HB.out⟩
    · rw [(decV_yes hcV).1, (decV_yes hcV).2]
      simp only [decAgg]
      have O1 := Lib.hid (O1'.out hcV)
      clear O1'
      generalize (chR v).1 = q0 at *
      generalize gth v (rdL (chR v).2.1) = q1 at *
      generalize gth v (rs1L (chR v).2.1) = q2 at *
      generalize gth v (rs2L (chR v).2.1) = q3 at *
      generalize numV v (chR v).2.1 = q4 at *
      go_wp2_with fail
      have hk := five_new w3 24 (.int .i64 q0) (.int .i64 q1) (.int .i64 q2) (.int .i64 q3) (.int .u32 q4)
      have hb4 : Below w3.heap.size w3 (w3.alloc (.cells #[.int .i64 q0, .int .i64 q1, .int .i64 q2, .int .i64 q3, .int .u32 q4] 24)) := (Below.refl _ _).alloc (Nat.le_refl _) _
      have hs4 : w3.heap.size < (w3.alloc (.cells #[.int .i64 q0, .int .i64 q1, .int .i64 q2, .int .i64 q3, .int .u32 q4] 24)).heap.size := by simp
      replace hi := hi.below hb4 hs
      replace hb := hb.trans (hb4.mono hb.size)
      generalize hw4 : w3.alloc (.cells #[.int .i64 q0, .int .i64 q1, .int .i64 q2, .int .i64 q3, .int .u32 q4] 24) = w4 at *
      clear hw4
      go_at_call 12
      refine (alive02_any _ (HT.out.below hb hg) (Nat.lt_of_lt_of_le hg hb.size)).mono ?_
      rintro e w5 ⟨rfl, b5⟩
      replace hi := hi.below b5 (Nat.lt_trans hs hs4)
      replace hk := hk.below b5 hs4
      replace hb := hb.trans (b5.mono hb.size)
      have HB := Lib.hid hb
      obtain ⟨⟨a0, a1, a2, a3, a4⟩, _⟩ := hi
      obtain ⟨⟨k0, k1, k2, k3, k4⟩, _⟩ := hk
      clear hb4 b5 hb hs hs4
      go_wp2
      all_goals go_ret
      all_goals first
        | exact ⟨ret_bool (by simpa using O1.out ‹p0 = q0› ‹p1 = q1› ‹p2 = q2› ‹p3 = q3› ‹p4 = q4›), HB.out⟩
        | exact ⟨ret_bool (by simp only [Bool.not_eq_true', beq_eq_false_iff_ne, ne_eq]; intro h; have h' := O2'.out h; obtain ⟨y0, y1, y2, y3, y4⟩ := h'; contradiction), HB.out⟩

end Go.Proofs.YtbpafbogjhbogaaDoor.instOne
