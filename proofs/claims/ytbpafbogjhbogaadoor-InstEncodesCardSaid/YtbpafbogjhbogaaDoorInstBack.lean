/- THE WALK of InstBack (auspexlaw02): what is decoded, encoded, is the word; what is encoded, decoded, is the instruction. -/
import Derived.Test.YtbpafbogjhbogaaDoorInstBackR
import Derived.Test.YtbpafbogjhbogaaDoorInstEncA
import Derived.WalkLawsBesides
namespace Go.Proofs.YtbpafbogjhbogaaDoor.instBack
open Go.ChangeShapes Go.WideShapes Go.ChangeAt Go.RowKit

theorem numV_range (a form : Int) : 0 ≤ numV a form ∧ numV a form < 4294967296 := by
  unfold numV
  have := sxt_lt (gth a (numL form) * 2 ^ (fromI form).toNat % 4294967296) (sizeI form) (Int.emod_lt_of_pos _ (by decide))
  omega
/-- what Encode makes of a word's reading -/
theorem made (w : Int) (hw : 0 ≤ w ∧ w < 4294967296) (h : chB w = true) :
    encX (chR w).1 (gth w (rdL (chR w).2.1)) (gth w (rs1L (chR w).2.1)) (gth w (rs2L (chR w).2.1)) (numV w (chR w).2.1) = w ∧ encE (chR w).1 (gth w (rdL (chR w).2.1)) (gth w (rs1L (chR w).2.1)) (gth w (rs2L (chR w).2.1)) (numV w (chR w).2.1) = 0 := by
  obtain ⟨a1, a2, a3⟩ := back_any w hw h
  have hW : encW (chR w).1 (gth w (rdL (chR w).2.1)) (gth w (rs1L (chR w).2.1)) (gth w (rs2L (chR w).2.1)) (numV w (chR w).2.1) = w := by
    unfold encW; rw [a1]; exact a3
  have hB : encB w (chR w).1 (gth w (rdL (chR w).2.1)) (gth w (rs1L (chR w).2.1)) (gth w (rs2L (chR w).2.1)) (numV w (chR w).2.1) = true := by
    unfold encB; rw [h]; simp
  have hO : encOK (chR w).1 (gth w (rdL (chR w).2.1)) (gth w (rs1L (chR w).2.1)) (gth w (rs2L (chR w).2.1)) (numV w (chR w).2.1) = true := by
    unfold encOK; rw [hW, hB, a2]; rfl
  unfold encX encE
  rw [if_pos hO, if_pos hO]
  exact ⟨hW, rfl⟩
/-- what Decode makes of Encode's word -/
theorem read (op rd rs1 rs2 imm : Int) (h : encOK op rd rs1 rs2 imm = true) :
    decV (encX op rd rs1 rs2 imm) = .agg #[.int .i64 op, .int .i64 rd, .int .i64 rs1, .int .i64 rs2, .int .u32 imm] ∧ decE (encX op rd rs1 rs2 imm) = 0 ∧ encE op rd rs1 rs2 imm = 0 := by
  have hx : encX op rd rs1 rs2 imm = encW op rd rs1 rs2 imm := by unfold encX; rw [if_pos h]
  have he : encE op rd rs1 rs2 imm = 0 := by unfold encE; rw [if_pos h]
  rw [hx]
  unfold encOK at h
  simp only [Bool.and_eq_true] at h
  have hB := h.2
  unfold encB at hB
  simp only [Bool.and_eq_true, beq_iff_eq] at hB
  obtain ⟨b0, b1, b2, b3, b4, b5⟩ := hB
  refine ⟨?_, (decV_yes b0).2, he⟩
  rw [(decV_yes b0).1]
  unfold decAgg
  rw [b1, b2, b3, b4, b5]

set_option maxHeartbeats 4000000
theorem walk (w op rd rs1 rs2 imm : Int) (hw : 0 ≤ w ∧ w < 4294967296) (hm : 0 ≤ imm ∧ imm < 4294967296) (W : World) (ht : TabIs W) (hg : 0 < W.heap.size) :
    Calls Tryd.prog 5 #[.int .u32 w, .agg #[.int .i64 op, .int .i64 rd, .int .i64 rs1, .int .i64 rs2, .int .u32 imm]] W fun e w' => e = .returned (.bool true) ∧ Below W.heap.size W w' := by
  have HT := Lib.hid ht
  clear ht
  have HW := Lib.hid hw
  have HM := Lib.hid hm
  clear hw hm
  go_enter Tryd.func5, Tryd.ntmps5
  go_wp2_with fail
  have hI := five_new W 24 (.int .i64 op) (.int .i64 rd) (.int .i64 rs1) (.int .i64 rs2) (.int .u32 imm)
  have hb : Below W.heap.size W (W.alloc (.cells #[.int .i64 op, .int .i64 rd, .int .i64 rs1, .int .i64 rs2, .int .u32 imm] 24)) := (Below.refl _ _).alloc (Nat.le_refl _) _
  have hs : W.heap.size < (W.alloc (.cells #[.int .i64 op, .int .i64 rd, .int .i64 rs1, .int .i64 rs2, .int .u32 imm] 24)).heap.size := by simp
  generalize hw0 : W.alloc (.cells #[.int .i64 op, .int .i64 rd, .int .i64 rs1, .int .i64 rs2, .int .u32 imm] 24) = w0 at *
  clear hw0
  go_at_call 10
  refine (decode_any _ HW.out.1 HW.out.2 _ (HT.out.below hb hg) (Nat.lt_of_lt_of_le hg hb.size)).mono ?_
  rintro e w1 ⟨rfl, b1⟩
  replace hI := hI.below b1 hs
  replace hs := Nat.lt_of_lt_of_le hs b1.size
  replace hb := hb.trans (b1.mono hb.size)
  clear b1
  cases hc : chB w
  · rw [(decV_no hc).1, (decV_no hc).2]
    simp only [zeroAgg]
    clear hc
    have hx : Below w1.heap.size w1 (w1.alloc (.cells #[.int .i64 0, .int .i64 0, .int .i64 0, .int .i64 0, .int .u32 0] 24)) := (Below.refl _ _).alloc (Nat.le_refl _) _
    replace hI := hI.below hx hs
    replace hs := Nat.lt_of_lt_of_le hs hx.size
    replace hb := hb.trans (hx.mono hb.size)
    clear hx
    cases hE : encOK op rd rs1 rs2 imm
    · obtain ⟨E1, E2⟩ : encX op rd rs1 rs2 imm = 0 ∧ encE op rd rs1 rs2 imm = 1 := by unfold encX encE; rw [hE]; exact ⟨rfl, rfl⟩
      obtain ⟨⟨i0, i1, i2, i3, i4⟩, _⟩ := hI
      go_wp2_with fail
      go_at_call 13
      refine (encode_any _ _ _ _ _ HM.out.1 HM.out.2 _ (HT.out.below hb hg) (Nat.lt_of_lt_of_le hg hb.size)).mono ?_
      rintro e wa ⟨rfl, ba⟩
      replace hb := hb.trans (ba.mono hb.size)
      rw [E1, E2]
      clear E1 E2 hE i0 i1 i2 i3 i4 ba
      go_wp2_with fail
      go_at_call 12
      refine (alive02_any _ (HT.out.below hb hg) (Nat.lt_of_lt_of_le hg hb.size)).mono ?_
      rintro e wb ⟨rfl, bb⟩
      replace hb := hb.trans (bb.mono hb.size)
      have HB := Lib.hid hb
      clear hb bb
      go_wp2
      go_ret
      exact ⟨rfl, HB.out⟩
    · obtain ⟨E1, E2, E3⟩ := read op rd rs1 rs2 imm hE
      have E3 := Lib.hid E3
      have E1 := Lib.hid E1
      have E2 := Lib.hid E2
      have HX := Lib.hid (encX_range op rd rs1 rs2 imm HM.out.1 HM.out.2)
      clear hE
      have HI := Lib.hid hI
      obtain ⟨⟨i0, i1, i2, i3, i4⟩, _⟩ := hI
      go_wp2_with fail
      go_at_call 13
      refine (encode_any _ _ _ _ _ HM.out.1 HM.out.2 _ (HT.out.below hb hg) (Nat.lt_of_lt_of_le hg hb.size)).mono ?_
      rintro e wa ⟨rfl, ba⟩
      have hI := HI.out.below ba hs
      replace hs := Nat.lt_of_lt_of_le hs ba.size
      replace hb := hb.trans (ba.mono hb.size)
      clear HI i0 i1 i2 i3 i4 ba
      rw [E3.out]
      clear E3
      generalize encX op rd rs1 rs2 imm = X at *
      go_wp2_with fail
      go_at_call 10
      refine (decode_any _ HX.out.1 HX.out.2 _ (HT.out.below hb hg) (Nat.lt_of_lt_of_le hg hb.size)).mono ?_
      rintro e wb ⟨rfl, bb⟩
      replace hI := hI.below bb hs
      replace hs := Nat.lt_of_lt_of_le hs bb.size
      replace hb := hb.trans (bb.mono hb.size)
      clear bb
      rw [E1.out, E2.out]
      clear E1 E2
      go_wp2_with fail
      have hk := five_new wb 24 (.int .i64 op) (.int .i64 rd) (.int .i64 rs1) (.int .i64 rs2) (.int .u32 imm)
      have hb4 : Below wb.heap.size wb (wb.alloc (.cells #[.int .i64 op, .int .i64 rd, .int .i64 rs1, .int .i64 rs2, .int .u32 imm] 24)) := (Below.refl _ _).alloc (Nat.le_refl _) _
      have hs4 : wb.heap.size < (wb.alloc (.cells #[.int .i64 op, .int .i64 rd, .int .i64 rs1, .int .i64 rs2, .int .u32 imm] 24)).heap.size := by simp
      replace hI := hI.below hb4 hs
      replace hb := hb.trans (hb4.mono hb.size)
      generalize hw4 : wb.alloc (.cells #[.int .i64 op, .int .i64 rd, .int .i64 rs1, .int .i64 rs2, .int .u32 imm] 24) = w4 at *
      clear hw4
      go_at_call 12
      refine (alive02_any _ (HT.out.below hb hg) (Nat.lt_of_lt_of_le hg hb.size)).mono ?_
      rintro e w5 ⟨rfl, b5⟩
      replace hI := hI.below b5 (Nat.lt_trans hs hs4)
      replace hk := hk.below b5 hs4
      replace hb := hb.trans (b5.mono hb.size)
      have HB := Lib.hid hb
      obtain ⟨⟨a0, a1, a2, a3, a4⟩, _⟩ := hI
      obtain ⟨⟨k0, k1, k2, k3, k4⟩, _⟩ := hk
      clear hb4 b5 hb hs hs4
      go_wp2
      go_ret
      exact ⟨ret_bool (by simp), HB.out⟩
  · obtain ⟨M1, M2⟩ := made w HW.out hc
    rw [(decV_yes hc).1, (decV_yes hc).2]
    simp only [decAgg]
    have HN := Lib.hid (numV_range w (chR w).2.1)
    have M1 := Lib.hid M1
    have M2 := Lib.hid M2
    clear hc
    generalize (chR w).1 = p0 at *
    generalize gth w (rdL (chR w).2.1) = p1 at *
    generalize gth w (rs1L (chR w).2.1) = p2 at *
    generalize gth w (rs2L (chR w).2.1) = p3 at *
    generalize numV w (chR w).2.1 = p4 at *
    go_wp2_with fail
    go_at_call 13
    have hx : Below w1.heap.size w1 (w1.alloc (.cells #[.int .i64 p0, .int .i64 p1, .int .i64 p2, .int .i64 p3, .int .u32 p4] 24)) := (Below.refl _ _).alloc (Nat.le_refl _) _
    replace hI := hI.below hx hs
    replace hs := Nat.lt_of_lt_of_le hs hx.size
    replace hb := hb.trans (hx.mono hb.size)
    clear hx
    refine (encode_any _ _ _ _ _ HN.out.1 HN.out.2 _ (HT.out.below hb hg) (Nat.lt_of_lt_of_le hg hb.size)).mono ?_
    rintro e wq ⟨rfl, bq⟩
    rw [M1.out, M2.out]
    clear M1 M2
    replace hI := hI.below bq hs
    replace hs := Nat.lt_of_lt_of_le hs bq.size
    replace hb := hb.trans (bq.mono hb.size)
    clear bq
    cases hE : encOK op rd rs1 rs2 imm
    · obtain ⟨E1, E2⟩ : encX op rd rs1 rs2 imm = 0 ∧ encE op rd rs1 rs2 imm = 1 := by unfold encX encE; rw [hE]; exact ⟨rfl, rfl⟩
      obtain ⟨⟨i0, i1, i2, i3, i4⟩, _⟩ := hI
      go_wp2_with fail
      go_at_call 13
      refine (encode_any _ _ _ _ _ HM.out.1 HM.out.2 _ (HT.out.below hb hg) (Nat.lt_of_lt_of_le hg hb.size)).mono ?_
      rintro e wa ⟨rfl, ba⟩
      replace hb := hb.trans (ba.mono hb.size)
      rw [E1, E2]
      clear E1 E2 hE i0 i1 i2 i3 i4 ba
      go_wp2_with fail
      go_at_call 12
      refine (alive02_any _ (HT.out.below hb hg) (Nat.lt_of_lt_of_le hg hb.size)).mono ?_
      rintro e wb ⟨rfl, bb⟩
      replace hb := hb.trans (bb.mono hb.size)
      have HB := Lib.hid hb
      clear hb bb
      go_wp2
      go_ret
      exact ⟨rfl, HB.out⟩
    · obtain ⟨E1, E2, E3⟩ := read op rd rs1 rs2 imm hE
      have E3 := Lib.hid E3
      have E1 := Lib.hid E1
      have E2 := Lib.hid E2
      have HX := Lib.hid (encX_range op rd rs1 rs2 imm HM.out.1 HM.out.2)
      clear hE
      have HI := Lib.hid hI
      obtain ⟨⟨i0, i1, i2, i3, i4⟩, _⟩ := hI
      go_wp2_with fail
      go_at_call 13
      refine (encode_any _ _ _ _ _ HM.out.1 HM.out.2 _ (HT.out.below hb hg) (Nat.lt_of_lt_of_le hg hb.size)).mono ?_
      rintro e wa ⟨rfl, ba⟩
      have hI := HI.out.below ba hs
      replace hs := Nat.lt_of_lt_of_le hs ba.size
      replace hb := hb.trans (ba.mono hb.size)
      clear HI i0 i1 i2 i3 i4 ba
      rw [E3.out]
      clear E3
      generalize encX op rd rs1 rs2 imm = X at *
      go_wp2_with fail
      go_at_call 10
      refine (decode_any _ HX.out.1 HX.out.2 _ (HT.out.below hb hg) (Nat.lt_of_lt_of_le hg hb.size)).mono ?_
      rintro e wb ⟨rfl, bb⟩
      replace hI := hI.below bb hs
      replace hs := Nat.lt_of_lt_of_le hs bb.size
      replace hb := hb.trans (bb.mono hb.size)
      clear bb
      rw [E1.out, E2.out]
      clear E1 E2
      go_wp2_with fail
      have hk := five_new wb 24 (.int .i64 op) (.int .i64 rd) (.int .i64 rs1) (.int .i64 rs2) (.int .u32 imm)
      have hb4 : Below wb.heap.size wb (wb.alloc (.cells #[.int .i64 op, .int .i64 rd, .int .i64 rs1, .int .i64 rs2, .int .u32 imm] 24)) := (Below.refl _ _).alloc (Nat.le_refl _) _
      have hs4 : wb.heap.size < (wb.alloc (.cells #[.int .i64 op, .int .i64 rd, .int .i64 rs1, .int .i64 rs2, .int .u32 imm] 24)).heap.size := by simp
      replace hI := hI.below hb4 hs
      replace hb := hb.trans (hb4.mono hb.size)
      generalize hw4 : wb.alloc (.cells #[.int .i64 op, .int .i64 rd, .int .i64 rs1, .int .i64 rs2, .int .u32 imm] 24) = w4 at *
      clear hw4
      go_at_call 12
      refine (alive02_any _ (HT.out.below hb hg) (Nat.lt_of_lt_of_le hg hb.size)).mono ?_
      rintro e w5 ⟨rfl, b5⟩
      replace hI := hI.below b5 (Nat.lt_trans hs hs4)
      replace hk := hk.below b5 hs4
      replace hb := hb.trans (b5.mono hb.size)
      have HB := Lib.hid hb
      obtain ⟨⟨a0, a1, a2, a3, a4⟩, _⟩ := hI
      obtain ⟨⟨k0, k1, k2, k3, k4⟩, _⟩ := hk
      clear hb4 b5 hb hs hs4
      go_wp2
      go_ret
      exact ⟨ret_bool (by simp), HB.out⟩

end Go.Proofs.YtbpafbogjhbogaaDoor.instBack
