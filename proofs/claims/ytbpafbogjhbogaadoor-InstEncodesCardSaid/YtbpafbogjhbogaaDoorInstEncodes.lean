/- THE WALK of InstEncodes (auspexlaw02): any instruction is written as a word that tells just it; it is refused just if there is none. -/
import Derived.Test.YtbpafbogjhbogaaDoorRef02X
import Derived.Test.YtbpafbogjhbogaaDoorInstBack
import Derived.WalkLawsBesides
namespace Go.Proofs.YtbpafbogjhbogaaDoor.instEncodes
open Go.ChangeShapes Go.WideShapes Go.ChangeAt Go.RowKit

/-- a word that tells an instruction makes Encode write it -/
theorem told_ok (w op rd rs1 rs2 imm : Int) (hw : 0 ≤ w ∧ w < 4294967296) (h : chB w = true) (hn : encOK op rd rs1 rs2 imm = false) :
    ¬ (op = (chR w).1 ∧ rd = gth w (rdL (chR w).2.1) ∧ rs1 = gth w (rs1L (chR w).2.1) ∧ rs2 = gth w (rs2L (chR w).2.1) ∧ imm = numV w (chR w).2.1) := by
  rintro ⟨rfl, rfl, rfl, rfl, rfl⟩
  have := (instBack.made w hw h).2
  unfold encE at this
  rw [hn] at this
  exact absurd this (by decide)
theorem zero_no : chB 0 = false := by decide +kernel

set_option maxHeartbeats 4000000
theorem walk (op rd rs1 rs2 imm w : Int) (hm : 0 ≤ imm ∧ imm < 4294967296) (hw : 0 ≤ w ∧ w < 4294967296) (W : World) (ht : TabIs W) (hg : 0 < W.heap.size) :
    Calls Tryd.prog 4 #[.agg #[.int .i64 op, .int .i64 rd, .int .i64 rs1, .int .i64 rs2, .int .u32 imm], .int .u32 w] W fun e w' => e = .returned (.bool true) ∧ Below W.heap.size W w' := by
  have HT := Lib.hid ht
  clear ht
  have HW := Lib.hid hw
  have HM := Lib.hid hm
  clear hw hm
  go_enter Tryd.func4, Tryd.ntmps4
  go_wp2_with fail
  have hI := five_new W 24 (.int .i64 op) (.int .i64 rd) (.int .i64 rs1) (.int .i64 rs2) (.int .u32 imm)
  have hb : Below W.heap.size W (W.alloc (.cells #[.int .i64 op, .int .i64 rd, .int .i64 rs1, .int .i64 rs2, .int .u32 imm] 24)) := (Below.refl _ _).alloc (Nat.le_refl _) _
  have hs : W.heap.size < (W.alloc (.cells #[.int .i64 op, .int .i64 rd, .int .i64 rs1, .int .i64 rs2, .int .u32 imm] 24)).heap.size := by simp
  generalize hw0 : W.alloc (.cells #[.int .i64 op, .int .i64 rd, .int .i64 rs1, .int .i64 rs2, .int .u32 imm] 24) = w0 at *
  clear hw0
  go_at_call 13
  refine (encode_any _ _ _ _ _ HM.out.1 HM.out.2 _ (HT.out.below hb hg) (Nat.lt_of_lt_of_le hg hb.size)).mono ?_
  rintro e w1 ⟨rfl, b⟩
  replace hI := hI.below b hs
  replace hs := Nat.lt_of_lt_of_le hs b.size
  replace hb := hb.trans (b.mono hb.size)
  clear b
  cases hE : encOK op rd rs1 rs2 imm
  · obtain ⟨E1, E2⟩ : encX op rd rs1 rs2 imm = 0 ∧ encE op rd rs1 rs2 imm = 1 := by unfold encX encE; rw [hE]; exact ⟨rfl, rfl⟩
    have TK := fun hc => told_ok w op rd rs1 rs2 imm HW.out hc hE
    rw [E1, E2]
    clear E1 E2 hE
    go_wp2_with fail
    go_at_call 11
    have hd := refDec_no 0 (by decide) zero_no w1
    simp only [zeroAgg] at hd
    refine hd.mono ?_
    clear hd
    rintro e w2 ⟨rfl, b⟩
    replace hI := hI.below b hs
    replace hs := Nat.lt_of_lt_of_le hs b.size
    replace hb := hb.trans (b.mono hb.size)
    clear b
    have hk := five_new w2 24 (.int .i64 0) (.int .i64 0) (.int .i64 0) (.int .i64 0) (.int .u32 0)
    have hx : Below w2.heap.size w2 (w2.alloc (.cells #[.int .i64 0, .int .i64 0, .int .i64 0, .int .i64 0, .int .u32 0] 24)) := (Below.refl _ _).alloc (Nat.le_refl _) _
    have hsk : w2.heap.size < (w2.alloc (.cells #[.int .i64 0, .int .i64 0, .int .i64 0, .int .i64 0, .int .u32 0] 24)).heap.size := by simp
    replace hI := hI.below hx hs
    replace hs := Nat.lt_of_lt_of_le hs hx.size
    replace hb := hb.trans (hx.mono hb.size)
    clear hx
    have HI2 := Lib.hid hI
    obtain ⟨⟨a0, a1, a2, a3, a4⟩, _⟩ := hI
    obtain ⟨⟨y0, y1, y2, y3, y4⟩, _⟩ := hk
    go_wp2_with fail
    clear a0 a1 a2 a3 a4 y0 y1 y2 y3 y4
    generalize w2.alloc (.cells #[.int .i64 0, .int .i64 0, .int .i64 0, .int .i64 0, .int .u32 0] 24) = w3 at *
    go_at_call 11
    have hd := refDec_any w HW.out w3
    cases hc : chB w
    · rw [(decV_no hc).1, (decV_no hc).2] at hd
      simp only [zeroAgg] at hd
      refine hd.mono ?_
      clear hd hc
      rintro e w4 ⟨rfl, b⟩
      have hb := hb.trans (b.mono hb.size)
      clear b
      go_wp2_with fail
      have hx : Below w4.heap.size w4 (w4.alloc (.cells #[.int .i64 0, .int .i64 0, .int .i64 0, .int .i64 0, .int .u32 0] 24)) := (Below.refl _ _).alloc (Nat.le_refl _) _
      replace hb := hb.trans (hx.mono hb.size)
      clear hx
      go_at_call 12
      refine (alive02_any _ (HT.out.below hb hg) (Nat.lt_of_lt_of_le hg hb.size)).mono ?_
      rintro e w5 ⟨rfl, b⟩
      have HB := Lib.hid (hb.trans (b.mono hb.size))
      clear hb b
      go_wp2
      go_ret
      exact ⟨rfl, HB.out⟩
    · obtain ⟨M1, M2⟩ := instBack.made w HW.out hc
      have TN := TK hc
      have HN := Lib.hid (numV_range w (chR w).2.1)
      rw [(decV_yes hc).1, (decV_yes hc).2] at hd
      simp only [decAgg] at hd
      clear hc
      have hI := HI2.out
      generalize (chR w).1 = p0 at *
      generalize gth w (rdL (chR w).2.1) = p1 at *
      generalize gth w (rs1L (chR w).2.1) = p2 at *
      generalize gth w (rs2L (chR w).2.1) = p3 at *
      generalize numV w (chR w).2.1 = p4 at *
      replace M1 := Lib.hid M1
      replace M2 := Lib.hid M2
      replace TN := Lib.hid TN
      refine hd.mono ?_
      clear hd
      rintro e w4 ⟨rfl, b⟩
      replace hI := hI.below b hs
      replace hs := Nat.lt_of_lt_of_le hs b.size
      replace hb := hb.trans (b.mono hb.size)
      clear b
      go_wp2_with fail
      have hj := five_new w4 24 (.int .i64 p0) (.int .i64 p1) (.int .i64 p2) (.int .i64 p3) (.int .u32 p4)
      have hx : Below w4.heap.size w4 (w4.alloc (.cells #[.int .i64 p0, .int .i64 p1, .int .i64 p2, .int .i64 p3, .int .u32 p4] 24)) := (Below.refl _ _).alloc (Nat.le_refl _) _
      have hsj : w4.heap.size < (w4.alloc (.cells #[.int .i64 p0, .int .i64 p1, .int .i64 p2, .int .i64 p3, .int .u32 p4] 24)).heap.size := by simp
      replace hI := hI.below hx hs
      replace hs := Nat.lt_of_lt_of_le hs hx.size
      replace hb := hb.trans (hx.mono hb.size)
      clear hx
      generalize w4.alloc (.cells #[.int .i64 p0, .int .i64 p1, .int .i64 p2, .int .i64 p3, .int .u32 p4] 24) = w5 at *
      go_at_call 13
      refine (encode_any _ _ _ _ _ HN.out.1 HN.out.2 _ (HT.out.below hb hg) (Nat.lt_of_lt_of_le hg hb.size)).mono ?_
      rintro e w6 ⟨rfl, b⟩
      rw [M1.out, M2.out]
      replace hj := hj.below b hsj
      replace hsj := Nat.lt_of_lt_of_le hsj b.size
      replace hI := hI.below b hs
      replace hs := Nat.lt_of_lt_of_le hs b.size
      replace hb := hb.trans (b.mono hb.size)
      clear b
      go_wp2_with fail
      go_at_call 12
      refine (alive02_any _ (HT.out.below hb hg) (Nat.lt_of_lt_of_le hg hb.size)).mono ?_
      rintro e w7 ⟨rfl, b⟩
      replace hj := hj.below b hsj
      replace hI := hI.below b hs
      replace hs := Nat.lt_of_lt_of_le hs b.size
      replace hb := hb.trans (b.mono hb.size)
      clear b
      have HB := Lib.hid hb
      clear hb hs hsj M1 M2 HN
      obtain ⟨⟨a0, a1, a2, a3, a4⟩, _⟩ := hI
      obtain ⟨⟨y0, y1, y2, y3, y4⟩, _⟩ := hj
      go_wp2
      all_goals go_ret
      all_goals first
        | exact ⟨rfl, HB.out⟩
        | exact absurd ⟨‹op = p0›, ‹rd = p1›, ‹rs1 = p2›, ‹rs2 = p3›, ‹imm = p4›⟩ TN.out
        | exact ⟨ret_bool (by simp), HB.out⟩
  · obtain ⟨E1, E2, E3⟩ := instBack.read op rd rs1 rs2 imm hE
    have HX := Lib.hid (encX_range op rd rs1 rs2 imm HM.out.1 HM.out.2)
    have TK : chB w = true → True := fun _ => trivial
    rw [E3]
    clear E3 hE
    generalize encX op rd rs1 rs2 imm = X at *
    go_wp2_with fail
    go_at_call 11
    have hd := refDec_any X HX.out w1
    rw [E1, E2] at hd
    clear E1 E2
    refine hd.mono ?_
    clear hd
    rintro e w2 ⟨rfl, b⟩
    replace hI := hI.below b hs
    replace hs := Nat.lt_of_lt_of_le hs b.size
    replace hb := hb.trans (b.mono hb.size)
    clear b
    have hk := five_new w2 24 (.int .i64 op) (.int .i64 rd) (.int .i64 rs1) (.int .i64 rs2) (.int .u32 imm)
    have hx : Below w2.heap.size w2 (w2.alloc (.cells #[.int .i64 op, .int .i64 rd, .int .i64 rs1, .int .i64 rs2, .int .u32 imm] 24)) := (Below.refl _ _).alloc (Nat.le_refl _) _
    have hsk : w2.heap.size < (w2.alloc (.cells #[.int .i64 op, .int .i64 rd, .int .i64 rs1, .int .i64 rs2, .int .u32 imm] 24)).heap.size := by simp
    replace hI := hI.below hx hs
    replace hs := Nat.lt_of_lt_of_le hs hx.size
    replace hb := hb.trans (hx.mono hb.size)
    clear hx
    have HI2 := Lib.hid hI
    obtain ⟨⟨a0, a1, a2, a3, a4⟩, _⟩ := hI
    obtain ⟨⟨y0, y1, y2, y3, y4⟩, _⟩ := hk
    go_wp2_with fail
    clear a0 a1 a2 a3 a4 y0 y1 y2 y3 y4
    generalize w2.alloc (.cells #[.int .i64 op, .int .i64 rd, .int .i64 rs1, .int .i64 rs2, .int .u32 imm] 24) = w3 at *
    go_at_call 11
    have hd := refDec_any w HW.out w3
    cases hc : chB w
    · rw [(decV_no hc).1, (decV_no hc).2] at hd
      simp only [zeroAgg] at hd
      refine hd.mono ?_
      clear hd hc
      rintro e w4 ⟨rfl, b⟩
      have hb := hb.trans (b.mono hb.size)
      clear b
      go_wp2_with fail
      have hx : Below w4.heap.size w4 (w4.alloc (.cells #[.int .i64 0, .int .i64 0, .int .i64 0, .int .i64 0, .int .u32 0] 24)) := (Below.refl _ _).alloc (Nat.le_refl _) _
      replace hb := hb.trans (hx.mono hb.size)
      clear hx
      go_at_call 12
      refine (alive02_any _ (HT.out.below hb hg) (Nat.lt_of_lt_of_le hg hb.size)).mono ?_
      rintro e w5 ⟨rfl, b⟩
      have HB := Lib.hid (hb.trans (b.mono hb.size))
      clear hb b
      go_wp2
      go_ret
      exact ⟨rfl, HB.out⟩
    · obtain ⟨M1, M2⟩ := instBack.made w HW.out hc
      have TN := TK hc
      have HN := Lib.hid (numV_range w (chR w).2.1)
      rw [(decV_yes hc).1, (decV_yes hc).2] at hd
      simp only [decAgg] at hd
      clear hc
      have hI := HI2.out
      generalize (chR w).1 = p0 at *
      generalize gth w (rdL (chR w).2.1) = p1 at *
      generalize gth w (rs1L (chR w).2.1) = p2 at *
      generalize gth w (rs2L (chR w).2.1) = p3 at *
      generalize numV w (chR w).2.1 = p4 at *
      replace M1 := Lib.hid M1
      replace M2 := Lib.hid M2
      replace TN := Lib.hid TN
      refine hd.mono ?_
      clear hd
      rintro e w4 ⟨rfl, b⟩
      replace hI := hI.below b hs
      replace hs := Nat.lt_of_lt_of_le hs b.size
      replace hb := hb.trans (b.mono hb.size)
      clear b
      go_wp2_with fail
      have hj := five_new w4 24 (.int .i64 p0) (.int .i64 p1) (.int .i64 p2) (.int .i64 p3) (.int .u32 p4)
      have hx : Below w4.heap.size w4 (w4.alloc (.cells #[.int .i64 p0, .int .i64 p1, .int .i64 p2, .int .i64 p3, .int .u32 p4] 24)) := (Below.refl _ _).alloc (Nat.le_refl _) _
      have hsj : w4.heap.size < (w4.alloc (.cells #[.int .i64 p0, .int .i64 p1, .int .i64 p2, .int .i64 p3, .int .u32 p4] 24)).heap.size := by simp
      replace hI := hI.below hx hs
      replace hs := Nat.lt_of_lt_of_le hs hx.size
      replace hb := hb.trans (hx.mono hb.size)
      clear hx
      generalize w4.alloc (.cells #[.int .i64 p0, .int .i64 p1, .int .i64 p2, .int .i64 p3, .int .u32 p4] 24) = w5 at *
      go_at_call 13
      refine (encode_any _ _ _ _ _ HN.out.1 HN.out.2 _ (HT.out.below hb hg) (Nat.lt_of_lt_of_le hg hb.size)).mono ?_
      rintro e w6 ⟨rfl, b⟩
      rw [M1.out, M2.out]
      replace hj := hj.below b hsj
      replace hsj := Nat.lt_of_lt_of_le hsj b.size
      replace hI := hI.below b hs
      replace hs := Nat.lt_of_lt_of_le hs b.size
      replace hb := hb.trans (b.mono hb.size)
      clear b
      go_wp2_with fail
      go_at_call 12
      refine (alive02_any _ (HT.out.below hb hg) (Nat.lt_of_lt_of_le hg hb.size)).mono ?_
      rintro e w7 ⟨rfl, b⟩
      replace hj := hj.below b hsj
      replace hI := hI.below b hs
      replace hs := Nat.lt_of_lt_of_le hs b.size
      replace hb := hb.trans (b.mono hb.size)
      clear b
      have HB := Lib.hid hb
      clear hb hs hsj M1 M2 HN
      obtain ⟨⟨a0, a1, a2, a3, a4⟩, _⟩ := hI
      obtain ⟨⟨y0, y1, y2, y3, y4⟩, _⟩ := hj
      go_wp2
      all_goals go_ret
      all_goals first
        | exact ⟨rfl, HB.out⟩
        | exact absurd ⟨‹op = p0›, ‹rd = p1›, ‹rs1 = p2›, ‹rs2 = p3›, ‹imm = p4›⟩ TN.out
        | exact ⟨ret_bool (by simp), HB.out⟩

end Go.Proofs.YtbpafbogjhbogaaDoor.instEncodes
