/- THE WALK of InstDecodes (auspexlaw02): any word is read as the reference reads it. -/
import Derived.Test.YtbpafbogjhbogaaDoorRef02X
import Derived.WalkLawsBesides
namespace Go.Proofs.YtbpafbogjhbogaaDoor.instDecodes
open Go.ChangeShapes Go.WideShapes Go.ChangeAt Go.RowKit

set_option maxHeartbeats 4000000
theorem walk (w : Int) (hw : 0 ≤ w ∧ w < 4294967296) (W : World) (ht : TabIs W) (hg : 0 < W.heap.size) :
    Calls Tryd.prog 3 #[.int .u32 w] W fun e w' => e = .returned (.bool true) ∧ Below W.heap.size W w' := by
  have HT := Lib.hid ht
  clear ht
  have HW := Lib.hid hw
  clear hw
  go_enter Tryd.func3, Tryd.ntmps3
  go_wp2_with fail
  go_at_call 10
  refine (decode_any _ HW.out.1 HW.out.2 _ HT.out hg).mono ?_
  rintro e w1 ⟨rfl, b1⟩
  have hb := b1
  clear b1
  cases hc : chB w
  · rw [(decV_no hc).1, (decV_no hc).2]
    simp only [zeroAgg]
    have hI := five_new w1 24 (.int .i64 0) (.int .i64 0) (.int .i64 0) (.int .i64 0) (.int .u32 0)
    have hx : Below w1.heap.size w1 (w1.alloc (.cells #[.int .i64 0, .int .i64 0, .int .i64 0, .int .i64 0, .int .u32 0] 24)) := (Below.refl _ _).alloc (Nat.le_refl _) _
    have hs : w1.heap.size < (w1.alloc (.cells #[.int .i64 0, .int .i64 0, .int .i64 0, .int .i64 0, .int .u32 0] 24)).heap.size := by simp
    replace hb := hb.trans (hx.mono hb.size)
    go_wp2_with fail
    generalize w1.alloc (.cells #[.int .i64 0, .int .i64 0, .int .i64 0, .int .i64 0, .int .u32 0] 24) = w2 at *
    clear hx
    go_at_call 11
    have hd := refDec_any w HW.out w2
    rw [(decV_no hc).1, (decV_no hc).2] at hd
    simp only [zeroAgg] at hd
    clear hc
    refine hd.mono ?_
    clear hd
    rintro e w3 ⟨rfl, b⟩
    replace hI := hI.below b hs
    replace hs := Nat.lt_of_lt_of_le hs b.size
    replace hb := hb.trans (b.mono hb.size)
    clear b
    have hk := five_new w3 24 (.int .i64 0) (.int .i64 0) (.int .i64 0) (.int .i64 0) (.int .u32 0)
    have hx : Below w3.heap.size w3 (w3.alloc (.cells #[.int .i64 0, .int .i64 0, .int .i64 0, .int .i64 0, .int .u32 0] 24)) := (Below.refl _ _).alloc (Nat.le_refl _) _
    have hsk : w3.heap.size < (w3.alloc (.cells #[.int .i64 0, .int .i64 0, .int .i64 0, .int .i64 0, .int .u32 0] 24)).heap.size := by simp
    replace hI := hI.below hx hs
    replace hs := Nat.lt_of_lt_of_le hs hx.size
    replace hb := hb.trans (hx.mono hb.size)
    go_wp2_with fail
    generalize w3.alloc (.cells #[.int .i64 0, .int .i64 0, .int .i64 0, .int .i64 0, .int .u32 0] 24) = w4 at *
    clear hx
    go_at_call 12
    refine (alive02_any _ (HT.out.below hb hg) (Nat.lt_of_lt_of_le hg hb.size)).mono ?_
    rintro e w5 ⟨rfl, b⟩
    replace hI := hI.below b hs
    replace hk := hk.below b hsk
    have HB := Lib.hid (hb.trans (b.mono hb.size))
    clear b hb hs hsk
    obtain ⟨⟨a0, a1, a2, a3, a4⟩, _⟩ := hI
    obtain ⟨⟨k0, k1, k2, k3, k4⟩, _⟩ := hk
    go_wp2
    go_ret
    exact ⟨ret_bool (by simp), HB.out⟩
  · rw [(decV_yes hc).1, (decV_yes hc).2]
    simp only [decAgg]
    obtain ⟨p0, e0⟩ : ∃ p, p = (chR w).1 := ⟨_, rfl⟩
    obtain ⟨p1, e1⟩ : ∃ p, p = gth w (rdL (chR w).2.1) := ⟨_, rfl⟩
    obtain ⟨p2, e2⟩ : ∃ p, p = gth w (rs1L (chR w).2.1) := ⟨_, rfl⟩
    obtain ⟨p3, e3⟩ : ∃ p, p = gth w (rs2L (chR w).2.1) := ⟨_, rfl⟩
    obtain ⟨p4, e4⟩ : ∃ p, p = numV w (chR w).2.1 := ⟨_, rfl⟩
    rw [← e0, ← e1, ← e2, ← e3, ← e4]
    replace e0 := Lib.hid e0
    replace e1 := Lib.hid e1
    replace e2 := Lib.hid e2
    replace e3 := Lib.hid e3
    replace e4 := Lib.hid e4
    have hI := five_new w1 24 (.int .i64 p0) (.int .i64 p1) (.int .i64 p2) (.int .i64 p3) (.int .u32 p4)
    have hx : Below w1.heap.size w1 (w1.alloc (.cells #[.int .i64 p0, .int .i64 p1, .int .i64 p2, .int .i64 p3, .int .u32 p4] 24)) := (Below.refl _ _).alloc (Nat.le_refl _) _
    have hs : w1.heap.size < (w1.alloc (.cells #[.int .i64 p0, .int .i64 p1, .int .i64 p2, .int .i64 p3, .int .u32 p4] 24)).heap.size := by simp
    replace hb := hb.trans (hx.mono hb.size)
    go_wp2_with fail
    generalize w1.alloc (.cells #[.int .i64 p0, .int .i64 p1, .int .i64 p2, .int .i64 p3, .int .u32 p4] 24) = w2 at *
    clear hx
    go_at_call 11
    have hd := refDec_any w HW.out w2
    rw [(decV_yes hc).1, (decV_yes hc).2] at hd
    simp only [decAgg] at hd
    rw [← e0.out, ← e1.out, ← e2.out, ← e3.out, ← e4.out] at hd; clear hc
    refine hd.mono ?_
    clear hd
    rintro e w3 ⟨rfl, b⟩
    replace hI := hI.below b hs
    replace hs := Nat.lt_of_lt_of_le hs b.size
    replace hb := hb.trans (b.mono hb.size)
    clear b
    have hk := five_new w3 24 (.int .i64 p0) (.int .i64 p1) (.int .i64 p2) (.int .i64 p3) (.int .u32 p4)
    have hx : Below w3.heap.size w3 (w3.alloc (.cells #[.int .i64 p0, .int .i64 p1, .int .i64 p2, .int .i64 p3, .int .u32 p4] 24)) := (Below.refl _ _).alloc (Nat.le_refl _) _
    have hsk : w3.heap.size < (w3.alloc (.cells #[.int .i64 p0, .int .i64 p1, .int .i64 p2, .int .i64 p3, .int .u32 p4] 24)).heap.size := by simp
    replace hI := hI.below hx hs
    replace hs := Nat.lt_of_lt_of_le hs hx.size
    replace hb := hb.trans (hx.mono hb.size)
    go_wp2_with fail
    generalize w3.alloc (.cells #[.int .i64 p0, .int .i64 p1, .int .i64 p2, .int .i64 p3, .int .u32 p4] 24) = w4 at *
    clear hx
    go_at_call 12
    refine (alive02_any _ (HT.out.below hb hg) (Nat.lt_of_lt_of_le hg hb.size)).mono ?_
    rintro e w5 ⟨rfl, b⟩
    replace hI := hI.below b hs
    replace hk := hk.below b hsk
    have HB := Lib.hid (hb.trans (b.mono hb.size))
    clear b hb hs hsk
    obtain ⟨⟨a0, a1, a2, a3, a4⟩, _⟩ := hI
    obtain ⟨⟨k0, k1, k2, k3, k4⟩, _⟩ := hk
    go_wp2
    go_ret
    exact ⟨ret_bool (by simp), HB.out⟩

end Go.Proofs.YtbpafbogjhbogaaDoor.instDecodes
