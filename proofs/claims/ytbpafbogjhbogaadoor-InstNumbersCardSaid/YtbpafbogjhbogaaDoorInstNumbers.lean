/- THE WALK of InstNumbers (auspexlaw02): the number of an instruction that a word tells keeps the bounds of its form. -/
import Derived.Test.YtbpafbogjhbogaaDoorInstMore
import Derived.WalkLawsBesides
namespace Go.Proofs.YtbpafbogjhbogaaDoor.instNumbers
open Go.ChangeShapes Go.WideShapes Go.ChangeAt Go.RowKit

/-- what a word's operation says of its number, as a signed one -/
def NumIs (op n : Int) : Prop :=
  (5 ≤ op ∧ op ≤ 10 → n % 2 = 0 ∧ -4096 ≤ n ∧ n < 4096) ∧ (op = 3 → n % 2 = 0 ∧ -1048576 ≤ n ∧ n < 1048576) ∧ (op = 1 ∨ op = 2 → n % 4096 = 0) ∧ (25 ≤ op ∧ op ≤ 27 → 0 ≤ n ∧ n < 32) ∧
  (¬ (5 ≤ op ∧ op ≤ 10) → op ≠ 3 → op ≠ 1 → op ≠ 2 → ¬ (25 ≤ op ∧ op ≤ 27) → -2048 ≤ n ∧ n < 2048) ∧ 1 ≤ op ∧ op ≤ 48
theorem numIs (w : Int) (h : chB w = true) : NumIs (chR w).1 (wrap32 (numV w (chR w).2.1)) := by
  have ok := kindW_ok w h
  unfold kindOK at ok
  obtain ⟨_, _, _, _, _, _, _, _, _, f0, f7, i4, i6, i5, i2, i7, i3, o1, o48⟩ := ok
  have hn := numW_ok w (chR w).2.1 (by omega)
  generalize (chR w).1 = op at *
  generalize (chR w).2.1 = form at *
  generalize wrap32 (numV w form) = n at *
  unfold numOK at hn
  unfold NumIs
  refine ⟨fun h => ?_, fun h => ?_, fun h => ?_, fun h => ?_, fun h1 h2 h3 h4 h5 => ?_, o1, o48⟩
  · rw [if_pos (i4.1 h)] at hn; exact hn
  · have e := i6.1 h
    rw [if_neg (by omega), if_pos e] at hn; exact hn
  · have e := i5.1 h
    rw [if_neg (by omega), if_neg (by omega), if_pos e] at hn; exact hn
  · have e := i2.1 h
    rw [if_neg (by omega), if_neg (by omega), if_neg (by omega), if_pos e] at hn; exact hn
  · have n4 : form ≠ 4 := fun e => h1 (i4.2 e)
    have n6 : form ≠ 6 := fun e => h2 (i6.2 e)
    have n5 : form ≠ 5 := fun e => by have := i5.2 e; omega
    have n2 : form ≠ 2 := fun e => h5 (i2.2 e)
    rw [if_neg n4, if_neg n6, if_neg n5, if_neg n2] at hn; exact hn

theorem wrap64_32 (x : Int) : wrap64 (wrap32 x) = wrap32 x := by unfold wrap64 wrap32; omega
set_option maxHeartbeats 4000000
theorem walk (w : Int) (hw : 0 ≤ w ∧ w < 4294967296) (W : World) (ht : TabIs W) (hg : 0 < W.heap.size) :
    Calls Tryd.prog 7 #[.int .u32 w] W fun e w' => e = .returned (.bool true) ∧ Below W.heap.size W w' := by
  have HT := Lib.hid ht
  clear ht
  have HW := Lib.hid hw
  clear hw
  go_enter Tryd.func7, Tryd.ntmps7
  go_wp2_with fail
  go_at_call 10
  refine (decode_any _ HW.out.1 HW.out.2 _ HT.out hg).mono ?_
  rintro e w1 ⟨rfl, b1⟩
  have hb := b1
  clear b1
  cases hc : chB w
  · rw [(decV_no hc).1, (decV_no hc).2]
    simp only [zeroAgg]
    clear hc
    go_wp2_with fail
    have hx : Below w1.heap.size w1 (w1.alloc (.cells #[.int .i64 0, .int .i64 0, .int .i64 0, .int .i64 0, .int .u32 0] 24)) := (Below.refl _ _).alloc (Nat.le_refl _) _
    replace hb := hb.trans (hx.mono hb.size)
    go_at_call 12
    refine (alive02_any _ (HT.out.below hb hg) (Nat.lt_of_lt_of_le hg hb.size)).mono ?_
    rintro e w5 ⟨rfl, b5⟩
    replace hb := hb.trans (b5.mono hb.size)
    have HB := Lib.hid hb
    clear b5 hb hx
    go_wp2
    go_ret
    exact ⟨rfl, HB.out⟩
  · rw [(decV_yes hc).1, (decV_yes hc).2]
    simp only [decAgg]
    have T := numIs w hc
    have HN := Lib.hid (numV_range w (chR w).2.1)
    clear hc
    generalize (chR w).1 = p0 at *
    generalize gth w (rdL (chR w).2.1) = p1 at *
    generalize gth w (rs1L (chR w).2.1) = p2 at *
    generalize gth w (rs2L (chR w).2.1) = p3 at *
    generalize numV w (chR w).2.1 = p4 at *
    have hx : Below w1.heap.size w1 (w1.alloc (.cells #[.int .i64 p0, .int .i64 p1, .int .i64 p2, .int .i64 p3, .int .u32 p4] 24)) := (Below.refl _ _).alloc (Nat.le_refl _) _
    replace hb := hb.trans (hx.mono hb.size)
    have HT2 := Lib.hid (HT.out.below hb hg)
    have hg2 := Nat.lt_of_lt_of_le hg hb.size
    have HB := Lib.hid hb
    clear hx hb
    unfold NumIs at T
    obtain ⟨t1, t2, t3, t4, t5, t6, t7⟩ := T
    obtain rfl | rfl | rfl | rfl | ⟨k1, k2⟩ | ⟨k1, k2⟩ | ⟨k1, k2⟩ | k1 : p0 = 1 ∨ p0 = 2 ∨ p0 = 3 ∨ p0 = 4 ∨ (5 ≤ p0 ∧ p0 ≤ 10) ∨ (11 ≤ p0 ∧ p0 ≤ 24) ∨ (25 ≤ p0 ∧ p0 ≤ 27) ∨ 28 ≤ p0 := by omega
    · have n1 := t3 (Or.inl rfl)
      have HN1 := Lib.hid n1
      clear n1 t1 t2 t3 t4 t5
      go_wp2_with fail
      rw [wrap64_32]
      generalize wrap32 p4 = n at *
      have n1 := HN1.out
      clear HN1
      have q : (n.tmod 4096 == 0) = true := by rw [Int.tmod_eq_zero_of_dvd (Int.dvd_of_emod_eq_zero n1)]; rfl
      clear n1
      go_at_call 12
      refine (alive02_any _ HT2.out hg2).mono ?_
      rintro e w5 ⟨rfl, b5⟩
      have HB2 := Lib.hid (HB.out.trans (b5.mono HB.out.size))
      clear b5
      go_wp2
      go_ret
      exact ⟨rfl, HB2.out⟩
    · have n1 := t3 (Or.inr rfl)
      have HN1 := Lib.hid n1
      clear n1 t1 t2 t3 t4 t5
      go_wp2_with fail
      rw [wrap64_32]
      generalize wrap32 p4 = n at *
      have n1 := HN1.out
      clear HN1
      have q : (n.tmod 4096 == 0) = true := by rw [Int.tmod_eq_zero_of_dvd (Int.dvd_of_emod_eq_zero n1)]; rfl
      clear n1
      go_at_call 12
      refine (alive02_any _ HT2.out hg2).mono ?_
      rintro e w5 ⟨rfl, b5⟩
      have HB2 := Lib.hid (HB.out.trans (b5.mono HB.out.size))
      clear b5
      go_wp2
      go_ret
      exact ⟨rfl, HB2.out⟩
    · have n1 := t2 rfl
      have HN1 := Lib.hid n1
      clear n1 t1 t2 t3 t4 t5
      go_wp2_with fail
      rw [wrap64_32]
      generalize wrap32 p4 = n at *
      have n1 := HN1.out
      clear HN1
      obtain ⟨n1, n2, n3⟩ := n1; have q : (n.tmod 2 == 0) = true := by rw [Int.tmod_eq_zero_of_dvd (Int.dvd_of_emod_eq_zero n1)]; rfl
      clear n1
      go_at_call 12
      refine (alive02_any _ HT2.out hg2).mono ?_
      rintro e w5 ⟨rfl, b5⟩
      have HB2 := Lib.hid (HB.out.trans (b5.mono HB.out.size))
      clear b5
      go_wp2
      go_ret
      exact ⟨rfl, HB2.out⟩
    · have n1 := t5 (by omega) (by omega) (by omega) (by omega) (by omega)
      have HN1 := Lib.hid n1
      clear n1 t1 t2 t3 t4 t5
      go_wp2_with fail
      rw [wrap64_32]
      generalize wrap32 p4 = n at *
      have n1 := HN1.out
      clear HN1
      obtain ⟨n1, n2⟩ := n1; have n3 := n1
      clear n1
      go_at_call 12
      refine (alive02_any _ HT2.out hg2).mono ?_
      rintro e w5 ⟨rfl, b5⟩
      have HB2 := Lib.hid (HB.out.trans (b5.mono HB.out.size))
      clear b5
      go_wp2
      go_ret
      exact ⟨rfl, HB2.out⟩
    · have n1 := t1 ⟨k1, k2⟩
      have HN1 := Lib.hid n1
      clear n1 t1 t2 t3 t4 t5
      go_wp2_with fail
      rw [wrap64_32]
      generalize wrap32 p4 = n at *
      have n1 := HN1.out
      clear HN1
      obtain ⟨n1, n2, n3⟩ := n1; have q : (n.tmod 2 == 0) = true := by rw [Int.tmod_eq_zero_of_dvd (Int.dvd_of_emod_eq_zero n1)]; rfl
      clear n1
      go_at_call 12
      refine (alive02_any _ HT2.out hg2).mono ?_
      rintro e w5 ⟨rfl, b5⟩
      have HB2 := Lib.hid (HB.out.trans (b5.mono HB.out.size))
      clear b5
      go_wp2
      go_ret
      exact ⟨rfl, HB2.out⟩
    · have n1 := t5 (by omega) (by omega) (by omega) (by omega) (by omega)
      have z1 : (p0 == 1) = false := by simp; omega
      have z2 : (p0 == 2) = false := by simp; omega
      have z3 : (p0 == 3) = false := by simp; omega
      have HN1 := Lib.hid n1
      clear n1 t1 t2 t3 t4 t5
      go_wp2_with fail
      rw [wrap64_32]
      generalize wrap32 p4 = n at *
      have n1 := HN1.out
      clear HN1
      obtain ⟨n1, n2⟩ := n1; have n3 := n1
      clear n1
      go_at_call 12
      refine (alive02_any _ HT2.out hg2).mono ?_
      rintro e w5 ⟨rfl, b5⟩
      have HB2 := Lib.hid (HB.out.trans (b5.mono HB.out.size))
      clear b5
      go_wp2
      go_ret
      exact ⟨rfl, HB2.out⟩
    · have n1 := t4 ⟨k1, k2⟩
      have z1 : (p0 == 1) = false := by simp; omega
      have z2 : (p0 == 2) = false := by simp; omega
      have z3 : (p0 == 3) = false := by simp; omega
      have HN1 := Lib.hid n1
      clear n1 t1 t2 t3 t4 t5
      go_wp2_with fail
      rw [wrap64_32]
      generalize wrap32 p4 = n at *
      have n1 := HN1.out
      clear HN1
      obtain ⟨n1, n2⟩ := n1; have n3 := n1
      clear n1
      go_at_call 12
      refine (alive02_any _ HT2.out hg2).mono ?_
      rintro e w5 ⟨rfl, b5⟩
      have HB2 := Lib.hid (HB.out.trans (b5.mono HB.out.size))
      clear b5
      go_wp2
      go_ret
      exact ⟨rfl, HB2.out⟩
    · have n1 := t5 (by omega) (by omega) (by omega) (by omega) (by omega)
      have z1 : (p0 == 1) = false := by simp; omega
      have z2 : (p0 == 2) = false := by simp; omega
      have z3 : (p0 == 3) = false := by simp; omega
      have HN1 := Lib.hid n1
      clear n1 t1 t2 t3 t4 t5
      go_wp2_with fail
      rw [wrap64_32]
      generalize wrap32 p4 = n at *
      have n1 := HN1.out
      clear HN1
      obtain ⟨n1, n2⟩ := n1; have n3 := n1
      clear n1
      go_at_call 12
      refine (alive02_any _ HT2.out hg2).mono ?_
      rintro e w5 ⟨rfl, b5⟩
      have HB2 := Lib.hid (HB.out.trans (b5.mono HB.out.size))
      clear b5
      go_wp2
      go_ret
      exact ⟨rfl, HB2.out⟩

end Go.Proofs.YtbpafbogjhbogaaDoor.instNumbers
