/- THE WALK of InstTurns (auspexlaw02): a word that tells an instruction that writes, with another register's number there, tells the same one that writes that register. -/
import Derived.Test.YtbpafbogjhbogaaDoorInstTurnsM
import Derived.Lib.QuietBelow
import Derived.BigQuiet
import Derived.WalkLawsBesides
namespace Go.Proofs.YtbpafbogjhbogaaDoor.instTurns
open Go.ChangeShapes Go.WideShapes Go.ChangeAt Go.RowKit

theorem writes_told (op rd rs1 rs2 imm : Int) (h : wrI op rd = rd) (w : World) (ht : TabIs w) (hg : 0 < w.heap.size) :
    Calls Tryd.prog 17 #[.agg #[.int .i64 op, .int .i64 rd, .int .i64 rs1, .int .i64 rs2, .int .u32 imm]] w fun e w' => e = .returned (.int .i64 rd) ∧ Below w.heap.size w w' := by
  have hz := writes_any op rd rs1 rs2 imm w ht hg
  rw [h] at hz
  exact hz
theorem kind_told (op rd rs1 rs2 imm K : Int) (h : K = kindI op) (w : World) :
    Calls Tryd.prog 15 #[.agg #[.int .i64 op, .int .i64 rd, .int .i64 rs1, .int .i64 rs2, .int .u32 imm]] w fun e w' => e = .returned (.int .i64 K) ∧ Below w.heap.size w w' := by
  have hz := kind_any op rd rs1 rs2 imm w
  rw [← h] at hz
  exact hz

/-- what the word tells: the operation's class -/
theorem class_of (w : Int) (h : chB w = true) :
    (((chR w).2.1 = 3 ∨ (chR w).2.1 = 4 ∨ (chR w).2.1 = 7) ∧ gth w (rdL (chR w).2.1) = 0 ∧ ((5 ≤ (chR w).1 ∧ (chR w).1 ≤ 10) ∨ 46 ≤ (chR w).1 ∨ ((chR w).1 < 46 ∧ kindI (chR w).1 = 4))) ∨
    (((chR w).2.1 = 0 ∨ (chR w).2.1 = 1 ∨ (chR w).2.1 = 2 ∨ (chR w).2.1 = 5 ∨ (chR w).2.1 = 6) ∧ ((chR w).1 < 5 ∨ (10 < (chR w).1 ∧ (chR w).1 < 46)) ∧ kindI (chR w).1 ≠ 4) := by
  have ok := kindW_ok w h
  unfold kindOK at ok
  obtain ⟨_, _, _, _, _, _, _, _, _, f0, f7, i4, i6, i5, i2, i7, i3, o1, o48⟩ := ok
  generalize hf : (chR w).2.1 = form at *
  generalize (chR w).1 = op at *
  by_cases h3 : form = 3
  · subst h3
    left
    refine ⟨Or.inl rfl, by exact gth_nil w, ?_⟩
    have k4 := i3.2 rfl
    by_cases h46 : 46 ≤ op
    · exact Or.inr (Or.inl h46)
    · exact Or.inr (Or.inr ⟨by omega, k4⟩)
  by_cases h4 : form = 4
  · subst h4
    left
    exact ⟨Or.inr (Or.inl rfl), by exact gth_nil w, Or.inl (i4.2 rfl)⟩
  by_cases h7 : form = 7
  · subst h7
    left
    exact ⟨Or.inr (Or.inr rfl), by exact gth_nil w, Or.inr (Or.inl (i7.2 rfl))⟩
  right
  refine ⟨by omega, ?_, fun e => h3 (i3.1 e)⟩
  have a1 : ¬ (5 ≤ op ∧ op ≤ 10) := fun e => h4 (i4.1 e)
  have a2 : ¬ 46 ≤ op := fun e => h7 (i7.1 e)
  omega

/-- what is read of the turned word -/
theorem dec_trn (w r : Int) (hw : 0 ≤ w ∧ w < 4294967296) (hr : 0 ≤ r ∧ r < 32) (h : chB w = true) (hf : (chR w).2.1 = 0 ∨ (chR w).2.1 = 1 ∨ (chR w).2.1 = 2 ∨ (chR w).2.1 = 5 ∨ (chR w).2.1 = 6) :
    decV (trn w r) = .agg #[.int .i64 (chR w).1, .int .i64 r, .int .i64 (gth w (rs1L (chR w).2.1)), .int .i64 (gth w (rs2L (chR w).2.1)), .int .u32 (numV w (chR w).2.1)] ∧ decE (trn w r) = 0 ∧ wrI (chR w).1 r = r := by
  obtain ⟨e1, e2⟩ := chR_trn w r hw hr h (by omega)
  obtain ⟨g1, g2, g3, g4⟩ := read_trn w r (chR w).2.1 hw hr hf
  refine ⟨?_, (decV_yes e2).2, ?_⟩
  · rw [(decV_yes e2).1, e1]
    unfold decAgg
    rw [g1, g2, g3, g4]
  · have ok := kindW_ok w h
    unfold kindOK at ok
    obtain ⟨_, _, _, _, _, _, _, hb, he, _⟩ := ok
    unfold wrI
    have hn : rdL (chR w).2.1 ≠ [] := by
      unfold rdL
      rw [if_neg (by omega)]
      exact List.cons_ne_nil _ _
    rw [hb, he, if_pos ⟨rfl, hn⟩]

theorem five_set1 {w : World} {b : Nat} {v0 v1 v2 v3 v4 : Value} (h : Five w b v0 v1 v2 v3 v4) (u : Value) : Five (w.setCell ⟨b, 1, none⟩ u) b v0 u v2 v3 v4 := by
  obtain ⟨⟨a0, a1, a2, a3, a4⟩, ⟨f0, f1, f2, f3, f4⟩⟩ := h
  refine ⟨⟨?_, World.cell?_setCell_same w _ _ a1, ?_, ?_, ?_⟩, ?_, ?_, ?_, ?_, ?_⟩
  · rw [World.cell?_setCell_other w _ _ _ (by simp)]; exact a0
  · rw [World.cell?_setCell_other w _ _ _ (by simp)]; exact a2
  · rw [World.cell?_setCell_other w _ _ _ (by simp)]; exact a3
  · rw [World.cell?_setCell_other w _ _ _ (by simp)]; exact a4
  · rw [World.frozen?_setCell]; exact f0
  · rw [World.frozen?_setCell]; exact f1
  · rw [World.frozen?_setCell]; exact f2
  · rw [World.frozen?_setCell]; exact f3
  · rw [World.frozen?_setCell]; exact f4
theorem five_set_far {w : World} {b c : Nat} {v0 v1 v2 v3 v4 : Value} (h : Five w b v0 v1 v2 v3 v4) (hn : c ≠ b) (u : Value) (o : Nat) : Five (w.setCell ⟨c, o, none⟩ u) b v0 v1 v2 v3 v4 := by
  obtain ⟨⟨a0, a1, a2, a3, a4⟩, ⟨f0, f1, f2, f3, f4⟩⟩ := h
  have far : ∀ k, (w.setCell ⟨c, o, none⟩ u).cell? ⟨b, k, none⟩ = w.cell? ⟨b, k, none⟩ := fun k => World.cell?_setCell_other w _ _ _ (fun e => hn (congrArg Addr.block e))
  exact ⟨⟨(far 0).trans a0, (far 1).trans a1, (far 2).trans a2, (far 3).trans a3, (far 4).trans a4⟩, by rw [World.frozen?_setCell]; exact f0, by rw [World.frozen?_setCell]; exact f1, by rw [World.frozen?_setCell]; exact f2, by rw [World.frozen?_setCell]; exact f3, by rw [World.frozen?_setCell]; exact f4⟩

set_option maxHeartbeats 4000000
theorem walk (w reg : Int) (hw : 0 ≤ w ∧ w < 4294967296) (hreg : -9223372036854775808 ≤ reg ∧ reg < 9223372036854775808) (W : World) (ht : TabIs W) (hg : 0 < W.heap.size) :
    Calls Tryd.prog 9 #[.int .u32 w, .int .i64 reg] W fun e w' => e = .returned (.bool true) ∧ Below W.heap.size W w' := by
  clear hreg
  have HT := Lib.hid ht
  clear ht
  have HW := Lib.hid hw
  clear hw
  have hr : 0 ≤ reg % 32 ∧ reg % 32 < 32 := by omega
  go_enter Tryd.func9, Tryd.ntmps9
  go_wp2_with fail
  go_at_call 10
  refine (decode_any _ HW.out.1 HW.out.2 _ HT.out hg).mono ?_
  rintro e w1 ⟨rfl, b1⟩
  have hb := b1
  have hw1 := b1.size
  clear b1
  cases hc : chB w
  · rw [(decV_no hc).1, (decV_no hc).2]
    simp only [zeroAgg]
    clear hc
    have hI := five_new w1 24 (.int .i64 0) (.int .i64 0) (.int .i64 0) (.int .i64 0) (.int .u32 0)
    have hx : Below w1.heap.size w1 (w1.alloc (.cells #[.int .i64 0, .int .i64 0, .int .i64 0, .int .i64 0, .int .u32 0] 24)) := (Below.refl _ _).alloc (Nat.le_refl _) _
    have hs : w1.heap.size < (w1.alloc (.cells #[.int .i64 0, .int .i64 0, .int .i64 0, .int .i64 0, .int .u32 0] 24)).heap.size := by simp
    replace hb := hb.trans (hx.mono hb.size)
    have K : Int := kindI 0
    have HK : Hid (0 = kindI 0) := Lib.hid (by decide)
    have HR : Hid (wrI 0 0 = 0) := Lib.hid (by decide)
    go_wp2_with fail
    rw [i64_and31]
    generalize reg % 32 = r at *
    generalize hw2 : w1.alloc (.cells #[.int .i64 0, .int .i64 0, .int .i64 0, .int .i64 0, .int .u32 0] 24) = w2 at *
    clear hw2 hx
    have HI := Lib.hid hI
    obtain ⟨⟨c0, c1, c2, c3, c4⟩, _⟩ := hI
    go_wp2_with fail
    clear c0 c1 c2 c3 c4
    go_at_call 12
    refine (alive02_any _ (HT.out.below hb hg) (Nat.lt_of_lt_of_le hg hb.size)).mono ?_
    rintro e wn ⟨rfl, b⟩
    have hI := HI.out.below b hs
    replace hs := Nat.lt_of_lt_of_le hs b.size
    replace hb := hb.trans (b.mono hb.size)
    clear HI b
    have HB := Lib.hid hb
    clear hb hI
    go_wp2
    go_ret
    exact ⟨rfl, HB.out⟩
  · have C := class_of w hc
    have WR := wrW_ok w hc
    rw [(decV_yes hc).1, (decV_yes hc).2]
    simp only [decAgg]
    obtain ⟨K, hK⟩ : ∃ K, K = kindI (chR w).1 := ⟨_, rfl⟩
    rcases C with ⟨hform, hz, hcl⟩ | ⟨hform, hcl, hk4⟩
    · rw [hz] at WR ⊢
      rw [← hK] at hcl
      clear hc hz hform
      generalize (chR w).1 = p0 at *
      generalize gth w (rs1L (chR w).2.1) = p2 at *
      generalize gth w (rs2L (chR w).2.1) = p3 at *
      generalize numV w (chR w).2.1 = p4 at *
      have HK := Lib.hid hK
      have HR := Lib.hid WR
      clear hK WR
      by_cases q1 : p0 = 46
      · subst q1
        clear hcl
        have hI := five_new w1 24 (.int .i64 46) (.int .i64 0) (.int .i64 p2) (.int .i64 p3) (.int .u32 p4)
        have hx : Below w1.heap.size w1 (w1.alloc (.cells #[.int .i64 46, .int .i64 0, .int .i64 p2, .int .i64 p3, .int .u32 p4] 24)) := (Below.refl _ _).alloc (Nat.le_refl _) _
        have hs : w1.heap.size < (w1.alloc (.cells #[.int .i64 46, .int .i64 0, .int .i64 p2, .int .i64 p3, .int .u32 p4] 24)).heap.size := by simp
        replace hb := hb.trans (hx.mono hb.size)
        go_wp2_with fail
        rw [i64_and31]
        generalize reg % 32 = r at *
        generalize hw2 : w1.alloc (.cells #[.int .i64 46, .int .i64 0, .int .i64 p2, .int .i64 p3, .int .u32 p4] 24) = w2 at *
        clear hw2 hx
        have HI := Lib.hid hI
        obtain ⟨⟨c0, c1, c2, c3, c4⟩, _⟩ := hI
        go_wp2_with fail
        clear c0 c1 c2 c3 c4
        go_at_call 12
        refine (alive02_any _ (HT.out.below hb hg) (Nat.lt_of_lt_of_le hg hb.size)).mono ?_
        rintro e wn ⟨rfl, b⟩
        have hI := HI.out.below b hs
        replace hs := Nat.lt_of_lt_of_le hs b.size
        replace hb := hb.trans (b.mono hb.size)
        clear HI b
        have HI := Lib.hid hI
        obtain ⟨⟨c0, c1, c2, c3, c4⟩, _⟩ := hI
        go_wp2_with fail
        clear c0 c1 c2 c3 c4
        go_at_call 17
        refine (writes_told _ _ _ _ _ HR.out _ (HT.out.below hb hg) (Nat.lt_of_lt_of_le hg hb.size)).mono ?_
        rintro e wn ⟨rfl, b⟩
        have hI := HI.out.below b hs
        replace hs := Nat.lt_of_lt_of_le hs b.size
        replace hb := hb.trans (b.mono hb.size)
        clear HI b
        have HB := Lib.hid hb
        clear hb hI
        go_wp2
        go_ret
        exact ⟨rfl, HB.out⟩
      have z46 : (p0 == 46) = false := by simpa using q1
      by_cases q2 : 47 ≤ p0
      · have z47 : decide (47 ≤ p0) = true := by simpa using q2
        clear hcl q1 q2
        have hI := five_new w1 24 (.int .i64 p0) (.int .i64 0) (.int .i64 p2) (.int .i64 p3) (.int .u32 p4)
        have hx : Below w1.heap.size w1 (w1.alloc (.cells #[.int .i64 p0, .int .i64 0, .int .i64 p2, .int .i64 p3, .int .u32 p4] 24)) := (Below.refl _ _).alloc (Nat.le_refl _) _
        have hs : w1.heap.size < (w1.alloc (.cells #[.int .i64 p0, .int .i64 0, .int .i64 p2, .int .i64 p3, .int .u32 p4] 24)).heap.size := by simp
        replace hb := hb.trans (hx.mono hb.size)
        go_wp2_with fail
        rw [i64_and31]
        generalize reg % 32 = r at *
        generalize hw2 : w1.alloc (.cells #[.int .i64 p0, .int .i64 0, .int .i64 p2, .int .i64 p3, .int .u32 p4] 24) = w2 at *
        clear hw2 hx
        have HI := Lib.hid hI
        obtain ⟨⟨c0, c1, c2, c3, c4⟩, _⟩ := hI
        go_wp2_with fail
        clear c0 c1 c2 c3 c4
        go_at_call 12
        refine (alive02_any _ (HT.out.below hb hg) (Nat.lt_of_lt_of_le hg hb.size)).mono ?_
        rintro e wn ⟨rfl, b⟩
        have hI := HI.out.below b hs
        replace hs := Nat.lt_of_lt_of_le hs b.size
        replace hb := hb.trans (b.mono hb.size)
        clear HI b
        have HI := Lib.hid hI
        obtain ⟨⟨c0, c1, c2, c3, c4⟩, _⟩ := hI
        go_wp2_with fail
        clear c0 c1 c2 c3 c4
        go_at_call 17
        refine (writes_told _ _ _ _ _ HR.out _ (HT.out.below hb hg) (Nat.lt_of_lt_of_le hg hb.size)).mono ?_
        rintro e wn ⟨rfl, b⟩
        have hI := HI.out.below b hs
        replace hs := Nat.lt_of_lt_of_le hs b.size
        replace hb := hb.trans (b.mono hb.size)
        clear HI b
        have HB := Lib.hid hb
        clear hb hI
        go_wp2
        go_ret
        exact ⟨rfl, HB.out⟩
      have z47 : decide (47 ≤ p0) = false := by simpa using q2
      by_cases q3 : K = 4
      · subst q3
        clear hcl q1 q2
        have hI := five_new w1 24 (.int .i64 p0) (.int .i64 0) (.int .i64 p2) (.int .i64 p3) (.int .u32 p4)
        have hx : Below w1.heap.size w1 (w1.alloc (.cells #[.int .i64 p0, .int .i64 0, .int .i64 p2, .int .i64 p3, .int .u32 p4] 24)) := (Below.refl _ _).alloc (Nat.le_refl _) _
        have hs : w1.heap.size < (w1.alloc (.cells #[.int .i64 p0, .int .i64 0, .int .i64 p2, .int .i64 p3, .int .u32 p4] 24)).heap.size := by simp
        replace hb := hb.trans (hx.mono hb.size)
        go_wp2_with fail
        rw [i64_and31]
        generalize reg % 32 = r at *
        generalize hw2 : w1.alloc (.cells #[.int .i64 p0, .int .i64 0, .int .i64 p2, .int .i64 p3, .int .u32 p4] 24) = w2 at *
        clear hw2 hx
        have HI := Lib.hid hI
        obtain ⟨⟨c0, c1, c2, c3, c4⟩, _⟩ := hI
        go_wp2_with fail
        clear c0 c1 c2 c3 c4
        go_at_call 15
        refine (kind_told _ _ _ _ _ 4 HK.out _).mono ?_
        rintro e wn ⟨rfl, b⟩
        have hI := HI.out.below b hs
        replace hs := Nat.lt_of_lt_of_le hs b.size
        replace hb := hb.trans (b.mono hb.size)
        clear HI b
        have HI := Lib.hid hI
        obtain ⟨⟨c0, c1, c2, c3, c4⟩, _⟩ := hI
        go_wp2_with fail
        clear c0 c1 c2 c3 c4
        go_at_call 12
        refine (alive02_any _ (HT.out.below hb hg) (Nat.lt_of_lt_of_le hg hb.size)).mono ?_
        rintro e wn ⟨rfl, b⟩
        have hI := HI.out.below b hs
        replace hs := Nat.lt_of_lt_of_le hs b.size
        replace hb := hb.trans (b.mono hb.size)
        clear HI b
        have HI := Lib.hid hI
        obtain ⟨⟨c0, c1, c2, c3, c4⟩, _⟩ := hI
        go_wp2_with fail
        clear c0 c1 c2 c3 c4
        go_at_call 17
        refine (writes_told _ _ _ _ _ HR.out _ (HT.out.below hb hg) (Nat.lt_of_lt_of_le hg hb.size)).mono ?_
        rintro e wn ⟨rfl, b⟩
        have hI := HI.out.below b hs
        replace hs := Nat.lt_of_lt_of_le hs b.size
        replace hb := hb.trans (b.mono hb.size)
        clear HI b
        have HB := Lib.hid hb
        clear hb hI
        go_wp2
        go_ret
        exact ⟨rfl, HB.out⟩
      have zK : (K == 4) = false := by simpa using q3
      have z5 : decide (5 ≤ p0) = true := by simp; omega
      have z10 : decide (p0 ≤ 10) = true := by simp; omega
      clear hcl q1 q2 q3
      have hI := five_new w1 24 (.int .i64 p0) (.int .i64 0) (.int .i64 p2) (.int .i64 p3) (.int .u32 p4)
      have hx : Below w1.heap.size w1 (w1.alloc (.cells #[.int .i64 p0, .int .i64 0, .int .i64 p2, .int .i64 p3, .int .u32 p4] 24)) := (Below.refl _ _).alloc (Nat.le_refl _) _
      have hs : w1.heap.size < (w1.alloc (.cells #[.int .i64 p0, .int .i64 0, .int .i64 p2, .int .i64 p3, .int .u32 p4] 24)).heap.size := by simp
      replace hb := hb.trans (hx.mono hb.size)
      go_wp2_with fail
      rw [i64_and31]
      generalize reg % 32 = r at *
      generalize hw2 : w1.alloc (.cells #[.int .i64 p0, .int .i64 0, .int .i64 p2, .int .i64 p3, .int .u32 p4] 24) = w2 at *
      clear hw2 hx
      have HI := Lib.hid hI
      obtain ⟨⟨c0, c1, c2, c3, c4⟩, _⟩ := hI
      go_wp2_with fail
      clear c0 c1 c2 c3 c4
      go_at_call 15
      refine (kind_told _ _ _ _ _ K HK.out _).mono ?_
      rintro e wn ⟨rfl, b⟩
      have hI := HI.out.below b hs
      replace hs := Nat.lt_of_lt_of_le hs b.size
      replace hb := hb.trans (b.mono hb.size)
      clear HI b
      have HI := Lib.hid hI
      obtain ⟨⟨c0, c1, c2, c3, c4⟩, _⟩ := hI
      go_wp2_with fail
      clear c0 c1 c2 c3 c4
      go_at_call 12
      refine (alive02_any _ (HT.out.below hb hg) (Nat.lt_of_lt_of_le hg hb.size)).mono ?_
      rintro e wn ⟨rfl, b⟩
      have hI := HI.out.below b hs
      replace hs := Nat.lt_of_lt_of_le hs b.size
      replace hb := hb.trans (b.mono hb.size)
      clear HI b
      have HI := Lib.hid hI
      obtain ⟨⟨c0, c1, c2, c3, c4⟩, _⟩ := hI
      go_wp2_with fail
      clear c0 c1 c2 c3 c4
      go_at_call 17
      refine (writes_told _ _ _ _ _ HR.out _ (HT.out.below hb hg) (Nat.lt_of_lt_of_le hg hb.size)).mono ?_
      rintro e wn ⟨rfl, b⟩
      have hI := HI.out.below b hs
      replace hs := Nat.lt_of_lt_of_le hs b.size
      replace hb := hb.trans (b.mono hb.size)
      clear HI b
      have HB := Lib.hid hb
      clear hb hI
      go_wp2
      go_ret
      exact ⟨rfl, HB.out⟩
    · obtain ⟨hV, hE, hW⟩ := dec_trn w (reg % 32) HW.out hr hc hform
      have HX := Lib.hid (trn_range w (reg % 32) HW.out hr)
      rw [← hK] at hk4
      clear WR hc hform
      generalize gth w (rdL (chR w).2.1) = p1 at *
      generalize (chR w).1 = p0 at *
      generalize gth w (rs1L (chR w).2.1) = p2 at *
      generalize gth w (rs2L (chR w).2.1) = p3 at *
      generalize numV w (chR w).2.1 = p4 at *
      have HK := Lib.hid hK
      have HV := Lib.hid hV
      have HE := Lib.hid hE
      have HR := Lib.hid hW
      have z46 : (p0 == 46) = false := by simp; omega
      have z47 : decide (47 ≤ p0) = false := by simp; omega
      have zK : (K == 4) = false := by simpa using hk4
      clear hK hV hE hW hk4
      by_cases q : p0 < 5
      · have z5 : decide (5 ≤ p0) = false := by simp; omega
        clear hcl q
        have hI := five_new w1 24 (.int .i64 p0) (.int .i64 p1) (.int .i64 p2) (.int .i64 p3) (.int .u32 p4)
        have hx : Below w1.heap.size w1 (w1.alloc (.cells #[.int .i64 p0, .int .i64 p1, .int .i64 p2, .int .i64 p3, .int .u32 p4] 24)) := (Below.refl _ _).alloc (Nat.le_refl _) _
        have hs : w1.heap.size < (w1.alloc (.cells #[.int .i64 p0, .int .i64 p1, .int .i64 p2, .int .i64 p3, .int .u32 p4] 24)).heap.size := by simp
        replace hb := hb.trans (hx.mono hb.size)
        go_wp2_with fail
        rw [i64_and31]
        generalize reg % 32 = r at *
        generalize hw2 : w1.alloc (.cells #[.int .i64 p0, .int .i64 p1, .int .i64 p2, .int .i64 p3, .int .u32 p4] 24) = w2 at *
        clear hw2 hx
        have HI := Lib.hid hI
        obtain ⟨⟨c0, c1, c2, c3, c4⟩, _⟩ := hI
        go_wp2_with fail
        clear c0 c1 c2 c3 c4
        go_at_call 15
        refine (kind_told _ _ _ _ _ K HK.out _).mono ?_
        rintro e wn ⟨rfl, b⟩
        have hI := HI.out.below b hs
        replace hs := Nat.lt_of_lt_of_le hs b.size
        replace hb := hb.trans (b.mono hb.size)
        clear HI b
        have HI := Lib.hid hI
        obtain ⟨⟨c0, c1, c2, c3, c4⟩, _⟩ := hI
        go_wp2_with fail
        go_at_call 10
        have hd := decode_any (trn w r) HX.out.1 HX.out.2 _ (HT.out.below hb hg) (Nat.lt_of_lt_of_le hg hb.size)
        rw [HV.out, HE.out] at hd
        refine hd.mono ?_
        clear hd c0 c1 c2 c3 c4
        rintro e wd ⟨rfl, b⟩
        have hI := HI.out.below b hs
        replace hs := Nat.lt_of_lt_of_le hs b.size
        replace hb := hb.trans (b.mono hb.size)
        clear HI b HV HE HX
        have HI := Lib.hid hI
        obtain ⟨⟨c0, c1, c2, c3, c4⟩, ⟨f0, f1, f2, f3, f4⟩⟩ := hI
        go_wp2_with fail
        clear c0 c1 c2 c3 c4 f0 f1 f2 f3 f4
        have hI := five_set1 HI.out (.int .i64 r)
        have hz : (wd.setCell ⟨w1.heap.size, 1, none⟩ (.int .i64 r)).heap.size = wd.heap.size := by simp [World.setCell]
        replace hb := hb.setCell (p := ⟨w1.heap.size, 1, none⟩) hw1 (.int .i64 r)
        clear HI
        generalize wd.setCell ⟨w1.heap.size, 1, none⟩ (.int .i64 r) = w5 at *
        have hk := five_new w5 24 (.int .i64 p0) (.int .i64 r) (.int .i64 p2) (.int .i64 p3) (.int .u32 p4)
        have hx : Below w5.heap.size w5 (w5.alloc (.cells #[.int .i64 p0, .int .i64 r, .int .i64 p2, .int .i64 p3, .int .u32 p4] 24)) := (Below.refl _ _).alloc (Nat.le_refl _) _
        have hsk : w5.heap.size < (w5.alloc (.cells #[.int .i64 p0, .int .i64 r, .int .i64 p2, .int .i64 p3, .int .u32 p4] 24)).heap.size := by simp
        rw [hz] at hk hsk
        rw [← hz] at hs
        replace hI := hI.below hx hs
        replace hs := Nat.lt_of_lt_of_le hs hx.size
        replace hb := hb.trans (hx.mono hb.size)
        generalize w5.alloc (.cells #[.int .i64 p0, .int .i64 r, .int .i64 p2, .int .i64 p3, .int .u32 p4] 24) = w6 at *
        clear hx hz
        go_at_call 12
        refine (alive02_any _ (HT.out.below hb hg) (Nat.lt_of_lt_of_le hg hb.size)).mono ?_
        rintro e w7 ⟨rfl, b⟩
        replace hI := hI.below b hs
        replace hk := hk.below b hsk
        replace hb := hb.trans (b.mono hb.size)
        have HTn := Lib.hid (HT.out.below hb hg)
        have hgn := Nat.lt_of_lt_of_le hg hb.size
        have HB := Lib.hid hb
        obtain ⟨⟨c0, c1, c2, c3, c4⟩, _⟩ := hI
        obtain ⟨⟨k0, k1, k2, k3, k4⟩, _⟩ := hk
        clear b hb hs hsk
        go_wp2_with fail
        go_at_call 17
        refine (writes_told _ _ _ _ _ HR.out _ HTn.out hgn).mono ?_
        rintro e w8 ⟨rfl, b⟩
        have HB2 := Lib.hid (HB.out.trans (b.mono HB.out.size))
        clear b
        go_wp2
        go_ret
        exact ⟨ret_bool (by simp), HB2.out⟩
      · have z5 : decide (5 ≤ p0) = true := by simp; omega
        have z10 : decide (p0 ≤ 10) = false := by simp; omega
        clear hcl q
        have hI := five_new w1 24 (.int .i64 p0) (.int .i64 p1) (.int .i64 p2) (.int .i64 p3) (.int .u32 p4)
        have hx : Below w1.heap.size w1 (w1.alloc (.cells #[.int .i64 p0, .int .i64 p1, .int .i64 p2, .int .i64 p3, .int .u32 p4] 24)) := (Below.refl _ _).alloc (Nat.le_refl _) _
        have hs : w1.heap.size < (w1.alloc (.cells #[.int .i64 p0, .int .i64 p1, .int .i64 p2, .int .i64 p3, .int .u32 p4] 24)).heap.size := by simp
        replace hb := hb.trans (hx.mono hb.size)
        go_wp2_with fail
        rw [i64_and31]
        generalize reg % 32 = r at *
        generalize hw2 : w1.alloc (.cells #[.int .i64 p0, .int .i64 p1, .int .i64 p2, .int .i64 p3, .int .u32 p4] 24) = w2 at *
        clear hw2 hx
        have HI := Lib.hid hI
        obtain ⟨⟨c0, c1, c2, c3, c4⟩, _⟩ := hI
        go_wp2_with fail
        clear c0 c1 c2 c3 c4
        go_at_call 15
        refine (kind_told _ _ _ _ _ K HK.out _).mono ?_
        rintro e wn ⟨rfl, b⟩
        have hI := HI.out.below b hs
        replace hs := Nat.lt_of_lt_of_le hs b.size
        replace hb := hb.trans (b.mono hb.size)
        clear HI b
        have HI := Lib.hid hI
        obtain ⟨⟨c0, c1, c2, c3, c4⟩, _⟩ := hI
        go_wp2_with fail
        go_at_call 10
        have hd := decode_any (trn w r) HX.out.1 HX.out.2 _ (HT.out.below hb hg) (Nat.lt_of_lt_of_le hg hb.size)
        rw [HV.out, HE.out] at hd
        refine hd.mono ?_
        clear hd c0 c1 c2 c3 c4
        rintro e wd ⟨rfl, b⟩
        have hI := HI.out.below b hs
        replace hs := Nat.lt_of_lt_of_le hs b.size
        replace hb := hb.trans (b.mono hb.size)
        clear HI b HV HE HX
        have HI := Lib.hid hI
        obtain ⟨⟨c0, c1, c2, c3, c4⟩, ⟨f0, f1, f2, f3, f4⟩⟩ := hI
        go_wp2_with fail
        clear c0 c1 c2 c3 c4 f0 f1 f2 f3 f4
        have hI := five_set1 HI.out (.int .i64 r)
        have hz : (wd.setCell ⟨w1.heap.size, 1, none⟩ (.int .i64 r)).heap.size = wd.heap.size := by simp [World.setCell]
        replace hb := hb.setCell (p := ⟨w1.heap.size, 1, none⟩) hw1 (.int .i64 r)
        clear HI
        generalize wd.setCell ⟨w1.heap.size, 1, none⟩ (.int .i64 r) = w5 at *
        have hk := five_new w5 24 (.int .i64 p0) (.int .i64 r) (.int .i64 p2) (.int .i64 p3) (.int .u32 p4)
        have hx : Below w5.heap.size w5 (w5.alloc (.cells #[.int .i64 p0, .int .i64 r, .int .i64 p2, .int .i64 p3, .int .u32 p4] 24)) := (Below.refl _ _).alloc (Nat.le_refl _) _
        have hsk : w5.heap.size < (w5.alloc (.cells #[.int .i64 p0, .int .i64 r, .int .i64 p2, .int .i64 p3, .int .u32 p4] 24)).heap.size := by simp
        rw [hz] at hk hsk
        rw [← hz] at hs
        replace hI := hI.below hx hs
        replace hs := Nat.lt_of_lt_of_le hs hx.size
        replace hb := hb.trans (hx.mono hb.size)
        generalize w5.alloc (.cells #[.int .i64 p0, .int .i64 r, .int .i64 p2, .int .i64 p3, .int .u32 p4] 24) = w6 at *
        clear hx hz
        go_at_call 12
        refine (alive02_any _ (HT.out.below hb hg) (Nat.lt_of_lt_of_le hg hb.size)).mono ?_
        rintro e w7 ⟨rfl, b⟩
        replace hI := hI.below b hs
        replace hk := hk.below b hsk
        replace hb := hb.trans (b.mono hb.size)
        have HTn := Lib.hid (HT.out.below hb hg)
        have hgn := Nat.lt_of_lt_of_le hg hb.size
        have HB := Lib.hid hb
        obtain ⟨⟨c0, c1, c2, c3, c4⟩, _⟩ := hI
        obtain ⟨⟨k0, k1, k2, k3, k4⟩, _⟩ := hk
        clear b hb hs hsk
        go_wp2_with fail
        go_at_call 17
        refine (writes_told _ _ _ _ _ HR.out _ HTn.out hgn).mono ?_
        rintro e w8 ⟨rfl, b⟩
        have HB2 := Lib.hid (HB.out.trans (b.mono HB.out.size))
        clear b
        go_wp2
        go_ret
        exact ⟨ret_bool (by simp), HB2.out⟩

end Go.Proofs.YtbpafbogjhbogaaDoor.instTurns
