/- THE CONTRACT of Encode where the operation has a row. -/
import Derived.Test.YtbpafbogjhbogaaDoorInstEncW
import Derived.WalkLawsBesides
import Derived.Deep.RegionWith
import Derived.Deep.Cut
namespace Go.Proofs.YtbpafbogjhbogaaDoor
open Go.ChangeShapes Go.WideShapes Go.ChangeAt Go.RowKit

set_option maxHeartbeats 20000000
theorem encode_yes (op rd rs1 rs2 imm : Int) (w : World) (ht : TabIs w) (hg : 0 < w.heap.size) (o form c f3 f7 : Int) (hc0 : 0 ≤ c) (hc1 : c < 4294967296) (hi0 : 0 ≤ imm) (hi1 : imm < 4294967296) (hR : rowE op = (o, form, c, f3, f7)) (hb : rowEB op = true) :
    Calls Tryd.prog 13 #[.agg #[.int .i64 op, .int .i64 rd, .int .i64 rs1, .int .i64 rs2, .int .u32 imm]] w fun e w' => e = .returned (encV (e4 c f3 f7 form rd rs1 rs2 imm) op rd rs1 rs2 imm) ∧ Below w.heap.size w w' := by
  have hx0 := (e4_range c f3 f7 form rd rs1 rs2 imm hc0 hc1 hi0 hi1).1
  have hx1 := (e4_range c f3 f7 form rd rs1 rs2 imm hc0 hc1 hi0 hi1).2
  have HT := Lib.hid ht
  clear ht
  go_enter Tryd.func13, Tryd.ntmps13
  go_wp2_with fail
  have hi := five_new w 24 (.int .i64 op) (.int .i64 rd) (.int .i64 rs1) (.int .i64 rs2) (.int .u32 imm)
  have hb0 : Below w.heap.size w (w.alloc (.cells #[.int .i64 op, .int .i64 rd, .int .i64 rs1, .int .i64 rs2, .int .u32 imm] 24)) := (Below.refl _ _).alloc (Nat.le_refl _) _
  have hsz : w.heap.size < (w.alloc (.cells #[.int .i64 op, .int .i64 rd, .int .i64 rs1, .int .i64 rs2, .int .u32 imm] 24)).heap.size := by simp
  generalize hw0 : w.alloc (.cells #[.int .i64 op, .int .i64 rd, .int .i64 rs1, .int .i64 rs2, .int .u32 imm] 24) = w0 at *
  clear hw0
  go_at_call 25
  refine (rowOf_all _ _ (HT.out.below hb0 hg) (Nat.lt_of_lt_of_le hg hb0.size)).mono ?_
  rintro e w1 ⟨rfl, b1⟩
  rw [hb, hR]
  clear hb hR
  replace hi := hi.below b1 hsz
  replace hb0 := hb0.trans (b1.mono (Nat.le_of_lt hsz))
  replace hsz := Nat.lt_of_lt_of_le hsz b1.size
  simp only [rowAgg]
  go_wp2_with fail
  have hr := five_new w1 40 (.int .i64 o) (.int .i64 form) (.int .u32 c) (.int .u32 f3) (.int .u32 f7)
  have hb1 : Below w1.heap.size w1 (w1.alloc (.cells #[.int .i64 o, .int .i64 form, .int .u32 c, .int .u32 f3, .int .u32 f7] 40)) := (Below.refl _ _).alloc (Nat.le_refl _) _
  have hsz1 : w1.heap.size < (w1.alloc (.cells #[.int .i64 o, .int .i64 form, .int .u32 c, .int .u32 f3, .int .u32 f7] 40)).heap.size := by simp
  replace hi := hi.below hb1 hsz
  replace hb0 := hb0.trans (hb1.mono (Nat.le_of_lt hsz))
  clear hb1 b1
  generalize hw1 : w1.alloc (.cells #[.int .i64 o, .int .i64 form, .int .u32 c, .int .u32 f3, .int .u32 f7] 40) = w1' at *
  clear hw1
  have hI : w.heap.size < w1'.heap.size := Nat.lt_trans hsz hsz1
  go_at_call 26
  refine (empty_any _ _ _ _ _ _).mono ?_
  rintro e w2 ⟨rfl, b2⟩
  replace hi := hi.below b2 hI
  replace hr := hr.below b2 hsz1
  replace hb0 := hb0.trans (b2.mono (Nat.le_of_lt hI))
  have hsI := Nat.lt_of_lt_of_le hI b2.size
  have hsR := Nat.lt_of_lt_of_le hsz1 b2.size
  clear b2 hI hsz1 hsz
  have HI := Lib.hid hi
  have HRr := Lib.hid hr
  obtain ⟨⟨a0, a1, a2, a3, a4⟩, ⟨f0, f1, f2, f3', f4⟩⟩ := hi
  obtain ⟨⟨r0, r1, r2, r3, r4⟩, ⟨q0, q1, q2, q3, q4⟩⟩ := hr
  go_upto_region 5 with fail
  go_cut [6] from 19 (fun v wx => v = .int .u32 (e1 c f3 f7 form rd) ∧ Below w2.heap.size w2 wx)
  case first =>
    go_region_with (first
      | (go_at_call 28; refine (rdAt_any _ _).mono ?_; rintro e w3 ⟨v3, rfl, p3, b3⟩; have a0' := (b3.cell (p := ⟨w.heap.size, 1, none⟩) hsI).trans a1)
      | (go_at_call 27; refine (spread_any _ _ _ (uw_range _).1 (uw_range _).2 _ (by assumption) (rd_ok form)).mono ?_; rintro e w4 ⟨rfl, b4⟩))
    all_goals (go_wp2_with fail; go_meet; exact ⟨rfl, by (repeat (first | assumption | exact Below.refl _ _ | refine bdrewN ?_ _ | refine bthenN ?_ (by assumption) | refine bthen ?_ (by assumption) | refine Below.setCell ?_ (Nat.le_refl _) _ | refine Below.alloc ?_ (Nat.le_refl _) _))⟩)
  case rest =>
    obtain ⟨rfl, hcb⟩ := hcut
    obtain ⟨w5, hnew⟩ : ∃ x, x = wc := ⟨_, rfl⟩
    subst hnew
    have hi := HI.out.below hcb hsI
    have hr := HRr.out.below hcb hsR
    replace hb0 := hb0.trans (hcb.mono (Nat.le_of_lt hsI))
    replace hsI := Nat.lt_of_lt_of_le hsI hcb.size
    replace hsR := Nat.lt_of_lt_of_le hsR hcb.size
    clear a0 a1 a2 a3 a4 f0 f1 f2 f3' f4 r0 r1 r2 r3 r4 q0 q1 q2 q3 q4 hcb HI HRr
    have HI := Lib.hid hi
    have HRr := Lib.hid hr
    obtain ⟨⟨a0, a1, a2, a3, a4⟩, ⟨f0, f1, f2, f3', f4⟩⟩ := hi
    obtain ⟨⟨r0, r1, r2, r3, r4⟩, ⟨q0, q1, q2, q3, q4⟩⟩ := hr
    go_upto_region 6 with fail
    go_cut [6] from 28 (fun v wx => v = .int .u32 (e2 c f3 f7 form rd rs1) ∧ Below w5.heap.size w5 wx)
    case first =>
      go_region_with (first
        | (go_at_call 29; refine (rs1At_any _ _).mono ?_; rintro e w3 ⟨v3, rfl, p3, b3⟩; have a0' := (b3.cell (p := ⟨w.heap.size, 2, none⟩) hsI).trans a2)
        | (go_at_call 27; refine (spread_any _ _ _ (uw_range _).1 (uw_range _).2 _ (by assumption) (rs1_ok form)).mono ?_; rintro e w4 ⟨rfl, b4⟩))
      all_goals (go_wp2_with fail; go_meet; exact ⟨rfl, by (repeat (first | assumption | exact Below.refl _ _ | refine bdrewN ?_ _ | refine bthenN ?_ (by assumption) | refine bthen ?_ (by assumption) | refine Below.setCell ?_ (Nat.le_refl _) _ | refine Below.alloc ?_ (Nat.le_refl _) _))⟩)
    case rest =>
      obtain ⟨rfl, hcb⟩ := hcut
      obtain ⟨w6, hnew⟩ : ∃ x, x = wc := ⟨_, rfl⟩
      subst hnew
      have hi := HI.out.below hcb hsI
      have hr := HRr.out.below hcb hsR
      replace hb0 := hb0.trans (hcb.mono (Nat.le_of_lt hsI))
      replace hsI := Nat.lt_of_lt_of_le hsI hcb.size
      replace hsR := Nat.lt_of_lt_of_le hsR hcb.size
      clear a0 a1 a2 a3 a4 f0 f1 f2 f3' f4 r0 r1 r2 r3 r4 q0 q1 q2 q3 q4 hcb HI HRr
      have HI := Lib.hid hi
      have HRr := Lib.hid hr
      obtain ⟨⟨a0, a1, a2, a3, a4⟩, ⟨f0, f1, f2, f3', f4⟩⟩ := hi
      obtain ⟨⟨r0, r1, r2, r3, r4⟩, ⟨q0, q1, q2, q3, q4⟩⟩ := hr
      go_upto_region 7 with fail
      go_cut [6] from 37 (fun v wx => v = .int .u32 (e3 c f3 f7 form rd rs1 rs2) ∧ Below w6.heap.size w6 wx)
      case first =>
        go_region_with (first
          | (go_at_call 30; refine (rs2At_any _ _).mono ?_; rintro e w3 ⟨v3, rfl, p3, b3⟩; have a0' := (b3.cell (p := ⟨w.heap.size, 3, none⟩) hsI).trans a3)
          | (go_at_call 27; refine (spread_any _ _ _ (uw_range _).1 (uw_range _).2 _ (by assumption) (rs2_ok form)).mono ?_; rintro e w4 ⟨rfl, b4⟩))
        all_goals (go_wp2_with fail; go_meet; exact ⟨rfl, by (repeat (first | assumption | exact Below.refl _ _ | refine bdrewN ?_ _ | refine bthenN ?_ (by assumption) | refine bthen ?_ (by assumption) | refine Below.setCell ?_ (Nat.le_refl _) _ | refine Below.alloc ?_ (Nat.le_refl _) _))⟩)
      case rest =>
        obtain ⟨rfl, hcb⟩ := hcut
        obtain ⟨w7, hnew⟩ : ∃ x, x = wc := ⟨_, rfl⟩
        subst hnew
        have hi := HI.out.below hcb hsI
        have hr := HRr.out.below hcb hsR
        replace hb0 := hb0.trans (hcb.mono (Nat.le_of_lt hsI))
        replace hsI := Nat.lt_of_lt_of_le hsI hcb.size
        replace hsR := Nat.lt_of_lt_of_le hsR hcb.size
        clear a0 a1 a2 a3 a4 f0 f1 f2 f3' f4 r0 r1 r2 r3 r4 q0 q1 q2 q3 q4 hcb HI HRr
        have HI := Lib.hid hi
        have HRr := Lib.hid hr
        obtain ⟨⟨a0, a1, a2, a3, a4⟩, ⟨f0, f1, f2, f3', f4⟩⟩ := hi
        obtain ⟨⟨r0, r1, r2, r3, r4⟩, ⟨q0, q1, q2, q3, q4⟩⟩ := hr
        have rf := from_range form
        obtain ⟨r0', r1'⟩ := rf
        have z0 : 0 ≤ imm / 2 ^ (fromI form).toNat := Int.ediv_nonneg hi0 (Int.pow_nonneg (by omega))
        have z1 : imm / 2 ^ (fromI form).toNat < 4294967296 := Int.lt_of_le_of_lt (Int.ediv_le_self _ hi0) hi1
        go_upto_region 8 with fail
        go_cut [6] from 46 (fun v wx => v = .int .u32 (e4 c f3 f7 form rd rs1 rs2 imm) ∧ Below w7.heap.size w7 wx)
        case first =>
          go_region_with (first
            | (go_at_call 31; refine (numberFrom_any _ _).mono ?_; rintro e w4 ⟨rfl, rfl⟩)
            | (go_at_call 32; refine (numAt_any _ _).mono ?_; rintro e w3 ⟨v3, rfl, p3, b3⟩; have a0' := (b3.cell (p := ⟨w.heap.size, 4, none⟩) hsI).trans a4; have b0' := (b3.cell (p := ⟨w1.heap.size, 1, none⟩) hsR).trans r1)
            | (go_at_call 27; refine (spread_any _ _ _ z0 z1 _ (by assumption) (num_ok form)).mono ?_; rintro e w4 ⟨rfl, b4⟩))
          all_goals (go_wp2_with fail; go_meet; exact ⟨rfl, by (repeat (first | assumption | exact Below.refl _ _ | refine bdrewN ?_ _ | refine bthenN ?_ (by assumption) | refine bthen ?_ (by assumption) | refine Below.setCell ?_ (Nat.le_refl _) _ | refine Below.alloc ?_ (Nat.le_refl _) _))⟩)
        case rest =>
          obtain ⟨rfl, hcb⟩ := hcut
          obtain ⟨w8, hnew⟩ : ∃ x, x = wc := ⟨_, rfl⟩
          subst hnew
          have hi := HI.out.below hcb hsI
          have hr := HRr.out.below hcb hsR
          replace hb0 := hb0.trans (hcb.mono (Nat.le_of_lt hsI))
          replace hsI := Nat.lt_of_lt_of_le hsI hcb.size
          replace hsR := Nat.lt_of_lt_of_le hsR hcb.size
          clear a0 a1 a2 a3 a4 f0 f1 f2 f3' f4 r0 r1 r2 r3 r4 q0 q1 q2 q3 q4 hcb HI HRr
          have HI := Lib.hid hi
          have HRr := Lib.hid hr
          obtain ⟨⟨a0, a1, a2, a3, a4⟩, ⟨f0, f1, f2, f3', f4⟩⟩ := hi
          obtain ⟨⟨r0, r1, r2, r3, r4⟩, ⟨q0, q1, q2, q3, q4⟩⟩ := hr
          go_wp2_with fail
          go_at_call 10
          refine (decode_any _ hx0 hx1 _ (HT.out.below hb0 hg) (Nat.lt_trans hg hsI)).mono ?_
          rintro e w9 ⟨rfl, b9⟩
          have hi9 := HI.out.below b9 hsI
          replace hb0 := hb0.trans (b9.mono (Nat.le_of_lt hsI))
          replace hsI := Nat.lt_of_lt_of_le hsI b9.size
          clear a0 a1 a2 a3 a4 f0 f1 f2 f3' f4 r0 r1 r2 r3 r4 q0 q1 q2 q3 q4 HI HRr b9 z0 z1 r0' r1' hx0 hx1
          generalize hX : e4 c f3 f7 form rd rs1 rs2 imm = X at *
          have EX := Lib.hid hX
          obtain ⟨⟨a0, a1, a2, a3, a4⟩, ⟨f0, f1, f2, f3', f4⟩⟩ := hi9
          cases hcX : chB X
          · rw [(decV_no hcX).1, (decV_no hcX).2]
            simp only [zeroAgg]
            have G := Lib.hid (show encB X op rd rs1 rs2 imm = false by unfold encB; rw [hcX]; rfl)
            clear hX hcX
            go_wp2
            refine bodyPost_ret (v := .tuple #[.int .u32 0, .int .i64 1]) ?_ rfl ⟨by rw [EX.out, encV_no G.out], ?_⟩
            · simp [results, Tryd.results13, go_sem]
            · exact hb0.alloc (Nat.le_of_lt hsI) _
          · rw [(decV_yes hcX).1, (decV_yes hcX).2]
            simp only [decAgg]
            have HE : encB X op rd rs1 rs2 imm = ((chR X).1 == op && (gth X (rdL (chR X).2.1) == rd && (gth X (rs1L (chR X).2.1) == rs1 && (gth X (rs2L (chR X).2.1) == rs2 && numV X (chR X).2.1 == imm)))) := by unfold encB; rw [hcX]; rfl
            generalize (chR X).1 = o' at *
            generalize gth X (rdL (chR X).2.1) = g1 at *
            generalize gth X (rs1L (chR X).2.1) = g2 at *
            generalize gth X (rs2L (chR X).2.1) = g3 at *
            generalize numV X (chR X).2.1 = g4 at *
            clear hX hcX
            have HEh := Lib.hid HE
            clear HE
            go_wp2
            all_goals
              cases q : encB X op rd rs1 rs2 imm
              · first
                | (exfalso; rw [HEh.out] at q; simp [*] at q; done)
                | (refine bodyPost_ret (v := .tuple #[.int .u32 0, .int .i64 1]) ?h1 rfl ⟨?h2, hb0.alloc (Nat.le_of_lt hsI) _⟩; (case h1 => simp [results, Tryd.results13, go_sem]); (case h2 => rw [EX.out, encV_no q]))
              · first
                | (exfalso; rw [HEh.out] at q; simp [*] at q; done)
                | (refine bodyPost_ret (v := .tuple #[.int .u32 X, .int .i64 0]) ?h1 rfl ⟨?h2, hb0.alloc (Nat.le_of_lt hsI) _⟩; (case h1 => simp [results, Tryd.results13, go_sem]); (case h2 => rw [EX.out, encV_yes q]))

end Go.Proofs.YtbpafbogjhbogaaDoor
