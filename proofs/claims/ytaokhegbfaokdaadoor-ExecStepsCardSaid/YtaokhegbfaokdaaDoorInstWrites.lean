/- THE CONTRACT of inst.Writes, alone (as in InstKind, for a seat that lacks Decode and Encode). -/
import Derived.Test.YtaokhegbfaokdaaDoorInstRow
import Derived.Test.YtaokhegbfaokdaaDoorInstPB
import Derived.Test.YtaokhegbfaokdaaDoorInstKinds
import Derived.WalkLawsBesides
namespace Go.Proofs.YtaokhegbfaokdaaDoor
open Go.ChangeShapes Go.WideShapes Go.ChangeAt Go.RowKit
set_option maxRecDepth 100000
set_option maxHeartbeats 2000000

/-- the row of any operation -/
def rowE (op : Int) : Row := if op = 46 then (46, 7, 15, 0, 0) else if op = 47 then (47, 7, 115, 0, 0) else if op = 48 then (48, 7, 1048691, 0, 0) else rowFor op
def rowEB (op : Int) : Bool := if op = 46 ∨ op = 47 ∨ op = 48 then true else rowIs op
theorem rowOf_all (op : Int) (w : World) (ht : TabIs w) (hg : 0 < w.heap.size) :
    Calls Tryd.prog 67 #[.int .i64 op] w fun e w' => e = .returned (.tuple #[rowAgg (rowE op), .bool (rowEB op)]) ∧ Below w.heap.size w w' := by
  by_cases h1 : op = 46
  · subst h1; exact rowOf46_any w
  by_cases h2 : op = 47
  · subst h2; exact rowOf47_any w
  by_cases h3 : op = 48
  · subst h3; exact rowOf48_any w
  have e : rowE op = rowFor op ∧ rowEB op = rowIs op := by
    unfold rowE rowEB
    rw [if_neg h1, if_neg h2, if_neg h3, if_neg (by omega)]
    exact ⟨rfl, rfl⟩
  rw [e.1, e.2]
  exact rowOf_any op w ht hg h1 h2 h3

def wrI (op rd : Int) : Int := if rowEB op = true ∧ rdL (rowE op).2.1 ≠ [] then rd else 0
theorem rdL_len (form : Int) : ((rdL form).length = 0 ∧ rdL form = []) ∨ ((rdL form).length = 1 ∧ rdL form ≠ []) := by
  unfold rdL
  split
  · exact Or.inl ⟨rfl, rfl⟩
  · exact Or.inr ⟨rfl, by simp⟩
theorem writes_any (op rd rs1 rs2 imm : Int) (w : World) (ht : TabIs w) (hg : 0 < w.heap.size) :
    Calls Tryd.prog 43 #[.agg #[.int .i64 op, .int .i64 rd, .int .i64 rs1, .int .i64 rs2, .int .u32 imm]] w fun e w' => e = .returned (.int .i64 (wrI op rd)) ∧ Below w.heap.size w w' := by
  have HT := Lib.hid ht
  clear ht
  go_enter Tryd.func43, Tryd.ntmps43
  go_wp2_with fail
  have hi := five_new w 25 (.int .i64 op) (.int .i64 rd) (.int .i64 rs1) (.int .i64 rs2) (.int .u32 imm)
  have hb0 : Below w.heap.size w (w.alloc (.cells #[.int .i64 op, .int .i64 rd, .int .i64 rs1, .int .i64 rs2, .int .u32 imm] 25)) := (Below.refl _ _).alloc (Nat.le_refl _) _
  have hsz : w.heap.size < (w.alloc (.cells #[.int .i64 op, .int .i64 rd, .int .i64 rs1, .int .i64 rs2, .int .u32 imm] 25)).heap.size := by simp
  generalize hw0 : w.alloc (.cells #[.int .i64 op, .int .i64 rd, .int .i64 rs1, .int .i64 rs2, .int .u32 imm] 25) = w0 at *
  clear hw0
  go_at_call 67
  refine (rowOf_all _ _ (HT.out.below hb0 hg) (Nat.lt_of_lt_of_le hg hb0.size)).mono ?_
  rintro e w1 ⟨rfl, b1⟩
  replace hi := hi.below b1 hsz
  replace hb0 := hb0.trans (b1.mono (Nat.le_of_lt hsz))
  replace hsz := Nat.lt_of_lt_of_le hsz b1.size
  clear b1
  obtain ⟨⟨o, form, c, f3, f7⟩, hR⟩ : ∃ r, rowE op = r := ⟨_, rfl⟩
  rw [hR]
  simp only [rowAgg]
  cases hb : rowEB op
  · have G := Lib.hid (show wrI op rd = 0 by unfold wrI; rw [hb]; simp)
    clear hb hR
    go_wp2
    go_ret
    exact ⟨ret_int G.out.symm, hb0.alloc (Nat.le_of_lt hsz) _⟩
  · have G := Lib.hid (show wrI op rd = if rdL form ≠ [] then rd else 0 by unfold wrI; rw [hb, hR]; simp)
    clear hb hR
    go_wp2_with fail
    have hb1 : Below w1.heap.size w1 (w1.alloc (.cells #[.int .i64 o, .int .i64 form, .int .u32 c, .int .u32 f3, .int .u32 f7] 83)) := (Below.refl _ _).alloc (Nat.le_refl _) _
    replace hi := hi.below hb1 hsz
    replace hb0 := hb0.trans (hb1.mono (Nat.le_of_lt hsz))
    replace hsz := Nat.lt_of_lt_of_le hsz hb1.size
    clear hb1
    generalize hw1 : w1.alloc (.cells #[.int .i64 o, .int .i64 form, .int .u32 c, .int .u32 f3, .int .u32 f7] 83) = w2 at *
    clear hw1
    go_at_call 68
    refine (rdAt_any _ _).mono ?_
    rintro e w3 ⟨v3, rfl, p3, b3⟩
    replace hi := hi.below b3 hsz
    replace hb0 := hb0.trans (b3.mono (Nat.le_of_lt hsz))
    clear b3
    obtain ⟨⟨a0, a1, a2, a3, a4⟩, ⟨f0, f1, f2, f3', f4⟩⟩ := hi
    rcases rdL_len form with ⟨hl, hn⟩ | ⟨hl, hn⟩
    · have G2 := Lib.hid (show wrI op rd = 0 by rw [G.out, if_neg (by simp [hn])])
      rcases p3 with ⟨_, rfl⟩ | ⟨b, _, rfl, _⟩
      · clear hn hl
        go_wp2
        go_ret
        exact ⟨ret_int G2.out.symm, hb0⟩
      · rw [hl]
        clear hn hl
        go_wp2
        go_ret
        exact ⟨ret_int G2.out.symm, hb0⟩
    · have G2 := Lib.hid (show wrI op rd = rd by rw [G.out, if_pos hn])
      rcases p3 with ⟨h, rfl⟩ | ⟨b, _, rfl, _⟩
      · exact absurd h hn
      · rw [hl]
        clear hn hl
        go_wp2
        go_ret
        exact ⟨ret_int G2.out.symm, hb0⟩

end Go.Proofs.YtaokhegbfaokdaaDoor
