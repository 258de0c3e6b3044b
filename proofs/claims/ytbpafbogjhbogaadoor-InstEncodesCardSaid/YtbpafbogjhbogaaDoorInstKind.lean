/- THE CONTRACTS of Kind, Size and Writes. -/
import Derived.Test.YtbpafbogjhbogaaDoorInstEnc
import Derived.WalkLawsBesides
namespace Go.Proofs.YtbpafbogjhbogaaDoor
open Go.ChangeShapes Go.WideShapes Go.ChangeAt Go.RowKit

def kindI (op : Int) : Int := if op = 38 ∨ op = 39 ∨ op = 40 ∨ op = 41 then 1 else if op = 42 ∨ op = 43 ∨ op = 44 ∨ op = 45 then 2 else if op = 11 ∨ op = 12 ∨ op = 13 ∨ op = 14 ∨ op = 15 then 3 else if op = 16 ∨ op = 17 ∨ op = 18 then 4 else if op = 3 ∨ op = 4 ∨ op = 5 ∨ op = 6 ∨ op = 7 ∨ op = 8 ∨ op = 9 ∨ op = 10 then 5 else if op = 47 ∨ op = 48 then 6 else 0
def sizeOp (op : Int) : Int := if op = 11 ∨ op = 14 ∨ op = 16 then 1 else if op = 12 ∨ op = 15 ∨ op = 17 then 2 else if op = 13 ∨ op = 18 then 4 else 0
def wrI (op rd : Int) : Int := if rowEB op = true ∧ rdL (rowE op).2.1 ≠ [] then rd else 0

set_option maxHeartbeats 2000000
theorem size_any (op rd rs1 rs2 imm : Int) (w : World) :
    Calls Tryd.prog 16 #[.agg #[.int .i64 op, .int .i64 rd, .int .i64 rs1, .int .i64 rs2, .int .u32 imm]] w fun e w' => e = .returned (.int .i64 (sizeOp op)) ∧ Below w.heap.size w w' := by
  go_enter Tryd.func16, Tryd.ntmps16
  go_wp2
  all_goals
    go_ret
    refine ⟨ret_int ?_, (Below.refl _ _).alloc (Nat.le_refl _) _⟩
    (try simp_all [sizeOp])
theorem kind_any (op rd rs1 rs2 imm : Int) (w : World) :
    Calls Tryd.prog 15 #[.agg #[.int .i64 op, .int .i64 rd, .int .i64 rs1, .int .i64 rs2, .int .u32 imm]] w fun e w' => e = .returned (.int .i64 (kindI op)) ∧ Below w.heap.size w w' := by
  go_enter Tryd.func15, Tryd.ntmps15
  go_wp2
  all_goals
    go_ret
    refine ⟨ret_int ?_, (Below.refl _ _).alloc (Nat.le_refl _) _⟩
    (try simp_all [kindI])

theorem rdL_len (form : Int) : ((rdL form).length = 0 ∧ rdL form = []) ∨ ((rdL form).length = 1 ∧ rdL form ≠ []) := by
  unfold rdL
  split
  · exact Or.inl ⟨rfl, rfl⟩
  · exact Or.inr ⟨rfl, by simp⟩
theorem writes_any (op rd rs1 rs2 imm : Int) (w : World) (ht : TabIs w) (hg : 0 < w.heap.size) :
    Calls Tryd.prog 17 #[.agg #[.int .i64 op, .int .i64 rd, .int .i64 rs1, .int .i64 rs2, .int .u32 imm]] w fun e w' => e = .returned (.int .i64 (wrI op rd)) ∧ Below w.heap.size w w' := by
  have HT := Lib.hid ht
  clear ht
  go_enter Tryd.func17, Tryd.ntmps17
  go_wp2_with fail
  have hi := five_new w 24 (.int .i64 op) (.int .i64 rd) (.int .i64 rs1) (.int .i64 rs2) (.int .u32 imm)
  have hb0 : Below w.heap.size w (w.alloc (.cells #[.int .i64 op, .int .i64 rd, .int .i64 rs1, .int .i64 rs2, .int .u32 imm] 24)) := (Below.refl _ _).alloc (Nat.le_refl _) _
  have hsz : w.heap.size < (w.alloc (.cells #[.int .i64 op, .int .i64 rd, .int .i64 rs1, .int .i64 rs2, .int .u32 imm] 24)).heap.size := by simp
  generalize hw0 : w.alloc (.cells #[.int .i64 op, .int .i64 rd, .int .i64 rs1, .int .i64 rs2, .int .u32 imm] 24) = w0 at *
  clear hw0
  go_at_call 25
  refine (rowOf_all _ _ (HT.out.below hb0 hg) (Nat.lt_of_lt_of_le hg hb0.size)).mono ?_
  rintro e w1 ⟨rfl, b1⟩
  replace hi := hi.below b1 hsz
  replace hb0 := hb0.trans (b1.mono (Nat.le_of_lt hsz))
  replace hsz := Nat.lt_of_lt_of_le hsz b1.size
  clear b1
  obtain ⟨⟨o, form, c, f3, f7⟩, hR⟩ : ∃ r, rowE op = r := ⟨_, rfl⟩
  rw [hR]
  simp only [rowAgg]
  cases hb : rowEB op
  · have G := Lib.hid (show wrI op rd = 0 by unfold wrI; rw [hb]; simp)
    clear hb hR
    go_wp2
    go_ret
    exact ⟨ret_int G.out.symm, hb0.alloc (Nat.le_of_lt hsz) _⟩
  · have G := Lib.hid (show wrI op rd = if rdL form ≠ [] then rd else 0 by unfold wrI; rw [hb, hR]; simp)
    clear hb hR
    go_wp2_with fail
    have hb1 : Below w1.heap.size w1 (w1.alloc (.cells #[.int .i64 o, .int .i64 form, .int .u32 c, .int .u32 f3, .int .u32 f7] 40)) := (Below.refl _ _).alloc (Nat.le_refl _) _
    replace hi := hi.below hb1 hsz
    replace hb0 := hb0.trans (hb1.mono (Nat.le_of_lt hsz))
    replace hsz := Nat.lt_of_lt_of_le hsz hb1.size
    clear hb1
    generalize hw1 : w1.alloc (.cells #[.int .i64 o, .int .i64 form, .int .u32 c, .int .u32 f3, .int .u32 f7] 40) = w2 at *
    clear hw1
    go_at_call 28
    refine (rdAt_any _ _).mono ?_
    rintro e w3 ⟨v3, rfl, p3, b3⟩
    replace hi := hi.below b3 hsz
    replace hb0 := hb0.trans (b3.mono (Nat.le_of_lt hsz))
    clear b3
    obtain ⟨⟨a0, a1, a2, a3, a4⟩, ⟨f0, f1, f2, f3', f4⟩⟩ := hi
    rcases rdL_len form with ⟨hl, hn⟩ | ⟨hl, hn⟩
    · have G2 := Lib.hid (show wrI op rd = 0 by rw [G.out, if_neg (by simp [hn])])
      rcases p3 with ⟨_, rfl⟩ | ⟨b, _, rfl, _⟩
      · clear hn hl
        go_wp2
        go_ret
        exact ⟨ret_int G2.out.symm, hb0⟩
      · rw [hl]
        clear hn hl
        go_wp2
        go_ret
        exact ⟨ret_int G2.out.symm, hb0⟩
    · have G2 := Lib.hid (show wrI op rd = rd by rw [G.out, if_pos hn])
      rcases p3 with ⟨h, rfl⟩ | ⟨b, _, rfl, _⟩
      · exact absurd h hn
      · rw [hl]
        clear hn hl
        go_wp2
        go_ret
        exact ⟨ret_int G2.out.symm, hb0⟩

end Go.Proofs.YtbpafbogjhbogaaDoor
