/- THE CONTRACTS of empty and Encode. -/
import Derived.Test.YtbpafbogjhbogaaDoorInstDec
import Derived.Test.YtbpafbogjhbogaaDoorMathAlu
import Derived.WalkLawsBesides
import Derived.Deep.RegionWith
namespace Go.Proofs.YtbpafbogjhbogaaDoor
open Go.ChangeShapes Go.WideShapes Go.ChangeAt Go.RowKit

set_option maxHeartbeats 1000000
def orW (a b : Int) : Int := bits .or .u32 a b
def emptyW (c f3 f7 : Int) : Int := orW (orW c (f3 * 4096 % 4294967296)) (f7 * 33554432 % 4294967296)
theorem orW_range {a b : Int} (ha : 0 ≤ a) (ha' : a < 4294967296) (hb : 0 ≤ b) (hb' : b < 4294967296) : 0 ≤ orW a b ∧ orW a b < 4294967296 := by
  have := bits_range ha ha' hb hb' .or (by simp)
  exact this
theorem empty_any (op form c f3 f7 : Int) (w : World) :
    Calls Tryd.prog 26 #[rowAgg (op, form, c, f3, f7)] w fun e w' => e = .returned (.int .u32 (emptyW c f3 f7)) ∧ Below w.heap.size w w' := by
  simp only [rowAgg]
  go_enter Tryd.func26, Tryd.ntmps26
  go_wp2
  go_ret
  exact ⟨rfl, (Below.refl _ _).alloc (Nat.le_refl _) _⟩

/-- the row of any operation -/
def rowE (op : Int) : Row := if op = 46 then (46, 7, 15, 0, 0) else if op = 47 then (47, 7, 115, 0, 0) else if op = 48 then (48, 7, 1048691, 0, 0) else rowFor op
def rowEB (op : Int) : Bool := if op = 46 ∨ op = 47 ∨ op = 48 then true else rowIs op
theorem rowOf_all (op : Int) (w : World) (ht : TabIs w) (hg : 0 < w.heap.size) :
    Calls Tryd.prog 25 #[.int .i64 op] w fun e w' => e = .returned (.tuple #[rowAgg (rowE op), .bool (rowEB op)]) ∧ Below w.heap.size w w' := by
  by_cases h1 : op = 46
  · subst h1; exact rowOf46_any w
  by_cases h2 : op = 47
  · subst h2; exact rowOf47_any w
  by_cases h3 : op = 48
  · subst h3; exact rowOf48_any w
  have e : rowE op = rowFor op ∧ rowEB op = rowIs op := by
    unfold rowE rowEB
    rw [if_neg h1, if_neg h2, if_neg h3, if_neg (by omega)]
    exact ⟨rfl, rfl⟩
  rw [e.1, e.2]
  exact rowOf_any op w ht hg h1 h2 h3

theorem encode_no (op rd rs1 rs2 imm : Int) (w : World) (ht : TabIs w) (hg : 0 < w.heap.size) (hb : rowEB op = false) :
    Calls Tryd.prog 13 #[.agg #[.int .i64 op, .int .i64 rd, .int .i64 rs1, .int .i64 rs2, .int .u32 imm]] w fun e w' => e = .returned (.tuple #[.int .u32 0, .int .i64 1]) ∧ Below w.heap.size w w' := by
  have HT := Lib.hid ht
  clear ht
  go_enter Tryd.func13, Tryd.ntmps13
  go_wp2_with fail
  have hb0 : Below w.heap.size w (w.alloc (.cells #[.int .i64 op, .int .i64 rd, .int .i64 rs1, .int .i64 rs2, .int .u32 imm] 24)) := (Below.refl _ _).alloc (Nat.le_refl _) _
  go_at_call 25
  refine (rowOf_all _ _ (HT.out.below hb0 hg) (Nat.lt_of_lt_of_le hg hb0.size)).mono ?_
  rintro e w1 ⟨rfl, b1⟩
  rw [hb]
  simp only [rowAgg]
  go_wp2
  refine bodyPost_ret (v := .tuple #[.int .u32 0, .int .i64 1]) ?_ rfl ⟨rfl, ?_⟩
  · simp [results, Tryd.results13, go_sem]
  · exact (hb0.trans (b1.mono hb0.size)).alloc (Nat.le_trans hb0.size b1.size) _

end Go.Proofs.YtbpafbogjhbogaaDoor
