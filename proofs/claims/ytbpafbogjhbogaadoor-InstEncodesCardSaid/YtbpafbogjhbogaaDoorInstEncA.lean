/- THE CONTRACT of Encode. -/
import Derived.Test.YtbpafbogjhbogaaDoorInstEncY
namespace Go.Proofs.YtbpafbogjhbogaaDoor
open Go.ChangeShapes Go.WideShapes Go.ChangeAt Go.RowKit

theorem rowAt_range : ∀ k, k < 45 → 0 ≤ (rowAt k).2.2.1 ∧ (rowAt k).2.2.1 < 4294967296 := by decide
theorem rowE_range (op : Int) : 0 ≤ (rowE op).2.2.1 ∧ (rowE op).2.2.1 < 4294967296 := by
  unfold rowE rowFor
  repeat' split
  all_goals first | exact ⟨by decide, by decide⟩ | exact rowAt_range _ (by omega)

/-- the word that Encode makes, and its answer -/
def encW (op rd rs1 rs2 imm : Int) : Int := e4 (rowE op).2.2.1 (rowE op).2.2.2.1 (rowE op).2.2.2.2 (rowE op).2.1 rd rs1 rs2 imm
def encOK (op rd rs1 rs2 imm : Int) : Bool := rowEB op && encB (encW op rd rs1 rs2 imm) op rd rs1 rs2 imm
def encX (op rd rs1 rs2 imm : Int) : Int := if encOK op rd rs1 rs2 imm = true then encW op rd rs1 rs2 imm else 0
def encE (op rd rs1 rs2 imm : Int) : Int := if encOK op rd rs1 rs2 imm = true then 0 else 1
theorem encode_any (op rd rs1 rs2 imm : Int) (hi0 : 0 ≤ imm) (hi1 : imm < 4294967296) (w : World) (ht : TabIs w) (hg : 0 < w.heap.size) :
    Calls Tryd.prog 13 #[.agg #[.int .i64 op, .int .i64 rd, .int .i64 rs1, .int .i64 rs2, .int .u32 imm]] w fun e w' => e = .returned (.tuple #[.int .u32 (encX op rd rs1 rs2 imm), .int .i64 (encE op rd rs1 rs2 imm)]) ∧ Below w.heap.size w w' := by
  cases hb : rowEB op
  · have e : encX op rd rs1 rs2 imm = 0 ∧ encE op rd rs1 rs2 imm = 1 := by
      unfold encX encE encOK
      rw [hb]
      exact ⟨rfl, rfl⟩
    rw [e.1, e.2]
    exact encode_no op rd rs1 rs2 imm w ht hg hb
  · refine (encode_yes op rd rs1 rs2 imm w ht hg _ _ _ _ _ (rowE_range op).1 (rowE_range op).2 hi0 hi1 rfl hb).mono ?_
    rintro e w' ⟨rfl, h⟩
    refine ⟨?_, h⟩
    show Ending.returned (encV (encW op rd rs1 rs2 imm) op rd rs1 rs2 imm) = _
    cases hE : encB (encW op rd rs1 rs2 imm) op rd rs1 rs2 imm
    · have e : encX op rd rs1 rs2 imm = 0 ∧ encE op rd rs1 rs2 imm = 1 := by
        unfold encX encE encOK
        rw [hb, hE]
        exact ⟨rfl, rfl⟩
      rw [encV_no hE, e.1, e.2]
    · have e : encX op rd rs1 rs2 imm = encW op rd rs1 rs2 imm ∧ encE op rd rs1 rs2 imm = 0 := by
        unfold encX encE encOK
        rw [hb, hE]
        exact ⟨rfl, rfl⟩
      rw [encV_yes hE, e.1, e.2]
theorem encX_range (op rd rs1 rs2 imm : Int) (hi0 : 0 ≤ imm) (hi1 : imm < 4294967296) : 0 ≤ encX op rd rs1 rs2 imm ∧ encX op rd rs1 rs2 imm < 4294967296 := by
  unfold encX
  split
  · exact e4_range _ _ _ _ _ _ _ _ (rowE_range op).1 (rowE_range op).2 hi0 hi1
  · omega

end Go.Proofs.YtbpafbogjhbogaaDoor
