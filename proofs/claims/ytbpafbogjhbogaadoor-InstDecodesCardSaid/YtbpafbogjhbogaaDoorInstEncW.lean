/- The word that Encode makes, and when it keeps it. -/
import Derived.Test.YtbpafbogjhbogaaDoorInstEnc
namespace Go.Proofs.YtbpafbogjhbogaaDoor
open Go.ChangeShapes Go.WideShapes Go.ChangeAt Go.RowKit

theorem uw_range (x : Int) : 0 ≤ IntKind.u32.wrap x ∧ IntKind.u32.wrap x < 4294967296 := by
  have : IntKind.u32.wrap x = x % 4294967296 := rfl
  omega
def e0 (c f3 f7 : Int) : Int := emptyW c f3 f7
def e1 (c f3 f7 form rd : Int) : Int := orW (e0 c f3 f7) (spr (IntKind.u32.wrap rd) (rdL form))
def e2 (c f3 f7 form rd rs1 : Int) : Int := orW (e1 c f3 f7 form rd) (spr (IntKind.u32.wrap rs1) (rs1L form))
def e3 (c f3 f7 form rd rs1 rs2 : Int) : Int := orW (e2 c f3 f7 form rd rs1) (spr (IntKind.u32.wrap rs2) (rs2L form))
def e4 (c f3 f7 form rd rs1 rs2 imm : Int) : Int := orW (e3 c f3 f7 form rd rs1 rs2) (spr (imm / 2 ^ (fromI form).toNat) (numL form))

theorem e4_range (c f3 f7 form rd rs1 rs2 imm : Int) (hc0 : 0 ≤ c) (hc1 : c < 4294967296) (_hi0 : 0 ≤ imm) (_hi1 : imm < 4294967296) : 0 ≤ e4 c f3 f7 form rd rs1 rs2 imm ∧ e4 c f3 f7 form rd rs1 rs2 imm < 4294967296 := by
  have h0 : 0 ≤ e0 c f3 f7 ∧ e0 c f3 f7 < 4294967296 := by
    have ha := orW_range hc0 hc1 (b := f3 * 4096 % 4294967296) (by omega) (by omega)
    exact orW_range ha.1 ha.2 (b := f7 * 33554432 % 4294967296) (by omega) (by omega)
  have h1 := orW_range h0.1 h0.2 (spr_range (IntKind.u32.wrap rd) (rdL form)).1 (spr_range (IntKind.u32.wrap rd) (rdL form)).2
  have h2 := orW_range h1.1 h1.2 (spr_range (IntKind.u32.wrap rs1) (rs1L form)).1 (spr_range (IntKind.u32.wrap rs1) (rs1L form)).2
  have h3 := orW_range h2.1 h2.2 (spr_range (IntKind.u32.wrap rs2) (rs2L form)).1 (spr_range (IntKind.u32.wrap rs2) (rs2L form)).2
  exact orW_range h3.1 h3.2 (spr_range (imm / 2 ^ (fromI form).toNat) (numL form)).1 (spr_range (imm / 2 ^ (fromI form).toNat) (numL form)).2
/-- does the word X read as this instruction? and what Encode answers then -/
def encB (X op rd rs1 rs2 imm : Int) : Bool := chB X && ((chR X).1 == op && (gth X (rdL (chR X).2.1) == rd && (gth X (rs1L (chR X).2.1) == rs1 && (gth X (rs2L (chR X).2.1) == rs2 && numV X (chR X).2.1 == imm))))
def encV (X op rd rs1 rs2 imm : Int) : Value := if encB X op rd rs1 rs2 imm = true then .tuple #[.int .u32 X, .int .i64 0] else .tuple #[.int .u32 0, .int .i64 1]
theorem encV_yes {X op rd rs1 rs2 imm : Int} (h : encB X op rd rs1 rs2 imm = true) : encV X op rd rs1 rs2 imm = .tuple #[.int .u32 X, .int .i64 0] := if_pos h
theorem encV_no {X op rd rs1 rs2 imm : Int} (h : encB X op rd rs1 rs2 imm = false) : encV X op rd rs1 rs2 imm = .tuple #[.int .u32 0, .int .i64 1] := if_neg (by simp [h])

end Go.Proofs.YtbpafbogjhbogaaDoor
