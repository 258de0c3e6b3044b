/- THE TABLE of package inst, as plain numbers; what it is for a world to hold it. -/
import Derived.Test.YtaokhegbfaokdaaDoorWordZ
namespace Go.Proofs.YtaokhegbfaokdaaDoor
open Go.ChangeShapes Go.WideShapes Go.ChangeAt Go.RowKit
set_option maxRecDepth 100000

abbrev Row := Int × Int × Int × Int × Int
/-- op, form, code, F3, F7 -/
def rowsL : List Row := [(1, 5, 55, 0, 0), (2, 5, 23, 0, 0), (3, 6, 111, 0, 0), (4, 1, 103, 0, 0), (5, 4, 99, 0, 0), (6, 4, 99, 1, 0), (7, 4, 99, 4, 0), (8, 4, 99, 5, 0), (9, 4, 99, 6, 0), (10, 4, 99, 7, 0), (11, 1, 3, 0, 0), (12, 1, 3, 1, 0), (13, 1, 3, 2, 0), (14, 1, 3, 4, 0), (15, 1, 3, 5, 0), (16, 3, 35, 0, 0), (17, 3, 35, 1, 0), (18, 3, 35, 2, 0), (19, 1, 19, 0, 0), (20, 1, 19, 2, 0), (21, 1, 19, 3, 0), (22, 1, 19, 4, 0), (23, 1, 19, 6, 0), (24, 1, 19, 7, 0), (25, 2, 19, 1, 0), (26, 2, 19, 5, 0), (27, 2, 19, 5, 32), (28, 0, 51, 0, 0), (29, 0, 51, 0, 32), (30, 0, 51, 1, 0), (31, 0, 51, 2, 0), (32, 0, 51, 3, 0), (33, 0, 51, 4, 0), (34, 0, 51, 5, 0), (35, 0, 51, 5, 32), (36, 0, 51, 6, 0), (37, 0, 51, 7, 0), (38, 0, 51, 0, 1), (39, 0, 51, 1, 1), (40, 0, 51, 2, 1), (41, 0, 51, 3, 1), (42, 0, 51, 4, 1), (43, 0, 51, 5, 1), (44, 0, 51, 6, 1), (45, 0, 51, 7, 1)]
def rowAt (k : Nat) : Row := rowsL.getD k (0, 0, 0, 0, 0)
def rowC (r : Row) : List Value := [.int .i64 r.1, .int .i64 r.2.1, .int .u32 r.2.2.1, .int .u32 r.2.2.2.1, .int .u32 r.2.2.2.2]
def rowV (r : Row) : Value := .agg #[.int .i64 r.1, .int .i64 r.2.1, .int .u32 r.2.2.1, .int .u32 r.2.2.2.1, .int .u32 r.2.2.2.2]
/-- all cells of the table -/
def tabL : List Value := rowsL.flatMap rowC
theorem tabL_len : tabL.length = 225 := by decide +kernel
/-- the world holds the table -/
def TabIs (w : World) : Prop := ∀ j v, tabL[j]? = some v → w.cell? ⟨0, j, none⟩ = some v

theorem TabIs.below {w w' : World} {B : Nat} (h : TabIs w) (hb : Below B w w') (hB : 0 < B) : TabIs w' :=
  fun j v hj => (hb.cell (p := ⟨0, j, none⟩) hB).trans (h j v hj)

/-- an array of structs, read whole out of a variable -/
theorem run_loadVar_cells {P : Program} (w : World) (g : Nat) (ty : TypeId) (cs : List Value) (d : TypeDesc) (hc : ∀ j v, cs[j]? = some v → w.cell? ⟨g, j, none⟩ = some v)
    (hu : P.underlying ty = some d) (hd : (match d with | .struct _ | .array _ _ => true | _ => false) = true) (hi : (P.info? ty).map (·.size) = some cs.length) :
    (loadVar ty ⟨g, 0, none⟩).run P w = .ok (.agg cs.toArray) w := by
  have hl : (loadCells ⟨g, 0, none⟩ cs.length).run P w = .ok cs.toArray w :=
    run_loadCells_list (P := P) w ⟨g, 0, none⟩ cs (fun j v hv => by
      have hadd : (⟨g, 0, none⟩ : Addr).add j = ⟨g, j, none⟩ := by unfold Addr.add; split <;> simp_all
      rw [hadd]
      exact hc j v hv)
  cases hq : P.info? ty with
  | none => simp [hq] at hi
  | some i =>
    have hs : i.size = cs.length := by simpa [hq] using hi
    have hagg : (isAgg ty).run P w = .ok true w := by
      unfold isAgg
      rw [Sem.run_bind, run_underlying hu w]
      cases d <;> simp_all
    simp [loadVar, Sem.run_bind, hagg, sizeOf, typeInfo, hq, hs, hl]

theorem wpList_load_cells {P : Program} {ops : Array Oper} {rest : List Oper} {o : Oper} {a : Act} {w : World} {Q : Exit → Act → World → Prop} (hgd : o.guard = none) (ty : TypeId) (x : Operand) (ho : o.op = .load ty x)
    (g : Nat) (hx : a.eval x = .pointer (some ⟨g, 0, none⟩)) (cs : List Value) (d : TypeDesc) (hc : ∀ j v, cs[j]? = some v → w.cell? ⟨g, j, none⟩ = some v)
    (hu : P.underlying ty = some d) (hd : (match d with | .struct _ | .array _ _ => true | _ => false) = true) (hi : (P.info? ty).map (·.size) = some cs.length)
    (h : wpList P ops Q rest (a.put o.dst (.agg cs.toArray)) w) : wpList P ops Q (o :: rest) a w :=
  wpList_plain hgd fun K hK => by
    unfold Oper.wp execOp
    simp only [ho, hx, Instr.loadAt, Instr.sureAddr, Sem.run_bind, Sem.run_pure, Result.andThen_ok, run_loadVar_cells w g ty cs d hc hu hd hi]
    exact hK _ _ h

theorem tab_size : (Tryd.prog.info? 100).map (·.size) = some tabL.length := by kernel_rfl

/-- row k, out of the table -/
theorem tab_index (w : World) : ∀ (k : Nat), k < 45 → (Instr.index 100 (.agg tabL.toArray) (.int .i64 (k : Int))).run Tryd.prog w = .ok (.agg #[.int .i64 (rowAt k).1, .int .i64 (rowAt k).2.1, .int .u32 (rowAt k).2.2.1, .int .u32 (rowAt k).2.2.2.1, .int .u32 (rowAt k).2.2.2.2]) w
  | 0, _ => by kernel_rfl
  | 1, _ => by kernel_rfl
  | 2, _ => by kernel_rfl
  | 3, _ => by kernel_rfl
  | 4, _ => by kernel_rfl
  | 5, _ => by kernel_rfl
  | 6, _ => by kernel_rfl
  | 7, _ => by kernel_rfl
  | 8, _ => by kernel_rfl
  | 9, _ => by kernel_rfl
  | 10, _ => by kernel_rfl
  | 11, _ => by kernel_rfl
  | 12, _ => by kernel_rfl
  | 13, _ => by kernel_rfl
  | 14, _ => by kernel_rfl
  | 15, _ => by kernel_rfl
  | 16, _ => by kernel_rfl
  | 17, _ => by kernel_rfl
  | 18, _ => by kernel_rfl
  | 19, _ => by kernel_rfl
  | 20, _ => by kernel_rfl
  | 21, _ => by kernel_rfl
  | 22, _ => by kernel_rfl
  | 23, _ => by kernel_rfl
  | 24, _ => by kernel_rfl
  | 25, _ => by kernel_rfl
  | 26, _ => by kernel_rfl
  | 27, _ => by kernel_rfl
  | 28, _ => by kernel_rfl
  | 29, _ => by kernel_rfl
  | 30, _ => by kernel_rfl
  | 31, _ => by kernel_rfl
  | 32, _ => by kernel_rfl
  | 33, _ => by kernel_rfl
  | 34, _ => by kernel_rfl
  | 35, _ => by kernel_rfl
  | 36, _ => by kernel_rfl
  | 37, _ => by kernel_rfl
  | 38, _ => by kernel_rfl
  | 39, _ => by kernel_rfl
  | 40, _ => by kernel_rfl
  | 41, _ => by kernel_rfl
  | 42, _ => by kernel_rfl
  | 43, _ => by kernel_rfl
  | 44, _ => by kernel_rfl
  | k + 45, h => absurd h (by omega)

end Go.Proofs.YtaokhegbfaokdaaDoor
