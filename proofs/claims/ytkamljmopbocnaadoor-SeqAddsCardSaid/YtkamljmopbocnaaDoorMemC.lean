/- THE CONTRACT of Clean of no bytes, of package mem: sixteen bytes of zero. -/
import Derived.Test.YtkamljmopbocnaaDoorMemF
import Derived.OwnWalk
import Derived.Laws.CopyOwn
import Derived.Laws.BytesArg
namespace Go.Proofs.YtkamljmopbocnaaDoor
open Go.ChangeShapes Go.WideShapes Go.ChangeAt Go.RowKit
set_option maxRecDepth 100000

theorem info_byte : (Tryd.prog.info? 5).map (fun i => (i.zero, i.size, i.bytes)) = some (some (.int .u8 0), 1, 1) := by kernel_rfl
/-- a slice that owns a row of bytes, as a string -/
theorem conv_bytes {w : World} {base : Nat} {v : Value} {xs : List Int} {n : Nat} (hn : xs.length = n) (hown : w.ownsRow base 5 1 v n (xs.map (Value.int .u8))) :
    (convert 35 9 v).run Tryd.prog w = .ok (.string (strOfNums xs)) w := by
  rcases hown.2 with ⟨rfl, h0⟩ | ⟨g, cap, cur, rfl, hg, hh, r⟩
  · have : xs = [] := by cases xs; rfl; simp at hn; omega
    subst this
    exact run_convert_bytes_nil w 35 5 Tryd.underlying35 Tryd.underlying5 0 0 9 Tryd.underlying9
  · refine run_convert_bytes_arg w 35 5 Tryd.underlying35 Tryd.underlying5 g 0 n cap xs hn (fun i hi => ?_) 9 Tryd.underlying9
    have := hown.cellAt i (by omega)
    rw [Nat.zero_add, this]
    simp [List.getD, show i < xs.length by omega]

/-- nothing goes over out of a string without bytes -/
theorem run_copy_none {w : World} {tI : TypeId} (dp : Option Addr) (dLen dCap : Nat) :
    (Builtin.copy_ #[35, 9] tI #[.slice dp dLen dCap, .string ByteArray.empty]).run Tryd.prog w = .ok (goInt 0) w := by
  obtain ⟨i0, hi, hz0, hz1, hz2⟩ := info_parts info_byte
  cases dp <;> simp [Builtin.copy_, run_underlying (Tryd.underlying35), Builtin.lenOf, Builtin.firstCells, sizeOf, typeInfo, hi, storeCells]

theorem strOfNums_size (xs : List Int) : (strOfNums xs).size = xs.length := by simp [strOfNums, ByteArray.size]
set_option linter.unusedVariables false
set_option maxHeartbeats 1000000
theorem alive_any (w : World) : Calls Tryd.prog 29 #[.string ByteArray.empty] w fun e w' => (∃ s : ByteArray, s.size = 16 ∧ e = .returned (.string s)) ∧ Below w.heap.size w w' := by
  obtain ⟨i0, hi, hz0, hz1, hz2⟩ := info_parts info_byte
  go_enter Tryd.func29, Tryd.ntmps29
  go_wp2
  go_loopw [3] (fun i wr => i = .int .i64 16 ∧ wr = w) (fun _ _ => 0)
  case atStart => exact ⟨rfl, rfl⟩
  case round =>
    obtain ⟨rfl, rfl⟩ := hrel
    go_wp2_with (at_make; refine wpList_make_full _ rfl _ _ 35 rfl wr.heap.size 5 i0 (.int .u8 0) 1 Tryd.underlying35 hi hz0 hz1 .i64 .i64 _ _ 16 rfl rfl rfl rfl (by rw [hz2]; omega) (by unfold maxLen; omega) (Nat.le_refl _) ?_; intro w0 hown0 hgrow0)
    have hbel0 : Below wr.heap.size wr w0 := (Below.refl _ _).grown hgrow0 (Nat.le_refl _) (fun k hk => by cases hk)
    rw [show (madeCells (Value.int .u8 0).cells (16 * 1)).toList = (List.replicate 16 (0 : Int)).map (Value.int .u8) by simp [Value.cells, toList_madeCells_one]] at hown0
    clear hgrow0
    have hconv := conv_bytes (by simp) hown0
    simp only [run_copy_none]
    go_wp2
    go_ret
    exact ⟨⟨_, by rw [strOfNums_size]; simp, rfl⟩, hbel0⟩

end Go.Proofs.YtkamljmopbocnaaDoor
