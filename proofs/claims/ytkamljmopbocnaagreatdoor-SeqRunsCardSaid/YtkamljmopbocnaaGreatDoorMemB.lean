import Derived.Test.YtkamljmopbocnaaGreatDoorArgB
import Derived.Lib.Hide
import Derived.WalkKit
import Derived.WalkLawsBesides
import Derived.Deep.QuietTactic
import Derived.BigQuiet
import Derived.OwnWalk
import Derived.Laws.CopyOwn
import Derived.Laws.BytesArg
import Derived.Test.YtkamljmopbocnaaGreatDoorOwnB
import Derived.Lib.ConvBytes
import Derived.Lib.AppendStr
import Derived.Laws.Strings2
import Derived.Laws.Strings3
import Derived.Lib.AppendZeros
import Derived.Lib.BufferWrite
/- THE CONTRACT of Fetch, of package mem. -/
namespace Go.Proofs.YtkamljmopbocnaaGreatDoor
open Go.ChangeShapes Go.WideShapes Go.ChangeAt Go.RowKit
set_option maxRecDepth 100000

/-- is there a word at this place? and which -/
def ftB (n : Nat) (pc : Int) : Bool := decide (pc % 4 = 0 ∧ pc / 4 < n)
def ftV (zs : List Int) (n : Nat) (pc : Int) : Int := if pc % 4 = 0 ∧ pc / 4 < n then zs.getD (pc / 4).toNat 0 else 0
set_option linter.unusedVariables false
set_option maxHeartbeats 1000000
theorem ret_word {a b : Int} {c d : Bool} (h : a = b) (h' : c = d) : Ending.returned (.tuple #[.int .u32 a, .bool c]) = .returned (.tuple #[.int .u32 b, .bool d]) := by rw [h, h']
theorem fetch_any {w : World} {A : Option Addr} {n cap : Nat} {zs : List Int} (h : IntsAt w A n .u32 zs) (hn : n ≤ 200) (pc : Int) (h0 : 0 ≤ pc) (h1 : pc < 4294967296) :
    Calls Tryz.prog 52 #[.slice A n cap, .int .u32 pc] w fun e w' => e = .returned (.tuple #[.int .u32 (ftV zs n pc), .bool (ftB n pc)]) ∧ w = w' := by
  by_cases hg : pc % 4 = 0 ∧ pc / 4 < n
  · obtain ⟨a, rfl, hc⟩ := h.at_ (j := (pc / 4).toNat) (by omega)
    have G1 := Lib.hid (show ftV zs n pc = zs.getD (pc / 4).toNat 0 by unfold ftV; rw [if_pos hg])
    have G2 := Lib.hid (show ftB n pc = true by unfold ftB; simp; omega)
    clear h
    generalize zs.getD (pc / 4).toNat 0 = v at *
    generalize ftV zs n pc = fv at *
    generalize ftB n pc = fb at *
    obtain ⟨z, hlt⟩ := hg
    have z1 : (pc % 4 != 0) = false := by simp [z]
    have z2 : decide (pc / 4 ≥ (n : Int)) = false := by simp; omega
    go_enter Tryz.func52, Tryz.ntmps52
    go_wp2
    go_ret2
    exact ⟨ret_word G1.out.symm G2.out.symm, rfl⟩
  · have G1 := Lib.hid (show ftV zs n pc = 0 by unfold ftV; rw [if_neg hg])
    have G2 := Lib.hid (show ftB n pc = false by unfold ftB; exact decide_eq_false hg)
    clear h
    generalize ftV zs n pc = fv at *
    generalize ftB n pc = fb at *
    by_cases z : pc % 4 = 0
    · have hge : ¬ pc / 4 < (n : Int) := fun x => hg ⟨z, x⟩
      have z1 : (pc % 4 != 0) = false := by simp [z]
      have z2 : decide (pc / 4 ≥ (n : Int)) = true := by simp; omega
      clear hg
      go_enter Tryz.func52, Tryz.ntmps52
      go_wp2
      go_ret2
      exact ⟨ret_word G1.out.symm G2.out.symm, rfl⟩
    · have z1 : (pc % 4 != 0) = true := by simp [z]
      clear hg
      go_enter Tryz.func52, Tryz.ntmps52
      go_wp2
      go_ret2
      exact ⟨ret_word G1.out.symm G2.out.symm, rfl⟩

end Go.Proofs.YtkamljmopbocnaaGreatDoor

/- THE CONTRACT of Clean of no bytes, of package mem: sixteen bytes of zero. -/
namespace Go.Proofs.YtkamljmopbocnaaGreatDoor
open Go.ChangeShapes Go.WideShapes Go.ChangeAt Go.RowKit
set_option maxRecDepth 100000

theorem info_byte : (Tryz.prog.info? 5).map (fun i => (i.zero, i.size, i.bytes)) = some (some (.int .u8 0), 1, 1) := by kernel_rfl
/-- a slice that owns a row of bytes, as a string -/
theorem conv_bytes {w : World} {base : Nat} {v : Value} {xs : List Int} {n : Nat} (hn : xs.length = n) (hown : w.ownsRow base 5 1 v n (xs.map (Value.int .u8))) :
    (convert 45 9 v).run Tryz.prog w = .ok (.string (strOfNums xs)) w := by
  rcases hown.2 with ⟨rfl, h0⟩ | ⟨g, cap, cur, rfl, hg, hh, r⟩
  · have : xs = [] := by cases xs; rfl; simp at hn; omega
    subst this
    exact run_convert_bytes_nil w 45 5 Tryz.underlying45 Tryz.underlying5 0 0 9 Tryz.underlying9
  · refine run_convert_bytes_arg w 45 5 Tryz.underlying45 Tryz.underlying5 g 0 n cap xs hn (fun i hi => ?_) 9 Tryz.underlying9
    have := hown.cellAt i (by omega)
    rw [Nat.zero_add, this]
    simp [List.getD, show i < xs.length by omega]

/-- nothing goes over out of a string without bytes -/
theorem run_copy_none {w : World} {tI : TypeId} (dp : Option Addr) (dLen dCap : Nat) :
    (Builtin.copy_ #[45, 9] tI #[.slice dp dLen dCap, .string ByteArray.empty]).run Tryz.prog w = .ok (goInt 0) w := by
  obtain ⟨i0, hi, hz0, hz1, hz2⟩ := info_parts info_byte
  cases dp <;> simp [Builtin.copy_, run_underlying (Tryz.underlying45), Builtin.lenOf, Builtin.firstCells, sizeOf, typeInfo, hi, storeCells]

theorem strOfNums_size (xs : List Int) : (strOfNums xs).size = xs.length := by simp [strOfNums, ByteArray.size]
set_option linter.unusedVariables false
set_option maxHeartbeats 1000000
theorem alive_any (w : World) : Calls Tryz.prog 13 #[.string ByteArray.empty] w fun e w' => (∃ s : ByteArray, s.size = 16 ∧ e = .returned (.string s)) ∧ Below w.heap.size w w' := by
  obtain ⟨i0, hi, hz0, hz1, hz2⟩ := info_parts info_byte
  go_enter Tryz.func13, Tryz.ntmps13
  go_wp2
  go_loopw [3] (fun i wr => i = .int .i64 16 ∧ wr = w) (fun _ _ => 0)
  case atStart => exact ⟨rfl, rfl⟩
  case round =>
    obtain ⟨rfl, rfl⟩ := hrel
    go_wp2_with (at_make; refine wpList_make_full _ rfl _ _ 45 rfl wr.heap.size 5 i0 (.int .u8 0) 1 Tryz.underlying45 hi hz0 hz1 .i64 .i64 _ _ 16 rfl rfl rfl rfl (by rw [hz2]; omega) (by unfold maxLen; omega) (Nat.le_refl _) ?_; intro w0 hown0 hgrow0)
    have hbel0 : Below wr.heap.size wr w0 := (Below.refl _ _).grown hgrow0 (Nat.le_refl _) (fun k hk => by cases hk)
    rw [show (madeCells (Value.int .u8 0).cells (16 * 1)).toList = (List.replicate 16 (0 : Int)).map (Value.int .u8) by simp [Value.cells, toList_madeCells_one]] at hown0
    clear hgrow0
    have hconv := conv_bytes (by simp) hown0
    simp only [run_copy_none]
    go_wp2
    go_ret
    exact ⟨⟨_, by rw [strOfNums_size]; simp, rfl⟩, hbel0⟩

end Go.Proofs.YtkamljmopbocnaaGreatDoor

/- THE CONTRACTS of Right, Read of package mem and of auspexref05. -/
namespace Go.Proofs.YtkamljmopbocnaaGreatDoor
open Go.ChangeShapes Go.WideShapes Go.ChangeAt Go.RowKit
set_option maxRecDepth 100000

/-- may the address be? -/
def rtB (size addr many : Int) : Bool := decide ((many = 1 ∨ many = 2 ∨ many = 4) ∧ addr % many = 0 ∧ addr + many ≤ size)
set_option linter.unusedVariables false

set_option maxHeartbeats 1000000
theorem right_any (size addr many : Int) (s0 : 0 ≤ size) (s1 : size ≤ maxLen) (h0 : 0 ≤ addr) (h1 : addr < 4294967296) (w : World) :
    Calls Tryz.prog 84 #[.int .i64 size, .int .u32 addr, .int .i64 many] w fun e w' => e = .returned (.bool (rtB size addr many)) ∧ w = w' := by
  unfold maxLen at s1
  by_cases m1 : many = 1
  · subst m1
    by_cases y : addr + 1 ≤ size
    · have H := Lib.hid (show rtB size addr 1 = true by unfold rtB; simp; omega)
      have z2 : decide (addr + 1 ≤ size) = true := by simp [y]
      go_enter Tryz.func84, Tryz.ntmps84
      go_wp2
      go_ret
      exact ⟨retb H.out.symm, rfl⟩
    · have H := Lib.hid (show rtB size addr 1 = false by unfold rtB; simp; omega)
      have z2 : decide (addr + 1 ≤ size) = false := by simp; omega
      go_enter Tryz.func84, Tryz.ntmps84
      go_wp2
      go_ret
      exact ⟨retb H.out.symm, rfl⟩
  by_cases m2 : many = 2
  · subst m2
    by_cases z : addr % 2 = 0
    · by_cases y : addr + 2 ≤ size
      · have H := Lib.hid (show rtB size addr 2 = true by unfold rtB; simp; omega)
        have z1 : (addr % 2 == 0) = true := by simp [z]
        have z2 : decide (addr + 2 ≤ size) = true := by simp [y]
        clear z
        go_enter Tryz.func84, Tryz.ntmps84
        go_wp2
        go_ret
        exact ⟨retb H.out.symm, rfl⟩
      · have H := Lib.hid (show rtB size addr 2 = false by unfold rtB; simp; omega)
        have z1 : (addr % 2 == 0) = true := by simp [z]
        have z2 : decide (addr + 2 ≤ size) = false := by simp; omega
        clear z
        go_enter Tryz.func84, Tryz.ntmps84
        go_wp2
        go_ret
        exact ⟨retb H.out.symm, rfl⟩
    · have H := Lib.hid (show rtB size addr 2 = false by unfold rtB; simp; omega)
      have z1 : (addr % 2 == 0) = false := by simp [z]
      clear z
      go_enter Tryz.func84, Tryz.ntmps84
      go_wp2
      go_ret
      exact ⟨retb H.out.symm, rfl⟩
  by_cases m4 : many = 4
  · subst m4
    by_cases z : addr % 4 = 0
    · by_cases y : addr + 4 ≤ size
      · have H := Lib.hid (show rtB size addr 4 = true by unfold rtB; simp; omega)
        have z1 : (addr % 4 == 0) = true := by simp [z]
        have z2 : decide (addr + 4 ≤ size) = true := by simp [y]
        clear z
        go_enter Tryz.func84, Tryz.ntmps84
        go_wp2
        go_ret
        exact ⟨retb H.out.symm, rfl⟩
      · have H := Lib.hid (show rtB size addr 4 = false by unfold rtB; simp; omega)
        have z1 : (addr % 4 == 0) = true := by simp [z]
        have z2 : decide (addr + 4 ≤ size) = false := by simp; omega
        clear z
        go_enter Tryz.func84, Tryz.ntmps84
        go_wp2
        go_ret
        exact ⟨retb H.out.symm, rfl⟩
    · have H := Lib.hid (show rtB size addr 4 = false by unfold rtB; simp; omega)
      have z1 : (addr % 4 == 0) = false := by simp [z]
      clear z
      go_enter Tryz.func84, Tryz.ntmps84
      go_wp2
      go_ret
      exact ⟨retb H.out.symm, rfl⟩
  have H := Lib.hid (show rtB size addr many = false by unfold rtB; simp [m1, m2, m4])
  go_enter Tryz.func84, Tryz.ntmps84
  go_wp2
  go_ret
  exact ⟨retb H.out.symm, rfl⟩

theorem refRight_any (size addr many : Int) (s0 : 0 ≤ size) (s1 : size ≤ maxLen) (h0 : 0 ≤ addr) (h1 : addr < 4294967296) (w : World) :
    Calls Tryz.prog 23 #[.int .i64 size, .int .u32 addr, .int .i64 many] w fun e w' => e = .returned (.bool (rtB size addr many)) ∧ w = w' := by
  unfold maxLen at s1
  by_cases m1 : many = 1
  · subst m1
    by_cases y : addr + 1 ≤ size
    · have H := Lib.hid (show rtB size addr 1 = true by unfold rtB; simp; omega)
      have z2 : decide (addr + 1 ≤ size) = true := by simp [y]
      go_enter Tryz.func23, Tryz.ntmps23
      go_wp2
      go_ret
      exact ⟨retb H.out.symm, rfl⟩
    · have H := Lib.hid (show rtB size addr 1 = false by unfold rtB; simp; omega)
      have z2 : decide (addr + 1 ≤ size) = false := by simp; omega
      go_enter Tryz.func23, Tryz.ntmps23
      go_wp2
      go_ret
      exact ⟨retb H.out.symm, rfl⟩
  by_cases m2 : many = 2
  · subst m2
    by_cases z : addr % 2 = 0
    · by_cases y : addr + 2 ≤ size
      · have H := Lib.hid (show rtB size addr 2 = true by unfold rtB; simp; omega)
        have z1 : (addr % 2 == 0) = true := by simp [z]
        have z2 : decide (addr + 2 ≤ size) = true := by simp [y]
        clear z
        go_enter Tryz.func23, Tryz.ntmps23
        go_wp2
        go_ret
        exact ⟨retb H.out.symm, rfl⟩
      · have H := Lib.hid (show rtB size addr 2 = false by unfold rtB; simp; omega)
        have z1 : (addr % 2 == 0) = true := by simp [z]
        have z2 : decide (addr + 2 ≤ size) = false := by simp; omega
        clear z
        go_enter Tryz.func23, Tryz.ntmps23
        go_wp2
        go_ret
        exact ⟨retb H.out.symm, rfl⟩
    · have H := Lib.hid (show rtB size addr 2 = false by unfold rtB; simp; omega)
      have z1 : (addr % 2 == 0) = false := by simp [z]
      clear z
      go_enter Tryz.func23, Tryz.ntmps23
      go_wp2
      go_ret
      exact ⟨retb H.out.symm, rfl⟩
  by_cases m4 : many = 4
  · subst m4
    by_cases z : addr % 4 = 0
    · by_cases y : addr + 4 ≤ size
      · have H := Lib.hid (show rtB size addr 4 = true by unfold rtB; simp; omega)
        have z1 : (addr % 4 == 0) = true := by simp [z]
        have z2 : decide (addr + 4 ≤ size) = true := by simp [y]
        clear z
        go_enter Tryz.func23, Tryz.ntmps23
        go_wp2
        go_ret
        exact ⟨retb H.out.symm, rfl⟩
      · have H := Lib.hid (show rtB size addr 4 = false by unfold rtB; simp; omega)
        have z1 : (addr % 4 == 0) = true := by simp [z]
        have z2 : decide (addr + 4 ≤ size) = false := by simp; omega
        clear z
        go_enter Tryz.func23, Tryz.ntmps23
        go_wp2
        go_ret
        exact ⟨retb H.out.symm, rfl⟩
    · have H := Lib.hid (show rtB size addr 4 = false by unfold rtB; simp; omega)
      have z1 : (addr % 4 == 0) = false := by simp [z]
      clear z
      go_enter Tryz.func23, Tryz.ntmps23
      go_wp2
      go_ret
      exact ⟨retb H.out.symm, rfl⟩
  have H := Lib.hid (show rtB size addr many = false by unfold rtB; simp [m1, m2, m4])
  have z1 : (many != 1) = true := by simp [m1]
  have z2 : (many != 2) = true := by simp [m2]
  have z4 : (many != 4) = true := by simp [m4]
  clear m1 m2 m4
  go_enter Tryz.func23, Tryz.ntmps23
  go_wp2
  go_ret
  exact ⟨retb H.out.symm, rfl⟩

theorem rtB_facts {size addr many : Int} (h : rtB size addr many = true) : (many = 1 ∨ many = 2 ∨ many = 4) ∧ addr % many = 0 ∧ addr + many ≤ size := by unfold rtB at h; simpa using h

theorem read_any (m : ByteArray) (addr many : Int) (s1 : m.size ≤ maxLen) (h0 : 0 ≤ addr) (h1 : addr < 4294967296) (w : World) :
    Calls Tryz.prog 55 #[.string m, .int .u32 addr, .int .i64 many] w fun e w' => e = .returned (.tuple #[.string (if rtB m.size addr many then m.extract addr.toNat (addr + many).toNat else ByteArray.empty), .int .i64 (if rtB m.size addr many then 0 else 1)]) ∧ w = w' := by
  have HR := Lib.hid (right_any m.size addr many (by omega) (by omega) h0 h1 w)
  cases hr : rtB m.size addr many
  · go_enter Tryz.func55, Tryz.ntmps55
    rw [hr] at HR
    clear hr
    go_wp2_with fail
    refine HR.out.mono ?_
    rintro e w1 ⟨rfl, rfl⟩
    go_wp2
    go_ret2
    exact ⟨rfl, rfl⟩
  · obtain ⟨f1, f2, f3⟩ := rtB_facts hr
    rw [hr] at HR
    have g1 : 1 ≤ many := by omega
    have g2 : many ≤ 4 := by omega
    clear hr f1 f2
    unfold maxLen at s1
    go_enter Tryz.func55, Tryz.ntmps55
    go_wp2_with fail
    refine HR.out.mono ?_
    rintro e w1 ⟨rfl, rfl⟩
    have hsl := run_slice_string (P := Tryz.prog) w 9 m .i64 .i64 addr (addr + many) Tryz.underlying9 h0 (by omega) f3
    go_wp2
    go_ret2
    exact ⟨rfl, rfl⟩

end Go.Proofs.YtkamljmopbocnaaGreatDoor

/- THE CONTRACT of Write, of package mem. -/
namespace Go.Proofs.YtkamljmopbocnaaGreatDoor
open Go.ChangeShapes Go.WideShapes Go.ChangeAt Go.RowKit Go.Lib
set_option maxRecDepth 100000
set_option linter.unusedVariables false

/-- the bytes behind a write -/
def wrL (m b : ByteArray) (A : Nat) : List UInt8 := m.data.toList.take A ++ b.data.toList ++ m.data.toList.drop (A + b.size)
def wrS (m b : ByteArray) (A : Nat) : ByteArray := ⟨(wrL m b A).toArray⟩
theorem grow_below {w w' : World} (h : w.grownBy w' none) : Below w.heap.size w w' := (Below.refl _ _).grown h (Nat.le_refl _) (fun k hk => by cases hk)

/-- a string's bytes as a slice -/
theorem conv_str (w : World) (m : ByteArray) (hm : m.size ≤ maxLen) :
    ∃ cap w1, (convert 9 45 (.string m)).run Tryz.prog w = .ok (.slice (some ⟨w.heap.size, 0, none⟩) m.size cap) w1 ∧ m.size ≤ cap ∧ cap ≤ maxLen ∧ w1.heap.size = w.heap.size + 1 ∧ Below w.heap.size w w1 ∧
      ∀ j, j < m.size → w1.cell? ⟨w.heap.size, j, none⟩ = some (.int .u8 (m.data.toList.getD j 0).toNat) := by
  refine ⟨_, _, Go.Lib.run_convert_string_bytes w 9 45 5 m Tryz.underlying9 Tryz.underlying45 Tryz.underlying5, grownCap_ge _ _ _ _, grownCap_le_maxLen _ _ _ _ hm, bytesWorld_size _ _ _, ?_, fun j hj => bytesWorld_cell _ _ _ j hj⟩
  exact grow_below ⟨rfl, rfl, rfl, by rw [bytesWorld_size]; omega, fun k hk _ => bytesWorld_at_old _ _ _ k hk⟩

/-- bytes behind a beginning without room -/
theorem app_cut (w : World) (B n : Nat) (b : ByteArray) (m : ByteArray) (hn : n ≤ m.size) (hb : 0 < b.size) (hs : m.size ≤ 1000000) (hbs : b.size ≤ 1000000)
    (hc : ∀ j, j < m.size → w.cell? ⟨B, j, none⟩ = some (.int .u8 (m.data.toList.getD j 0).toNat)) (ty : TypeId) :
    ∃ v w1, (Builtin.append_ #[45, 9] ty #[.slice (some ⟨B, 0, none⟩) n n, .string b]).run Tryz.prog w = .ok v w1 ∧
      w1.ownsRow w.heap.size 5 1 v (n + b.size) ((m.data.toList.take n ++ b.data.toList).map fun x => Value.int .u8 x.toNat) ∧ Below w.heap.size w w1 ∧ w.heap.size ≤ w1.heap.size ∧ (v = .slice none 0 0 → False) := by
  obtain ⟨i0, hi, hz0, hz1, hz2⟩ := info_parts info_byte
  have hll : m.data.toList.length = m.size := rfl
  have hbl : b.data.toList.length = b.size := rfl
  have hol : ((m.data.toList.take n).map fun x : UInt8 => Value.int .u8 x.toNat).length = n * i0.size := by rw [hz1]; simp; omega
  have hr := run_append_grow_string (P := Tryz.prog) (w := w) 45 9 ty 5 i0 (.int .u8 0) Tryz.underlying45 Tryz.underlying9 hi hz0 ⟨B, 0, none⟩ n n ((m.data.toList.take n).map fun x => Value.int .u8 x.toNat) hol (fun j v hj => by
      have hadd : (⟨B, 0, none⟩ : Addr).add j = ⟨B, j, none⟩ := by unfold Addr.add; split <;> simp_all
      rw [List.getElem?_map, List.getElem?_take] at hj
      by_cases hjn : j < n
      · rw [if_pos hjn, List.getElem?_eq_getElem (by omega)] at hj
        rw [hadd, hc j (by omega), ← hj]
        simp [List.getD, List.getElem?_eq_getElem (show j < m.data.toList.length by omega)]
      · rw [if_neg hjn] at hj
        cases hj) b (by omega) (by omega) (by rw [hz2]; exact growslice_fits (by omega) (by omega))
  have hge := grownCap_ge w (n + b.size) n 5
  have hcm : grownCap w (n + b.size) n 5 ≤ maxLen := grownCap_le_maxLen w (n + b.size) n 5 (by unfold maxLen; omega)
  generalize grownCap w (n + b.size) n 5 = cap at *
  refine ⟨_, _, hr, ⟨by simp; omega, .inr ⟨w.heap.size, _, _, rfl, Nat.le_refl _, heap_alloc_new w.drew _, hge, hcm, ?_, ?_⟩⟩, grow_below ⟨rfl, rfl, rfl, by simp, fun k hk _ => heap_alloc_old w.drew _ hk⟩, by simp, fun h => by cases h⟩
  · have hz1 : (Value.int IntKind.u8 0).cells.size = 1 := rfl
    simp only [Array.size_append, List.size_toArray, size_zeroCells, hz1, strCells_length]
    simp
    omega
  · simp only [Array.toList_append, List.append_assoc]
    have e : strCells b = b.data.toList.map fun x : UInt8 => Value.int .u8 x.toNat := by simp [strCells]
    rw [e, ← List.append_assoc, ← List.map_append]
    exact List.take_left' (by simp; omega)

set_option maxHeartbeats 1000000
theorem strOfNums_nat (l : List UInt8) : strOfNums (l.map fun x => (x.toNat : Int)) = ⟨l.toArray⟩ := by
  unfold strOfNums
  rw [List.map_map]
  congr 2
  conv => rhs; rw [← List.map_id l]
  apply List.map_congr_left
  intro x _
  simp
theorem map_u8 (xs : List UInt8) : (xs.map fun x : UInt8 => Value.int .u8 x.toNat) = (xs.map fun x => (x.toNat : Int)).map (Value.int .u8) := by simp
theorem write_any (m : ByteArray) (addr : Int) (b : ByteArray) (s1 : m.size ≤ 1000) (s2 : b.size ≤ 1000) (h0 : 0 ≤ addr) (h1 : addr < 4294967296) (w : World) :
    Calls Tryz.prog 59 #[.string m, .int .u32 addr, .string b] w fun e w' => e = .returned (.tuple #[.string (if rtB m.size addr b.size then wrS m b addr.toNat else ByteArray.empty), .int .i64 (if rtB m.size addr b.size then 0 else 1)]) ∧ Below w.heap.size w w' := by
  have HR := Lib.hid (right_any m.size addr b.size (by omega) (by unfold maxLen; omega) h0 h1 w)
  cases hr : rtB m.size addr b.size
  · go_enter Tryz.func59, Tryz.ntmps59
    rw [hr] at HR
    clear hr
    go_wp2_with fail
    refine HR.out.mono ?_
    rintro e w1 ⟨rfl, rfl⟩
    go_wp2
    go_ret2
    exact ⟨rfl, Below.refl _ _⟩
  · obtain ⟨f1, f2, f3⟩ := rtB_facts hr
    rw [hr] at HR
    have g1 : 1 ≤ b.size := by omega
    have g2 : b.size ≤ 4 := by omega
    clear hr f1 f2
    have f4 : addr.toNat + b.size ≤ m.size := by omega
    have f5 : addr ≤ m.size := by omega
    have f6 : m.size ≤ 1000 := s1
    obtain ⟨cap, w1, hconv, hc1, hc2, hsz, hbel, hcell⟩ := conv_str w m (by unfold maxLen; omega)
    obtain ⟨v2, w2, happ, hown2, hbel2, hsz2, hv2⟩ := app_cut w1 w.heap.size addr.toNat b m (by omega) (by omega) (by omega) (by omega) hcell 45
    obtain ⟨i0, hi, hz0, hz1, hz2⟩ := info_parts info_byte
    have Hcell := Lib.hid (show ∀ j, j < m.size → w2.cell? ⟨w.heap.size, j, none⟩ = some (.int .u8 (m.data.toList.getD j 0).toNat) from fun j hj => (hbel2.cell (p := ⟨w.heap.size, j, none⟩) (by rw [hsz]; exact Nat.lt_succ_self _)).trans (hcell j hj))
    have Hn := Lib.hid (show ∀ (ad : Addr), (∀ j, j < m.size - (addr + b.size).toNat → ad.add j = ⟨w.heap.size, (addr + b.size).toNat + j, none⟩) → ∀ (j : Nat) u, ((m.data.toList.drop (addr + b.size).toNat).map fun x : UInt8 => Value.int .u8 x.toNat)[j]? = some u → w2.cell? (ad.add j) = some u from fun ad had j u hu => by
      have hll : m.data.toList.length = m.size := rfl
      rw [List.getElem?_map, List.getElem?_drop] at hu
      by_cases hj : (addr + b.size).toNat + j < m.size
      · rw [had j (by omega), Hcell.out _ hj]
        rw [List.getElem?_eq_getElem (by omega)] at hu
        rw [← hu]
        simp [List.getD, List.getElem?_eq_getElem (show (addr + b.size).toNat + j < m.data.toList.length by omega)]
      · rw [List.getElem?_eq_none (by omega)] at hu
        cases hu)
    have hone : ∀ u ∈ (m.data.toList.drop (addr + b.size).toNat).map (fun x : UInt8 => Value.int .u8 x.toNat), u.oneCell' = true := by
      intro u hu
      obtain ⟨x, _, rfl⟩ := List.mem_map.1 hu
      rfl
    have Hone := Lib.hid hone
    have hnl : ((m.data.toList.drop (addr + b.size).toNat).map (fun x : UInt8 => Value.int .u8 x.toNat)).length = (m.size - (addr + b.size).toNat) * 1 := by
      simp
    have Hnl := Lib.hid hnl
    have Hsz := Lib.hid hsz
    have hbel' : Below w.heap.size w w2 := hbel.trans (hbel2.mono (by omega))
    clear hcell hsz hv2 hone hnl hbel hbel2
    by_cases hcap : cap = (addr + b.size).toNat
    · subst hcap
      have hwr : wrL m b addr.toNat = m.data.toList.take addr.toNat ++ b.data.toList := by
        unfold wrL
        rw [List.drop_eq_nil_of_le (by have : m.data.toList.length = m.size := rfl; omega), List.append_nil]
      have Hwr := Lib.hid hwr
      clear hwr
      go_enter Tryz.func59, Tryz.ntmps59
      go_wp2_with fail
      refine HR.out.mono ?_
      rintro e w1 ⟨rfl, rfl⟩
      go_wp2_with (first | (at_builtin; refine Lib.wpList_append_run _ rfl (.tmp 25) (.tmp 26) _ _ rfl _ _ rfl rfl _ _ happ ?_) | (at_builtin; refine wpList_append_own _ rfl (.tmp 28) (.tmp 34) 45 rfl w1.heap.size 5 i0 (.int .u8 0) 1 1 Tryz.underlying45 hi hz0 hz1 hz2 rfl (by decide) _ _ _ rfl hown2 ⟨w.heap.size, 0, none⟩ 0 _ [] rfl rfl (by intro j u hj; simp at hj) (by intro u hu; cases hu) (by unfold maxLen; omega) (by omega) (by have := Hsz.out; omega) ?_; intro v3 w3 hown3 hgrow3 _))
      have hbel3 := hbel'.grown hgrow3 (by have := Hsz.out; omega) (fun k hk => by have := hown2.lt k hk; have := Hsz.out; omega)
      rw [List.append_nil, map_u8] at hown3
      have hconv3 := conv_bytes (by simp; have : m.data.toList.length = m.size := rfl; have : b.data.toList.length = b.size := rfl; omega) hown3
      rw [strOfNums_nat] at hconv3
      clear hgrow3 hown3 hown2
      rw [hconv3]
      clear hconv3
      go_wp2
      go_ret2
      exact ⟨by unfold wrS; rw [Hwr.out]; rfl, hbel3⟩
    · have hcap' : (addr + b.size).toNat < cap := by omega
      have hne : ¬ cap = (addr + b.size).toNat := hcap
      have Hwr := Lib.hid (show wrL m b addr.toNat = m.data.toList.take addr.toNat ++ b.data.toList ++ m.data.toList.drop (addr + b.size).toNat by
        unfold wrL
        rw [show addr.toNat + b.size = (addr + b.size).toNat by omega])
      clear hcap hcap'
      go_enter Tryz.func59, Tryz.ntmps59
      go_wp2_with fail
      refine HR.out.mono ?_
      rintro e w1 ⟨rfl, rfl⟩
      go_wp2_with (first | (at_builtin; refine Lib.wpList_append_run _ rfl (.tmp 25) (.tmp 26) _ _ rfl _ _ rfl rfl _ _ happ ?_) | (at_builtin; refine wpList_append_own _ rfl (.tmp 28) (.tmp 34) 45 rfl w1.heap.size 5 i0 (.int .u8 0) 1 1 Tryz.underlying45 hi hz0 hz1 hz2 rfl (by decide) _ _ _ rfl hown2 ⟨w.heap.size, (addr + b.size).toNat, none⟩ _ _ _ rfl Hnl.out (Hn.out _ (fun j hj => by unfold Addr.add; split <;> simp_all)) Hone.out (by unfold maxLen; omega) (by omega) (by have := Hsz.out; omega) ?_; intro v3 w3 hown3 hgrow3 _))
      have hbel3 := hbel'.grown hgrow3 (by have := Hsz.out; omega) (fun k hk => by have := hown2.lt k hk; have := Hsz.out; omega)
      rw [← List.map_append, map_u8] at hown3
      have hconv3 := conv_bytes (by simp; have : m.data.toList.length = m.size := rfl; have : b.data.toList.length = b.size := rfl; omega) hown3
      rw [strOfNums_nat] at hconv3
      clear hgrow3 hown3 hown2
      rw [hconv3]
      clear hconv3
      go_wp2
      go_ret2
      exact ⟨by unfold wrS; rw [Hwr.out, List.append_assoc]; rfl, hbel3⟩

end Go.Proofs.YtkamljmopbocnaaGreatDoor

/- PLAIN MATHEMATICS of bytes: what a write makes, what a piece is. -/
namespace Go.Proofs.YtkamljmopbocnaaGreatDoor
set_option maxRecDepth 100000

theorem ba_ext {a b : ByteArray} (h : ∀ k : Nat, a.data.toList[k]? = b.data.toList[k]?) : a = b := by
  cases a with | mk x => cases b with | mk y =>
  congr 1
  apply Array.ext'
  exact List.ext_getElem? h
theorem ba_len (a : ByteArray) : a.data.toList.length = a.size := rfl
theorem wr_size (m b : ByteArray) (A : Nat) (h : A + b.size ≤ m.size) : (wrS m b A).size = m.size := by
  have h1 := ba_len m
  have h2 := ba_len b
  show (wrL m b A).toArray.size = _
  unfold wrL
  simp
  omega
theorem wr_get (m b : ByteArray) (A : Nat) (h : A + b.size ≤ m.size) (k : Nat) :
    (wrS m b A).data.toList[k]? = if A ≤ k ∧ k < A + b.size then b.data.toList[k - A]? else m.data.toList[k]? := by
  have h1 := ba_len m
  have h2 := ba_len b
  show (wrL m b A)[k]? = _
  unfold wrL
  rw [List.append_assoc, List.getElem?_append, List.length_take, List.getElem?_append]
  by_cases c1 : k < A
  · rw [if_pos (by omega), if_neg (by omega), List.getElem?_take, if_pos c1]
  · rw [if_neg (by omega)]
    by_cases c2 : k < A + b.size
    · rw [if_pos (by omega), if_pos (by omega)]
      congr 1
      omega
    · rw [if_neg (by omega), if_neg (by omega), List.getElem?_drop]
      congr 1
      omega
theorem ex_data (s : ByteArray) (i j : Nat) : (s.extract i j).data.toList = (s.data.toList.take j).drop i := by
  rw [ByteArray.data_extract]
  simp [List.extract_eq_take_drop, List.drop_take]
theorem ex_get (s : ByteArray) (i j k : Nat) : (s.extract i j).data.toList[k]? = if i + k < j then s.data.toList[i + k]? else none := by
  rw [ex_data, List.getElem?_drop, List.getElem?_take]
theorem ex_size (s : ByteArray) (i j : Nat) (h : i ≤ j) (h2 : j ≤ s.size) : (s.extract i j).size = j - i := by
  have := ba_len (s.extract i j)
  have h1 := ba_len s
  rw [← this, ex_data]
  simp
  omega

/-- what is written is read -/
theorem wr_read (m b : ByteArray) (A : Nat) (h : A + b.size ≤ m.size) : (wrS m b A).extract A (A + b.size) = b := by
  refine ba_ext fun k => ?_
  rw [ex_get, wr_get m b A h]
  have h2 := ba_len b
  by_cases c : k < b.size
  · rw [if_pos (by omega), if_pos (by omega)]
    congr 1
    omega
  · rw [if_neg (by omega), List.getElem?_eq_none (by omega)]
theorem wr_other (m b : ByteArray) (A o n : Nat) (h : A + b.size ≤ m.size) (hd : o + n ≤ A ∨ A + b.size ≤ o) : (wrS m b A).extract o (o + n) = m.extract o (o + n) := by
  refine ba_ext fun k => ?_
  rw [ex_get, ex_get]
  by_cases c : o + k < o + n
  · rw [if_pos c, if_pos c, wr_get m b A h, if_neg (by omega)]
  · rw [if_neg c, if_neg c]
theorem wr_twice (m b : ByteArray) (A : Nat) (h : A + b.size ≤ m.size) : wrS (wrS m b A) b A = wrS m b A := by
  refine ba_ext fun k => ?_
  rw [wr_get _ b A (by rw [wr_size m b A h]; exact h), wr_get m b A h]
  by_cases c : A ≤ k ∧ k < A + b.size
  · rw [if_pos c, if_pos c]
  · rw [if_neg c, if_neg c]
theorem wr_comm (m x y : ByteArray) (A B : Nat) (h : A + x.size ≤ m.size) (h' : B + y.size ≤ m.size) (hd : A + x.size ≤ B ∨ B + y.size ≤ A) :
    wrS (wrS m x A) y B = wrS (wrS m y B) x A := by
  refine ba_ext fun k => ?_
  rw [wr_get _ y B (by rw [wr_size m x A h]; exact h'), wr_get m x A h, wr_get _ x A (by rw [wr_size m y B h']; exact h), wr_get m y B h']
  by_cases c : A ≤ k ∧ k < A + x.size
  · rw [if_neg (by omega), if_pos c, if_pos c]
  · by_cases d : B ≤ k ∧ k < B + y.size
    · rw [if_pos d, if_neg c, if_pos d]
    · rw [if_neg d, if_neg c, if_neg c, if_neg d]

open Go.ChangeShapes Go.WideShapes Go.ChangeAt Go.RowKit Go.Lib
end Go.Proofs.YtkamljmopbocnaaGreatDoor

/- THE CONTRACT of Clean, of package mem. -/
namespace Go.Proofs.YtkamljmopbocnaaGreatDoor
open Go.ChangeShapes Go.WideShapes Go.ChangeAt Go.RowKit Go.Lib
set_option linter.unusedVariables false
set_option linter.unusedSimpArgs false

/-- how many bytes a memory of so many has -/
def clN (k : Nat) : Nat := if k ≤ 16 then 16 else if k ≤ 32 then 32 else if k ≤ 64 then 64 else if k ≤ 128 then 128 else 256
def clL (m : ByteArray) : List UInt8 := m.data.toList.take 256 ++ List.replicate (clN (min m.size 256) - min m.size 256) 0
def clS (m : ByteArray) : ByteArray := ⟨(clL m).toArray⟩
theorem clN_ge (k : Nat) (h : k ≤ 256) : k ≤ clN k := by unfold clN; split; omega; split; omega; split; omega; split <;> omega
theorem clN_of (k : Nat) : clN k = 16 ∨ clN k = 32 ∨ clN k = 64 ∨ clN k = 128 ∨ clN k = 256 := by unfold clN; split; simp; split; simp; split; simp; split <;> simp
theorem clN_exit (k s : Nat) (hk : k ≤ 256) (hs : s = 16 ∨ s = 32 ∨ s = 64 ∨ s = 128 ∨ s = 256) (h : s = 16 ∨ s < 2 * k) (he : k ≤ s) : clN k = s := by
  unfold clN
  split
  · omega
  · split
    · omega
    · split
      · omega
      · split <;> omega
theorem clL_len (m : ByteArray) : (clL m).length = clN (min m.size 256) := by
  have h1 := ba_len m
  have h2 := clN_ge (min m.size 256) (Nat.min_le_right _ _)
  unfold clL
  rw [List.length_append, List.length_take, List.length_replicate]
  omega
theorem clS_size (m : ByteArray) : (clS m).size = clN (min m.size 256) := clL_len m
theorem clS_get (m : ByteArray) (j : Nat) (hj : j < min m.size 256) : (clS m).data.toList[j]? = m.data.toList[j]? := by
  have h1 := ba_len m
  show (clL m)[j]? = _
  unfold clL
  rw [List.getElem?_append_left (by rw [List.length_take]; omega), List.getElem?_take, if_pos (by omega)]
theorem clS_pre (m : ByteArray) (k : Nat) (hk : k ≤ min m.size 256) : (clS m).extract 0 k = m.extract 0 k := by
  refine ba_ext fun j => ?_
  rw [ex_get, ex_get]
  by_cases c : 0 + j < k
  · rw [if_pos c, if_pos c, clS_get m (0 + j) (by omega)]
  · rw [if_neg c, if_neg c]
theorem clS_twice (m : ByteArray) : clS (clS m) = clS m := by
  have hs := clS_size m
  have hn := clN_of (min m.size 256)
  have hc : clN (min (clS m).size 256) = (clS m).size := by
    rw [hs]
    rcases hn with e | e | e | e | e <;> rw [e] <;> rfl
  have hm : min (clS m).size 256 = (clS m).size := by omega
  refine ba_ext fun j => ?_
  show (clL (clS m))[j]? = _
  unfold clL
  rw [hc, hm, Nat.sub_self, List.replicate_zero, List.append_nil, List.take_of_length_le (by rw [ba_len]; omega)]

theorem strCells_eq (b : ByteArray) : byteCells b.data.toList = (b.data.toList.map fun x : UInt8 => (x.toNat : Int)).map (Value.int .u8) := by simp [byteCells]

/-- a string that fits is copied over zeros -/
theorem copy_over {w : World} {B g s : Nat} (h : w.ownsRow B 5 1 (.slice (some ⟨g, 0, none⟩) s s) s ((List.replicate s (0 : Int)).map (Value.int .u8))) (t : ByteArray) (ht : t.size ≤ s) (ty : TypeId) :
    ∃ w1, (Builtin.copy_ #[45, 9] ty #[.slice (some ⟨g, 0, none⟩) s s, .string t]).run Tryz.prog w = .ok (goInt t.size) w1 ∧
      w1.ownsRow B 5 1 (.slice (some ⟨g, 0, none⟩) s s) s (((t.data.toList ++ List.replicate (s - t.size) 0).map fun x : UInt8 => (x.toNat : Int)).map (Value.int .u8)) ∧ w.grownBy w1 (some g) := by
  obtain ⟨i0, hi, hz0, hz1, hz2⟩ := info_parts info_byte
  have hl := ba_len t
  rcases h.2 with ⟨h0, _⟩ | ⟨g', cap, cur, hv, hb, hg, hnc, hcm, hcs, htk⟩
  · cases h0
  · injection hv with e1 e2 e3
    injection e1 with e1
    injection e1 with e1
    subst e1 e3
    have hcl : cur.toList.length = s := by simpa using hcs
    rw [Nat.mul_one, List.take_of_length_le (by omega)] at htk
    have hr := run_copy_row_string (P := Tryz.prog) w 45 9 ty 5 g 0 s s t cur 5 Tryz.underlying45 (by rw [hi]; simp [hz1]) hg ht (by rw [Nat.zero_add]; simpa using (show t.size ≤ cur.toList.length by omega))
    rw [Nat.zero_add, List.take_zero, List.nil_append, htk, strCells_eq, ← List.map_drop, List.drop_replicate] at hr
    have e : ((t.data.toList.map fun x : UInt8 => (x.toNat : Int)).map (Value.int .u8) ++ (List.replicate (s - t.size) (0 : Int)).map (Value.int .u8)) = ((t.data.toList ++ List.replicate (s - t.size) (0 : UInt8)).map fun x : UInt8 => (x.toNat : Int)).map (Value.int .u8) := by
      simp
    rw [e] at hr
    have hlen : (((t.data.toList ++ List.replicate (s - t.size) (0 : UInt8)).map fun x : UInt8 => (x.toNat : Int)).map (Value.int .u8)).length = s := by simp; omega
    generalize ((t.data.toList ++ List.replicate (s - t.size) (0 : UInt8)).map fun x : UInt8 => (x.toNat : Int)).map (Value.int .u8) = xs at *
    refine ⟨_, hr, ⟨by simpa using hlen, .inr ⟨g, s, _, rfl, hb, setRow_heap w g cur _ 5 _ hg, Nat.le_refl _, hcm, by simpa using hlen, by rw [Nat.mul_one]; exact List.take_of_length_le (Nat.le_of_eq hlen)⟩⟩, ⟨rfl, rfl, rfl, by simp, fun k _ hk => setRow_other w g k _ (fun e => hk (by rw [e]))⟩⟩
theorem strOfNums_nat' (l : List UInt8) : strOfNums (l.map fun x => (x.toNat : Int)) = ⟨l.toArray⟩ := strOfNums_nat l

set_option maxHeartbeats 1000000
set_option maxRecDepth 100000
theorem clean_any (m : ByteArray) (hm : m.size ≤ 1000) (w : World) : Calls Tryz.prog 13 #[.string m] w fun e w' => e = .returned (.string (clS m)) ∧ Below w.heap.size w w' := by
  obtain ⟨i0, hi, hz0, hz1, hz2⟩ := info_parts info_byte
  by_cases h : m.size ≤ 256
  · have h2 : (m.size : Int) ≤ 256 := by omega
    go_enter Tryz.func13, Tryz.ntmps13
    go_wp2
    go_loop [3] (fun i => ∃ s : Nat, (s = 16 ∨ s = 32 ∨ s = 64 ∨ s = 128 ∨ s = 256) ∧ (s = 16 ∨ s < 2 * m.size) ∧ i = .int .i64 s) (fun i => 600 - (intOf i).toNat)
    case atStart => exact ⟨16, Or.inl rfl, Or.inl rfl, rfl⟩
    case round =>
      obtain ⟨s, hs, hs2, rfl⟩ := hrel
      have HS := Lib.hid (And.intro hs hs2)
      by_cases hlt : s < m.size
      · clear hs hs2
        go_wp2
        go_round
        case rel => exact ⟨2 * s, by have := HS.out; omega, by have := HS.out; omega, by congr 1; omega⟩
        case measure => have := HS.out; simp [intOf]; omega
      · have hs3 : s ≤ 256 := by omega
        have hex := clN_exit m.size s (by omega) hs hs2 (by omega)
        have HX := Lib.hid hex
        clear hs hs2 hex
        have hsn : 600 ≥ s := by omega
        have hcl : (⟨(m.data.toList ++ List.replicate (s - m.size) (0 : UInt8)).toArray⟩ : ByteArray) = clS m := by
          unfold clS clL
          have h1 := ba_len m
          rw [Nat.min_eq_left h, HX.out, List.take_of_length_le (by omega)]
        have HC := Lib.hid hcl
        clear hcl
        go_wp2_with (at_make; refine wpList_make_full _ rfl _ _ 45 rfl w.heap.size 5 i0 (.int .u8 0) 1 Tryz.underlying45 hi hz0 hz1 .i64 .i64 _ _ s rfl rfl rfl rfl (by rw [hz2]; omega) (by unfold maxLen; omega) (Nat.le_refl _) ?_; intro w0 hown0 hgrow0)
        have hbel0 : Below w.heap.size w w0 := (Below.refl _ _).grown hgrow0 (Nat.le_refl _) (fun k hk => by cases hk)
        rw [show (madeCells (Value.int .u8 0).cells (s * 1)).toList = (List.replicate s (0 : Int)).map (Value.int .u8) by rw [Nat.mul_one]; simp [Value.cells, toList_madeCells_one]] at hown0
        clear hgrow0
        obtain ⟨w1, hrun, hown1, hgr1⟩ := copy_over hown0 m (by omega) 3
        have hbel1 := hbel0.grown hgr1 hbel0.size (fun k hk => by cases hk; exact Nat.le_refl _)
        have hconv := conv_bytes (by rw [List.length_map, List.length_append, List.length_replicate, ba_len]; omega) hown1
        rw [strOfNums_nat] at hconv
        clear hown0 hown1 hgr1
        rw [hrun]
        clear hrun
        go_wp2
        go_ret
        exact ⟨by rw [← HC.out]; rfl, hbel1⟩
  · have h2 : 256 < (m.size : Int) := by omega
    have hex : (m.extract 0 256).size = 256 := by rw [ex_size _ _ _ (by omega) (by omega)]
    have HE := Lib.hid hex
    have H' := Lib.hid h
    have hd : (m.extract 0 256).data.toList = m.data.toList.take 256 := by rw [ex_data]; rfl
    have HD := Lib.hid hd
    clear hex hd h
    go_enter Tryz.func13, Tryz.ntmps13
    go_wp2
    go_loop [3] (fun i => ∃ s : Nat, (s = 16 ∨ s = 32 ∨ s = 64 ∨ s = 128 ∨ s = 256) ∧ (s = 16 ∨ s < 2 * 256) ∧ i = .int .i64 s) (fun i => 600 - (intOf i).toNat)
    case atStart => exact ⟨16, Or.inl rfl, Or.inl rfl, rfl⟩
    case round =>
      obtain ⟨s, hs, hs2, rfl⟩ := hrel
      have HS := Lib.hid (And.intro hs hs2)
      by_cases hlt : s < 256
      · clear hs hs2
        go_wp2
        go_round
        case rel => exact ⟨2 * s, by have := HS.out; omega, by have := HS.out; omega, by congr 1; omega⟩
        case measure => have := HS.out; simp [intOf]; omega
      · have hs3 : s ≤ 256 := by omega
        have hex := clN_exit 256 s (by omega) hs hs2 (by omega)
        have HX := Lib.hid hex
        clear hs hs2 hex
        have hsn : 600 ≥ s := by omega
        have hcl : (⟨((m.extract 0 256).data.toList ++ List.replicate (s - 256) (0 : UInt8)).toArray⟩ : ByteArray) = clS m := by
          unfold clS clL
          have h1 := ba_len m
          rw [Nat.min_eq_right (by omega), HX.out, HD.out]
        have HC := Lib.hid hcl
        clear hcl
        go_wp2_with (at_make; refine wpList_make_full _ rfl _ _ 45 rfl w.heap.size 5 i0 (.int .u8 0) 1 Tryz.underlying45 hi hz0 hz1 .i64 .i64 _ _ s rfl rfl rfl rfl (by rw [hz2]; omega) (by unfold maxLen; omega) (Nat.le_refl _) ?_; intro w0 hown0 hgrow0)
        have hbel0 : Below w.heap.size w w0 := (Below.refl _ _).grown hgrow0 (Nat.le_refl _) (fun k hk => by cases hk)
        rw [show (madeCells (Value.int .u8 0).cells (s * 1)).toList = (List.replicate s (0 : Int)).map (Value.int .u8) by rw [Nat.mul_one]; simp [Value.cells, toList_madeCells_one]] at hown0
        clear hgrow0
        obtain ⟨w1, hrun, hown1, hgr1⟩ := copy_over hown0 (m.extract 0 256) (by rw [HE.out]; omega) 3
        have hbel1 := hbel0.grown hgr1 hbel0.size (fun k hk => by cases hk; exact Nat.le_refl _)
        have hconv := conv_bytes (by rw [List.length_map, List.length_append, List.length_replicate, ba_len, HE.out]; omega) hown1
        rw [strOfNums_nat] at hconv
        clear hown0 hown1 hgr1
        rw [hrun]
        clear hrun
        go_wp2
        go_ret
        exact ⟨by show Ending.returned (Value.string ⟨(m.data.toList.take 256 ++ List.replicate (s - min 256 m.size) 0).toArray⟩) = _; rw [← HC.out, HD.out, show min 256 m.size = 256 by omega], hbel1⟩

end Go.Proofs.YtkamljmopbocnaaGreatDoor
