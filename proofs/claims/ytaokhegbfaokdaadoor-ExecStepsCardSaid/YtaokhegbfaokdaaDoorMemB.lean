import Derived.Test.YtaokhegbfaokdaaDoorArgB
import Derived.Lib.Hide
import Derived.WalkKit
import Derived.WalkLawsBesides
import Derived.Deep.QuietTactic
import Derived.BigQuiet
import Derived.OwnWalk
import Derived.Laws.CopyOwn
import Derived.Laws.BytesArg
import Derived.Test.YtaokhegbfaokdaaDoorOwnB
import Derived.Lib.ConvBytes
import Derived.Lib.AppendStr
import Derived.Laws.Strings2
import Derived.Laws.Strings3
import Derived.Lib.AppendZeros
import Derived.Lib.BufferWrite
/- THE CONTRACT of Fetch, of package mem. -/
namespace Go.Proofs.YtaokhegbfaokdaaDoor
open Go.ChangeShapes Go.WideShapes Go.ChangeAt Go.RowKit
set_option maxRecDepth 100000

/-- is there a word at this place? and which -/
def ftB (n : Nat) (pc : Int) : Bool := decide (pc % 4 = 0 ∧ pc / 4 < n)
def ftV (zs : List Int) (n : Nat) (pc : Int) : Int := if pc % 4 = 0 ∧ pc / 4 < n then zs.getD (pc / 4).toNat 0 else 0
set_option linter.unusedVariables false
set_option maxHeartbeats 1000000
theorem ret_word {a b : Int} {c d : Bool} (h : a = b) (h' : c = d) : Ending.returned (.tuple #[.int .u32 a, .bool c]) = .returned (.tuple #[.int .u32 b, .bool d]) := by rw [h, h']
end Go.Proofs.YtaokhegbfaokdaaDoor

/- THE CONTRACT of Clean of no bytes, of package mem: sixteen bytes of zero. -/
namespace Go.Proofs.YtaokhegbfaokdaaDoor
open Go.ChangeShapes Go.WideShapes Go.ChangeAt Go.RowKit
set_option maxRecDepth 100000

theorem info_byte : (Tryd.prog.info? 5).map (fun i => (i.zero, i.size, i.bytes)) = some (some (.int .u8 0), 1, 1) := by kernel_rfl
/-- a slice that owns a row of bytes, as a string -/
theorem conv_bytes {w : World} {base : Nat} {v : Value} {xs : List Int} {n : Nat} (hn : xs.length = n) (hown : w.ownsRow base 5 1 v n (xs.map (Value.int .u8))) :
    (convert 53 9 v).run Tryd.prog w = .ok (.string (strOfNums xs)) w := by
  rcases hown.2 with ⟨rfl, h0⟩ | ⟨g, cap, cur, rfl, hg, hh, r⟩
  · have : xs = [] := by cases xs; rfl; simp at hn; omega
    subst this
    exact run_convert_bytes_nil w 53 5 Tryd.underlying53 Tryd.underlying5 0 0 9 Tryd.underlying9
  · refine run_convert_bytes_arg w 53 5 Tryd.underlying53 Tryd.underlying5 g 0 n cap xs hn (fun i hi => ?_) 9 Tryd.underlying9
    have := hown.cellAt i (by omega)
    rw [Nat.zero_add, this]
    simp [List.getD, show i < xs.length by omega]

/-- nothing goes over out of a string without bytes -/
theorem run_copy_none {w : World} {tI : TypeId} (dp : Option Addr) (dLen dCap : Nat) :
    (Builtin.copy_ #[53, 9] tI #[.slice dp dLen dCap, .string ByteArray.empty]).run Tryd.prog w = .ok (goInt 0) w := by
  obtain ⟨i0, hi, hz0, hz1, hz2⟩ := info_parts info_byte
  cases dp <;> simp [Builtin.copy_, run_underlying (Tryd.underlying53), Builtin.lenOf, Builtin.firstCells, sizeOf, typeInfo, hi, storeCells]

theorem strOfNums_size (xs : List Int) : (strOfNums xs).size = xs.length := by simp [strOfNums, ByteArray.size]
set_option linter.unusedVariables false
set_option maxHeartbeats 1000000
end Go.Proofs.YtaokhegbfaokdaaDoor

/- THE CONTRACTS of Right, Read of package mem and of auspexref05. -/
namespace Go.Proofs.YtaokhegbfaokdaaDoor
open Go.ChangeShapes Go.WideShapes Go.ChangeAt Go.RowKit
set_option maxRecDepth 100000

/-- may the address be? -/
def rtB (size addr many : Int) : Bool := decide ((many = 1 ∨ many = 2 ∨ many = 4) ∧ addr % many = 0 ∧ addr + many ≤ size)
set_option linter.unusedVariables false

set_option maxHeartbeats 1000000
theorem right_any (size addr many : Int) (s0 : 0 ≤ size) (s1 : size ≤ maxLen) (h0 : 0 ≤ addr) (h1 : addr < 4294967296) (w : World) :
    Calls Tryd.prog 33 #[.int .i64 size, .int .u32 addr, .int .i64 many] w fun e w' => e = .returned (.bool (rtB size addr many)) ∧ w = w' := by
  unfold maxLen at s1
  by_cases m1 : many = 1
  · subst m1
    by_cases y : addr + 1 ≤ size
    · have H := Lib.hid (show rtB size addr 1 = true by unfold rtB; simp; omega)
      have z2 : decide (addr + 1 ≤ size) = true := by simp [y]
      go_enter Tryd.func33, Tryd.ntmps33
      go_wp2
      go_ret
      exact ⟨retb H.out.symm, rfl⟩
    · have H := Lib.hid (show rtB size addr 1 = false by unfold rtB; simp; omega)
      have z2 : decide (addr + 1 ≤ size) = false := by simp; omega
      go_enter Tryd.func33, Tryd.ntmps33
      go_wp2
      go_ret
      exact ⟨retb H.out.symm, rfl⟩
  by_cases m2 : many = 2
  · subst m2
    by_cases z : addr % 2 = 0
    · by_cases y : addr + 2 ≤ size
      · have H := Lib.hid (show rtB size addr 2 = true by unfold rtB; simp; omega)
        have z1 : (addr % 2 == 0) = true := by simp [z]
        have z2 : decide (addr + 2 ≤ size) = true := by simp [y]
        clear z
        go_enter Tryd.func33, Tryd.ntmps33
        go_wp2
        go_ret
        exact ⟨retb H.out.symm, rfl⟩
      · have H := Lib.hid (show rtB size addr 2 = false by unfold rtB; simp; omega)
        have z1 : (addr % 2 == 0) = true := by simp [z]
        have z2 : decide (addr + 2 ≤ size) = false := by simp; omega
        clear z
        go_enter Tryd.func33, Tryd.ntmps33
        go_wp2
        go_ret
        exact ⟨retb H.out.symm, rfl⟩
    · have H := Lib.hid (show rtB size addr 2 = false by unfold rtB; simp; omega)
      have z1 : (addr % 2 == 0) = false := by simp [z]
      clear z
      go_enter Tryd.func33, Tryd.ntmps33
      go_wp2
      go_ret
      exact ⟨retb H.out.symm, rfl⟩
  by_cases m4 : many = 4
  · subst m4
    by_cases z : addr % 4 = 0
    · by_cases y : addr + 4 ≤ size
      · have H := Lib.hid (show rtB size addr 4 = true by unfold rtB; simp; omega)
        have z1 : (addr % 4 == 0) = true := by simp [z]
        have z2 : decide (addr + 4 ≤ size) = true := by simp [y]
        clear z
        go_enter Tryd.func33, Tryd.ntmps33
        go_wp2
        go_ret
        exact ⟨retb H.out.symm, rfl⟩
      · have H := Lib.hid (show rtB size addr 4 = false by unfold rtB; simp; omega)
        have z1 : (addr % 4 == 0) = true := by simp [z]
        have z2 : decide (addr + 4 ≤ size) = false := by simp; omega
        clear z
        go_enter Tryd.func33, Tryd.ntmps33
        go_wp2
        go_ret
        exact ⟨retb H.out.symm, rfl⟩
    · have H := Lib.hid (show rtB size addr 4 = false by unfold rtB; simp; omega)
      have z1 : (addr % 4 == 0) = false := by simp [z]
      clear z
      go_enter Tryd.func33, Tryd.ntmps33
      go_wp2
      go_ret
      exact ⟨retb H.out.symm, rfl⟩
  have H := Lib.hid (show rtB size addr many = false by unfold rtB; simp [m1, m2, m4])
  go_enter Tryd.func33, Tryd.ntmps33
  go_wp2
  go_ret
  exact ⟨retb H.out.symm, rfl⟩

theorem refRight_any (size addr many : Int) (s0 : 0 ≤ size) (s1 : size ≤ maxLen) (h0 : 0 ≤ addr) (h1 : addr < 4294967296) (w : World) :
    Calls Tryd.prog 25 #[.int .i64 size, .int .u32 addr, .int .i64 many] w fun e w' => e = .returned (.bool (rtB size addr many)) ∧ w = w' := by
  unfold maxLen at s1
  by_cases m1 : many = 1
  · subst m1
    by_cases y : addr + 1 ≤ size
    · have H := Lib.hid (show rtB size addr 1 = true by unfold rtB; simp; omega)
      have z2 : decide (addr + 1 ≤ size) = true := by simp [y]
      go_enter Tryd.func25, Tryd.ntmps25
      go_wp2
      go_ret
      exact ⟨retb H.out.symm, rfl⟩
    · have H := Lib.hid (show rtB size addr 1 = false by unfold rtB; simp; omega)
      have z2 : decide (addr + 1 ≤ size) = false := by simp; omega
      go_enter Tryd.func25, Tryd.ntmps25
      go_wp2
      go_ret
      exact ⟨retb H.out.symm, rfl⟩
  by_cases m2 : many = 2
  · subst m2
    by_cases z : addr % 2 = 0
    · by_cases y : addr + 2 ≤ size
      · have H := Lib.hid (show rtB size addr 2 = true by unfold rtB; simp; omega)
        have z1 : (addr % 2 == 0) = true := by simp [z]
        have z2 : decide (addr + 2 ≤ size) = true := by simp [y]
        clear z
        go_enter Tryd.func25, Tryd.ntmps25
        go_wp2
        go_ret
        exact ⟨retb H.out.symm, rfl⟩
      · have H := Lib.hid (show rtB size addr 2 = false by unfold rtB; simp; omega)
        have z1 : (addr % 2 == 0) = true := by simp [z]
        have z2 : decide (addr + 2 ≤ size) = false := by simp; omega
        clear z
        go_enter Tryd.func25, Tryd.ntmps25
        go_wp2
        go_ret
        exact ⟨retb H.out.symm, rfl⟩
    · have H := Lib.hid (show rtB size addr 2 = false by unfold rtB; simp; omega)
      have z1 : (addr % 2 == 0) = false := by simp [z]
      clear z
      go_enter Tryd.func25, Tryd.ntmps25
      go_wp2
      go_ret
      exact ⟨retb H.out.symm, rfl⟩
  by_cases m4 : many = 4
  · subst m4
    by_cases z : addr % 4 = 0
    · by_cases y : addr + 4 ≤ size
      · have H := Lib.hid (show rtB size addr 4 = true by unfold rtB; simp; omega)
        have z1 : (addr % 4 == 0) = true := by simp [z]
        have z2 : decide (addr + 4 ≤ size) = true := by simp [y]
        clear z
        go_enter Tryd.func25, Tryd.ntmps25
        go_wp2
        go_ret
        exact ⟨retb H.out.symm, rfl⟩
      · have H := Lib.hid (show rtB size addr 4 = false by unfold rtB; simp; omega)
        have z1 : (addr % 4 == 0) = true := by simp [z]
        have z2 : decide (addr + 4 ≤ size) = false := by simp; omega
        clear z
        go_enter Tryd.func25, Tryd.ntmps25
        go_wp2
        go_ret
        exact ⟨retb H.out.symm, rfl⟩
    · have H := Lib.hid (show rtB size addr 4 = false by unfold rtB; simp; omega)
      have z1 : (addr % 4 == 0) = false := by simp [z]
      clear z
      go_enter Tryd.func25, Tryd.ntmps25
      go_wp2
      go_ret
      exact ⟨retb H.out.symm, rfl⟩
  have H := Lib.hid (show rtB size addr many = false by unfold rtB; simp [m1, m2, m4])
  have z1 : (many != 1) = true := by simp [m1]
  have z2 : (many != 2) = true := by simp [m2]
  have z4 : (many != 4) = true := by simp [m4]
  clear m1 m2 m4
  go_enter Tryd.func25, Tryd.ntmps25
  go_wp2
  go_ret
  exact ⟨retb H.out.symm, rfl⟩

theorem rtB_facts {size addr many : Int} (h : rtB size addr many = true) : (many = 1 ∨ many = 2 ∨ many = 4) ∧ addr % many = 0 ∧ addr + many ≤ size := by unfold rtB at h; simpa using h

end Go.Proofs.YtaokhegbfaokdaaDoor

/- THE CONTRACT of Write, of package mem. -/
namespace Go.Proofs.YtaokhegbfaokdaaDoor
open Go.ChangeShapes Go.WideShapes Go.ChangeAt Go.RowKit Go.Lib
set_option maxRecDepth 100000
set_option linter.unusedVariables false

/-- the bytes behind a write -/
def wrL (m b : ByteArray) (A : Nat) : List UInt8 := m.data.toList.take A ++ b.data.toList ++ m.data.toList.drop (A + b.size)
def wrS (m b : ByteArray) (A : Nat) : ByteArray := ⟨(wrL m b A).toArray⟩
theorem grow_below {w w' : World} (h : w.grownBy w' none) : Below w.heap.size w w' := (Below.refl _ _).grown h (Nat.le_refl _) (fun k hk => by cases hk)

/-- a string's bytes as a slice -/
theorem conv_str (w : World) (m : ByteArray) (hm : m.size ≤ maxLen) :
    ∃ cap w1, (convert 9 53 (.string m)).run Tryd.prog w = .ok (.slice (some ⟨w.heap.size, 0, none⟩) m.size cap) w1 ∧ m.size ≤ cap ∧ cap ≤ maxLen ∧ w1.heap.size = w.heap.size + 1 ∧ Below w.heap.size w w1 ∧
      ∀ j, j < m.size → w1.cell? ⟨w.heap.size, j, none⟩ = some (.int .u8 (m.data.toList.getD j 0).toNat) := by
  refine ⟨_, _, Go.Lib.run_convert_string_bytes w 9 53 5 m Tryd.underlying9 Tryd.underlying53 Tryd.underlying5, grownCap_ge _ _ _ _, grownCap_le_maxLen _ _ _ _ hm, bytesWorld_size _ _ _, ?_, fun j hj => bytesWorld_cell _ _ _ j hj⟩
  exact grow_below ⟨rfl, rfl, rfl, by rw [bytesWorld_size]; omega, fun k hk _ => bytesWorld_at_old _ _ _ k hk⟩

/-- bytes behind a beginning without room -/
theorem app_cut (w : World) (B n : Nat) (b : ByteArray) (m : ByteArray) (hn : n ≤ m.size) (hb : 0 < b.size) (hs : m.size ≤ 1000000) (hbs : b.size ≤ 1000000)
    (hc : ∀ j, j < m.size → w.cell? ⟨B, j, none⟩ = some (.int .u8 (m.data.toList.getD j 0).toNat)) (ty : TypeId) :
    ∃ v w1, (Builtin.append_ #[53, 9] ty #[.slice (some ⟨B, 0, none⟩) n n, .string b]).run Tryd.prog w = .ok v w1 ∧
      w1.ownsRow w.heap.size 5 1 v (n + b.size) ((m.data.toList.take n ++ b.data.toList).map fun x => Value.int .u8 x.toNat) ∧ Below w.heap.size w w1 ∧ w.heap.size ≤ w1.heap.size ∧ (v = .slice none 0 0 → False) := by
  obtain ⟨i0, hi, hz0, hz1, hz2⟩ := info_parts info_byte
  have hll : m.data.toList.length = m.size := rfl
  have hbl : b.data.toList.length = b.size := rfl
  have hol : ((m.data.toList.take n).map fun x : UInt8 => Value.int .u8 x.toNat).length = n * i0.size := by rw [hz1]; simp; omega
  have hr := run_append_grow_string (P := Tryd.prog) (w := w) 53 9 ty 5 i0 (.int .u8 0) Tryd.underlying53 Tryd.underlying9 hi hz0 ⟨B, 0, none⟩ n n ((m.data.toList.take n).map fun x => Value.int .u8 x.toNat) hol (fun j v hj => by
      have hadd : (⟨B, 0, none⟩ : Addr).add j = ⟨B, j, none⟩ := by unfold Addr.add; split <;> simp_all
      rw [List.getElem?_map, List.getElem?_take] at hj
      by_cases hjn : j < n
      · rw [if_pos hjn, List.getElem?_eq_getElem (by omega)] at hj
        rw [hadd, hc j (by omega), ← hj]
        simp [List.getD, List.getElem?_eq_getElem (show j < m.data.toList.length by omega)]
      · rw [if_neg hjn] at hj
        cases hj) b (by omega) (by omega) (by rw [hz2]; exact growslice_fits (by omega) (by omega))
  have hge := grownCap_ge w (n + b.size) n 5
  have hcm : grownCap w (n + b.size) n 5 ≤ maxLen := grownCap_le_maxLen w (n + b.size) n 5 (by unfold maxLen; omega)
  generalize grownCap w (n + b.size) n 5 = cap at *
  refine ⟨_, _, hr, ⟨by simp; omega, .inr ⟨w.heap.size, _, _, rfl, Nat.le_refl _, heap_alloc_new w.drew _, hge, hcm, ?_, ?_⟩⟩, grow_below ⟨rfl, rfl, rfl, by simp, fun k hk _ => heap_alloc_old w.drew _ hk⟩, by simp, fun h => by cases h⟩
  · have hz1 : (Value.int IntKind.u8 0).cells.size = 1 := rfl
    simp only [Array.size_append, List.size_toArray, size_zeroCells, hz1, strCells_length]
    simp
    omega
  · simp only [Array.toList_append, List.append_assoc]
    have e : strCells b = b.data.toList.map fun x : UInt8 => Value.int .u8 x.toNat := by simp [strCells]
    rw [e, ← List.append_assoc, ← List.map_append]
    exact List.take_left' (by simp; omega)

set_option maxHeartbeats 1000000
theorem strOfNums_nat (l : List UInt8) : strOfNums (l.map fun x => (x.toNat : Int)) = ⟨l.toArray⟩ := by
  unfold strOfNums
  rw [List.map_map]
  congr 2
  conv => rhs; rw [← List.map_id l]
  apply List.map_congr_left
  intro x _
  simp
theorem map_u8 (xs : List UInt8) : (xs.map fun x : UInt8 => Value.int .u8 x.toNat) = (xs.map fun x => (x.toNat : Int)).map (Value.int .u8) := by simp
end Go.Proofs.YtaokhegbfaokdaaDoor

/- PLAIN MATHEMATICS of bytes: what a write makes, what a piece is. -/
namespace Go.Proofs.YtaokhegbfaokdaaDoor
set_option maxRecDepth 100000

theorem ba_ext {a b : ByteArray} (h : ∀ k : Nat, a.data.toList[k]? = b.data.toList[k]?) : a = b := by
  cases a with | mk x => cases b with | mk y =>
  congr 1
  apply Array.ext'
  exact List.ext_getElem? h
theorem ba_len (a : ByteArray) : a.data.toList.length = a.size := rfl
theorem wr_size (m b : ByteArray) (A : Nat) (h : A + b.size ≤ m.size) : (wrS m b A).size = m.size := by
  have h1 := ba_len m
  have h2 := ba_len b
  show (wrL m b A).toArray.size = _
  unfold wrL
  simp
  omega
theorem wr_get (m b : ByteArray) (A : Nat) (h : A + b.size ≤ m.size) (k : Nat) :
    (wrS m b A).data.toList[k]? = if A ≤ k ∧ k < A + b.size then b.data.toList[k - A]? else m.data.toList[k]? := by
  have h1 := ba_len m
  have h2 := ba_len b
  show (wrL m b A)[k]? = _
  unfold wrL
  rw [List.append_assoc, List.getElem?_append, List.length_take, List.getElem?_append]
  by_cases c1 : k < A
  · rw [if_pos (by omega), if_neg (by omega), List.getElem?_take, if_pos c1]
  · rw [if_neg (by omega)]
    by_cases c2 : k < A + b.size
    · rw [if_pos (by omega), if_pos (by omega)]
      congr 1
      omega
    · rw [if_neg (by omega), if_neg (by omega), List.getElem?_drop]
      congr 1
      omega
theorem ex_data (s : ByteArray) (i j : Nat) : (s.extract i j).data.toList = (s.data.toList.take j).drop i := by
  rw [ByteArray.data_extract]
  simp [List.extract_eq_take_drop, List.drop_take]
theorem ex_get (s : ByteArray) (i j k : Nat) : (s.extract i j).data.toList[k]? = if i + k < j then s.data.toList[i + k]? else none := by
  rw [ex_data, List.getElem?_drop, List.getElem?_take]
theorem ex_size (s : ByteArray) (i j : Nat) (h : i ≤ j) (h2 : j ≤ s.size) : (s.extract i j).size = j - i := by
  have := ba_len (s.extract i j)
  have h1 := ba_len s
  rw [← this, ex_data]
  simp
  omega

/-- what is written is read -/
theorem wr_read (m b : ByteArray) (A : Nat) (h : A + b.size ≤ m.size) : (wrS m b A).extract A (A + b.size) = b := by
  refine ba_ext fun k => ?_
  rw [ex_get, wr_get m b A h]
  have h2 := ba_len b
  by_cases c : k < b.size
  · rw [if_pos (by omega), if_pos (by omega)]
    congr 1
    omega
  · rw [if_neg (by omega), List.getElem?_eq_none (by omega)]
theorem wr_other (m b : ByteArray) (A o n : Nat) (h : A + b.size ≤ m.size) (hd : o + n ≤ A ∨ A + b.size ≤ o) : (wrS m b A).extract o (o + n) = m.extract o (o + n) := by
  refine ba_ext fun k => ?_
  rw [ex_get, ex_get]
  by_cases c : o + k < o + n
  · rw [if_pos c, if_pos c, wr_get m b A h, if_neg (by omega)]
  · rw [if_neg c, if_neg c]
theorem wr_twice (m b : ByteArray) (A : Nat) (h : A + b.size ≤ m.size) : wrS (wrS m b A) b A = wrS m b A := by
  refine ba_ext fun k => ?_
  rw [wr_get _ b A (by rw [wr_size m b A h]; exact h), wr_get m b A h]
  by_cases c : A ≤ k ∧ k < A + b.size
  · rw [if_pos c, if_pos c]
  · rw [if_neg c, if_neg c]
theorem wr_comm (m x y : ByteArray) (A B : Nat) (h : A + x.size ≤ m.size) (h' : B + y.size ≤ m.size) (hd : A + x.size ≤ B ∨ B + y.size ≤ A) :
    wrS (wrS m x A) y B = wrS (wrS m y B) x A := by
  refine ba_ext fun k => ?_
  rw [wr_get _ y B (by rw [wr_size m x A h]; exact h'), wr_get m x A h, wr_get _ x A (by rw [wr_size m y B h']; exact h), wr_get m y B h']
  by_cases c : A ≤ k ∧ k < A + x.size
  · rw [if_neg (by omega), if_pos c, if_pos c]
  · by_cases d : B ≤ k ∧ k < B + y.size
    · rw [if_pos d, if_neg c, if_pos d]
    · rw [if_neg d, if_neg c, if_neg c, if_neg d]

open Go.ChangeShapes Go.WideShapes Go.ChangeAt Go.RowKit Go.Lib
end Go.Proofs.YtaokhegbfaokdaaDoor

/- THE CONTRACT of Clean, of package mem. -/
namespace Go.Proofs.YtaokhegbfaokdaaDoor
open Go.ChangeShapes Go.WideShapes Go.ChangeAt Go.RowKit Go.Lib
set_option linter.unusedVariables false
set_option linter.unusedSimpArgs false

/-- how many bytes a memory of so many has -/
def clN (k : Nat) : Nat := if k ≤ 16 then 16 else if k ≤ 32 then 32 else if k ≤ 64 then 64 else if k ≤ 128 then 128 else 256
def clL (m : ByteArray) : List UInt8 := m.data.toList.take 256 ++ List.replicate (clN (min m.size 256) - min m.size 256) 0
def clS (m : ByteArray) : ByteArray := ⟨(clL m).toArray⟩
theorem clN_ge (k : Nat) (h : k ≤ 256) : k ≤ clN k := by unfold clN; split; omega; split; omega; split; omega; split <;> omega
theorem clN_of (k : Nat) : clN k = 16 ∨ clN k = 32 ∨ clN k = 64 ∨ clN k = 128 ∨ clN k = 256 := by unfold clN; split; simp; split; simp; split; simp; split <;> simp
theorem clN_exit (k s : Nat) (hk : k ≤ 256) (hs : s = 16 ∨ s = 32 ∨ s = 64 ∨ s = 128 ∨ s = 256) (h : s = 16 ∨ s < 2 * k) (he : k ≤ s) : clN k = s := by
  unfold clN
  split
  · omega
  · split
    · omega
    · split
      · omega
      · split <;> omega
theorem clL_len (m : ByteArray) : (clL m).length = clN (min m.size 256) := by
  have h1 := ba_len m
  have h2 := clN_ge (min m.size 256) (Nat.min_le_right _ _)
  unfold clL
  rw [List.length_append, List.length_take, List.length_replicate]
  omega
theorem clS_size (m : ByteArray) : (clS m).size = clN (min m.size 256) := clL_len m
theorem clS_get (m : ByteArray) (j : Nat) (hj : j < min m.size 256) : (clS m).data.toList[j]? = m.data.toList[j]? := by
  have h1 := ba_len m
  show (clL m)[j]? = _
  unfold clL
  rw [List.getElem?_append_left (by rw [List.length_take]; omega), List.getElem?_take, if_pos (by omega)]
theorem clS_pre (m : ByteArray) (k : Nat) (hk : k ≤ min m.size 256) : (clS m).extract 0 k = m.extract 0 k := by
  refine ba_ext fun j => ?_
  rw [ex_get, ex_get]
  by_cases c : 0 + j < k
  · rw [if_pos c, if_pos c, clS_get m (0 + j) (by omega)]
  · rw [if_neg c, if_neg c]
theorem clS_twice (m : ByteArray) : clS (clS m) = clS m := by
  have hs := clS_size m
  have hn := clN_of (min m.size 256)
  have hc : clN (min (clS m).size 256) = (clS m).size := by
    rw [hs]
    rcases hn with e | e | e | e | e <;> rw [e] <;> rfl
  have hm : min (clS m).size 256 = (clS m).size := by omega
  refine ba_ext fun j => ?_
  show (clL (clS m))[j]? = _
  unfold clL
  rw [hc, hm, Nat.sub_self, List.replicate_zero, List.append_nil, List.take_of_length_le (by rw [ba_len]; omega)]

theorem strCells_eq (b : ByteArray) : byteCells b.data.toList = (b.data.toList.map fun x : UInt8 => (x.toNat : Int)).map (Value.int .u8) := by simp [byteCells]

/-- a string that fits is copied over zeros -/
theorem copy_over {w : World} {B g s : Nat} (h : w.ownsRow B 5 1 (.slice (some ⟨g, 0, none⟩) s s) s ((List.replicate s (0 : Int)).map (Value.int .u8))) (t : ByteArray) (ht : t.size ≤ s) (ty : TypeId) :
    ∃ w1, (Builtin.copy_ #[53, 9] ty #[.slice (some ⟨g, 0, none⟩) s s, .string t]).run Tryd.prog w = .ok (goInt t.size) w1 ∧
      w1.ownsRow B 5 1 (.slice (some ⟨g, 0, none⟩) s s) s (((t.data.toList ++ List.replicate (s - t.size) 0).map fun x : UInt8 => (x.toNat : Int)).map (Value.int .u8)) ∧ w.grownBy w1 (some g) := by
  obtain ⟨i0, hi, hz0, hz1, hz2⟩ := info_parts info_byte
  have hl := ba_len t
  rcases h.2 with ⟨h0, _⟩ | ⟨g', cap, cur, hv, hb, hg, hnc, hcm, hcs, htk⟩
  · cases h0
  · injection hv with e1 e2 e3
    injection e1 with e1
    injection e1 with e1
    subst e1 e3
    have hcl : cur.toList.length = s := by simpa using hcs
    rw [Nat.mul_one, List.take_of_length_le (by omega)] at htk
    have hr := run_copy_row_string (P := Tryd.prog) w 53 9 ty 5 g 0 s s t cur 5 Tryd.underlying53 (by rw [hi]; simp [hz1]) hg ht (by rw [Nat.zero_add]; simpa using (show t.size ≤ cur.toList.length by omega))
    rw [Nat.zero_add, List.take_zero, List.nil_append, htk, strCells_eq, ← List.map_drop, List.drop_replicate] at hr
    have e : ((t.data.toList.map fun x : UInt8 => (x.toNat : Int)).map (Value.int .u8) ++ (List.replicate (s - t.size) (0 : Int)).map (Value.int .u8)) = ((t.data.toList ++ List.replicate (s - t.size) (0 : UInt8)).map fun x : UInt8 => (x.toNat : Int)).map (Value.int .u8) := by
      simp
    rw [e] at hr
    have hlen : (((t.data.toList ++ List.replicate (s - t.size) (0 : UInt8)).map fun x : UInt8 => (x.toNat : Int)).map (Value.int .u8)).length = s := by simp; omega
    generalize ((t.data.toList ++ List.replicate (s - t.size) (0 : UInt8)).map fun x : UInt8 => (x.toNat : Int)).map (Value.int .u8) = xs at *
    refine ⟨_, hr, ⟨by simpa using hlen, .inr ⟨g, s, _, rfl, hb, setRow_heap w g cur _ 5 _ hg, Nat.le_refl _, hcm, by simpa using hlen, by rw [Nat.mul_one]; exact List.take_of_length_le (Nat.le_of_eq hlen)⟩⟩, ⟨rfl, rfl, rfl, by simp, fun k _ hk => setRow_other w g k _ (fun e => hk (by rw [e]))⟩⟩
theorem strOfNums_nat' (l : List UInt8) : strOfNums (l.map fun x => (x.toNat : Int)) = ⟨l.toArray⟩ := strOfNums_nat l

set_option maxHeartbeats 1000000
set_option maxRecDepth 100000
end Go.Proofs.YtaokhegbfaokdaaDoor
