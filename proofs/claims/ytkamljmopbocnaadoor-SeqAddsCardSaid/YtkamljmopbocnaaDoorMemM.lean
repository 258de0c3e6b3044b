/- PLAIN MATHEMATICS of bytes: what a write makes, what a piece is. -/
import Derived.Test.YtkamljmopbocnaaDoorMemW
namespace Go.Proofs.YtkamljmopbocnaaDoor
set_option maxRecDepth 100000

theorem ba_ext {a b : ByteArray} (h : ∀ k : Nat, a.data.toList[k]? = b.data.toList[k]?) : a = b := by
  cases a with | mk x => cases b with | mk y =>
  congr 1
  apply Array.ext'
  exact List.ext_getElem? h
theorem ba_len (a : ByteArray) : a.data.toList.length = a.size := rfl
theorem wr_size (m b : ByteArray) (A : Nat) (h : A + b.size ≤ m.size) : (wrS m b A).size = m.size := by
  have h1 := ba_len m
  have h2 := ba_len b
  show (wrL m b A).toArray.size = _
  unfold wrL
  simp
  omega
theorem wr_get (m b : ByteArray) (A : Nat) (h : A + b.size ≤ m.size) (k : Nat) :
    (wrS m b A).data.toList[k]? = if A ≤ k ∧ k < A + b.size then b.data.toList[k - A]? else m.data.toList[k]? := by
  have h1 := ba_len m
  have h2 := ba_len b
  show (wrL m b A)[k]? = _
  unfold wrL
  rw [List.append_assoc, List.getElem?_append, List.length_take, List.getElem?_append]
  by_cases c1 : k < A
  · rw [if_pos (by omega), if_neg (by omega), List.getElem?_take, if_pos c1]
  · rw [if_neg (by omega)]
    by_cases c2 : k < A + b.size
    · rw [if_pos (by omega), if_pos (by omega)]
      congr 1
      omega
    · rw [if_neg (by omega), if_neg (by omega), List.getElem?_drop]
      congr 1
      omega
theorem ex_data (s : ByteArray) (i j : Nat) : (s.extract i j).data.toList = (s.data.toList.take j).drop i := by
  rw [ByteArray.data_extract]
  simp [List.extract_eq_take_drop, List.drop_take]
theorem ex_get (s : ByteArray) (i j k : Nat) : (s.extract i j).data.toList[k]? = if i + k < j then s.data.toList[i + k]? else none := by
  rw [ex_data, List.getElem?_drop, List.getElem?_take]
theorem ex_size (s : ByteArray) (i j : Nat) (h : i ≤ j) (h2 : j ≤ s.size) : (s.extract i j).size = j - i := by
  have := ba_len (s.extract i j)
  have h1 := ba_len s
  rw [← this, ex_data]
  simp
  omega

/-- what is written is read -/
theorem wr_read (m b : ByteArray) (A : Nat) (h : A + b.size ≤ m.size) : (wrS m b A).extract A (A + b.size) = b := by
  refine ba_ext fun k => ?_
  rw [ex_get, wr_get m b A h]
  have h2 := ba_len b
  by_cases c : k < b.size
  · rw [if_pos (by omega), if_pos (by omega)]
    congr 1
    omega
  · rw [if_neg (by omega), List.getElem?_eq_none (by omega)]
theorem wr_other (m b : ByteArray) (A o n : Nat) (h : A + b.size ≤ m.size) (hd : o + n ≤ A ∨ A + b.size ≤ o) : (wrS m b A).extract o (o + n) = m.extract o (o + n) := by
  refine ba_ext fun k => ?_
  rw [ex_get, ex_get]
  by_cases c : o + k < o + n
  · rw [if_pos c, if_pos c, wr_get m b A h, if_neg (by omega)]
  · rw [if_neg c, if_neg c]
theorem wr_twice (m b : ByteArray) (A : Nat) (h : A + b.size ≤ m.size) : wrS (wrS m b A) b A = wrS m b A := by
  refine ba_ext fun k => ?_
  rw [wr_get _ b A (by rw [wr_size m b A h]; exact h), wr_get m b A h]
  by_cases c : A ≤ k ∧ k < A + b.size
  · rw [if_pos c, if_pos c]
  · rw [if_neg c, if_neg c]
theorem wr_comm (m x y : ByteArray) (A B : Nat) (h : A + x.size ≤ m.size) (h' : B + y.size ≤ m.size) (hd : A + x.size ≤ B ∨ B + y.size ≤ A) :
    wrS (wrS m x A) y B = wrS (wrS m y B) x A := by
  refine ba_ext fun k => ?_
  rw [wr_get _ y B (by rw [wr_size m x A h]; exact h'), wr_get m x A h, wr_get _ x A (by rw [wr_size m y B h']; exact h), wr_get m y B h']
  by_cases c : A ≤ k ∧ k < A + x.size
  · rw [if_neg (by omega), if_pos c, if_pos c]
  · by_cases d : B ≤ k ∧ k < B + y.size
    · rw [if_pos d, if_neg c, if_pos d]
    · rw [if_neg d, if_neg c, if_neg c, if_neg d]

open Go.ChangeShapes Go.WideShapes Go.ChangeAt Go.RowKit Go.Lib
end Go.Proofs.YtkamljmopbocnaaDoor
