/- MORE MATHEMATICS of package cache: touching, putting, writing, cleaning; and the document's own words for them. -/
import Derived.Test.YtcgahdmacngipaaCacheM
namespace Go.Proofs.Ytcgahdmacngipaa
set_option maxRecDepth 100000
set_option linter.unusedVariables false
set_option linter.unusedSimpArgs false

/-- one stands first, the others in order behind it -/
def toF (l : List Wy) (i : Nat) : List Wy := match l[i]? with
  | none => l
  | some x => x :: (l.take i ++ l.drop (i + 1))
def setAt (ss : List (List Wy)) (k : Int) : List Wy := ss.getD k.toNat []
def touchS (ways : Int) (ss : List (List Wy)) (line : Int) : List (List Wy) :=
  if (findS ways ss line).2.2 = true then ss.set (findS ways ss line).1.toNat (toF (setAt ss (findS ways ss line).1) (findS ways ss line).2.1.toNat) else ss
def zeroW : Wy := ⟨0, false, ByteArray.empty⟩
/-- what is put onto a way that stands there -/
def putOn (r : Wy) (data : ByteArray) (dirty : Bool) : Wy := ⟨r.line, r.dirty || dirty, if data.size = 16 then data else r.data⟩
def headF (f : Wy → Wy) : List Wy → List Wy
  | [] => []
  | x :: l => f x :: l
def newW (line : Int) (data : ByteArray) (dirty : Bool) : Wy := ⟨line - line % 16, dirty, if data.size = 16 then data else ByteArray.empty⟩
def putS (ways : Int) (ss : List (List Wy)) (line : Int) (data : ByteArray) (dirty : Bool) : List (List Wy) × Wy × Bool :=
  if rightC ways ss = true then
    (if (findS ways ss line).2.2 = true then (ss.set (findS ways ss line).1.toNat (headF (fun r => putOn r data dirty) (toF (setAt ss (findS ways ss line).1) (findS ways ss line).2.1.toNat)), zeroW, false)
     else if ((setAt ss (findS ways ss line).1).length : Int) + 1 ≤ ways then (ss.set (findS ways ss line).1.toNat (newW line data dirty :: setAt ss (findS ways ss line).1), zeroW, false)
     else (ss.set (findS ways ss line).1.toNat ((newW line data dirty :: setAt ss (findS ways ss line).1).take ways.toNat), (newW line data dirty :: setAt ss (findS ways ss line).1).getD ways.toNat zeroW, true))
  else (ss, zeroW, false)

/-- the document's: the one at the front, the others behind it -/
def firstS (ss : List (List Wy)) (r : Wy) : List (List Wy) := ss.set (setI ss.length r.line).toNat (r :: (setAt ss (setI ss.length r.line)).filter (fun x => x.line != r.line))

theorem right_at {ways : Int} {ss : List (List Wy)} (h : rightC ways ss = true) : (ss.length = 1 ∨ ss.length = 2 ∨ ss.length = 4) ∧ (ways = 1 ∨ ways = 2) ∧ ∀ (k : Nat) (s : List Wy), ss[k]? = some s →
    (s.length : Int) ≤ ways ∧ ∀ (j : Nat) (r : Wy), s[j]? = some r → r.line % 16 = 0 ∧ setI ss.length r.line = k ∧ placeI (s.take j) r.line < 0 ∧ (r.data.size = 16 ∨ r.data.size = 0) := by
  unfold rightC at h
  simp only [Bool.and_eq_true, Bool.or_eq_true, beq_iff_eq] at h
  obtain ⟨h1, h2, h3⟩ := h
  refine ⟨numB_of h1, h2, fun k s hk => ?_⟩
  have hkl := (List.getElem?_eq_some_iff.1 hk).1
  have h4 := allR_get h3 hkl
  unfold setsB at h4
  rw [hk] at h4
  simp only [Bool.and_eq_true, decide_eq_true_eq] at h4
  refine ⟨h4.1, fun j r hj => ?_⟩
  have hjl := (List.getElem?_eq_some_iff.1 hj).1
  have h5 := allR_get (show (List.range s.length).all (wayB ss.length k s) = true from h4.2) hjl
  unfold wayB at h5
  rw [hj] at h5
  simp only [Bool.and_eq_true, Bool.or_eq_true, beq_iff_eq, decide_eq_true_eq] at h5
  exact ⟨h5.1, h5.2.1, h5.2.2.1, h5.2.2.2⟩
theorem place_neg {l : List Wy} {line : Int} (h : placeI l line < 0) : ∀ x ∈ l, (x.line == line) = false := by
  intro x hx
  obtain ⟨h1, _, h2⟩ := idxP_any (isL line) l
  cases hq : x.line == line
  · rfl
  · have := h2.2 (List.any_eq_true.2 ⟨x, hx, hq⟩)
    unfold placeI at h
    omega
theorem place_pos {l : List Wy} {line : Int} (h : ¬ placeI l line < 0) : ∃ (i : Nat) (x : Wy), placeI l line = i ∧ i < l.length ∧ l[i]? = some x ∧ x.line = line ∧ ∀ y ∈ l.take i, (y.line == line) = false := by
  obtain ⟨h1, h0, h2⟩ := idxP_any (isL line) l
  unfold placeI at h
  obtain ⟨i, hi⟩ : ∃ i : Nat, idxP (isL line) l = i := ⟨(idxP (isL line) l).toNat, by omega⟩
  obtain ⟨x, hx, hp, hn⟩ := idxP_at (isL line) l i hi
  exact ⟨i, x, hi, (List.getElem?_eq_some_iff.1 hx).1, hx, by simpa [isL] using hp, hn⟩
/-- in a set without a line twice, the others are those ahead and those behind -/
theorem filter_others {s : List Wy} {i : Nat} {x : Wy} (hi : s[i]? = some x) (hnd : ∀ (j : Nat) (r : Wy), s[j]? = some r → placeI (s.take j) r.line < 0) :
    s.filter (fun y => y.line != x.line) = s.take i ++ s.drop (i + 1) := by
  have hil := (List.getElem?_eq_some_iff.1 hi).1
  have e : s = s.take i ++ x :: s.drop (i + 1) := by
    have h1 : s.drop i = x :: s.drop (i + 1) := by
      rw [List.drop_eq_getElem_cons hil]
      congr 1
      have := List.getElem?_eq_getElem hil
      rw [hi] at this
      exact (Option.some.inj this).symm
    rw [← h1, List.take_append_drop]
  have h1 : (s.take i).filter (fun y => y.line != x.line) = s.take i := by
    rw [List.filter_eq_self]
    intro y hy
    have := place_neg (hnd i x hi) y hy
    simp only [bne]
    rw [this]
    rfl
  have h2 : (s.drop (i + 1)).filter (fun y => y.line != x.line) = s.drop (i + 1) := by
    rw [List.filter_eq_self]
    intro y hy
    obtain ⟨j, hj⟩ := List.getElem?_of_mem hy
    rw [List.getElem?_drop] at hj
    have hxm : x ∈ s.take (i + 1 + j) := List.mem_iff_getElem?.2 ⟨i, by rw [List.getElem?_take, if_pos (by omega)]; exact hi⟩
    have := place_neg (hnd _ y hj) x hxm
    simp only [beq_eq_false_iff_ne, ne_eq] at this
    simp only [bne_iff_ne, ne_eq]
    exact fun h => this h.symm
  have h3 : (x :: s.drop (i + 1)).filter (fun y => y.line != x.line) = s.drop (i + 1) := by
    rw [List.filter_cons, if_neg (by simp), h2]
  have h4 := List.filter_append (p := fun y : Wy => y.line != x.line) (s.take i) (x :: s.drop (i + 1))
  rw [← e, h1, h3] at h4
  exact h4
end Go.Proofs.Ytcgahdmacngipaa
