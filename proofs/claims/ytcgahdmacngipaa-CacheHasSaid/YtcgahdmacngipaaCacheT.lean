/- MORE MATHEMATICS of package cache, for CacheHas: what was put or touched stands first, of a cache that may be. -/
import Derived.Test.YtcgahdmacngipaaCacheP
namespace Go.Proofs.Ytcgahdmacngipaa
set_option maxRecDepth 100000
set_option linter.unusedVariables false
set_option linter.unusedSimpArgs false

def nd (s : List Wy) : Prop := s.Pairwise (fun a b => a.line ≠ b.line)
theorem place_none {l : List Wy} {line : Int} (h : ∀ x ∈ l, x.line ≠ line) : placeI l line < 0 := by
  unfold placeI
  rw [idxP_none _ _ (fun y hy => by simp [isL, h y hy])]
  decide
theorem nd_of {s : List Wy} (h : ∀ (j : Nat) (r : Wy), s[j]? = some r → placeI (s.take j) r.line < 0) : nd s := by
  unfold nd
  rw [List.pairwise_iff_getElem]
  intro i j hi hj hij he
  have h1 := place_neg (h j s[j] (List.getElem?_eq_getElem hj)) s[i] (List.mem_iff_getElem?.2 ⟨i, by rw [List.getElem?_take, if_pos hij]; exact List.getElem?_eq_getElem hi⟩)
  simp [he] at h1
theorem of_nd {s : List Wy} (h : nd s) {j : Nat} {r : Wy} (hj : s[j]? = some r) : placeI (s.take j) r.line < 0 := by
  refine place_none fun x hx he => ?_
  obtain ⟨i, hi⟩ := List.getElem?_of_mem hx
  rw [List.getElem?_take] at hi
  by_cases hij : i < j
  · rw [if_pos hij] at hi
    obtain ⟨h1, h2⟩ := List.getElem?_eq_some_iff.1 hi
    obtain ⟨h3, h4⟩ := List.getElem?_eq_some_iff.1 hj
    have := (List.pairwise_iff_getElem.1 h) i j h1 h3 hij
    rw [h2, h4] at this
    exact this he
  · rw [if_neg hij] at hi
    cases hi
theorem right_of {ways : Int} {ss : List (List Wy)} (h1 : ss.length = 1 ∨ ss.length = 2 ∨ ss.length = 4) (h2 : ways = 1 ∨ ways = 2)
    (h : ∀ (k : Nat) (s : List Wy), ss[k]? = some s → (s.length : Int) ≤ ways ∧ nd s ∧ ∀ r ∈ s, r.line % 16 = 0 ∧ setI ss.length r.line = k ∧ (r.data.size = 16 ∨ r.data.size = 0)) : rightC ways ss = true := by
  unfold rightC
  simp only [Bool.and_eq_true, Bool.or_eq_true, beq_iff_eq]
  refine ⟨by unfold numB; simpa using h1, h2, allR_true fun k hk => ?_⟩
  obtain ⟨s, hs⟩ : ∃ s, ss[k]? = some s := ⟨_, List.getElem?_eq_getElem hk⟩
  obtain ⟨a, b, c⟩ := h k s hs
  unfold setsB
  rw [hs]
  simp only [Bool.and_eq_true, decide_eq_true_eq]
  refine ⟨a, allR_true fun j hj => ?_⟩
  obtain ⟨r, hr⟩ : ∃ r, s[j]? = some r := ⟨_, List.getElem?_eq_getElem hj⟩
  obtain ⟨c1, c2, c3⟩ := c r (List.mem_of_getElem? hr)
  unfold wayB
  rw [hr]
  simp only [Bool.and_eq_true, Bool.or_eq_true, beq_iff_eq, decide_eq_true_eq]
  exact ⟨c1, c2, of_nd b hr, c3⟩
theorem right_set {ways : Int} {ss : List (List Wy)} (hr : rightC ways ss = true) {k : Nat} {s : List Wy} (hsk : ss[k]? = some s) (y : Wy) (t : List Wy) (ht : t.Sublist s) (hl : (t.length : Int) + 1 ≤ ways)
    (hy : y.line % 16 = 0 ∧ setI ss.length y.line = k ∧ (y.data.size = 16 ∨ y.data.size = 0)) (hn : ∀ x ∈ t, x.line ≠ y.line) : rightC ways (ss.set k (y :: t)) = true := by
  obtain ⟨h1, h2, h3⟩ := right_at hr
  refine right_of (by rw [List.length_set]; exact h1) h2 fun j s' hs' => ?_
  rw [List.length_set]
  by_cases hjk : k = j
  · subst hjk
    rw [List.getElem?_set_self (List.getElem?_eq_some_iff.1 hsk).1] at hs'
    cases hs'
    obtain ⟨a, b⟩ := h3 k s hsk
    have hnd : nd s := nd_of fun j r hj => (b j r hj).2.2.1
    refine ⟨by rw [List.length_cons]; push_cast; omega, List.pairwise_cons.2 ⟨fun x hx he => hn x hx he.symm, hnd.sublist ht⟩, fun r hr' => ?_⟩
    rcases List.mem_cons.1 hr' with rfl | hr'
    · exact hy
    · obtain ⟨j, hj⟩ := List.getElem?_of_mem (ht.subset hr')
      obtain ⟨b1, b2, _, b4⟩ := b j r hj
      exact ⟨b1, b2, b4⟩
  · rw [List.getElem?_set_ne hjk] at hs'
    obtain ⟨a, b⟩ := h3 j s' hs'
    refine ⟨a, nd_of fun i r hi => (b i r hi).2.2.1, fun r hr' => ?_⟩
    obtain ⟨i, hi⟩ := List.getElem?_of_mem hr'
    obtain ⟨b1, b2, _, b4⟩ := b i r hi
    exact ⟨b1, b2, b4⟩
/-- a set whose first way is the line's -/
theorem find_first {ways : Int} {ss : List (List Wy)} {line : Int} (hr : rightC ways ss = true) {k : Nat} {y : Wy} {t : List Wy} (hk : setI ss.length (line - line % 16) = k) (hsk : ss[k]? = some (y :: t)) (hy : y.line = line - line % 16) :
    findS ways ss line = ((k : Int), 0, true) ∧ touchS ways ss line = ss := by
  have hp : placeI (y :: t) (line - line % 16) = 0 := by
    unfold placeI idxP
    rw [if_pos (by simp [isL, hy])]
  have hf : findS ways ss line = ((k : Int), 0, true) := by
    unfold findS
    rw [if_pos hr, hk, Int.toNat_natCast, List.getD_eq_getElem?_getD, hsk, Option.getD_some, hp, if_neg (by omega)]
  refine ⟨hf, ?_⟩
  unfold touchS
  rw [hf, if_pos rfl]
  simp only [Int.toNat_natCast]
  unfold setAt toF
  rw [Int.toNat_natCast, List.getD_eq_getElem?_getD, hsk, Option.getD_some]
  simp only [Int.toNat_zero, List.getElem?_cons_zero, List.take_zero, List.nil_append, Nat.zero_add, List.drop_succ_cons, List.drop_zero]
  have hkl := (List.getElem?_eq_some_iff.1 hsk)
  obtain ⟨h1, h2⟩ := hkl
  rw [← h2]
  exact List.set_getElem_self h1
theorem erase_sub (s : List Wy) (i : Nat) : (s.take i ++ s.drop (i + 1)).Sublist s := by
  rw [← List.eraseIdx_eq_take_drop_succ]
  exact List.eraseIdx_sublist ..
end Go.Proofs.Ytcgahdmacngipaa
