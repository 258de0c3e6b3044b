/- MORE MATHEMATICS of package pick: the first one, the order, no two of one unit. -/
import Derived.Test.YtebeelphilfjhaaPickE
namespace Go.Proofs.Ytebeelphilfjhaa
open Go.ChangeShapes Go.WideShapes Go.ChangeAt Go.RowKit Go.Maps

def cntU (ks : List Int) (u : Nat) (l : List Nat) : Nat := (l.filter fun j => unitN ks j == u).length
theorem cntU_snoc (ks : List Int) (u : Nat) (l : List Nat) (k : Nat) : cntU ks u (l ++ [k]) = cntU ks u l + if unitN ks k = u then 1 else 0 := by
  unfold cntU
  rw [List.filter_append, List.length_append]
  congr 1
  by_cases h : unitN ks k = u
  · simp [h]
  · simp [h]
theorem cntU_take (ks : List Int) (u : Nat) (l : List Nat) (j : Nat) (hj : j < l.length) : cntU ks u (l.take (j + 1)) = cntU ks u (l.take j) + if unitN ks l[j] = u then 1 else 0 := by
  rw [List.take_succ_eq_append_getElem hj, cntU_snoc]
theorem cntU_has {ks : List Int} {u : Nat} {l : List Nat} (h : has ks l u = false) : cntU ks u l = 0 := by
  unfold cntU
  rw [List.length_eq_zero_iff, List.filter_eq_nil_iff]
  intro j hj
  unfold has at h
  rw [List.any_eq_false] at h
  simpa using h j hj
section
variable {width : Int} {busy : Bool} {ks : List Int} {cs : List Bool}
theorem okP_parts {out : List Nat} {k : Nat} (h : okP width busy ks cs out k = true) : cs.getD k false = true ∧ (out.length : Int) < width ∧ (unitN ks k = 0 → busy = false ∧ has ks out 0 = false) ∧ (unitN ks k = 1 → has ks out 1 = false) := by
  unfold okP at h
  simp only [Bool.and_eq_true, decide_eq_true_eq, Bool.not_eq_true'] at h
  obtain ⟨⟨⟨h1, h2⟩, h3⟩, h4⟩ := h
  refine ⟨h1, h2, fun e => ?_, fun e => ?_⟩
  · rw [e] at h3; simpa using h3
  · rw [e] at h4; simpa using h4
theorem outP_facts (k : Nat) : ((outP width busy ks cs k).length : Int) ≤ max width 0 ∧ (∀ j ∈ outP width busy ks cs k, cs.getD j false = true) ∧ (outP width busy ks cs k).Pairwise (· < ·) ∧ cntU ks 1 (outP width busy ks cs k) ≤ 1 ∧ cntU ks 0 (outP width busy ks cs k) ≤ 1 ∧ (busy = true → cntU ks 0 (outP width busy ks cs k) = 0) := by
  induction k with
  | zero => exact ⟨by simp [outP]; omega, fun j hj => (by cases hj), List.Pairwise.nil, by simp [outP, cntU], by simp [outP, cntU], fun _ => by simp [outP, cntU]⟩
  | succ k ih =>
    obtain ⟨i1, i2, i3, i4, i5, i6⟩ := ih
    cases h : okP width busy ks cs (outP width busy ks cs k) k
    · rw [outP_no h]; exact ⟨i1, i2, i3, i4, i5, i6⟩
    · obtain ⟨o1, o2, o3, o4⟩ := okP_parts h
      rw [outP_yes h]
      have hlt := outP_lt (width := width) (busy := busy) (ks := ks) (cs := cs) k
      refine ⟨by rw [List.length_append]; simp; omega, fun j hj => ?_, ?_, ?_, ?_, fun hb => ?_⟩
      · rcases List.mem_append.1 hj with hj | hj
        · exact i2 j hj
        · rw [List.mem_singleton.1 hj]; exact o1
      · rw [List.pairwise_append]
        exact ⟨i3, List.pairwise_singleton _ _, fun a ha b hb => by rw [List.mem_singleton.1 hb]; exact hlt a ha⟩
      · rw [cntU_snoc]
        split
        · rename_i e; rw [cntU_has (o4 e)]; omega
        · omega
      · rw [cntU_snoc]
        split
        · rename_i e; rw [cntU_has (o3 e).2]; omega
        · omega
      · rw [cntU_snoc, i6 hb, if_neg (fun e => by have := (o3 e).1; rw [hb] at this; cases this)]
theorem outP_pre (c : Nat) : ∀ d, ∃ t, outP width busy ks cs (c + d) = outP width busy ks cs c ++ t ∧ ∀ j ∈ t, c ≤ j
  | 0 => ⟨[], by simp, fun j hj => by cases hj⟩
  | d + 1 => by
    obtain ⟨t, h1, h2⟩ := outP_pre c d
    rw [show c + (d + 1) = (c + d) + 1 by omega]
    cases h : okP width busy ks cs (outP width busy ks cs (c + d)) (c + d)
    · rw [outP_no h]; exact ⟨t, h1, h2⟩
    · rw [outP_yes h, h1]
      refine ⟨t ++ [c + d], by simp, fun j hj => ?_⟩
      rcases List.mem_append.1 hj with hj | hj
      · exact h2 j hj
      · rw [List.mem_singleton.1 hj]; omega
/-- none can so far: none does -/
theorem outP_none (k : Nat) (h : ∀ j, j < k → cs.getD j false = false) : outP width busy ks cs k = [] := by
  induction k with
  | zero => rfl
  | succ k ih =>
    rw [outP_no, ih (fun j hj => h j (by omega))]
    unfold okP
    rw [h k (by omega)]
    rfl
theorem outP_first {i n : Nat} (hi : i < n) (h : ∀ j, j < i → cs.getD j false = false) (hc : cs.getD i false = true) :
    (width < 1 → outP width busy ks cs n = []) ∧ (1 ≤ width → ¬ (busy = true ∧ unitN ks i = 0) → ∃ t, outP width busy ks cs n = i :: t) := by
  constructor
  · intro hw
    have := (outP_facts (width := width) (busy := busy) (ks := ks) (cs := cs) n).1
    exact List.eq_nil_of_length_eq_zero (by omega)
  · intro hw hb
    have h0 := outP_none (width := width) (busy := busy) (ks := ks) i h
    have hok : okP width busy ks cs (outP width busy ks cs i) i = true := by
      rw [h0]
      unfold okP
      rw [hc]
      have : decide ((([] : List Nat).length : Int) < width) = true := by simp; omega
      rw [this]
      cases busy
      · simp [has]
      · have : (unitN ks i == 0) = false := by simpa using fun e => hb ⟨rfl, e⟩
        rw [this]
        simp [has]
    have h1 : outP width busy ks cs (i + 1) = [i] := by rw [outP_yes hok, h0]; rfl
    obtain ⟨d, rfl⟩ : ∃ d, n = (i + 1) + d := ⟨n - (i + 1), by omega⟩
    obtain ⟨t, ht, _⟩ := outP_pre (width := width) (busy := busy) (ks := ks) (cs := cs) (i + 1) d
    exact ⟨t, by rw [ht, h1]; rfl⟩
/-- those of the beginning alone -/
theorem outP_cut {c n : Nat} (_hc : c ≤ n) : outP width busy ks (cs.take c) c = outP width busy ks cs c := by
  suffices h : ∀ k, k ≤ c → outP width busy ks (cs.take c) k = outP width busy ks cs k from h c (Nat.le_refl _)
  intro k hk
  induction k with
  | zero => rfl
  | succ k ih =>
    have e := ih (by omega)
    have eo : okP width busy ks (cs.take c) (outP width busy ks cs k) k = okP width busy ks cs (outP width busy ks cs k) k := by
      unfold okP
      rw [show (cs.take c).getD k false = cs.getD k false by simp [show k < c by omega]]
    rw [outP, outP, e, eo]
end

/-- the kind of an entry -/
def kindV (ks : List Int) (k : Nat) : Int := if k < ks.length then ks.getD k 0 else 0
theorem kind_unit (ks : List Int) (k : Nat) : (unitN ks k = 0 ↔ kindV ks k = 2) ∧ (unitN ks k = 1 ↔ kindV ks k = 3 ∨ kindV ks k = 4) := by
  unfold unitN kindV
  by_cases h : k < ks.length
  · rw [if_pos h, if_pos h]
    generalize ks.getD k 0 = v
    constructor <;> constructor <;> (intro e; revert e; (repeat' split) <;> omega)
  · rw [if_neg h, if_neg h]
    simp

end Go.Proofs.Ytebeelphilfjhaa
