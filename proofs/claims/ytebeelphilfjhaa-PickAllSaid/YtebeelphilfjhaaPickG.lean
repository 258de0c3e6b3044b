/- MORE MATHEMATICS of package pick, for PickAll: who starts where there is room for all; a map to bools. -/
import Derived.Test.YtebeelphilfjhaaPickF
namespace Go.Proofs.Ytebeelphilfjhaa
open Go.ChangeShapes Go.WideShapes Go.ChangeAt Go.RowKit Go.Maps

/-- does one that can, ahead of k, need this unit? -/
def anyU (ks : List Int) (cs : List Bool) (u : Nat) : Nat → Bool
  | 0 => false
  | k + 1 => anyU ks cs u k || (cs.getD k false && unitN ks k == u)
/-- may k start where there is room for all? -/
def okA (busy : Bool) (ks : List Int) (cs : List Bool) (k : Nat) : Bool :=
  cs.getD k false && !(unitN ks k == 0 && (busy || anyU ks cs 0 k)) && !(unitN ks k == 1 && anyU ks cs 1 k)
section
variable {busy : Bool} {ks : List Int} {cs : List Bool}
theorem all_has {n : Nat} (k : Nat) (hk : k ≤ n) : has ks (outP n busy ks cs k) 1 = anyU ks cs 1 k ∧ (busy || has ks (outP n busy ks cs k) 0) = (busy || anyU ks cs 0 k) := by
  induction k with
  | zero => exact ⟨rfl, rfl⟩
  | succ k ih =>
    obtain ⟨i1, i0⟩ := ih (by omega)
    have hl : decide (((outP n busy ks cs k).length : Int) < (n : Int)) = true := by
      have := outP_len (width := n) (busy := busy) (ks := ks) (cs := cs) k
      simp; omega
    have hok : okP n busy ks cs (outP n busy ks cs k) k = okA busy ks cs k := by
      unfold okP okA; rw [hl, i1, i0]; simp
    have hu := unitN_le ks k
    cases h : okA busy ks cs k
    · rw [outP_no (by rw [hok]; exact h), i1, i0, anyU, anyU]
      unfold okA at h
      obtain hv | hv | hv : unitN ks k = 0 ∨ unitN ks k = 1 ∨ unitN ks k = 2 := by omega
      all_goals rw [hv] at h ⊢
      · cases hc : cs.getD k false
        · simp
        · rw [hc] at h
          have h' : (busy || anyU ks cs 0 k) = true := by cases busy <;> simp_all
          rw [show (busy || (anyU ks cs 0 k || (true && (0 == 0)))) = ((busy || anyU ks cs 0 k) || true) by simp, h']
          simp
      · cases hc : cs.getD k false
        · simp
        · rw [hc] at h
          have h' : anyU ks cs 1 k = true := by simpa using h
          rw [h']
          simp
      · simp
    · rw [outP_yes (by rw [hok]; exact h), has_snoc, has_snoc, i1, anyU, anyU]
      have hc : cs.getD k false = true := by
        unfold okA at h
        simp only [Bool.and_eq_true] at h
        exact h.1.1
      rw [hc]
      constructor
      · simp
      · rw [← Bool.or_assoc, i0]; simp [Bool.or_assoc]
theorem all_ok {n k : Nat} (hk : k < n) : okP n busy ks cs (outP n busy ks cs k) k = okA busy ks cs k := by
  obtain ⟨i1, i0⟩ := all_has (busy := busy) (ks := ks) (cs := cs) (n := n) k (by omega)
  have hl : decide (((outP n busy ks cs k).length : Int) < (n : Int)) = true := by
    have := outP_len (width := n) (busy := busy) (ks := ks) (cs := cs) k
    simp; omega
  unfold okP okA
  rw [hl, i1, i0]
  simp
theorem all_mem {n i : Nat} (hi : i < n) : (outP n busy ks cs n).contains i = okA busy ks cs i := by
  obtain ⟨d, hd⟩ : ∃ d, n = (i + 1) + d := ⟨n - (i + 1), by omega⟩
  obtain ⟨t, ht, htc⟩ := outP_pre (width := n) (busy := busy) (ks := ks) (cs := cs) (i + 1) d
  rw [← hd] at ht
  have hlt := outP_lt (width := n) (busy := busy) (ks := ks) (cs := cs) i
  have n1 : (outP n busy ks cs i).contains i = false := by
    rw [Bool.eq_false_iff]
    intro h
    have := hlt i (by simpa using h)
    omega
  have n2 : t.contains i = false := by
    rw [Bool.eq_false_iff]
    intro h
    have := htc i (by simpa using h)
    omega
  rw [ht]
  have hok := all_ok (busy := busy) (ks := ks) (cs := cs) hi
  cases h : okA busy ks cs i
  · rw [outP_no (by rw [hok]; exact h)]
    simp only [List.contains_eq_mem, List.mem_append] at *
    simp only [decide_eq_false_iff_not] at n1 n2
    simpa using ⟨n1, n2⟩
  · rw [outP_yes (by rw [hok]; exact h)]
    simp
/-- with less room: the first ones of these -/
theorem some_take {width : Int} {n : Nat} (k : Nat) (hk : k ≤ n) : outP width busy ks cs k = (outP n busy ks cs k).take width.toNat := by
  induction k with
  | zero => simp [outP]
  | succ k ih =>
    have ih := ih (by omega)
    by_cases hw : ((outP n busy ks cs k).length : Int) < width
    · have e : outP width busy ks cs k = outP n busy ks cs k := by rw [ih, List.take_of_length_le (by omega)]
      have hok : okP width busy ks cs (outP width busy ks cs k) k = okP n busy ks cs (outP n busy ks cs k) k := by
        rw [e]
        unfold okP
        rw [show decide (((outP n busy ks cs k).length : Int) < width) = true by simpa using hw]
        have := outP_len (width := n) (busy := busy) (ks := ks) (cs := cs) k
        rw [show decide (((outP n busy ks cs k).length : Int) < (n : Int)) = true by simp; omega]
      rw [outP, outP, hok, e]
      split
      · rw [List.take_of_length_le (by rw [List.length_append]; simp; omega)]
      · rw [List.take_of_length_le (by omega)]
    · have hl : (outP width busy ks cs k).length = width.toNat := by rw [ih, List.length_take]; omega
      have hno : okP width busy ks cs (outP width busy ks cs k) k = false := okP_full (by rw [hl]; omega)
      rw [outP_no hno, ih]
      rw [outP]
      split
      · rw [List.take_append_of_le_length (by omega)]
      · rfl
end

theorem zeroB (w : World) : (zeroValue 4).run Try.prog w = .ok (.bool false) w := by kernel_rfl
theorem keyN (u : Nat) (h : u ≤ 40) : keyOf Try.prog 3 (.int .i64 (u : Int)) = some (.int .i64 (u : Int)) := keyOf_int_mk Try.underlying3 (WalkArith.wf_i64 (by omega))
abbrev MB (w : World) (b n : Nat) (D : DataW Unit) : Prop := w.ownsMap Try.prog 3 (plainElem (H := Unit) Try.prog 4) b n D
/-- the map's keys are these -/
def Ins (D : DataW Unit) (l : List Nat) : Prop := IsMap D ∧ ∀ i : Nat, D.atKey (.int .i64 (i : Int)) (.lit (.bool false)) = .lit (.bool (l.contains i))
theorem ins_start : Ins (.map []) [] := ⟨isMap_empty, fun _ => rfl⟩
theorem ins_step {D : DataW Unit} {l : List Nat} (h : Ins D l) (q : Nat) : Ins (D.put (.int .i64 (q : Int)) (.lit (.bool true))) (l ++ [q]) := by
  refine ⟨h.1.put _ _, fun i => ?_⟩
  by_cases e : i = q
  · subst e
    rw [atKey_put_same h.1 (by trivial)]
    simp
  · rw [atKey_put_other (by intro e'; injection e' with _ e'; exact e (by omega)), h.2 i]
    simp [e]
theorem plainElem_bool_inv {H : Type} {P : Program} {e : TypeId} (he : P.underlying e = some .bool) {v : Value} {z : DataW H × List MemPlace} (h : plainElem P e v = some z) : ∃ b, v = .bool b ∧ z = (.lit (.bool b), []) := by
  unfold plainElem at h
  rw [he] at h
  cases v <;> simp at h
  exact ⟨_, rfl, h.symm⟩
theorem look_in {w : World} {b n : Nat} {D : DataW Unit} {l : List Nat} (h : MB w b n D) (hi : Ins D l) (u : Nat) (hu : u ≤ 40) :
    (Instr.lookup 88 (.map (some b)) (.int .i64 (u : Int)) false).run Try.prog w = .ok (.bool (l.contains u)) w := by
  obtain ⟨v, ps, hrun, hv⟩ := h.lookup lawI Try.underlying88 (zeroB w) (plainElem_bool Try.underlying4 false) (keyN u hu)
  obtain ⟨c, hvc, hz⟩ := plainElem_bool_inv Try.underlying4 hv
  have hc : c = l.contains u := by
    have h1 := congrArg Prod.fst hz
    have h2 := hi.2 u
    have h3 : (DataW.lit (.bool (l.contains u)) : DataW Unit) = .lit (.bool c) := h2.symm.trans h1
    exact (Lit.bool.inj (DataW.lit.inj h3)).symm
  rw [hvc, hc] at hrun
  exact hrun

end Go.Proofs.Ytebeelphilfjhaa
