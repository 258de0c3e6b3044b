/- THE CONTRACT of Pick. -/
import Derived.Test.YtebeelphilfjhaaPickA
import Derived.Maps.OwnSet
import Derived.Maps.OwnOps
import Derived.Maps.Keyed
import Derived.Deep.Onto
namespace Go.Proofs.Ytebeelphilfjhaa
open Go.ChangeShapes Go.WideShapes Go.ChangeAt Go.RowKit Go.Maps

theorem lawI : Keyed Try.prog 3 := int_keyed Try.underlying3
theorem zeroI (w : World) : (zeroValue 3).run Try.prog w = .ok (.int .i64 0) w := by kernel_rfl
theorem info_int : (Try.prog.info? 3).map (fun i => (i.zero, i.size, i.bytes)) = some (some (.int .i64 0), 1, 8) := by kernel_rfl
theorem keyI (u : Nat) (h : u ≤ 2) : keyOf Try.prog 3 (.int .i64 (u : Int)) = some (.int .i64 (u : Int)) := keyOf_int_mk Try.underlying3 (WalkArith.wf_i64 (by omega))

abbrev MI (w : World) (b n : Nat) (D : DataW Unit) : Prop := w.ownsMap Try.prog 3 (plainElem (H := Unit) Try.prog 3) b n D
/-- unit u was taken c times -/
def Cnt (D : DataW Unit) (u : Nat) (c : Int) : Prop := D.atKey (.int .i64 (u : Int)) (.lit (.int .i64 0)) = .lit (.int .i64 c)
/-- what the map tells of who was taken -/
def Taken (D : DataW Unit) (busy : Bool) (ks : List Int) (out : List Nat) (b : Nat) : Prop :=
  IsMap D ∧ ∃ c0 c1 c2 : Int, (Cnt D 0 c0 ∧ Cnt D 1 c1 ∧ Cnt D 2 c2) ∧ (0 ≤ c0 ∧ c0 ≤ b ∧ 0 ≤ c1 ∧ c1 ≤ b ∧ 0 ≤ c2 ∧ c2 ≤ b) ∧ ((0 < c0) ↔ (busy || has ks out 0) = true) ∧ ((0 < c1) ↔ has ks out 1 = true)

theorem cnt_put_same {D : DataW Unit} (hD : IsMap D) (u : Nat) (c : Int) : Cnt (D.put (.int .i64 (u : Int)) (.lit (.int .i64 c))) u c :=
  atKey_put_same hD (by trivial) _ _
theorem cnt_put_other {D : DataW Unit} {u v : Nat} {c d : Int} (h : Cnt D v d) (hne : u ≠ v) : Cnt (D.put (.int .i64 (u : Int)) (.lit (.int .i64 c))) v d := by
  unfold Cnt at *
  rw [atKey_put_other (by intro e; injection e with _ e; exact hne (by omega))]
  exact h
theorem cnt_one {D : DataW Unit} {u : Nat} {c d : Int} (h : Cnt D u c) (h' : D.atKey (.int .i64 (u : Int)) (.lit (.int .i64 0)) = .lit (.int .i64 d)) : c = d := by
  unfold Cnt at h
  rw [h] at h'
  injection h' with h'
  injection h'
theorem taken_step {D : DataW Unit} {busy : Bool} {ks : List Int} {out : List Nat} {b k u : Nat} {c : Int} (h : Taken D busy ks out b) (hu : unitN ks k = u) (hc : Cnt D u c) :
    Taken (D.put (.int .i64 (u : Int)) (.lit (.int .i64 (c + 1)))) busy ks (out ++ [k]) (b + 1) := by
  obtain ⟨hD, c0, c1, c2, ⟨h0, h1, h2⟩, ⟨b0, b1, b2, b3, b4, b5⟩, e0, e1⟩ := h
  have hle := unitN_le ks k
  refine ⟨hD.put _ _, ?_⟩
  obtain rfl | rfl | rfl : u = 0 ∨ u = 1 ∨ u = 2 := by omega
  · obtain rfl := cnt_one h0 hc
    refine ⟨_, c1, c2, ⟨cnt_put_same hD 0 _, cnt_put_other h1 (by omega), cnt_put_other h2 (by omega)⟩, by omega, ?_, ?_⟩
    · rw [has_snoc, hu]; simp; omega
    · rw [has_snoc, hu]; simpa using e1
  · obtain rfl := cnt_one h1 hc
    refine ⟨c0, _, c2, ⟨cnt_put_other h0 (by omega), cnt_put_same hD 1 _, cnt_put_other h2 (by omega)⟩, by omega, ?_, ?_⟩
    · rw [has_snoc, hu]; simpa using e0
    · rw [has_snoc, hu]; simp; omega
  · obtain rfl := cnt_one h2 hc
    refine ⟨c0, c1, _, ⟨cnt_put_other h0 (by omega), cnt_put_other h1 (by omega), cnt_put_same hD 2 _⟩, by omega, ?_, ?_⟩
    · rw [has_snoc, hu]; simpa using e0
    · rw [has_snoc, hu]; simpa using e1
theorem Taken.more {D : DataW Unit} {busy : Bool} {ks : List Int} {out : List Nat} {b : Nat} (h : Taken D busy ks out b) : Taken D busy ks out (b + 1) := by
  obtain ⟨hD, c0, c1, c2, hc, ⟨b0, b1, b2, b3, b4, b5⟩, e⟩ := h
  exact ⟨hD, c0, c1, c2, hc, by omega, e⟩
theorem taken_start (ks : List Int) : Taken (.map []) false ks [] 1 :=
  ⟨isMap_empty, 0, 0, 0, ⟨rfl, rfl, rfl⟩, by omega, by simp [has], by simp [has]⟩
theorem taken_busy (ks : List Int) : Taken ((DataW.map [] : DataW Unit).put (.int .i64 0) (.lit (.int .i64 1))) true ks [] 1 :=
  ⟨isMap_empty.put _ _, 1, 0, 0, ⟨cnt_put_same isMap_empty 0 _, cnt_put_other (u := 0) (v := 1) rfl (by omega), cnt_put_other (u := 0) (v := 2) rfl (by omega)⟩, by omega, by simp, by simp [has]⟩

/-- the numbers of those that start -/
def outV (l : List Nat) : List Value := l.map fun (j : Nat) => Value.int .i64 (j : Int)
theorem own_ne {w : World} {base e size n : Nat} {v : Value} {xs : List Value} (h : w.ownsRow base e size v n xs) {b : Nat} (hb : b < base) : v.ownBlock ≠ some b := by
  rcases h.2 with ⟨rfl, _⟩ | ⟨g, cap, cur, rfl, hg, _⟩
  · simp [Value.ownBlock]
  · simp [Value.ownBlock]; omega

end Go.Proofs.Ytebeelphilfjhaa
