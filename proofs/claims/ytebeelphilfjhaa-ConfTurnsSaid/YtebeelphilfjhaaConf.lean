/- THE CONTRACTS of package conf: shapes. -/
import Derived.Test.YtebeelphilfjhaaSlices
import Derived.Lib.Hide
import Derived.WalkKit
import Derived.WalkLawsBesides
import Derived.Deep.QuietTactic
import Derived.BigQuiet
import Derived.OwnWalk
import Derived.Laws.OwnMore
import Derived.Lib.LazyBuf
namespace Go.Proofs.Ytebeelphilfjhaa
open Go.ChangeShapes Go.WideShapes Go.ChangeAt Go.RowKit
set_option linter.unusedVariables false
set_option linter.unusedSimpArgs false

/-- a number within bounds -/
def lim (z a b : Int) : Int := if z < a then a else if b < z then b else z
theorem lim_range (z a b : Int) (h : a ≤ b) : a ≤ lim z a b ∧ lim z a b ≤ b := by unfold lim; split; omega; split <;> omega
theorem lim_twice (z a b : Int) (h : a ≤ b) : lim (lim z a b) a b = lim z a b := by have := lim_range z a b h; unfold lim at *; split at * <;> (try split at *) <;> (try split) <;> (try split) <;> omega
/-- a block of the call's own, cell by cell -/
def Blk (w : World) (b : Nat) (cs : List Value) : Prop := b < w.heap.size ∧ (∀ (i : Nat) v, cs[i]? = some v → w.cell? ⟨b, i, none⟩ = some v) ∧ ∀ (i : Nat), i < cs.length → w.frozen? ⟨b, i, none⟩ = false
theorem Blk.new (w : World) (t : TypeId) (cs : List Value) : Blk (w.alloc (.cells cs.toArray t)) w.heap.size cs :=
  ⟨by simp, fun i v hv => by rw [World.cell?_alloc_at _ _ _ _ rfl]; simpa using hv, fun i hi => World.frozen?_alloc_at _ _ _ _ rfl⟩
theorem Blk.below {w w' : World} {b B : Nat} {cs : List Value} (h : Blk w b cs) (hb : Below B w w') (hB : b < B) : Blk w' b cs :=
  ⟨Nat.lt_of_lt_of_le h.1 hb.size, fun i v hv => (hb.cell hB).trans (h.2.1 i v hv), fun i hi => (hb.frozen hB).trans (h.2.2 i hi)⟩
theorem Blk.set {w : World} {b : Nat} {cs : List Value} (h : Blk w b cs) {i : Nat} {v : Value} (hi : i < cs.length) : Blk (w.setCell ⟨b, i, none⟩ v) b (cs.set i v) := by
  refine ⟨by simpa using h.1, fun j u hu => ?_, fun j hj => ?_⟩
  · by_cases e : i = j
    · subst e
      rw [List.getElem?_set_self hi] at hu
      have hc := h.2.1 i cs[i] (List.getElem?_eq_getElem hi)
      rw [World.cell?_setCell_same w _ _ hc]
      exact hu
    · rw [List.getElem?_set_ne e] at hu
      rw [World.cell?_setCell_other _ _ _ _ (fun h' => e (by injection h'))]
      exact h.2.1 j u hu
  · rw [World.frozen?_setCell]
    exact h.2.2 j (by simpa using hj)
theorem Blk.other {w : World} {b : Nat} {cs : List Value} (h : Blk w b cs) {p : Addr} {v : Value} (hp : p.block ≠ b) : Blk (w.setCell p v) b cs :=
  ⟨by simpa using h.1, fun j u hu => by rw [World.cell?_setCell_other _ _ _ _ (fun e => hp (by rw [e]))]; exact h.2.1 j u hu, fun j hj => by rw [World.frozen?_setCell]; exact h.2.2 j hj⟩
theorem IntsAt.setCell {w : World} {A : Option Addr} {n : Nat} {k : IntKind} {zs : List Int} (h : IntsAt w A n k zs) {p : Addr} {v : Value} (hp : ∀ a, A = some a → p.block ≠ a.block) : IntsAt (w.setCell p v) A n k zs :=
  ⟨h.1, fun j z hz => by
    obtain ⟨a, e, hl, hc⟩ := h.2 j z hz
    refine ⟨a, e, by simpa using hl, ?_⟩
    rw [World.cell?_setCell_other _ _ _ _ (fun e' => hp a e (by rw [e', block_add]))]
    exact hc⟩

set_option maxHeartbeats 1000000
set_option maxRecDepth 100000
theorem within_any (p : Addr) (z a b : Int) (w : World) (hc : w.cell? p = some (.int .i64 z)) (hf : w.frozen? p = false) (hab : a ≤ b) :
    Calls Try.prog 75 #[.pointer (some p), .int .i64 a, .int .i64 b] w fun e w' => e = .returned (.tuple #[]) ∧ w' = w.setCell p (.int .i64 (lim z a b)) := by
  by_cases h1 : z < a
  · have HL := Lib.hid (show lim z a b = a by unfold lim; rw [if_pos h1])
    go_enter Try.func75, Try.ntmps75
    go_wp2
    go_end0
    exact ⟨rfl, by rw [HL.out]⟩
  · by_cases h2 : b < z
    · have HL := Lib.hid (show lim z a b = b by unfold lim; rw [if_neg h1, if_pos h2])
      have h3 : a ≤ z := by omega
      clear h1
      go_enter Try.func75, Try.ntmps75
      go_wp2
      go_end0
      exact ⟨rfl, by rw [HL.out]⟩
    · have HL := Lib.hid (show lim z a b = z by unfold lim; rw [if_neg h1, if_neg h2])
      have h3 : a ≤ z := by omega
      have h4 : z ≤ b := by omega
      clear h1 h2
      go_enter Try.func75, Try.ntmps75
      go_wp2
      go_end0
      exact ⟨rfl, by rw [HL.out]⟩

theorem ints_news {w : World} {a : Addr} {n : Nat} {k : IntKind} {zs : List Int} (h : IntsAt w (some a) n k zs) : ∀ (j : Nat) u, (zs.map (Value.int k))[j]? = some u → w.cell? (a.add j) = some u := by
  intro j u hu
  rw [List.getElem?_map] at hu
  obtain ⟨z, hz, rfl⟩ := Option.map_eq_some_iff.1 hu
  obtain ⟨a', ha, _, hc⟩ := h.2 j z hz
  obtain rfl : a = a' := by injection ha
  exact hc
theorem ints_one (k : IntKind) (zs : List Int) : ∀ u ∈ zs.map (Value.int k), u.oneCell' = true := by
  intro u hu
  obtain ⟨z, _, rfl⟩ := List.mem_map.1 hu
  rfl
theorem first_ints (A : Option Addr) (n cap : Nat) (hn : n ≤ cap) (hm : cap ≤ maxLen) (w : World) :
    Calls Try.prog 77 #[.slice A n cap] w fun e w' => e = .returned (.slice A (min n 64) cap) ∧ w = w' := by
  unfold maxLen at hm
  by_cases h : n ≤ 64
  · rw [Nat.min_eq_left h]
    have h2 : (n : Int) ≤ 64 := by omega
    go_enter Try.func77, Try.ntmps77
    go_wp2
    go_ret
    exact ⟨rfl, rfl⟩
  · rw [Nat.min_eq_right (by omega)]
    have h2 : 64 < (n : Int) := by omega
    have h3 : 64 < cap := by omega
    clear h
    go_enter Try.func77, Try.ntmps77
    go_wp2
    go_ret
    exact ⟨rfl, rfl⟩
theorem info_ints : (Try.prog.info? 3).map (fun i => (i.zero, i.size, i.bytes)) = some (some (.int .i64 0), 1, 8) := by kernel_rfl
theorem clone_ints (A : Option Addr) (n cap : Nat) (zs : List Int) (hn : n ≤ 200) (w : World) (h : IntsAt w A n .i64 zs) :
    Calls Try.prog 76 #[.slice A n cap] w fun e w' => ∃ v, e = .returned v ∧ w'.ownsRow w.heap.size 3 1 v n (zs.map (Value.int .i64)) ∧ Below w.heap.size w w' := by
  obtain ⟨i0, hi, hz0, hz1, hz2⟩ := info_parts info_ints
  have hnil := run_eql_slice_nil (P := Try.prog) w 22 3 A n cap Try.underlying22
  have hl := Lib.hid h.1
  cases A with
  | none =>
    obtain rfl : n = 0 := by
      rcases Nat.eq_zero_or_pos n with e | e
      · exact e
      · obtain ⟨a, ha, _⟩ := h.at_ e
        cases ha
    obtain rfl : zs = [] := List.length_eq_zero_iff.1 hl.out
    go_enter Try.func76, Try.ntmps76
    go_wp2
    go_ret
    exact ⟨_, rfl, World.ownsRow_nil _ _ _ _, Below.refl _ _⟩
  | some a =>
    have hown := World.ownsRow_made w (base := w.heap.size) (e := 3) (size := 1) #[] 0 (Nat.le_refl _) (Nat.zero_le _) rfl
    have hbel := (Below.refl w.heap.size w).alloc (Nat.le_refl _) (.cells #[] 3)
    have HN2 := Lib.hid (ints_news (h.below hbel))
    go_enter Try.func76, Try.ntmps76
    go_wp2_with (at_builtin; refine wpList_append_own _ rfl (.tmp 5) (.tmp 6) 22 rfl w.heap.size 3 i0 _ 1 8 Try.underlying22 hi hz0 hz1 hz2 rfl (by decide) _ _ _ rfl hown a n _ (zs.map (Value.int .i64)) rfl (by rw [List.length_map, hl.out, Nat.mul_one]) HN2.out (ints_one _ _) (by unfold maxLen; omega) (by omega) (by simp) ?_; intro v' w1 hown' hgrow _)
    have hb1 := hbel.grown hgrow (by simp) (fun k hk => (hown.lt k hk).1)
    clear hgrow hown
    rw [Nat.zero_add, List.nil_append] at hown'
    go_ret
    exact ⟨_, rfl, hown', hb1⟩
theorem first_words (A : Option Addr) (n cap : Nat) (hn : n ≤ cap) (hm : cap ≤ maxLen) (w : World) :
    Calls Try.prog 79 #[.slice A n cap] w fun e w' => e = .returned (.slice A (min n 64) cap) ∧ w = w' := by
  unfold maxLen at hm
  by_cases h : n ≤ 64
  · rw [Nat.min_eq_left h]
    have h2 : (n : Int) ≤ 64 := by omega
    go_enter Try.func79, Try.ntmps79
    go_wp2
    go_ret
    exact ⟨rfl, rfl⟩
  · rw [Nat.min_eq_right (by omega)]
    have h2 : 64 < (n : Int) := by omega
    have h3 : 64 < cap := by omega
    clear h
    go_enter Try.func79, Try.ntmps79
    go_wp2
    go_ret
    exact ⟨rfl, rfl⟩
theorem info_words : (Try.prog.info? 30).map (fun i => (i.zero, i.size, i.bytes)) = some (some (.int .u32 0), 1, 4) := by kernel_rfl
theorem clone_words (A : Option Addr) (n cap : Nat) (zs : List Int) (hn : n ≤ 200) (w : World) (h : IntsAt w A n .u32 zs) :
    Calls Try.prog 78 #[.slice A n cap] w fun e w' => ∃ v, e = .returned v ∧ w'.ownsRow w.heap.size 30 1 v n (zs.map (Value.int .u32)) ∧ Below w.heap.size w w' := by
  obtain ⟨i0, hi, hz0, hz1, hz2⟩ := info_parts info_words
  have hnil := run_eql_slice_nil (P := Try.prog) w 23 30 A n cap Try.underlying23
  have hl := Lib.hid h.1
  cases A with
  | none =>
    obtain rfl : n = 0 := by
      rcases Nat.eq_zero_or_pos n with e | e
      · exact e
      · obtain ⟨a, ha, _⟩ := h.at_ e
        cases ha
    obtain rfl : zs = [] := List.length_eq_zero_iff.1 hl.out
    go_enter Try.func78, Try.ntmps78
    go_wp2
    go_ret
    exact ⟨_, rfl, World.ownsRow_nil _ _ _ _, Below.refl _ _⟩
  | some a =>
    have hown := World.ownsRow_made w (base := w.heap.size) (e := 30) (size := 1) #[] 0 (Nat.le_refl _) (Nat.zero_le _) rfl
    have hbel := (Below.refl w.heap.size w).alloc (Nat.le_refl _) (.cells #[] 30)
    have HN2 := Lib.hid (ints_news (h.below hbel))
    go_enter Try.func78, Try.ntmps78
    go_wp2_with (at_builtin; refine wpList_append_own _ rfl (.tmp 5) (.tmp 6) 23 rfl w.heap.size 30 i0 _ 1 4 Try.underlying23 hi hz0 hz1 hz2 rfl (by decide) _ _ _ rfl hown a n _ (zs.map (Value.int .u32)) rfl (by rw [List.length_map, hl.out, Nat.mul_one]) HN2.out (ints_one _ _) (by unfold maxLen; omega) (by omega) (by simp) ?_; intro v' w1 hown' hgrow _)
    have hb1 := hbel.grown hgrow (by simp) (fun k hk => (hown.lt k hk).1)
    clear hgrow hown
    rw [Nat.zero_add, List.nil_append] at hown'
    go_ret
    exact ⟨_, rfl, hown', hb1⟩

end Go.Proofs.Ytebeelphilfjhaa
