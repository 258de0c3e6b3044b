/- Appending numbers that came in; monotone bounds. -/
import Derived.Test.YtebeelphilfjhaaConfM
namespace Go.Proofs.Ytebeelphilfjhaa
open Go.ChangeShapes Go.WideShapes Go.ChangeAt Go.RowKit
set_option linter.unusedVariables false
set_option linter.unusedSimpArgs false

theorem run_append_empty {w : World} {base : Nat} {t ty e : TypeId} {i : TypeInfo} {size : Nat} (ht : Try.prog.underlying t = some (.slice e)) (hi : Try.prog.info? e = some i)
    (v : Value) (n c : Nat) (xs : List Value) (hown : w.ownsRow base e size v n xs) :
    (Builtin.append_ #[t, t] ty #[v, .slice none 0 c]).run Try.prog w = .ok v w := by
  rcases hown.2 with ⟨rfl, rfl⟩ | ⟨g, cap, cur, rfl, _, _, hnc, _⟩
  · simp [Builtin.append_, run_underlying ht, sizeOf, typeInfo, hi, Builtin.lenOf, Builtin.firstCells]
  · simp [Builtin.append_, run_underlying ht, sizeOf, typeInfo, hi, Builtin.lenOf, Builtin.firstCells, hnc, storeCells]
theorem wpList_append_ints {w : World} {ops : Array Oper} {rest : List Oper} {o : Oper} {a : Act} {Q : Exit → Act → World → Prop} (hgd : o.guard = none) (s x : Operand)
    (ho : o.op = .call { callee := .builtin .append, args := #[s, x], argTypes := #[22, 22] }) (base : Nat)
    (v : Value) (n : Nat) (zs : List Int) (hs : a.eval s = v) (hown : w.ownsRow base 3 1 v n (zs.map (Value.int .i64))) (A : Option Addr) (m c : Nat) (ys : List Int) (hx : a.eval x = .slice A m c) (hr : IntsAt w A m .i64 ys)
    (hnm : n + m ≤ 100000) (hbase : base ≤ w.heap.size)
    (h : ∀ v' w', w'.ownsRow base 3 1 v' (n + m) ((zs ++ ys).map (Value.int .i64)) → w.grownBy w' v.ownBlock → wpList Try.prog ops Q rest (a.put o.dst v') w') : wpList Try.prog ops Q (o :: rest) a w := by
  obtain ⟨i0, hi, hz0, hz1, hz2⟩ := info_parts info_ints
  have hl := hr.1
  cases A with
  | none =>
    obtain rfl : m = 0 := by
      rcases Nat.eq_zero_or_pos m with e | e
      · exact e
      · obtain ⟨b, hb, _⟩ := hr.at_ e
        cases hb
    obtain rfl : ys = [] := List.length_eq_zero_iff.1 hl
    refine wpList_plain hgd fun K hK => ?_
    have hrun := run_append_empty (ty := o.type) Try.underlying22 hi v n c _ hown
    unfold Oper.wp
    simp [execOp, ho, resolve, invoke, builtin, hs, hx, hrun, Result.andThen]
    exact hK _ _ (h v w (by simpa using hown) (World.grownBy.refl _ _))
  | some b =>
    exact wpList_append_own w hgd s x 22 ho base 3 i0 _ 1 8 Try.underlying22 hi hz0 hz1 hz2 rfl (by decide) v n _ hs hown b m c (ys.map (Value.int .i64)) hx (by rw [List.length_map, hl, Nat.mul_one]) (ints_news hr) (ints_one _ _) (by unfold maxLen; omega) (by omega) hbase (fun v' w' h1 h2 _ => h v' w' (by rw [List.map_append]; exact h1) h2)

/-- the bounds rise -/
theorem mul_mono {a b c d : Int} (h1 : a ≤ b) (h2 : c ≤ d) (h3 : 0 ≤ c) (h4 : 0 ≤ b) : a * c ≤ b * d := Int.le_trans (Int.mul_le_mul_of_nonneg_right h1 h3) (Int.mul_le_mul_of_nonneg_left h2 h4)
theorem bounds_rise (sl st sw m sl' st' sw' m' : Int) (a0 : 0 ≤ sl) (b0 : 0 ≤ st) (c0 : 0 ≤ sw) (d0 : 0 ≤ m) (a : sl ≤ sl') (b : st ≤ st') (c : sw ≤ sw') (d : m ≤ m') :
    60 + (sl + st + sw + 4) * (m + 1) * (st + 3) ≤ 60 + (sl' + st' + sw' + 4) * (m' + 1) * (st' + 3) ∧
    60 + 2 * ((sl + st + sw + 4) * (m + 1)) * (st + sw + 2) ≤ 60 + 2 * ((sl' + st' + sw' + 4) * (m' + 1)) * (st' + sw' + 2) := by
  have h1 : (sl + st + sw + 4) * (m + 1) ≤ (sl' + st' + sw' + 4) * (m' + 1) := mul_mono (by omega) (by omega) (by omega) (by omega)
  have h0 : 0 ≤ (sl + st + sw + 4) * (m + 1) := Int.mul_nonneg (by omega) (by omega)
  have h2 := mul_mono h1 (show st + 3 ≤ st' + 3 by omega) (by omega) (by omega)
  have h3 := mul_mono (show 2 * ((sl + st + sw + 4) * (m + 1)) ≤ 2 * ((sl' + st' + sw' + 4) * (m' + 1)) by omega) (show st + sw + 2 ≤ st' + sw' + 2 by omega) (by omega) (by omega)
  omega
theorem foldl_mx (l : List Int) : ∀ a b : Int, a ≤ b → l.foldl mx a ≤ l.foldl mx b := by
  induction l with
  | nil => intro a b h; exact h
  | cons x l ih =>
    intro a b h
    refine ih _ _ ?_
    unfold mx
    split <;> split <;> omega
theorem mx_ge (a b : Int) : a ≤ mx a b ∧ b ≤ mx a b := by unfold mx; split <;> omega
/-- the longest wait is the longest of all -/
theorem mostL_eight (l : List Int) (h : ∀ z ∈ l, 1 ≤ z ∧ z ≤ 8) : mostL (l ++ [8]) = 8 := by
  rw [mostL_snoc]
  have := mostL_range l h
  unfold mx
  split <;> omega

/-- a shape that is clean, and its waits -/
structure CleanCf (k : Cf) (l : List Int) : Prop where
  mode : 0 ≤ k.mode ∧ k.mode ≤ 2
  width : 1 ≤ k.width ∧ k.width ≤ 2
  rob : 2 ≤ k.rob ∧ k.rob ≤ 8
  queue : 1 ≤ k.queue ∧ k.queue ≤ 4
  stores : 1 ≤ k.stores ∧ k.stores ≤ 4
  slots : 2 ≤ k.slots ∧ k.slots ≤ 6
  sets : k.sets = 1 ∨ k.sets = 2 ∨ k.sets = 4
  ways : 1 ≤ k.ways ∧ k.ways ≤ 2
  ln : l.length ≤ 64
  tn : k.tn ≤ 64
  lat : ∀ z ∈ l, 1 ≤ z ∧ z ≤ 8
theorem lim_in {z a b : Int} (h : a ≤ z ∧ z ≤ b) : lim z a b = z := by unfold lim; rw [if_neg (by omega), if_neg (by omega)]
theorem setsOf_in {z : Int} (h : z = 1 ∨ z = 2 ∨ z = 4) : setsOf z = z := by rcases h with rfl | rfl | rfl <;> decide
theorem setsOf_of (z : Int) : setsOf z = 1 ∨ setsOf z = 2 ∨ setsOf z = 4 := by
  have := lim_range z 1 4 (by omega)
  unfold setsOf
  split <;> omega
theorem latOf_in {l : List Int} (h : l.length ≤ 64) (hl : ∀ z ∈ l, 1 ≤ z ∧ z ≤ 8) : latOf l = l := by
  unfold latOf
  rw [List.take_of_length_le h]
  conv => rhs; rw [← List.map_id l]
  apply List.map_congr_left
  intro z hz
  exact lim_in (hl z hz)
theorem clean_is (c : Cf) (lat : List Int) (la : Option Addr) (lc : Nat) (ta : Option Addr) (tc : Nat) : CleanCf (cfClean c la lc ta tc) (latOf lat) :=
  ⟨lim_range _ _ _ (by omega), lim_range _ _ _ (by omega), lim_range _ _ _ (by omega), lim_range _ _ _ (by omega), lim_range _ _ _ (by omega), lim_range _ _ _ (by omega), setsOf_of _, lim_range _ _ _ (by omega), by unfold latOf; simp; omega, Nat.min_le_right _ _, latOf_range lat⟩
theorem CleanCf.most {k : Cf} {l : List Int} (h : CleanCf k l) : mostV l = mostL l := by unfold mostV; rw [latOf_in h.ln h.lat]
theorem CleanCf.bound {k : Cf} {l : List Int} (h : CleanCf k l) : boundV k l = 60 + (k.slots + k.stores + k.sets * k.ways + 4) * (mostL l + 1) * (k.stores + 3) ∧ drainV k l = 60 + 2 * ((k.slots + k.stores + k.sets * k.ways + 4) * (mostL l + 1)) * (k.stores + k.sets * k.ways + 2) := by
  unfold boundV drainV
  rw [h.most, lim_in h.slots, lim_in h.stores, setsOf_in h.sets, lim_in h.ways]
  exact ⟨rfl, rfl⟩
/-- a list of cells stays where another row grows -/
theorem Blk.grown {w w' : World} {b : Nat} {cs : List Value} {row : Option Nat} (h : Blk w b cs) (hg : w.grownBy w' row) (hr : some b ≠ row) : Blk w' b cs :=
  ⟨Nat.lt_of_lt_of_le h.1 hg.size, fun i v hv => hg.cell (h.2.1 i v hv) hr, fun i hi => (World.frozen?_of_block (hg.block b h.1 hr)).trans (h.2.2 i hi)⟩
theorem own_cut {w : World} {base e n m c : Nat} {A : Option Addr} {zs : List Int} {k : IntKind} (h : w.ownsRow base e 1 (.slice A n c) n (zs.map (Value.int k))) (hm : m ≤ n) (hz : zs.length = n) : w.ownsRow base e 1 (.slice A m c) m ((zs.take m).map (Value.int k)) := by
  refine ⟨by simp; omega, ?_⟩
  rcases h.2 with ⟨h0, h1⟩ | ⟨g, cap, cur, hv, hg, hh, h1, h2, h3, h4⟩
  · injection h0 with e1 e2 e3
    subst e1 e3
    exact .inl ⟨by rw [show m = 0 by omega], by omega⟩
  · injection hv with e1 e2 e3
    subst e1 e3
    refine .inr ⟨g, c, cur, rfl, hg, hh, by omega, h2, h3, ?_⟩
    rw [Nat.mul_one] at h4 ⊢
    rw [List.map_take, ← h4, List.take_take, Nat.min_eq_left hm]

end Go.Proofs.Ytebeelphilfjhaa
