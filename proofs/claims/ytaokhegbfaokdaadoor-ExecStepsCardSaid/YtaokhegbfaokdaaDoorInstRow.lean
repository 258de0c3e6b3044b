/- THE CONTRACTS of rowOf and chosen. -/
import Derived.Test.YtaokhegbfaokdaaDoorInstTab
namespace Go.Proofs.YtaokhegbfaokdaaDoor
open Go.ChangeShapes Go.WideShapes Go.ChangeAt Go.RowKit
set_option maxRecDepth 100000

theorem rowAt_op : ∀ k, k < 45 → (rowAt k).1 = (k : Int) + 1 := by decide

def rowAgg (r : Row) : Value := .agg #[.int .i64 r.1, .int .i64 r.2.1, .int .u32 r.2.2.1, .int .u32 r.2.2.2.1, .int .u32 r.2.2.2.2]

/-- a block of five cells of the call's own, told cell by cell -/
def Five (w : World) (b : Nat) (v0 v1 v2 v3 v4 : Value) : Prop :=
  (w.cell? ⟨b, 0, none⟩ = some v0 ∧ w.cell? ⟨b, 1, none⟩ = some v1 ∧ w.cell? ⟨b, 2, none⟩ = some v2 ∧ w.cell? ⟨b, 3, none⟩ = some v3 ∧ w.cell? ⟨b, 4, none⟩ = some v4) ∧
  (w.frozen? ⟨b, 0, none⟩ = false ∧ w.frozen? ⟨b, 1, none⟩ = false ∧ w.frozen? ⟨b, 2, none⟩ = false ∧ w.frozen? ⟨b, 3, none⟩ = false ∧ w.frozen? ⟨b, 4, none⟩ = false)
theorem five_new (w : World) (t : TypeId) (v0 v1 v2 v3 v4 : Value) : Five (w.alloc (.cells #[v0, v1, v2, v3, v4] t)) w.heap.size v0 v1 v2 v3 v4 :=
  ⟨⟨World.cell?_alloc_at _ _ _ _ rfl, World.cell?_alloc_at _ _ _ _ rfl, World.cell?_alloc_at _ _ _ _ rfl, World.cell?_alloc_at _ _ _ _ rfl, World.cell?_alloc_at _ _ _ _ rfl⟩,
   ⟨World.frozen?_alloc_at _ _ _ _ rfl, World.frozen?_alloc_at _ _ _ _ rfl, World.frozen?_alloc_at _ _ _ _ rfl, World.frozen?_alloc_at _ _ _ _ rfl, World.frozen?_alloc_at _ _ _ _ rfl⟩⟩
theorem Five.below {w w' : World} {b B : Nat} {v0 v1 v2 v3 v4 : Value} (h : Five w b v0 v1 v2 v3 v4) (hb : Below B w w') (hB : b < B) : Five w' b v0 v1 v2 v3 v4 := by
  obtain ⟨⟨a0, a1, a2, a3, a4⟩, ⟨f0, f1, f2, f3, f4⟩⟩ := h
  exact ⟨⟨(hb.cell hB).trans a0, (hb.cell hB).trans a1, (hb.cell hB).trans a2, (hb.cell hB).trans a3, (hb.cell hB).trans a4⟩, ⟨(hb.frozen hB).trans f0, (hb.frozen hB).trans f1, (hb.frozen hB).trans f2, (hb.frozen hB).trans f3, (hb.frozen hB).trans f4⟩⟩

/-- the row of an operation of the table -/
def rowFor (op : Int) : Row := if 1 ≤ op ∧ op ≤ 45 then rowAt (op.toNat - 1) else (0, 0, 0, 0, 0)
def rowIs (op : Int) : Bool := decide (1 ≤ op ∧ op ≤ 45)

set_option maxHeartbeats 1000000 in
theorem rowOf_any (op : Int) (w : World) (ht : TabIs w) (hg : 0 < w.heap.size) (h1 : op ≠ 46) (h2 : op ≠ 47) (h3 : op ≠ 48) :
    Calls Tryd.prog 67 #[.int .i64 op] w fun e w' => e = .returned (.tuple #[rowAgg (rowFor op), .bool (rowIs op)]) ∧ Below w.heap.size w w' := by
  have HT := Lib.hid ht
  have n1 : (op == 46) = false := by simpa using h1
  have n2 : (op == 47) = false := by simpa using h2
  have n3 : (op == 48) = false := by simpa using h3
  clear ht h1 h2 h3
  go_enter Tryd.func67, Tryd.ntmps67
  go_wp2_with (refine wpList_load_cells rfl 100 _ rfl 0 rfl tabL _ (HT.out.below ((Below.refl w.heap.size w).alloc (Nat.le_refl _) _) hg) Tryd.underlying100 rfl tab_size ?_)
  have hf := five_new w 83 (.int .i64 0) (.int .i64 0) (.int .u32 0) (.int .u32 0) (.int .u32 0)
  go_loopw [20] (fun i wr => ∃ k : Nat, k ≤ 45 ∧ (1 ≤ op ∧ op ≤ 45 → (k : Int) < op) ∧ i = .int .i64 k ∧ Five wr w.heap.size (.int .i64 0) (.int .i64 0) (.int .u32 0) (.int .u32 0) (.int .u32 0) ∧ Below w.heap.size w wr ∧ w.heap.size < wr.heap.size) (fun i _ => 45 - (intOf i).toNat)
  case atStart => exact ⟨0, by omega, by omega, rfl, hf, (Below.refl _ _).alloc (Nat.le_refl _) _, by simp⟩
  case round =>
    obtain ⟨k, hk, hop, rfl, hfive, hbel, hsz⟩ := hrel
    clear hf
    by_cases hk2 : k < 45
    · have hix := fun wx => tab_index wx k hk2
      rw [rowAt_op k hk2] at hix
      by_cases he : (k : Int) + 1 = op
      · have e1 : ((k : Int) + 1 == op) = true := by simpa using he
        have G := Lib.hid (show rowFor op = rowAt k by unfold rowFor; rw [if_pos (by omega), show op.toNat - 1 = k by omega])
        have G2 := Lib.hid (show rowIs op = true by unfold rowIs; simp; omega)
        have He := Lib.hid he
        have HF := Lib.hid hfive
        obtain ⟨⟨a0, a1, a2, a3, a4⟩, ⟨f0, f1, f2, f3, f4⟩⟩ := hfive
        clear he hop
        go_wp2
        refine bodyPost_ret (v := .tuple #[.agg #[.int .i64 ((k : Int) + 1), .int .i64 (rowAt k).2.1, .int .u32 (rowAt k).2.2.1, .int .u32 (rowAt k).2.2.2.1, .int .u32 (rowAt k).2.2.2.2], .bool true]) ?_ rfl ⟨?_, ?_⟩
        · simp [results, Tryd.results67, go_sem, a0, a1, a2, a3, a4, hsz]
        · rw [G.out, G2.out]
          unfold rowAgg
          rw [rowAt_op k hk2]
        · exact (((((hbel.setCell (Nat.le_refl _) _).setCell (Nat.le_refl _) _).setCell (Nat.le_refl _) _).setCell (Nat.le_refl _) _).setCell (Nat.le_refl _) _).alloc (by simp; omega) _
      · have e1 : ((k : Int) + 1 == op) = false := by simpa using he
        go_wp2
        go_roundw
        case rel => exact ⟨k + 1, by omega, by omega, by go_num, hfive.below ((Below.refl wr.heap.size wr).alloc (Nat.le_refl _) _) hsz, hbel.alloc (by omega) _, by simp; omega⟩
        case measure => simp [intOf]; omega
    · have hkN : k = 45 := by omega
      subst hkN
      have G := Lib.hid (show rowFor op = (0, 0, 0, 0, 0) by unfold rowFor; rw [if_neg (by omega)])
      have G2 := Lib.hid (show rowIs op = false by unfold rowIs; simp; omega)
      have HF := Lib.hid hfive
      obtain ⟨⟨a0, a1, a2, a3, a4⟩, ⟨f0, f1, f2, f3, f4⟩⟩ := hfive
      clear hk2 hop
      go_wp2
      refine bodyPost_ret (v := .tuple #[.agg #[.int .i64 0, .int .i64 0, .int .u32 0, .int .u32 0, .int .u32 0], .bool false]) ?_ rfl ⟨?_, ?_⟩
      · simp [results, Tryd.results67, go_sem, a0, a1, a2, a3, a4]
      · rw [G.out, G2.out]
        rfl
      · exact ((((hbel.setCell (Nat.le_refl _) _).setCell (Nat.le_refl _) _).setCell (Nat.le_refl _) _).setCell (Nat.le_refl _) _).setCell (Nat.le_refl _) _

theorem rowOf46_any (w : World) : Calls Tryd.prog 67 #[.int .i64 46] w fun e w' => e = .returned (.tuple #[rowAgg (46, 7, 15, 0, 0), .bool true]) ∧ Below w.heap.size w w' := by
  go_enter Tryd.func67, Tryd.ntmps67
  go_wp2
  refine bodyPost_ret (v := .tuple #[.agg #[.int .i64 46, .int .i64 7, .int .u32 15, .int .u32 0, .int .u32 0], .bool true]) (by simp [results, Tryd.results67, go_sem]) rfl ⟨rfl, ?_⟩
  repeat (first | exact Below.refl _ _ | refine Below.setCell ?_ (Nat.le_refl _) _ | refine Below.alloc ?_ (Nat.le_refl _) _)
theorem rowOf47_any (w : World) : Calls Tryd.prog 67 #[.int .i64 47] w fun e w' => e = .returned (.tuple #[rowAgg (47, 7, 115, 0, 0), .bool true]) ∧ Below w.heap.size w w' := by
  go_enter Tryd.func67, Tryd.ntmps67
  go_wp2
  refine bodyPost_ret (v := .tuple #[.agg #[.int .i64 47, .int .i64 7, .int .u32 115, .int .u32 0, .int .u32 0], .bool true]) (by simp [results, Tryd.results67, go_sem]) rfl ⟨rfl, ?_⟩
  repeat (first | exact Below.refl _ _ | refine Below.setCell ?_ (Nat.le_refl _) _ | refine Below.alloc ?_ (Nat.le_refl _) _)
theorem rowOf48_any (w : World) : Calls Tryd.prog 67 #[.int .i64 48] w fun e w' => e = .returned (.tuple #[rowAgg (48, 7, 1048691, 0, 0), .bool true]) ∧ Below w.heap.size w w' := by
  go_enter Tryd.func67, Tryd.ntmps67
  go_wp2
  refine bodyPost_ret (v := .tuple #[.agg #[.int .i64 48, .int .i64 7, .int .u32 1048691, .int .u32 0, .int .u32 0], .bool true]) (by simp [results, Tryd.results67, go_sem]) rfl ⟨rfl, ?_⟩
  repeat (first | exact Below.refl _ _ | refine Below.setCell ?_ (Nat.le_refl _) _ | refine Below.alloc ?_ (Nat.le_refl _) _)

/-- does a row have these fields? -/
def hits (c f3 f7 : Int) (r : Row) : Bool := r.2.2.1 == c && (r.2.2.2.1 == f3 && r.2.2.2.2 == f7)
/-- the row of these fields, and whether there is one -/
def selR (c f3 f7 : Int) : Row := ((rowsL.find? (hits c f3 f7)).getD (0, 0, 0, 0, 0))
def selB (c f3 f7 : Int) : Bool := (rowsL.find? (hits c f3 f7)).isSome

theorem rowsL_len : rowsL.length = 45 := by decide
theorem find_hit (p : Row → Bool) (k : Nat) (hk : k < 45) (hn : ∀ j, j < k → p (rowAt j) = false) (hp : p (rowAt k) = true) : rowsL.find? p = some (rowAt k) := by
  have e : rowAt k = rowsL[k]'(by rw [rowsL_len]; exact hk) := by
    unfold rowAt; rw [List.getD_eq_getElem?_getD, List.getElem?_eq_getElem (by rw [rowsL_len]; exact hk)]; rfl
  rw [List.find?_eq_some_iff_getElem]
  refine ⟨hp, k, by rw [rowsL_len]; exact hk, e.symm, fun j hj => ?_⟩
  have := hn j hj
  unfold rowAt at this
  rw [List.getD_eq_getElem?_getD, List.getElem?_eq_getElem (by rw [rowsL_len]; omega)] at this
  simpa using this
theorem find_none (p : Row → Bool) (hn : ∀ j, j < 45 → p (rowAt j) = false) : rowsL.find? p = none := by
  rw [List.find?_eq_none]
  intro x hx
  obtain ⟨j, hj, rfl⟩ := List.getElem_of_mem hx
  rw [rowsL_len] at hj
  have := hn j hj
  unfold rowAt at this
  rw [List.getD_eq_getElem?_getD, List.getElem?_eq_getElem (by rw [rowsL_len]; omega)] at this
  simpa using this

end Go.Proofs.YtaokhegbfaokdaaDoor
