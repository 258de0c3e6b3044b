/- THE CONTRACT of chosen, word by word. -/
import Derived.Test.YtkamljmopbocnaaGreatDoorInstChosen
namespace Go.Proofs.YtkamljmopbocnaaGreatDoor
open Go.ChangeShapes Go.WideShapes Go.ChangeAt Go.RowKit
set_option maxRecDepth 100000

set_option maxHeartbeats 1000000 in
theorem chosen55 (a c f3 f7 : Int) (ha : 0 ≤ a) (ha' : a < 4294967296) (w : World) (ht : TabIs w) (hg : 0 < w.heap.size) (n1 : (a == 15) = false) (n2 : (a == 115) = false) (n3 : (a == 1048691) = false)
    (C : Hid ((fld a 0 7 : Int) = c)) (F3 : Hid ((fld a 12 3 : Int) = f3)) (F7 : Hid ((fld a 25 7 : Int) = f7)) (h0 : (c == 55) = true) (E : Hid (chR a = selR c 0 0 ∧ chB a = selB c 0 0)) :
    Calls Tryz.prog 81 #[.int .u32 a] w fun e w' => e = .returned (.tuple #[rowAgg (chR a), .bool (chB a)]) ∧ Below w.heap.size w w' := by
  have HT := Lib.hid ht
  clear ht
  go_enter Tryz.func81, Tryz.ntmps81
  go_wp2_with (first
                | (go_at_call 86; refine (field_any _ _ _ ha ha' _).mono ?_; rintro e w1 ⟨rfl, m, rfl⟩; first | rw [C.out] | rw [F3.out] | rw [F7.out])
                | (refine wpList_load_cells rfl 110 _ rfl 0 rfl tabL _ (HT.out.below (bdrewN ((Below.refl w.heap.size w).alloc (Nat.le_refl _) _) _) hg) Tryz.underlying110 rfl tab_size ?_))
  have hf := five_new w 98 (.int .i64 0) (.int .i64 0) (.int .u32 0) (.int .u32 0) (.int .u32 0)
  go_loopw [50] (fun i wr => ∃ k : Nat, k ≤ 45 ∧ NoHit c 0 0 k ∧ i = .int .i64 k ∧ Five wr w.heap.size (.int .i64 0) (.int .i64 0) (.int .u32 0) (.int .u32 0) (.int .u32 0) ∧ Below w.heap.size w wr ∧ w.heap.size < wr.heap.size) (fun i _ => 45 - (intOf i).toNat)
  case atStart => exact ⟨0, by omega, NoHit.zero, rfl, hf, bdrewN ((Below.refl _ _).alloc (Nat.le_refl _) _) _, by simp⟩
  case round =>
    obtain ⟨k, hk, Q, rfl, hfive, hbel, hsz⟩ := hrel
    clear hf
    by_cases hk2 : k < 45
    · have hix := fun wx => tab_index wx k hk2
      cases q1 : ((rowAt k).2.2.1 == c)
      · have q : hits c 0 0 (rowAt k) = false := by unfold hits; rw [q1]; rfl
        go_wp2
        go_roundw
        case rel => exact ⟨k + 1, by omega, Q.step q, by go_num, hfive.below ((Below.refl wr.heap.size wr).alloc (Nat.le_refl _) _) hsz, hbel.alloc (by omega) _, by simp; omega⟩
        case measure => simp [intOf]; omega
      · cases q2 : ((rowAt k).2.2.2.1 == 0)
        · have q : hits c 0 0 (rowAt k) = false := by unfold hits; rw [q1, q2]; rfl
          go_wp2
          go_roundw
          case rel => exact ⟨k + 1, by omega, Q.step q, by go_num, hfive.below ((Below.refl wr.heap.size wr).alloc (Nat.le_refl _) _) hsz, hbel.alloc (by omega) _, by simp; omega⟩
          case measure => simp [intOf]; omega
        · cases q3 : ((rowAt k).2.2.2.2 == 0)
          · have q : hits c 0 0 (rowAt k) = false := by unfold hits; rw [q1, q2, q3]; rfl
            go_wp2
            go_roundw
            case rel => exact ⟨k + 1, by omega, Q.step q, by go_num, hfive.below ((Below.refl wr.heap.size wr).alloc (Nat.le_refl _) _) hsz, hbel.alloc (by omega) _, by simp; omega⟩
            case measure => simp [intOf]; omega
          · have q : hits c 0 0 (rowAt k) = true := by unfold hits; rw [q1, q2, q3]; rfl
            have G := Lib.hid (Q.hit hk2 q)
            have HF := Lib.hid hfive
            clear q
            obtain ⟨⟨a0, a1, a2, a3, a4⟩, ⟨f0, f1, f2, f3', f4⟩⟩ := hfive
            go_wp2
            refine bodyPost_ret (v := .tuple #[.agg #[.int .i64 (rowAt k).1, .int .i64 (rowAt k).2.1, .int .u32 (rowAt k).2.2.1, .int .u32 (rowAt k).2.2.2.1, .int .u32 (rowAt k).2.2.2.2], .bool true]) ?_ rfl ⟨?_, ?_⟩
            · simp [results, Tryz.results81, go_sem, a0, a1, a2, a3, a4, hsz]
            · rw [E.out.1, E.out.2, G.out.1, G.out.2]
              rfl
            · exact (((((hbel.setCell (Nat.le_refl _) _).setCell (Nat.le_refl _) _).setCell (Nat.le_refl _) _).setCell (Nat.le_refl _) _).setCell (Nat.le_refl _) _).alloc (by simp; omega) _
    · have hkN : k = 45 := by omega
      subst hkN
      have G := Lib.hid Q.none
      have HF := Lib.hid hfive
      obtain ⟨⟨a0, a1, a2, a3, a4⟩, ⟨f0, f1, f2, f3', f4⟩⟩ := hfive
      clear hk2 Q
      go_wp2
      refine bodyPost_ret (v := .tuple #[.agg #[.int .i64 0, .int .i64 0, .int .u32 0, .int .u32 0, .int .u32 0], .bool false]) ?_ rfl ⟨?_, ?_⟩
      · simp [results, Tryz.results81, go_sem, a0, a1, a2, a3, a4]
      · rw [E.out.1, E.out.2, G.out.1, G.out.2]
        rfl
      · exact ((((hbel.setCell (Nat.le_refl _) _).setCell (Nat.le_refl _) _).setCell (Nat.le_refl _) _).setCell (Nat.le_refl _) _).setCell (Nat.le_refl _) _

set_option maxHeartbeats 1000000 in
theorem chosen23 (a c f3 f7 : Int) (ha : 0 ≤ a) (ha' : a < 4294967296) (w : World) (ht : TabIs w) (hg : 0 < w.heap.size) (n1 : (a == 15) = false) (n2 : (a == 115) = false) (n3 : (a == 1048691) = false)
    (C : Hid ((fld a 0 7 : Int) = c)) (F3 : Hid ((fld a 12 3 : Int) = f3)) (F7 : Hid ((fld a 25 7 : Int) = f7)) (h0 : (c == 55) = false) (h1 : (c == 23) = true) (E : Hid (chR a = selR c 0 0 ∧ chB a = selB c 0 0)) :
    Calls Tryz.prog 81 #[.int .u32 a] w fun e w' => e = .returned (.tuple #[rowAgg (chR a), .bool (chB a)]) ∧ Below w.heap.size w w' := by
  have HT := Lib.hid ht
  clear ht
  go_enter Tryz.func81, Tryz.ntmps81
  go_wp2_with (first
                | (go_at_call 86; refine (field_any _ _ _ ha ha' _).mono ?_; rintro e w1 ⟨rfl, m, rfl⟩; first | rw [C.out] | rw [F3.out] | rw [F7.out])
                | (refine wpList_load_cells rfl 110 _ rfl 0 rfl tabL _ (HT.out.below (bdrewN ((Below.refl w.heap.size w).alloc (Nat.le_refl _) _) _) hg) Tryz.underlying110 rfl tab_size ?_))
  have hf := five_new w 98 (.int .i64 0) (.int .i64 0) (.int .u32 0) (.int .u32 0) (.int .u32 0)
  go_loopw [50] (fun i wr => ∃ k : Nat, k ≤ 45 ∧ NoHit c 0 0 k ∧ i = .int .i64 k ∧ Five wr w.heap.size (.int .i64 0) (.int .i64 0) (.int .u32 0) (.int .u32 0) (.int .u32 0) ∧ Below w.heap.size w wr ∧ w.heap.size < wr.heap.size) (fun i _ => 45 - (intOf i).toNat)
  case atStart => exact ⟨0, by omega, NoHit.zero, rfl, hf, bdrewN ((Below.refl _ _).alloc (Nat.le_refl _) _) _, by simp⟩
  case round =>
    obtain ⟨k, hk, Q, rfl, hfive, hbel, hsz⟩ := hrel
    clear hf
    by_cases hk2 : k < 45
    · have hix := fun wx => tab_index wx k hk2
      cases q1 : ((rowAt k).2.2.1 == c)
      · have q : hits c 0 0 (rowAt k) = false := by unfold hits; rw [q1]; rfl
        go_wp2
        go_roundw
        case rel => exact ⟨k + 1, by omega, Q.step q, by go_num, hfive.below ((Below.refl wr.heap.size wr).alloc (Nat.le_refl _) _) hsz, hbel.alloc (by omega) _, by simp; omega⟩
        case measure => simp [intOf]; omega
      · cases q2 : ((rowAt k).2.2.2.1 == 0)
        · have q : hits c 0 0 (rowAt k) = false := by unfold hits; rw [q1, q2]; rfl
          go_wp2
          go_roundw
          case rel => exact ⟨k + 1, by omega, Q.step q, by go_num, hfive.below ((Below.refl wr.heap.size wr).alloc (Nat.le_refl _) _) hsz, hbel.alloc (by omega) _, by simp; omega⟩
          case measure => simp [intOf]; omega
        · cases q3 : ((rowAt k).2.2.2.2 == 0)
          · have q : hits c 0 0 (rowAt k) = false := by unfold hits; rw [q1, q2, q3]; rfl
            go_wp2
            go_roundw
            case rel => exact ⟨k + 1, by omega, Q.step q, by go_num, hfive.below ((Below.refl wr.heap.size wr).alloc (Nat.le_refl _) _) hsz, hbel.alloc (by omega) _, by simp; omega⟩
            case measure => simp [intOf]; omega
          · have q : hits c 0 0 (rowAt k) = true := by unfold hits; rw [q1, q2, q3]; rfl
            have G := Lib.hid (Q.hit hk2 q)
            have HF := Lib.hid hfive
            clear q
            obtain ⟨⟨a0, a1, a2, a3, a4⟩, ⟨f0, f1, f2, f3', f4⟩⟩ := hfive
            go_wp2
            refine bodyPost_ret (v := .tuple #[.agg #[.int .i64 (rowAt k).1, .int .i64 (rowAt k).2.1, .int .u32 (rowAt k).2.2.1, .int .u32 (rowAt k).2.2.2.1, .int .u32 (rowAt k).2.2.2.2], .bool true]) ?_ rfl ⟨?_, ?_⟩
            · simp [results, Tryz.results81, go_sem, a0, a1, a2, a3, a4, hsz]
            · rw [E.out.1, E.out.2, G.out.1, G.out.2]
              rfl
            · exact (((((hbel.setCell (Nat.le_refl _) _).setCell (Nat.le_refl _) _).setCell (Nat.le_refl _) _).setCell (Nat.le_refl _) _).setCell (Nat.le_refl _) _).alloc (by simp; omega) _
    · have hkN : k = 45 := by omega
      subst hkN
      have G := Lib.hid Q.none
      have HF := Lib.hid hfive
      obtain ⟨⟨a0, a1, a2, a3, a4⟩, ⟨f0, f1, f2, f3', f4⟩⟩ := hfive
      clear hk2 Q
      go_wp2
      refine bodyPost_ret (v := .tuple #[.agg #[.int .i64 0, .int .i64 0, .int .u32 0, .int .u32 0, .int .u32 0], .bool false]) ?_ rfl ⟨?_, ?_⟩
      · simp [results, Tryz.results81, go_sem, a0, a1, a2, a3, a4]
      · rw [E.out.1, E.out.2, G.out.1, G.out.2]
        rfl
      · exact ((((hbel.setCell (Nat.le_refl _) _).setCell (Nat.le_refl _) _).setCell (Nat.le_refl _) _).setCell (Nat.le_refl _) _).setCell (Nat.le_refl _) _

set_option maxHeartbeats 1000000 in
theorem chosen111 (a c f3 f7 : Int) (ha : 0 ≤ a) (ha' : a < 4294967296) (w : World) (ht : TabIs w) (hg : 0 < w.heap.size) (n1 : (a == 15) = false) (n2 : (a == 115) = false) (n3 : (a == 1048691) = false)
    (C : Hid ((fld a 0 7 : Int) = c)) (F3 : Hid ((fld a 12 3 : Int) = f3)) (F7 : Hid ((fld a 25 7 : Int) = f7)) (h0 : (c == 55) = false) (h1 : (c == 23) = false) (h2 : (c == 111) = true) (E : Hid (chR a = selR c 0 0 ∧ chB a = selB c 0 0)) :
    Calls Tryz.prog 81 #[.int .u32 a] w fun e w' => e = .returned (.tuple #[rowAgg (chR a), .bool (chB a)]) ∧ Below w.heap.size w w' := by
  have HT := Lib.hid ht
  clear ht
  go_enter Tryz.func81, Tryz.ntmps81
  go_wp2_with (first
                | (go_at_call 86; refine (field_any _ _ _ ha ha' _).mono ?_; rintro e w1 ⟨rfl, m, rfl⟩; first | rw [C.out] | rw [F3.out] | rw [F7.out])
                | (refine wpList_load_cells rfl 110 _ rfl 0 rfl tabL _ (HT.out.below (bdrewN ((Below.refl w.heap.size w).alloc (Nat.le_refl _) _) _) hg) Tryz.underlying110 rfl tab_size ?_))
  have hf := five_new w 98 (.int .i64 0) (.int .i64 0) (.int .u32 0) (.int .u32 0) (.int .u32 0)
  go_loopw [50] (fun i wr => ∃ k : Nat, k ≤ 45 ∧ NoHit c 0 0 k ∧ i = .int .i64 k ∧ Five wr w.heap.size (.int .i64 0) (.int .i64 0) (.int .u32 0) (.int .u32 0) (.int .u32 0) ∧ Below w.heap.size w wr ∧ w.heap.size < wr.heap.size) (fun i _ => 45 - (intOf i).toNat)
  case atStart => exact ⟨0, by omega, NoHit.zero, rfl, hf, bdrewN ((Below.refl _ _).alloc (Nat.le_refl _) _) _, by simp⟩
  case round =>
    obtain ⟨k, hk, Q, rfl, hfive, hbel, hsz⟩ := hrel
    clear hf
    by_cases hk2 : k < 45
    · have hix := fun wx => tab_index wx k hk2
      cases q1 : ((rowAt k).2.2.1 == c)
      · have q : hits c 0 0 (rowAt k) = false := by unfold hits; rw [q1]; rfl
        go_wp2
        go_roundw
        case rel => exact ⟨k + 1, by omega, Q.step q, by go_num, hfive.below ((Below.refl wr.heap.size wr).alloc (Nat.le_refl _) _) hsz, hbel.alloc (by omega) _, by simp; omega⟩
        case measure => simp [intOf]; omega
      · cases q2 : ((rowAt k).2.2.2.1 == 0)
        · have q : hits c 0 0 (rowAt k) = false := by unfold hits; rw [q1, q2]; rfl
          go_wp2
          go_roundw
          case rel => exact ⟨k + 1, by omega, Q.step q, by go_num, hfive.below ((Below.refl wr.heap.size wr).alloc (Nat.le_refl _) _) hsz, hbel.alloc (by omega) _, by simp; omega⟩
          case measure => simp [intOf]; omega
        · cases q3 : ((rowAt k).2.2.2.2 == 0)
          · have q : hits c 0 0 (rowAt k) = false := by unfold hits; rw [q1, q2, q3]; rfl
            go_wp2
            go_roundw
            case rel => exact ⟨k + 1, by omega, Q.step q, by go_num, hfive.below ((Below.refl wr.heap.size wr).alloc (Nat.le_refl _) _) hsz, hbel.alloc (by omega) _, by simp; omega⟩
            case measure => simp [intOf]; omega
          · have q : hits c 0 0 (rowAt k) = true := by unfold hits; rw [q1, q2, q3]; rfl
            have G := Lib.hid (Q.hit hk2 q)
            have HF := Lib.hid hfive
            clear q
            obtain ⟨⟨a0, a1, a2, a3, a4⟩, ⟨f0, f1, f2, f3', f4⟩⟩ := hfive
            go_wp2
            refine bodyPost_ret (v := .tuple #[.agg #[.int .i64 (rowAt k).1, .int .i64 (rowAt k).2.1, .int .u32 (rowAt k).2.2.1, .int .u32 (rowAt k).2.2.2.1, .int .u32 (rowAt k).2.2.2.2], .bool true]) ?_ rfl ⟨?_, ?_⟩
            · simp [results, Tryz.results81, go_sem, a0, a1, a2, a3, a4, hsz]
            · rw [E.out.1, E.out.2, G.out.1, G.out.2]
              rfl
            · exact (((((hbel.setCell (Nat.le_refl _) _).setCell (Nat.le_refl _) _).setCell (Nat.le_refl _) _).setCell (Nat.le_refl _) _).setCell (Nat.le_refl _) _).alloc (by simp; omega) _
    · have hkN : k = 45 := by omega
      subst hkN
      have G := Lib.hid Q.none
      have HF := Lib.hid hfive
      obtain ⟨⟨a0, a1, a2, a3, a4⟩, ⟨f0, f1, f2, f3', f4⟩⟩ := hfive
      clear hk2 Q
      go_wp2
      refine bodyPost_ret (v := .tuple #[.agg #[.int .i64 0, .int .i64 0, .int .u32 0, .int .u32 0, .int .u32 0], .bool false]) ?_ rfl ⟨?_, ?_⟩
      · simp [results, Tryz.results81, go_sem, a0, a1, a2, a3, a4]
      · rw [E.out.1, E.out.2, G.out.1, G.out.2]
        rfl
      · exact ((((hbel.setCell (Nat.le_refl _) _).setCell (Nat.le_refl _) _).setCell (Nat.le_refl _) _).setCell (Nat.le_refl _) _).setCell (Nat.le_refl _) _

end Go.Proofs.YtkamljmopbocnaaGreatDoor
