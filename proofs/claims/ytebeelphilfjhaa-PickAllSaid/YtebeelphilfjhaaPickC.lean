/- THE CONTRACT of Pick: who starts. -/
import Derived.Test.YtebeelphilfjhaaPickB
namespace Go.Proofs.Ytebeelphilfjhaa
open Go.ChangeShapes Go.WideShapes Go.ChangeAt Go.RowKit Go.Maps

theorem cell_new1 (w : World) (x : Value) (t : TypeId) : ∀ j u, [x][j]? = some u → (w.alloc (.cells #[x] t)).cell? ((⟨w.heap.size, 0, none⟩ : Addr).add j) = some u := by
  intro j u hj
  match j, hj with
  | 0, hj =>
    simp at hj
    subst hj
    show (w.alloc (.cells #[x] t)).cell? ⟨w.heap.size, 0, none⟩ = some x
    rw [World.cell?_alloc_at _ _ _ _ rfl]
    rfl
theorem one_int (k : IntKind) (x : Int) : ∀ u ∈ [Value.int k x], u.oneCell' = true := by
  intro u hu
  simp at hu
  subst hu
  rfl
theorem own_ge {w : World} {base e size n : Nat} {v : Value} {xs : List Value} (h : w.ownsRow base e size v n xs) : ∀ g, v.ownBlock = some g → base ≤ g := by
  rcases h.2 with ⟨rfl, _⟩ | ⟨g, cap, cur, rfl, hg, _⟩
  · intro g hg; simp [Value.ownBlock] at hg
  · intro g' hg'; simp [Value.ownBlock] at hg'; omega
theorem own_form {w : World} {base e size n : Nat} {v : Value} {xs : List Value} (h : w.ownsRow base e size v n xs) : ∃ A c, v = .slice A n c := by
  rcases h.2 with ⟨rfl, h0⟩ | ⟨g, cap, cur, rfl, _⟩
  · exact ⟨none, 0, by rw [h0]⟩
  · exact ⟨_, _, rfl⟩
theorem outP_skip {width : Int} {busy : Bool} {ks : List Int} {cs : List Bool} {k n : Nat} (h : width ≤ ((outP width busy ks cs k).length : Int)) (hk : k ≤ n) : outP width busy ks cs n = outP width busy ks cs k := by
  obtain ⟨d, rfl⟩ : ∃ d, n = k + d := ⟨n - k, by omega⟩
  exact outP_full h d
set_option maxHeartbeats 4000000
set_option maxRecDepth 100000 in
theorem pick_busy_no (width : Int) (A B : Option Addr) (nk ck n cc : Nat) (ks : List Int) (cs : List Bool) (hnk : nk ≤ 40) (hn : n ≤ 40) (w : World) (hk : IntsAt w A nk .i64 ks) (hc : BoolsAt w B n cs) :
    Calls Try.prog 71 #[.int .i64 width, .bool false, .slice A nk ck, .slice B n cc] w fun e w' => ∃ v, e = .returned v ∧ w'.ownsRow (w.heap.size + 1) 3 1 v (outP width false ks cs n).length (outV (outP width false ks cs n)) ∧ Below w.heap.size w w' := by
  have hmm := @run_makeMap Try.prog
  obtain ⟨i0, hi, hz0, hz1, hz2⟩ := info_parts info_int
  go_enter Try.func71, Try.ntmps71
  go_wp2
  go_step3
  go_wp2
  go_step3
  go_wp2
  go_loopw [10, 21] (fun v i wr => ∃ (k N : Nat) (D : DataW Unit), k ≤ n ∧ i = .int .i64 k ∧ MI wr w.heap.size N D ∧ N ≤ k + 1 ∧ Taken D false ks (outP width false ks cs k) (k + 1) ∧ wr.ownsRow (w.heap.size + 1) 3 1 v (outP width false ks cs k).length (outV (outP width false ks cs k)) ∧ Below w.heap.size w wr ∧ w.heap.size + 1 ≤ wr.heap.size) (fun _ i _ => n - (intOf i).toNat)
  case atStart => exact ⟨0, 0, .map [], Nat.zero_le _, rfl, World.ownsMap_made _ _ _ _, by omega, taken_start ks, World.ownsRow_nil _ _ _ _, (Below.refl _ _).alloc (Nat.le_refl _) _, by simp⟩
  case round =>
    obtain ⟨k, N, D, hkn, rfl, hm, hN, ht, hown, hbel, hsz⟩ := hrel
    by_cases hlt : k < n
    · obtain ⟨a, rfl, hca⟩ := hc.at_ hlt
      have hca' := (hbel.cell (p := a.add k) (World.block_lt_of_cell? w _ hca)).trans hca
      obtain ⟨ok, hok⟩ : ∃ b, cs.getD k false = b := ⟨_, rfl⟩
      rw [hok] at hca hca'
      replace hok := Lib.hid hok
      obtain ⟨Av, cv, rfl⟩ := own_form hown
      have hlen := outP_len (width := width) (busy := false) (ks := ks) (cs := cs) k
      obtain ⟨out, hout⟩ : ∃ o, o = outP width false ks cs k := ⟨_, rfl⟩
      rw [← hout] at ht hown hlen ⊢
      by_cases hw : width ≤ (out.length : Int)
      · have hfin := Lib.hid (outP_skip (by rw [← hout]; exact hw) hkn)
        have hout' := Lib.hid hout
        clear hout
        go_wp2
        rw [Exit.noGoto_ret]
        go_ret
        exact ⟨_, rfl, by rw [hfin.out, ← hout'.out]; exact hown, hbel⟩
      · have hw' : (out.length : Int) < width := by omega
        have HW := Lib.hid hw
        clear hw
        have HO := Lib.hid hout
        clear hout
        go_wp2_with fail
        go_at_call 95
        refine (unitOf_any (hk.below hbel) hnk k (by omega)).mono ?_
        rintro e w' ⟨rfl, rfl⟩
        have hle := unitN_le ks k
        obtain ⟨u, hu⟩ : ∃ u, unitN ks k = u := ⟨_, rfl⟩
        rw [hu] at hle ⊢
        have HT := Lib.hid ht
        obtain ⟨hD, c0, c1, c2, hc012, hb012, he0, he1⟩ := id ht
        replace hu := Lib.hid hu
        cases ok
        · have hnext := Lib.hid (show outP width false ks cs (k + 1) = out by rw [HO.out]; exact outP_no (by unfold okP; rw [hok.out]; rfl))
          clear ht hc012 hb012 he0 he1
          go_wp2
          go_roundw
          case rel => exact ⟨k + 1, N, D, by omega, by go_num, hm, by omega, by rw [hnext.out]; exact HT.out.more, by rw [hnext.out]; exact hown, hbel, hsz⟩
          case measure => simp [intOf]; omega
        · replace ht := Lib.hid ht
          obtain ⟨hc0, hc1, hc2⟩ := hc012
          obtain ⟨b0, b1, b2, b3, b4, b5⟩ := hb012
          replace he0 := Lib.hid he0
          replace he1 := Lib.hid he1
          obtain rfl | rfl | rfl : u = 0 ∨ u = 1 ∨ u = 2 := by omega
          · obtain ⟨c, hrun, hat, hwc⟩ := hm.lookup_int lawI Try.underlying106 Try.underlying3 (zeroI _) (keyI 0 (by omega))
            obtain rfl := cnt_one hc0 hat
            clear hat hwc
            replace hrun : (Instr.lookup 106 (.map (some w.heap.size)) (.int .i64 0) false).run Try.prog wr = .ok (.int .i64 c0) wr := hrun
            by_cases hp : 0 < c0
            · have hnext := Lib.hid (show outP width false ks cs (k + 1) = out by rw [HO.out]; exact outP_no (by rw [← HO.out]; unfold okP; rw [hu.out, he0.out.1 hp]; simp))
              go_wp2
              go_roundw
              case rel => exact ⟨k + 1, N, D, by omega, by go_num, hm, by omega, by rw [hnext.out]; exact HT.out.more, by rw [hnext.out]; exact hown, hbel, hsz⟩
              case measure => simp [intOf]; omega
            · have hnext := Lib.hid (show outP width false ks cs (k + 1) = out ++ [k] by rw [HO.out]; exact outP_yes (by rw [← HO.out]; unfold okP; rw [hok.out, hu.out, show (false || has ks out 0) = false by cases hb : (false || has ks out 0) <;> first | rfl | exact absurd (he0.out.2 hb) hp]; simp; exact hw'))
              go_wp2_with (first
                | (at_mapUpdate; refine wpList_mapUpdate_own _ rfl _ _ _ 106 rfl 3 3 lawI Try.underlying106 _ w.heap.size N D rfl hm (by unfold maxLen; omega) _ _ (.int .i64 0) rfl rfl (keyI 0 (by omega)) (.lit (.int .i64 (c0 + 1))) [] (plainElem_int Try.underlying3 (WalkArith.wf_i64 (by omega))) ?_; intro w1 hm1 hgrow1; have hown1 := hown.kept hgrow1 (Or.inr (own_ne hown (Nat.lt_succ_self _))); have hsz1 := Nat.le_trans hsz hgrow1.size)
                | (at_builtin; refine wpList_append_own _ rfl (.tmp 49) (.tmp 51) 22 rfl (w.heap.size + 1) 3 i0 (.int .i64 0) 1 8 Try.underlying22 hi hz0 hz1 hz2 rfl (by decide) _ _ _ rfl (hown1.alloc _) ⟨w1.heap.size, 0, none⟩ 1 1 [.int .i64 (k : Int)] rfl rfl (cell_new1 _ _ _) (one_int _ _) (by unfold maxLen; omega) (by omega) (by simp; omega) ?_; intro v' w2 hown2 hgrow2 hnil2))
              have hm2 := (hm1.alloc (.cells #[.int .i64 (k : Int)] 3)).kept hgrow2 (Ne.symm (own_ne hown (Nat.lt_succ_self _)))
              have hbel1 := hbel.grown hgrow1 hbel.size (fun j hj => by cases hj; exact Nat.le_refl _)
              have hbel2 := (hbel1.alloc hbel1.size _).grown hgrow2 (by have := hbel1.size; simp; omega) (fun j hj => by have := own_ge hown j hj; omega)
              have hsz2 : w.heap.size + 1 ≤ w2.heap.size := by have := hgrow2.size; simp at this; omega
              have hstep := taken_step HT.out hu.out hc0
              clear hgrow1 hgrow2 hbel1 hown1 hm1 hown hm hrun hnil2
              go_wp2
              go_roundw
              case rel => exact ⟨k + 1, N + 1, _, by omega, by go_num, hm2, by omega, by rw [hnext.out]; exact hstep, by rw [hnext.out]; simpa [outV] using hown2, hbel2, hsz2⟩
              case measure => simp [intOf]; omega
          · obtain ⟨c, hrun, hat, hwc⟩ := hm.lookup_int lawI Try.underlying106 Try.underlying3 (zeroI _) (keyI 1 (by omega))
            obtain rfl := cnt_one hc1 hat
            clear hat hwc
            replace hrun : (Instr.lookup 106 (.map (some w.heap.size)) (.int .i64 1) false).run Try.prog wr = .ok (.int .i64 c1) wr := hrun
            by_cases hp : 0 < c1
            · have hnext := Lib.hid (show outP width false ks cs (k + 1) = out by rw [HO.out]; exact outP_no (by rw [← HO.out]; unfold okP; rw [hu.out, he1.out.1 hp]; simp))
              go_wp2
              go_roundw
              case rel => exact ⟨k + 1, N, D, by omega, by go_num, hm, by omega, by rw [hnext.out]; exact HT.out.more, by rw [hnext.out]; exact hown, hbel, hsz⟩
              case measure => simp [intOf]; omega
            · have hnext := Lib.hid (show outP width false ks cs (k + 1) = out ++ [k] by rw [HO.out]; exact outP_yes (by rw [← HO.out]; unfold okP; rw [hok.out, hu.out, show has ks out 1 = false by cases hb : has ks out 1 <;> first | rfl | exact absurd (he1.out.2 hb) hp]; simp; exact hw'))
              go_wp2_with (first
                | (at_mapUpdate; refine wpList_mapUpdate_own _ rfl _ _ _ 106 rfl 3 3 lawI Try.underlying106 _ w.heap.size N D rfl hm (by unfold maxLen; omega) _ _ (.int .i64 1) rfl rfl (keyI 1 (by omega)) (.lit (.int .i64 (c1 + 1))) [] (plainElem_int Try.underlying3 (WalkArith.wf_i64 (by omega))) ?_; intro w1 hm1 hgrow1; have hown1 := hown.kept hgrow1 (Or.inr (own_ne hown (Nat.lt_succ_self _))); have hsz1 := Nat.le_trans hsz hgrow1.size)
                | (at_builtin; refine wpList_append_own _ rfl (.tmp 49) (.tmp 51) 22 rfl (w.heap.size + 1) 3 i0 (.int .i64 0) 1 8 Try.underlying22 hi hz0 hz1 hz2 rfl (by decide) _ _ _ rfl (hown1.alloc _) ⟨w1.heap.size, 0, none⟩ 1 1 [.int .i64 (k : Int)] rfl rfl (cell_new1 _ _ _) (one_int _ _) (by unfold maxLen; omega) (by omega) (by simp; omega) ?_; intro v' w2 hown2 hgrow2 hnil2))
              have hm2 := (hm1.alloc (.cells #[.int .i64 (k : Int)] 3)).kept hgrow2 (Ne.symm (own_ne hown (Nat.lt_succ_self _)))
              have hbel1 := hbel.grown hgrow1 hbel.size (fun j hj => by cases hj; exact Nat.le_refl _)
              have hbel2 := (hbel1.alloc hbel1.size _).grown hgrow2 (by have := hbel1.size; simp; omega) (fun j hj => by have := own_ge hown j hj; omega)
              have hsz2 : w.heap.size + 1 ≤ w2.heap.size := by have := hgrow2.size; simp at this; omega
              have hstep := taken_step HT.out hu.out hc1
              clear hgrow1 hgrow2 hbel1 hown1 hm1 hown hm hrun hnil2
              go_wp2
              go_roundw
              case rel => exact ⟨k + 1, N + 1, _, by omega, by go_num, hm2, by omega, by rw [hnext.out]; exact hstep, by rw [hnext.out]; simpa [outV] using hown2, hbel2, hsz2⟩
              case measure => simp [intOf]; omega
          · obtain ⟨c, hrun, hat, hwc⟩ := hm.lookup_int lawI Try.underlying106 Try.underlying3 (zeroI _) (keyI 2 (by omega))
            obtain rfl := cnt_one hc2 hat
            clear hat hwc
            replace hrun : (Instr.lookup 106 (.map (some w.heap.size)) (.int .i64 2) false).run Try.prog wr = .ok (.int .i64 c2) wr := hrun
            have hnext := Lib.hid (show outP width false ks cs (k + 1) = out ++ [k] by rw [HO.out]; exact outP_yes (by rw [← HO.out]; unfold okP; rw [hok.out, hu.out]; simp; exact hw'))
            go_wp2_with (first
              | (at_mapUpdate; refine wpList_mapUpdate_own _ rfl _ _ _ 106 rfl 3 3 lawI Try.underlying106 _ w.heap.size N D rfl hm (by unfold maxLen; omega) _ _ (.int .i64 2) rfl rfl (keyI 2 (by omega)) (.lit (.int .i64 (c2 + 1))) [] (plainElem_int Try.underlying3 (WalkArith.wf_i64 (by omega))) ?_; intro w1 hm1 hgrow1; have hown1 := hown.kept hgrow1 (Or.inr (own_ne hown (Nat.lt_succ_self _))); have hsz1 := Nat.le_trans hsz hgrow1.size)
              | (at_builtin; refine wpList_append_own _ rfl (.tmp 49) (.tmp 51) 22 rfl (w.heap.size + 1) 3 i0 (.int .i64 0) 1 8 Try.underlying22 hi hz0 hz1 hz2 rfl (by decide) _ _ _ rfl (hown1.alloc _) ⟨w1.heap.size, 0, none⟩ 1 1 [.int .i64 (k : Int)] rfl rfl (cell_new1 _ _ _) (one_int _ _) (by unfold maxLen; omega) (by omega) (by simp; omega) ?_; intro v' w2 hown2 hgrow2 hnil2))
            have hm2 := (hm1.alloc (.cells #[.int .i64 (k : Int)] 3)).kept hgrow2 (Ne.symm (own_ne hown (Nat.lt_succ_self _)))
            have hbel1 := hbel.grown hgrow1 hbel.size (fun j hj => by cases hj; exact Nat.le_refl _)
            have hbel2 := (hbel1.alloc hbel1.size _).grown hgrow2 (by have := hbel1.size; simp; omega) (fun j hj => by have := own_ge hown j hj; omega)
            have hsz2 : w.heap.size + 1 ≤ w2.heap.size := by have := hgrow2.size; simp at this; omega
            have hstep := taken_step HT.out hu.out hc2
            clear hgrow1 hgrow2 hbel1 hown1 hm1 hown hm hrun hnil2
            go_wp2
            go_roundw
            case rel => exact ⟨k + 1, N + 1, _, by omega, by go_num, hm2, by omega, by rw [hnext.out]; exact hstep, by rw [hnext.out]; simpa [outV] using hown2, hbel2, hsz2⟩
            case measure => simp [intOf]; omega
    · have hkn' : k = n := by omega
      subst hkn'
      obtain ⟨Av, cv, rfl⟩ := own_form hown
      obtain ⟨out, hout⟩ : ∃ o, o = outP width false ks cs k := ⟨_, rfl⟩
      rw [← hout] at hown ⊢
      replace hout := Lib.hid hout
      go_wp2
      rw [Exit.noGoto_ret]
      go_ret
      exact ⟨_, rfl, by rw [← hout.out]; exact hown, hbel⟩
set_option maxRecDepth 100000 in
theorem pick_busy_yes (width : Int) (A B : Option Addr) (nk ck n cc : Nat) (ks : List Int) (cs : List Bool) (hnk : nk ≤ 40) (hn : n ≤ 40) (w : World) (hk : IntsAt w A nk .i64 ks) (hc : BoolsAt w B n cs) :
    Calls Try.prog 71 #[.int .i64 width, .bool true, .slice A nk ck, .slice B n cc] w fun e w' => ∃ v, e = .returned v ∧ w'.ownsRow (w.heap.size + 1) 3 1 v (outP width true ks cs n).length (outV (outP width true ks cs n)) ∧ Below w.heap.size w w' := by
  have hmm := @run_makeMap Try.prog
  obtain ⟨i0, hi, hz0, hz1, hz2⟩ := info_parts info_int
  go_enter Try.func71, Try.ntmps71
  go_wp2
  go_step3
  have hm0 : MI (w.alloc (.map #[] 0)) w.heap.size 0 (.map []) := World.ownsMap_made _ _ _ _
  have hb0 : Below w.heap.size w (w.alloc (.map #[] 0)) := (Below.refl _ _).alloc (Nat.le_refl _) _
  obtain ⟨c, hrun, hat, hwc⟩ := hm0.lookup_int lawI Try.underlying106 Try.underlying3 (zeroI _) (keyI 0 (by omega))
  obtain rfl : (0 : Int) = c := cnt_one (D := .map []) (u := 0) rfl hat
  clear hat hwc
  replace hrun : (Instr.lookup 106 (.map (some w.heap.size)) (.int .i64 0) false).run Try.prog (w.alloc (.map #[] 0)) = .ok (.int .i64 0) (w.alloc (.map #[] 0)) := hrun
  go_wp2_with (at_mapUpdate; refine wpList_mapUpdate_own _ rfl _ _ _ 106 rfl 3 3 lawI Try.underlying106 _ w.heap.size 0 (.map []) rfl hm0 (by unfold maxLen; omega) _ _ (.int .i64 0) rfl rfl (keyI 0 (by omega)) (.lit (.int .i64 1)) [] (plainElem_int Try.underlying3 (WalkArith.wf_i64 (by omega))) ?_; intro w1 hm1 hgrow1)
  have hb1 := hb0.grown hgrow1 hb0.size (fun j hj => by cases hj; exact Nat.le_refl _)
  have hs1 : w.heap.size + 1 ≤ w1.heap.size := by have := hgrow1.size; simp at this; omega
  have HM1 := Lib.hid hm1
  clear hrun hgrow1 hb0 hm0 hm1
  go_step3
  go_wp2
  go_loopw [10, 21] (fun v i wr => ∃ (k N : Nat) (D : DataW Unit), k ≤ n ∧ i = .int .i64 k ∧ MI wr w.heap.size N D ∧ N ≤ k + 1 ∧ Taken D true ks (outP width true ks cs k) (k + 1) ∧ wr.ownsRow (w.heap.size + 1) 3 1 v (outP width true ks cs k).length (outV (outP width true ks cs k)) ∧ Below w.heap.size w wr ∧ w.heap.size + 1 ≤ wr.heap.size) (fun _ i _ => n - (intOf i).toNat)
  case atStart => exact ⟨0, 1, _, Nat.zero_le _, rfl, HM1.out, by omega, taken_busy ks, World.ownsRow_nil _ _ _ _, hb1, hs1⟩
  case round =>
    obtain ⟨k, N, D, hkn, rfl, hm, hN, ht, hown, hbel, hsz⟩ := hrel
    by_cases hlt : k < n
    · obtain ⟨a, rfl, hca⟩ := hc.at_ hlt
      have hca' := (hbel.cell (p := a.add k) (World.block_lt_of_cell? w _ hca)).trans hca
      obtain ⟨ok, hok⟩ : ∃ b, cs.getD k false = b := ⟨_, rfl⟩
      rw [hok] at hca hca'
      replace hok := Lib.hid hok
      obtain ⟨Av, cv, rfl⟩ := own_form hown
      have hlen := outP_len (width := width) (busy := true) (ks := ks) (cs := cs) k
      obtain ⟨out, hout⟩ : ∃ o, o = outP width true ks cs k := ⟨_, rfl⟩
      rw [← hout] at ht hown hlen ⊢
      by_cases hw : width ≤ (out.length : Int)
      · have hfin := Lib.hid (outP_skip (by rw [← hout]; exact hw) hkn)
        have hout' := Lib.hid hout
        clear hout
        go_wp2
        rw [Exit.noGoto_ret]
        go_ret
        exact ⟨_, rfl, by rw [hfin.out, ← hout'.out]; exact hown, hbel⟩
      · have hw' : (out.length : Int) < width := by omega
        have HW := Lib.hid hw
        clear hw
        have HO := Lib.hid hout
        clear hout
        go_wp2_with fail
        go_at_call 95
        refine (unitOf_any (hk.below hbel) hnk k (by omega)).mono ?_
        rintro e w' ⟨rfl, rfl⟩
        have hle := unitN_le ks k
        obtain ⟨u, hu⟩ : ∃ u, unitN ks k = u := ⟨_, rfl⟩
        rw [hu] at hle ⊢
        have HT := Lib.hid ht
        obtain ⟨hD, c0, c1, c2, hc012, hb012, he0, he1⟩ := id ht
        replace hu := Lib.hid hu
        cases ok
        · have hnext := Lib.hid (show outP width true ks cs (k + 1) = out by rw [HO.out]; exact outP_no (by unfold okP; rw [hok.out]; rfl))
          clear ht hc012 hb012 he0 he1
          go_wp2
          go_roundw
          case rel => exact ⟨k + 1, N, D, by omega, by go_num, hm, by omega, by rw [hnext.out]; exact HT.out.more, by rw [hnext.out]; exact hown, hbel, hsz⟩
          case measure => simp [intOf]; omega
        · replace ht := Lib.hid ht
          obtain ⟨hc0, hc1, hc2⟩ := hc012
          obtain ⟨b0, b1, b2, b3, b4, b5⟩ := hb012
          replace he0 := Lib.hid he0
          replace he1 := Lib.hid he1
          obtain rfl | rfl | rfl : u = 0 ∨ u = 1 ∨ u = 2 := by omega
          · obtain ⟨c, hrun, hat, hwc⟩ := hm.lookup_int lawI Try.underlying106 Try.underlying3 (zeroI _) (keyI 0 (by omega))
            obtain rfl := cnt_one hc0 hat
            clear hat hwc
            replace hrun : (Instr.lookup 106 (.map (some w.heap.size)) (.int .i64 0) false).run Try.prog wr = .ok (.int .i64 c0) wr := hrun
            by_cases hp : 0 < c0
            · have hnext := Lib.hid (show outP width true ks cs (k + 1) = out by rw [HO.out]; exact outP_no (by rw [← HO.out]; unfold okP; rw [hu.out, he0.out.1 hp]; simp))
              go_wp2
              go_roundw
              case rel => exact ⟨k + 1, N, D, by omega, by go_num, hm, by omega, by rw [hnext.out]; exact HT.out.more, by rw [hnext.out]; exact hown, hbel, hsz⟩
              case measure => simp [intOf]; omega
            · have hnext := Lib.hid (show outP width true ks cs (k + 1) = out ++ [k] by rw [HO.out]; exact outP_yes (by rw [← HO.out]; unfold okP; rw [hok.out, hu.out, show (true || has ks out 0) = false by cases hb : (true || has ks out 0) <;> first | rfl | exact absurd (he0.out.2 hb) hp]; simp; exact hw'))
              go_wp2_with (first
                | (at_mapUpdate; refine wpList_mapUpdate_own _ rfl _ _ _ 106 rfl 3 3 lawI Try.underlying106 _ w.heap.size N D rfl hm (by unfold maxLen; omega) _ _ (.int .i64 0) rfl rfl (keyI 0 (by omega)) (.lit (.int .i64 (c0 + 1))) [] (plainElem_int Try.underlying3 (WalkArith.wf_i64 (by omega))) ?_; intro w1 hm1 hgrow1; have hown1 := hown.kept hgrow1 (Or.inr (own_ne hown (Nat.lt_succ_self _))); have hsz1 := Nat.le_trans hsz hgrow1.size)
                | (at_builtin; refine wpList_append_own _ rfl (.tmp 49) (.tmp 51) 22 rfl (w.heap.size + 1) 3 i0 (.int .i64 0) 1 8 Try.underlying22 hi hz0 hz1 hz2 rfl (by decide) _ _ _ rfl (hown1.alloc _) ⟨w1.heap.size, 0, none⟩ 1 1 [.int .i64 (k : Int)] rfl rfl (cell_new1 _ _ _) (one_int _ _) (by unfold maxLen; omega) (by omega) (by simp; omega) ?_; intro v' w2 hown2 hgrow2 hnil2))
              have hm2 := (hm1.alloc (.cells #[.int .i64 (k : Int)] 3)).kept hgrow2 (Ne.symm (own_ne hown (Nat.lt_succ_self _)))
              have hbel1 := hbel.grown hgrow1 hbel.size (fun j hj => by cases hj; exact Nat.le_refl _)
              have hbel2 := (hbel1.alloc hbel1.size _).grown hgrow2 (by have := hbel1.size; simp; omega) (fun j hj => by have := own_ge hown j hj; omega)
              have hsz2 : w.heap.size + 1 ≤ w2.heap.size := by have := hgrow2.size; simp at this; omega
              have hstep := taken_step HT.out hu.out hc0
              clear hgrow1 hgrow2 hbel1 hown1 hm1 hown hm hrun hnil2
              go_wp2
              go_roundw
              case rel => exact ⟨k + 1, N + 1, _, by omega, by go_num, hm2, by omega, by rw [hnext.out]; exact hstep, by rw [hnext.out]; simpa [outV] using hown2, hbel2, hsz2⟩
              case measure => simp [intOf]; omega
          · obtain ⟨c, hrun, hat, hwc⟩ := hm.lookup_int lawI Try.underlying106 Try.underlying3 (zeroI _) (keyI 1 (by omega))
            obtain rfl := cnt_one hc1 hat
            clear hat hwc
            replace hrun : (Instr.lookup 106 (.map (some w.heap.size)) (.int .i64 1) false).run Try.prog wr = .ok (.int .i64 c1) wr := hrun
            by_cases hp : 0 < c1
            · have hnext := Lib.hid (show outP width true ks cs (k + 1) = out by rw [HO.out]; exact outP_no (by rw [← HO.out]; unfold okP; rw [hu.out, he1.out.1 hp]; simp))
              go_wp2
              go_roundw
              case rel => exact ⟨k + 1, N, D, by omega, by go_num, hm, by omega, by rw [hnext.out]; exact HT.out.more, by rw [hnext.out]; exact hown, hbel, hsz⟩
              case measure => simp [intOf]; omega
            · have hnext := Lib.hid (show outP width true ks cs (k + 1) = out ++ [k] by rw [HO.out]; exact outP_yes (by rw [← HO.out]; unfold okP; rw [hok.out, hu.out, show has ks out 1 = false by cases hb : has ks out 1 <;> first | rfl | exact absurd (he1.out.2 hb) hp]; simp; exact hw'))
              go_wp2_with (first
                | (at_mapUpdate; refine wpList_mapUpdate_own _ rfl _ _ _ 106 rfl 3 3 lawI Try.underlying106 _ w.heap.size N D rfl hm (by unfold maxLen; omega) _ _ (.int .i64 1) rfl rfl (keyI 1 (by omega)) (.lit (.int .i64 (c1 + 1))) [] (plainElem_int Try.underlying3 (WalkArith.wf_i64 (by omega))) ?_; intro w1 hm1 hgrow1; have hown1 := hown.kept hgrow1 (Or.inr (own_ne hown (Nat.lt_succ_self _))); have hsz1 := Nat.le_trans hsz hgrow1.size)
                | (at_builtin; refine wpList_append_own _ rfl (.tmp 49) (.tmp 51) 22 rfl (w.heap.size + 1) 3 i0 (.int .i64 0) 1 8 Try.underlying22 hi hz0 hz1 hz2 rfl (by decide) _ _ _ rfl (hown1.alloc _) ⟨w1.heap.size, 0, none⟩ 1 1 [.int .i64 (k : Int)] rfl rfl (cell_new1 _ _ _) (one_int _ _) (by unfold maxLen; omega) (by omega) (by simp; omega) ?_; intro v' w2 hown2 hgrow2 hnil2))
              have hm2 := (hm1.alloc (.cells #[.int .i64 (k : Int)] 3)).kept hgrow2 (Ne.symm (own_ne hown (Nat.lt_succ_self _)))
              have hbel1 := hbel.grown hgrow1 hbel.size (fun j hj => by cases hj; exact Nat.le_refl _)
              have hbel2 := (hbel1.alloc hbel1.size _).grown hgrow2 (by have := hbel1.size; simp; omega) (fun j hj => by have := own_ge hown j hj; omega)
              have hsz2 : w.heap.size + 1 ≤ w2.heap.size := by have := hgrow2.size; simp at this; omega
              have hstep := taken_step HT.out hu.out hc1
              clear hgrow1 hgrow2 hbel1 hown1 hm1 hown hm hrun hnil2
              go_wp2
              go_roundw
              case rel => exact ⟨k + 1, N + 1, _, by omega, by go_num, hm2, by omega, by rw [hnext.out]; exact hstep, by rw [hnext.out]; simpa [outV] using hown2, hbel2, hsz2⟩
              case measure => simp [intOf]; omega
          · obtain ⟨c, hrun, hat, hwc⟩ := hm.lookup_int lawI Try.underlying106 Try.underlying3 (zeroI _) (keyI 2 (by omega))
            obtain rfl := cnt_one hc2 hat
            clear hat hwc
            replace hrun : (Instr.lookup 106 (.map (some w.heap.size)) (.int .i64 2) false).run Try.prog wr = .ok (.int .i64 c2) wr := hrun
            have hnext := Lib.hid (show outP width true ks cs (k + 1) = out ++ [k] by rw [HO.out]; exact outP_yes (by rw [← HO.out]; unfold okP; rw [hok.out, hu.out]; simp; exact hw'))
            go_wp2_with (first
              | (at_mapUpdate; refine wpList_mapUpdate_own _ rfl _ _ _ 106 rfl 3 3 lawI Try.underlying106 _ w.heap.size N D rfl hm (by unfold maxLen; omega) _ _ (.int .i64 2) rfl rfl (keyI 2 (by omega)) (.lit (.int .i64 (c2 + 1))) [] (plainElem_int Try.underlying3 (WalkArith.wf_i64 (by omega))) ?_; intro w1 hm1 hgrow1; have hown1 := hown.kept hgrow1 (Or.inr (own_ne hown (Nat.lt_succ_self _))); have hsz1 := Nat.le_trans hsz hgrow1.size)
              | (at_builtin; refine wpList_append_own _ rfl (.tmp 49) (.tmp 51) 22 rfl (w.heap.size + 1) 3 i0 (.int .i64 0) 1 8 Try.underlying22 hi hz0 hz1 hz2 rfl (by decide) _ _ _ rfl (hown1.alloc _) ⟨w1.heap.size, 0, none⟩ 1 1 [.int .i64 (k : Int)] rfl rfl (cell_new1 _ _ _) (one_int _ _) (by unfold maxLen; omega) (by omega) (by simp; omega) ?_; intro v' w2 hown2 hgrow2 hnil2))
            have hm2 := (hm1.alloc (.cells #[.int .i64 (k : Int)] 3)).kept hgrow2 (Ne.symm (own_ne hown (Nat.lt_succ_self _)))
            have hbel1 := hbel.grown hgrow1 hbel.size (fun j hj => by cases hj; exact Nat.le_refl _)
            have hbel2 := (hbel1.alloc hbel1.size _).grown hgrow2 (by have := hbel1.size; simp; omega) (fun j hj => by have := own_ge hown j hj; omega)
            have hsz2 : w.heap.size + 1 ≤ w2.heap.size := by have := hgrow2.size; simp at this; omega
            have hstep := taken_step HT.out hu.out hc2
            clear hgrow1 hgrow2 hbel1 hown1 hm1 hown hm hrun hnil2
            go_wp2
            go_roundw
            case rel => exact ⟨k + 1, N + 1, _, by omega, by go_num, hm2, by omega, by rw [hnext.out]; exact hstep, by rw [hnext.out]; simpa [outV] using hown2, hbel2, hsz2⟩
            case measure => simp [intOf]; omega
    · have hkn' : k = n := by omega
      subst hkn'
      obtain ⟨Av, cv, rfl⟩ := own_form hown
      obtain ⟨out, hout⟩ : ∃ o, o = outP width true ks cs k := ⟨_, rfl⟩
      rw [← hout] at hown ⊢
      replace hout := Lib.hid hout
      go_wp2
      rw [Exit.noGoto_ret]
      go_ret
      exact ⟨_, rfl, by rw [← hout.out]; exact hown, hbel⟩

theorem pick_any (width : Int) (busy : Bool) (A B : Option Addr) (nk ck n cc : Nat) (ks : List Int) (cs : List Bool) (hnk : nk ≤ 40) (hn : n ≤ 40) (w : World) (hk : IntsAt w A nk .i64 ks) (hc : BoolsAt w B n cs) :
    Calls Try.prog 71 #[.int .i64 width, .bool busy, .slice A nk ck, .slice B n cc] w fun e w' => ∃ v, e = .returned v ∧ w'.ownsRow (w.heap.size + 1) 3 1 v (outP width busy ks cs n).length (outV (outP width busy ks cs n)) ∧ Below w.heap.size w w' := by
  cases busy
  · exact pick_busy_no width A B nk ck n cc ks cs hnk hn w hk hc
  · exact pick_busy_yes width A B nk ck n cc ks cs hnk hn w hk hc

end Go.Proofs.Ytebeelphilfjhaa
