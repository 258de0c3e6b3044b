/- THE CONTRACT of cache.toFront: a list in which one stands first. -/
import Derived.Test.YtcgahdmacngipaaWaysR
namespace Go.Proofs.Ytcgahdmacngipaa
open Go.ChangeShapes Go.WideShapes Go.ChangeAt Go.RowKit Go.Sort
set_option linter.unusedVariables false
set_option linter.unusedSimpArgs false
set_option maxHeartbeats 4000000
set_option maxRecDepth 100000

theorem own_lower {w : World} {B B' e size n : Nat} {v : Value} {xs : List Value} (h : w.ownsRow B' e size v n xs) (hB : B ≤ B') : w.ownsRow B e size v n xs := by
  refine ⟨h.1, ?_⟩
  rcases h.2 with h1 | ⟨g, cap, cur, hv, hg, hr⟩
  · exact Or.inl h1
  · exact Or.inr ⟨g, cap, cur, hv, Nat.le_trans hB hg, hr⟩
theorem below_dr {w : World} : Below w.heap.size w w.drew := ⟨rfl, rfl, rfl, Nat.le_refl _, fun _ _ => rfl⟩
theorem toFront_any (A : Option Addr) (n c : Nat) (l : List Wy) (i : Nat) (hi : i < n) (hn : n ≤ 100) (hc : n ≤ c) (hm : c ≤ maxLen) (w : World) (h : WaysAt w A n l) :
    Calls Try.prog 39 #[.slice A n c, .int .i64 i] w fun e w' => ∃ (A' : Option Addr) (c' : Nat), e = .returned (.slice A' n c') ∧ n ≤ c' ∧ c' ≤ maxLen ∧ (A' = none → c' = 0) ∧ OwnAt w' w.heap.size A' n 3 ((toF l i).map wyC) ∧ Below w.heap.size w w' := by
  have hl := h.len
  obtain ⟨x, hx⟩ : ∃ x, l[i]? = some x := ⟨_, List.getElem?_eq_getElem (by omega)⟩
  have HTF := Lib.hid (show toF l i = x :: (l.take i ++ l.drop (i + 1)) by unfold toF; rw [hx])
  obtain ⟨_, a, rfl, hal, hcx⟩ := h.2 i (wyC x) (by rw [List.getElem?_map, hx]; rfl)
  have HW := Lib.hid h
  have HX := Lib.hid (fun (w' : World) (hb : Below w.heap.size w w') j v (hv : (wyC x)[j]? = some v) => (show w'.cell? ((a.add (i * 3)).add j) = some v by rw [Addr.add_add]; exact (hb.cell (p := a.add (i * 3 + j)) (by rw [block_add]; exact hal)).trans (hcx j v hv)))
  unfold maxLen at hm
  have hin : (i : Int) < n := by omega
  clear h hcx hx
  go_enter Try.func39, Try.ntmps39
  go_upto_region 1 with fail
  go_cut [5] from 6 to 14 (fun v wx => wx.ownsRow w.heap.size 37 3 v 1 (wyC x) ∧ Below w.heap.size w wx)
  case first =>
    have hk0 : Below w.heap.size w w.drew := below_dr
    refine wp_region_any (by kernel_rfl) ?_
    try (change wpAny _ _ _ _ _ _ _ (World.drew _))
    refine wpAny_take (i := 0) (v := .slice (some a) n c) rfl (by kernel_rfl) (by kernel_rfl) (by kernel_rfl) (fun _ _ _ h => h) (Or.inl ⟨by rfl, fun w => by go_simp⟩) ?_
    simp only [Act.put, List.setIfInBounds_toArray, List.set_cons_succ, List.set_cons_zero]
    refine wpAny_take (i := 1) (v := .int .i64 (n : Int)) rfl (by kernel_rfl) (by kernel_rfl) (by kernel_rfl) (fun _ _ _ h => h) (Or.inl ⟨by rfl, fun w => by go_simp⟩) ?_
    simp only [Act.put, List.setIfInBounds_toArray, List.set_cons_succ, List.set_cons_zero]
    refine wpAny_take (i := 3) (v := .slice (some a) n c) rfl (by kernel_rfl) (by kernel_rfl) (by kernel_rfl) (fun _ _ _ h => h) (Or.inl ⟨by rfl, fun w => by go_simp⟩) ?_
    simp only [Act.put, List.setIfInBounds_toArray, List.set_cons_succ, List.set_cons_zero]
    refine wpAny_take (i := 4) (v := .int .i64 (i : Int)) rfl (by kernel_rfl) (by kernel_rfl) (by kernel_rfl) (fun _ _ _ h => h) (Or.inl ⟨by rfl, fun w => by go_simp⟩) ?_
    simp only [Act.put, List.setIfInBounds_toArray, List.set_cons_succ, List.set_cons_zero]
    refine wpAny_take (i := 5) (v := .pointer (some (a.add (i * 3)))) rfl (by kernel_rfl) (by kernel_rfl) (by kernel_rfl) (fun _ _ _ h => h) (Or.inl ⟨by rfl, fun w => by go_simp⟩) ?_
    simp only [Act.put, List.setIfInBounds_toArray, List.set_cons_succ, List.set_cons_zero]
    refine wpAny_ready (rs := [2, 6]) (by kernel_rfl) (by simp) ?_
    refine AllReady.cons rfl (fun K hK => ?_) ?_
    · refine step_make_way (by rfl) n (by omega) (.tmp 7) (by rfl) (by rfl) ?_
      intro W1 ho1 hb1
      have hm1 := own_lower ho1 (hk0).size
      have hk1 := (hk0).trans (hb1.mono (hk0).size)
      (try go_simp)
      refine hK _ _ ?_
      clear hK K
      refine wpAny_ready (rs := [6]) (by kernel_rfl) (by simp) ?_
      refine AllReady.cons rfl (fun K hK => ?_) AllReady.nil
      refine step_load_row (by rfl) 37 (.tmp 11) (by rfl) (a.add (i * 3)) (by rfl) (wyC x) _ (HX.out _ hk1) Try.underlying37 rfl wy_info ?_
      (try go_simp)
      refine hK _ _ ?_
      clear hK K
      refine wpAny_ready (rs := [7]) (by kernel_rfl) (by simp) ?_
      refine AllReady.cons rfl (fun K hK => ?_) AllReady.nil
      refine step_build_way (by rfl) _ x (by rfl) (by simp [Act.eval, wyC]) ?_
      intro W2 hE2 hb2 hs2
      have hk2 := (hk1).trans (hb2.mono (hk1).size)
      (try go_simp)
      refine hK _ _ ?_
      clear hK K
      refine wpAny_ready (rs := [8]) (by kernel_rfl) (by simp) ?_
      refine AllReady.cons rfl (fun K hK => ?_) AllReady.nil
      refine step_append_way (by rfl) (.tmp 8) (.tmp 13) (by rfl) w.heap.size _ 0 [] (by rfl) (own_below hm1 hb2) ⟨W1.heap.size, 0, none⟩ 1 1 [x] (by rfl) hE2 (by omega) (hk2).size ?_
      intro v4 W4 ho4 hg4
      have hk4 := (hk2).grown hg4 (hk2).size (fun j hj => (((own_below hm1 hb2)).lt j hj).1)
      (try go_simp)
      refine hK _ _ ?_
      clear hK K
      refine wpAny_ready (rs := [9]) (by kernel_rfl) (by simp) ?_
      refine AllReady.cons rfl (fun K hK => ?_) AllReady.nil
      go_simp
      refine hK _ _ ?_
      clear hK K
      refine wpAny_done (by kernel_rfl) ?_ _
      go_wp2_with fail
      go_meet
      exact ⟨by simpa using ho4, hk4⟩
    · refine AllReady.cons rfl (fun K hK => ?_) AllReady.nil
      refine step_load_row (by rfl) 37 (.tmp 11) (by rfl) (a.add (i * 3)) (by rfl) (wyC x) _ (HX.out _ hk0) Try.underlying37 rfl wy_info ?_
      (try go_simp)
      refine hK _ _ ?_
      clear hK K
      refine wpAny_ready (rs := [2, 7]) (by kernel_rfl) (by simp) ?_
      refine AllReady.cons rfl (fun K hK => ?_) ?_
      · refine step_make_way (by rfl) n (by omega) (.tmp 7) (by rfl) (by rfl) ?_
        intro W1 ho1 hb1
        have hm1 := own_lower ho1 (hk0).size
        have hk1 := (hk0).trans (hb1.mono (hk0).size)
        (try go_simp)
        refine hK _ _ ?_
        clear hK K
        refine wpAny_ready (rs := [7]) (by kernel_rfl) (by simp) ?_
        refine AllReady.cons rfl (fun K hK => ?_) AllReady.nil
        refine step_build_way (by rfl) _ x (by rfl) (by simp [Act.eval, wyC]) ?_
        intro W2 hE2 hb2 hs2
        have hk2 := (hk1).trans (hb2.mono (hk1).size)
        (try go_simp)
        refine hK _ _ ?_
        clear hK K
        refine wpAny_ready (rs := [8]) (by kernel_rfl) (by simp) ?_
        refine AllReady.cons rfl (fun K hK => ?_) AllReady.nil
        refine step_append_way (by rfl) (.tmp 8) (.tmp 13) (by rfl) w.heap.size _ 0 [] (by rfl) (own_below hm1 hb2) ⟨W1.heap.size, 0, none⟩ 1 1 [x] (by rfl) hE2 (by omega) (hk2).size ?_
        intro v4 W4 ho4 hg4
        have hk4 := (hk2).grown hg4 (hk2).size (fun j hj => (((own_below hm1 hb2)).lt j hj).1)
        (try go_simp)
        refine hK _ _ ?_
        clear hK K
        refine wpAny_ready (rs := [9]) (by kernel_rfl) (by simp) ?_
        refine AllReady.cons rfl (fun K hK => ?_) AllReady.nil
        go_simp
        refine hK _ _ ?_
        clear hK K
        refine wpAny_done (by kernel_rfl) ?_ _
        go_wp2_with fail
        go_meet
        exact ⟨by simpa using ho4, hk4⟩
      · refine AllReady.cons rfl (fun K hK => ?_) AllReady.nil
        refine step_build_way (by rfl) _ x (by rfl) (by simp [Act.eval, wyC]) ?_
        intro W2 hE2 hb2 hs2
        have hk2 := (hk0).trans (hb2.mono (hk0).size)
        (try go_simp)
        refine hK _ _ ?_
        clear hK K
        refine wpAny_ready (rs := [2]) (by kernel_rfl) (by simp) ?_
        refine AllReady.cons rfl (fun K hK => ?_) AllReady.nil
        refine step_make_way (by rfl) n (by omega) (.tmp 7) (by rfl) (by rfl) ?_
        intro W1 ho1 hb1
        have hm1 := own_lower ho1 (hk2).size
        have hk1 := (hk2).trans (hb1.mono (hk2).size)
        (try go_simp)
        refine hK _ _ ?_
        clear hK K
        rw [show W2.heap.size = w.heap.size + 1 from hs2] at hm1
        refine wpAny_ready (rs := [8]) (by kernel_rfl) (by simp) ?_
        refine AllReady.cons rfl (fun K hK => ?_) AllReady.nil
        refine step_append_way (by rfl) (.tmp 8) (.tmp 13) (by rfl) w.heap.size _ 0 [] (by rfl) hm1 ⟨w.heap.size, 0, none⟩ 1 1 [x] (by rfl) (WaysAt.below hE2 hb1) (by omega) (hk1).size ?_
        intro v4 W4 ho4 hg4
        have hk4 := (hk1).grown hg4 (hk1).size (fun j hj => ((hm1).lt j hj).1)
        (try go_simp)
        refine hK _ _ ?_
        clear hK K
        refine wpAny_ready (rs := [9]) (by kernel_rfl) (by simp) ?_
        refine AllReady.cons rfl (fun K hK => ?_) AllReady.nil
        go_simp
        refine hK _ _ ?_
        clear hK K
        refine wpAny_done (by kernel_rfl) ?_ _
        go_wp2_with fail
        go_meet
        exact ⟨by simpa using ho4, hk4⟩
  case rest =>
    obtain ⟨ho, hb⟩ := hcut
    have HO1 := Lib.hid ho
    have K1 := Lib.hid hb
    clear ho hb
    have e1 : ((i : Int) + 1) ≤ n := by omega
    go_upto_region 3 with (at_builtin
                           refine wpList_append_way rfl (.tmp 15) (.tmp 18) rfl w.heap.size _ 1 _ rfl HO1.out (some a) i c (l.take i) rfl ((HW.out.below K1.out).take (by omega)) (fun h => by cases h) (by omega) K1.out.size ?_
                           intro v2 W2 ho2 hg2
                           have HO2 := Lib.hid ho2
                           have K2 := Lib.hid (K1.out.grown hg2 K1.out.size (fun j hj => (HO1.out.lt j hj).1))
                           clear ho2 hg2)
    by_cases hci : c = i + 1
    · obtain rfl : n = i + 1 := by omega
      subst hci
      go_wp2_with (at_builtin
                   refine wpList_append_way rfl (.tmp 20) (.tmp 24) rfl w.heap.size _ (1 + i) _ rfl HO2.out (some a) 0 0 [] rfl (RowsAt.nil _ _ _) (fun h => by cases h) (by omega) K2.out.size ?_
                   intro v3 W3 ho3 hg3
                   have HO3 := Lib.hid ho3
                   have K3 := Lib.hid (K2.out.grown hg3 K2.out.size (fun j hj => (HO2.out.lt j hj).1))
                   clear ho3 hg3)
      have ho := HO3.out
      rw [Nat.add_zero, show 1 + i = i + 1 by omega, show wyC x ++ ((l.take i).map wyC).flatten ++ (([] : List Wy).map wyC).flatten = ((toF l i).map wyC).flatten by rw [HTF.out, List.drop_of_length_le (by omega)]; simp] at ho
      obtain ⟨A', c', rfl, g1, g2, g3, g4⟩ := own_way ho (by rw [HTF.out, List.drop_of_length_le (by omega)]; simp; omega)
      have G4 := Lib.hid g4
      clear ho g4
      go_ret
      exact ⟨A', c', rfl, g1, g2, g3, G4.out, K3.out⟩
    · go_wp2_with (at_builtin
                   refine wpList_append_way rfl (.tmp 20) (.tmp 24) rfl w.heap.size _ (1 + i) _ rfl HO2.out (some (a.add ((i + 1) * 3))) (n - (i + 1)) (c - (i + 1)) (l.drop (i + 1)) rfl (WaysAt.drop (HW.out.below K2.out) (by omega) (fun _ => rfl)) (fun h => by cases h) (by omega) K2.out.size ?_
                   intro v3 W3 ho3 hg3
                   have HO3 := Lib.hid ho3
                   have K3 := Lib.hid (K2.out.grown hg3 K2.out.size (fun j hj => (HO2.out.lt j hj).1))
                   clear ho3 hg3)
      have ho := HO3.out
      rw [show 1 + i + (n - (i + 1)) = n by omega, show wyC x ++ ((l.take i).map wyC).flatten ++ ((l.drop (i + 1)).map wyC).flatten = ((toF l i).map wyC).flatten by rw [HTF.out]; simp] at ho
      obtain ⟨A', c', rfl, g1, g2, g3, g4⟩ := own_way ho (by rw [HTF.out]; simp; omega)
      have G4 := Lib.hid g4
      clear ho g4
      go_ret
      exact ⟨A', c', rfl, g1, g2, g3, G4.out, K3.out⟩
end Go.Proofs.Ytcgahdmacngipaa
