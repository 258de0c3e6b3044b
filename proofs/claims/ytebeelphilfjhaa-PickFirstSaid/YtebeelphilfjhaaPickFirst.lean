/- Proved: the statement of PickFirst (auspexlaw17): the first one that can is taken, unless it divides while another one does; who is taken does not hang on those behind; no two divide or go to memory at once; for every input; no condition. -/
import Derived.Test.YtebeelphilfjhaaRows
import Derived.Test.YtebeelphilfjhaaPickF
import Derived.OpenShut
import Derived.StillTailTactics
import Derived.Deep.RegionWith
namespace Go.Proofs.Ytebeelphilfjhaa.pickFirst
open Go.ChangeShapes Go.WideShapes Go.ChangeAt Go.RowKit Go.Maps
set_option linter.unusedVariables false

set_option maxHeartbeats 2000000
theorem kindFn_any {w : World} {A : Option Addr} {n cap b : Nat} {ks : List Int} (h : IntsAt w A n .i64 ks) (hn : n ≤ 40) (hb : w.cell? ⟨b, 0, none⟩ = some (.slice A n cap)) (k : Nat) (hk : k ≤ 40) :
    Calls Try.prog 73 #[.int .i64 k, .pointer (some ⟨b, 0, none⟩)] w fun e w' => e = .returned (.int .i64 (kindV ks k)) ∧ w = w' := by
  by_cases hkn : k < n
  · obtain ⟨a, rfl, hc⟩ := h.at_ hkn
    have G := Lib.hid (show kindV ks k = ks.getD k 0 by unfold kindV; rw [if_pos (by rw [h.1]; exact hkn)])
    clear h
    generalize ks.getD k 0 = v at *
    go_enter Try.func73, Try.ntmps73
    go_wp2
    go_ret
    exact ⟨ret_int G.out.symm, rfl⟩
  · have G := Lib.hid (show kindV ks k = 0 by unfold kindV; rw [if_neg (by rw [h.1]; exact hkn)])
    clear h
    go_enter Try.func73, Try.ntmps73
    go_wp2
    go_ret
    exact ⟨ret_int G.out.symm, rfl⟩

set_option maxHeartbeats 8000000
set_option maxRecDepth 100000 in
theorem walk (width : Int) (busy : Bool) (cut : Int) (A B : Option Addr) (nk ck n cc : Nat) (ks : List Int) (cs : List Bool) (h1 : nk ≤ ck) (h2 : ck ≤ maxLen) (h3 : n ≤ cc) (h4 : cc ≤ maxLen) (W : World) (hk0 : IntsAt W A nk .i64 ks) (hc0 : BoolsAt W B n cs) :
    Calls Try.prog 18 #[.int .i64 width, .bool busy, .slice A nk ck, .slice B n cc, .int .i64 cut] W fun e w' => e = .returned (.bool true) ∧ Below W.heap.size W w' := by
  have HF := Lib.hid (few_any A B nk ck n cc h1 h2 h3 h4)
  have hk := hk0.take (Nat.min_le_left nk 40)
  have hc := hc0.take (Nat.min_le_left n 40)
  have m1 : min nk 40 ≤ 40 := Nat.min_le_right _ _
  have m2 : min n 40 ≤ 40 := Nat.min_le_right _ _
  have m3 : min n 40 ≤ cc := Nat.le_trans (Nat.min_le_left _ _) h3
  clear h1 h2 h3 h4 hk0 hc0
  generalize ks.take (min nk 40) = ks' at *
  generalize cs.take (min n 40) = cs' at *
  generalize min nk 40 = nk' at *
  generalize min n 40 = n' at *
  go_enter Try.func18, Try.ntmps18
  go_wp2_with fail
  go_at_call 68
  refine (HF.out _).mono ?_
  rintro e w0 ⟨rfl, q, rfl⟩
  clear HF
  go_wp2_with fail
  have hb : Below W.heap.size W (((W.alloc (.cells #[.slice A nk ck] 22)).drewN q).setCell ⟨W.heap.size, 0, none⟩ (.slice A nk' ck)) := Below.setCell ((((Below.refl _ _).alloc (Nat.le_refl _) _).trans (Go.Joins.below_draws _ _ q))) (by exact Nat.le_refl _) _
  have hB : (((W.alloc (.cells #[.slice A nk ck] 22)).drewN q).setCell ⟨W.heap.size, 0, none⟩ (.slice A nk' ck)).cell? ⟨W.heap.size, 0, none⟩ = some (.slice A nk' ck) := World.cell?_setCell_same _ _ _ (u := .slice A nk ck) (World.cell?_alloc_at _ _ _ _ rfl)
  have hs : W.heap.size < (((W.alloc (.cells #[.slice A nk ck] 22)).drewN q).setCell ⟨W.heap.size, 0, none⟩ (.slice A nk' ck)).heap.size := by simp [World.setCell]
  replace hk := hk.below hb
  replace hc := hc.below hb
  generalize (((W.alloc (.cells #[.slice A nk ck] 22)).drewN q).setCell ⟨W.heap.size, 0, none⟩ (.slice A nk' ck)) = wa at *
  go_at_call 71
  refine (pick_ints width busy A B nk' ck n' cc ks' cs' m1 m2 _ hk hc).mono ?_
  rintro e w2 ⟨Av, cv, rfl, hcv, hx, b⟩
  replace hB := (b.cell (p := ⟨W.heap.size, 0, none⟩) hs).trans hB
  replace hs := Nat.lt_of_lt_of_le hs b.size
  replace hk := hk.below b
  replace hc := hc.below b
  replace hb := hb.trans (b.mono hb.size)
  clear b
  obtain ⟨t, ht⟩ : ∃ t, t = cut.tmod ((n' : Int) + 1) := ⟨_, rfl⟩
  have ht1 : -41 < cut.tmod ((n' : Int) + 1) ∧ cut.tmod ((n' : Int) + 1) < 41 := by
    have a1 := Int.tmod_lt_of_pos cut (show (0 : Int) < (n' : Int) + 1 by omega)
    have a2 := Int.lt_tmod_of_pos cut (show (0 : Int) < (n' : Int) + 1 by omega)
    omega
  have hX : ∃ c : Nat, c ≤ n' ∧ (cut.tmod ((n' : Int) + 1) + n' + 1).tmod ((n' : Int) + 1) = (c : Int) := by
    have a2 := Int.lt_tmod_of_pos cut (show (0 : Int) < (n' : Int) + 1 by omega)
    have p : 0 ≤ cut.tmod ((n' : Int) + 1) + n' + 1 := by omega
    rw [Int.tmod_eq_emod_of_nonneg p]
    have q1 := Int.emod_nonneg (cut.tmod ((n' : Int) + 1) + n' + 1) (show ((n' : Int) + 1) ≠ 0 by omega)
    have q2 := Int.emod_lt_of_pos (cut.tmod ((n' : Int) + 1) + n' + 1) (show (0 : Int) < (n' : Int) + 1 by omega)
    exact ⟨((cut.tmod ((n' : Int) + 1) + n' + 1) % ((n' : Int) + 1)).toNat, by omega, by omega⟩
  obtain ⟨c, hcn, hX⟩ := hX
  replace hX := Lib.hid hX
  obtain ⟨ht1, ht2⟩ := ht1
  clear ht
  go_wp2_with fail
  rw [hX.out]
  clear hX ht1 ht2
  have hcc := hc.take hcn
  have hcN : c ≤ cc := Nat.le_trans hcn m3
  go_region_with (go_at_call 71; refine (pick_ints width busy A B nk' ck c cc ks' (cs'.take c) m1 (by omega) _ (by exact hk) (by exact hcc)).mono ?_; rintro e w3 ⟨Am, cm, rfl, -, hy, b⟩)
  have b := ((Below.refl w2.heap.size w2).drew).trans b
  replace hB := (b.cell (p := ⟨W.heap.size, 0, none⟩) hs).trans hB
  replace hs := Nat.lt_of_lt_of_le hs b.size
  replace hk := hk.below b
  replace hc := hc.below b
  replace hx := hx.below b
  replace hb := hb.trans (b.mono hb.size)
  clear b hcc
  obtain ⟨P1, P2, P3, P4, P5, P6⟩ := outP_facts (width := width) (busy := busy) (ks := ks') (cs := cs') n'
  have P7 := outP_len (width := width) (busy := busy) (ks := ks') (cs := cs') n'
  have P8 := outP_lt (width := width) (busy := busy) (ks := ks') (cs := cs') n'
  have P9 := fun i hi h hc => outP_first (width := width) (busy := busy) (ks := ks') (cs := cs') (i := i) (n := n') hi h hc
  have P0 := outP_none (width := width) (busy := busy) (ks := ks') (cs := cs') n'
  obtain ⟨t, ht, htc⟩ := outP_pre (width := width) (busy := busy) (ks := ks') (cs := cs') c (n' - c)
  rw [show c + (n' - c) = n' by omega] at ht
  rw [outP_cut hcn] at hy ⊢
  generalize outP width busy ks' cs' c = m at *
  generalize outP width busy ks' cs' n' = out at *
  have hml : m.length ≤ out.length := by rw [ht, List.length_append]; omega
  have hpre : (outI out).take m.length = outI m := by rw [ht]; simp [outI]
  have hpost : ∀ j (hj : j < out.length), m.length ≤ j → c ≤ out[j] := by
    intro j hj hm
    refine htc _ ?_
    subst ht
    rw [List.getElem_append_right hm]
    exact List.getElem_mem _
  clear ht htc
  have hx' := hx.take hml
  rw [hpre] at hx'
  have HS := Lib.hid (same_any (cap := cv) (cap' := cm) hx' hy (by omega))
  have HP := Lib.hid (show (∀ j ∈ out, cs'.getD j false = true) ∧ (∀ j ∈ out, j < n') ∧ out.Pairwise (· < ·) ∧ cntU ks' 1 out ≤ 1 ∧ cntU ks' 0 out ≤ 1 ∧ (busy = true → cntU ks' 0 out = 0) from ⟨P2, P8, P3, P4, P5, P6⟩)
  replace hpost := Lib.hid hpost
  replace P9 := Lib.hid P9
  replace P0 := Lib.hid P0
  clear P2 P3 P4 P5 P6 P8 hx' hy hpre
  have hmcv : m.length ≤ cv := Nat.le_trans hml hcv
  by_cases hw0 : 0 ≤ width
  · have P1' : (out.length : Int) ≤ width := by omega
    clear P1
    go_wp2_with (first
      | (go_at_call 70; refine HS.out.mono ?_; rintro e w4 ⟨rfl, q4, rfl⟩)
      | (go_at_call 69; refine (alive17_any _).mono ?_; rintro e w5 ⟨rfl, b5⟩))
    have b := (Go.Joins.below_draws w3.heap.size w3 q4).trans b5
    replace hB := (b.cell (p := ⟨W.heap.size, 0, none⟩) hs).trans hB
    replace hs := Nat.lt_of_lt_of_le hs b.size
    replace hk := hk.below b
    replace hc := hc.below b
    replace hx := hx.below b
    replace hb := hb.trans (b.mono hb.size)
    clear b b5
    go_loop [15, 16, 79] (fun mv dv iv => ∃ j : Nat, j ≤ out.length ∧ iv = .int .i64 j ∧ mv = .int .i64 (cntU ks' 1 (out.take j) : Nat) ∧ dv = .int .i64 (cntU ks' 0 (out.take j) : Nat)) (fun _ _ i => out.length - (intOf i).toNat)
    case atStart => exact ⟨0, Nat.zero_le _, rfl, rfl, rfl⟩
    case round =>
      obtain ⟨j, hj, rfl, rfl, rfl⟩ := hrel
      by_cases hjl : j < out.length
      · obtain ⟨ad, rfl, hcq⟩ := hx.at_ (j := j) (by omega)
        have hqe : (outI out).getD j 0 = ((out[j] : Nat) : Int) := by simp [outI, List.getD, hjl]
        rw [hqe] at hcq
        clear hqe
        have hqn := HP.out.2.1 _ (List.getElem_mem hjl)
        have hqc := HP.out.1 _ (List.getElem_mem hjl)
        have hq3 := fun hm => hpost.out j hjl hm
        have hc1 := Lib.hid (cntU_take ks' 1 out j hjl)
        have hc0' := Lib.hid (cntU_take ks' 0 out j hjl)
        have hl1 : cntU ks' 1 (out.take j) ≤ 40 := by have := List.length_filter_le (fun q => unitN ks' q == 1) (out.take j); unfold cntU; rw [List.length_take] at this; omega
        have hl0 : cntU ks' 0 (out.take j) ≤ 40 := by have := List.length_filter_le (fun q => unitN ks' q == 0) (out.take j); unfold cntU; rw [List.length_take] at this; omega
        obtain ⟨bd, rfl, hcb⟩ := hc.at_ hqn
        rw [hqc] at hcb
        have hprev : 0 < j → ∃ p : Nat, p < out[j] ∧ w5.cell? (ad.add (j - 1)) = some (.int .i64 (p : Int)) := by
          intro h0
          obtain ⟨ad', e, hcp⟩ := hx.at_ (j := j - 1) (by omega)
          injection e with e
          subst e
          refine ⟨out[j - 1], (List.pairwise_iff_getElem.1 HP.out.2.2.1) _ _ _ _ (by omega), ?_⟩
          rw [hcp]
          simp [outI, List.getD, show j - 1 < out.length by omega]
        obtain ⟨q, hq⟩ : ∃ q, q = out[j] := ⟨_, rfl⟩
        rw [← hq] at hcq hqn hqc hq3 hc1 hc0' hcb hprev
        clear hq
        generalize cntU ks' 1 (out.take j) = cm1 at *
        generalize cntU ks' 0 (out.take j) = cm0 at *
        replace hqc := Lib.hid hqc
        obtain ⟨ku0, ku1⟩ := kind_unit ks' q
        replace ku0 := Lib.hid ku0
        replace ku1 := Lib.hid ku1
        by_cases h0 : 0 < j
        · obtain ⟨p, hpq, hcp⟩ := hprev h0
          by_cases hjm : m.length ≤ j
          · have hcq' := hq3 hjm
            clear hq3
            go_wp2_with fail
            go_at_call 73
            refine (kindFn_any hk m1 hB q (by omega)).mono ?_
            rintro e w' ⟨rfl, rfl⟩
            obtain ⟨v, hv⟩ : ∃ v, kindV ks' q = v := ⟨_, rfl⟩
            rw [hv]
            by_cases v3 : v = 3 ∨ v = 4
            · have u1 : unitN ks' q = 1 := ku1.out.2 (by rw [hv]; exact v3)
              have e1 := Lib.hid (show cntU ks' 1 (out.take (j + 1)) = cm1 + 1 by rw [hc1.out, if_pos u1])
              have e0 := Lib.hid (show cntU ks' 0 (out.take (j + 1)) = cm0 by rw [hc0'.out, if_neg (by omega), Nat.add_zero])
              clear hv u1
              rcases v3 with rfl | rfl
              · go_wp2
                go_round
                case rel => exact ⟨j + 1, by omega, by go_num, by rw [e1.out]; go_num, by rw [e0.out]⟩
                case measure => simp [intOf]; omega
              · go_wp2
                go_round
                case rel => exact ⟨j + 1, by omega, by go_num, by rw [e1.out]; go_num, by rw [e0.out]⟩
                case measure => simp [intOf]; omega
            · have n3 : (v == 3) = false := by simp; omega
              have n4 : (v == 4) = false := by simp; omega
              have u1 : unitN ks' q ≠ 1 := fun h => v3 (by rw [← hv]; exact ku1.out.1 h)
              have e1 := Lib.hid (show cntU ks' 1 (out.take (j + 1)) = cm1 by rw [hc1.out, if_neg u1, Nat.add_zero])
              clear v3 u1
              by_cases v2 : v = 2
              · have u0 : unitN ks' q = 0 := ku0.out.2 (by rw [hv]; exact v2)
                have e0 := Lib.hid (show cntU ks' 0 (out.take (j + 1)) = cm0 + 1 by rw [hc0'.out, if_pos u0])
                clear hv u0 n3 n4
                subst v2
                go_wp2
                go_round
                case rel => exact ⟨j + 1, by omega, by go_num, by rw [e1.out], by rw [e0.out]; go_num⟩
                case measure => simp [intOf]; omega
              · have n2 : (v == 2) = false := by simpa using v2
                have u0 : unitN ks' q ≠ 0 := fun h => v2 (by rw [← hv]; exact ku0.out.1 h)
                have e0 := Lib.hid (show cntU ks' 0 (out.take (j + 1)) = cm0 by rw [hc0'.out, if_neg u0, Nat.add_zero])
                clear hv u0 v2
                go_wp2
                go_round
                case rel => exact ⟨j + 1, by omega, by go_num, by rw [e1.out], by rw [e0.out]⟩
                case measure => simp [intOf]; omega
          · clear hq3
            go_wp2_with fail
            go_at_call 73
            refine (kindFn_any hk m1 hB q (by omega)).mono ?_
            rintro e w' ⟨rfl, rfl⟩
            obtain ⟨v, hv⟩ : ∃ v, kindV ks' q = v := ⟨_, rfl⟩
            rw [hv]
            by_cases v3 : v = 3 ∨ v = 4
            · have u1 : unitN ks' q = 1 := ku1.out.2 (by rw [hv]; exact v3)
              have e1 := Lib.hid (show cntU ks' 1 (out.take (j + 1)) = cm1 + 1 by rw [hc1.out, if_pos u1])
              have e0 := Lib.hid (show cntU ks' 0 (out.take (j + 1)) = cm0 by rw [hc0'.out, if_neg (by omega), Nat.add_zero])
              clear hv u1
              rcases v3 with rfl | rfl
              · go_wp2
                go_round
                case rel => exact ⟨j + 1, by omega, by go_num, by rw [e1.out]; go_num, by rw [e0.out]⟩
                case measure => simp [intOf]; omega
              · go_wp2
                go_round
                case rel => exact ⟨j + 1, by omega, by go_num, by rw [e1.out]; go_num, by rw [e0.out]⟩
                case measure => simp [intOf]; omega
            · have n3 : (v == 3) = false := by simp; omega
              have n4 : (v == 4) = false := by simp; omega
              have u1 : unitN ks' q ≠ 1 := fun h => v3 (by rw [← hv]; exact ku1.out.1 h)
              have e1 := Lib.hid (show cntU ks' 1 (out.take (j + 1)) = cm1 by rw [hc1.out, if_neg u1, Nat.add_zero])
              clear v3 u1
              by_cases v2 : v = 2
              · have u0 : unitN ks' q = 0 := ku0.out.2 (by rw [hv]; exact v2)
                have e0 := Lib.hid (show cntU ks' 0 (out.take (j + 1)) = cm0 + 1 by rw [hc0'.out, if_pos u0])
                clear hv u0 n3 n4
                subst v2
                go_wp2
                go_round
                case rel => exact ⟨j + 1, by omega, by go_num, by rw [e1.out], by rw [e0.out]; go_num⟩
                case measure => simp [intOf]; omega
              · have n2 : (v == 2) = false := by simpa using v2
                have u0 : unitN ks' q ≠ 0 := fun h => v2 (by rw [← hv]; exact ku0.out.1 h)
                have e0 := Lib.hid (show cntU ks' 0 (out.take (j + 1)) = cm0 by rw [hc0'.out, if_neg u0, Nat.add_zero])
                clear hv u0 v2
                go_wp2
                go_round
                case rel => exact ⟨j + 1, by omega, by go_num, by rw [e1.out], by rw [e0.out]⟩
                case measure => simp [intOf]; omega
        · clear hprev
          by_cases hjm : m.length ≤ j
          · have hcq' := hq3 hjm
            clear hq3
            go_wp2_with fail
            go_at_call 73
            refine (kindFn_any hk m1 hB q (by omega)).mono ?_
            rintro e w' ⟨rfl, rfl⟩
            obtain ⟨v, hv⟩ : ∃ v, kindV ks' q = v := ⟨_, rfl⟩
            rw [hv]
            by_cases v3 : v = 3 ∨ v = 4
            · have u1 : unitN ks' q = 1 := ku1.out.2 (by rw [hv]; exact v3)
              have e1 := Lib.hid (show cntU ks' 1 (out.take (j + 1)) = cm1 + 1 by rw [hc1.out, if_pos u1])
              have e0 := Lib.hid (show cntU ks' 0 (out.take (j + 1)) = cm0 by rw [hc0'.out, if_neg (by omega), Nat.add_zero])
              clear hv u1
              rcases v3 with rfl | rfl
              · go_wp2
                go_round
                case rel => exact ⟨j + 1, by omega, by go_num, by rw [e1.out]; go_num, by rw [e0.out]⟩
                case measure => simp [intOf]; omega
              · go_wp2
                go_round
                case rel => exact ⟨j + 1, by omega, by go_num, by rw [e1.out]; go_num, by rw [e0.out]⟩
                case measure => simp [intOf]; omega
            · have n3 : (v == 3) = false := by simp; omega
              have n4 : (v == 4) = false := by simp; omega
              have u1 : unitN ks' q ≠ 1 := fun h => v3 (by rw [← hv]; exact ku1.out.1 h)
              have e1 := Lib.hid (show cntU ks' 1 (out.take (j + 1)) = cm1 by rw [hc1.out, if_neg u1, Nat.add_zero])
              clear v3 u1
              by_cases v2 : v = 2
              · have u0 : unitN ks' q = 0 := ku0.out.2 (by rw [hv]; exact v2)
                have e0 := Lib.hid (show cntU ks' 0 (out.take (j + 1)) = cm0 + 1 by rw [hc0'.out, if_pos u0])
                clear hv u0 n3 n4
                subst v2
                go_wp2
                go_round
                case rel => exact ⟨j + 1, by omega, by go_num, by rw [e1.out], by rw [e0.out]; go_num⟩
                case measure => simp [intOf]; omega
              · have n2 : (v == 2) = false := by simpa using v2
                have u0 : unitN ks' q ≠ 0 := fun h => v2 (by rw [← hv]; exact ku0.out.1 h)
                have e0 := Lib.hid (show cntU ks' 0 (out.take (j + 1)) = cm0 by rw [hc0'.out, if_neg u0, Nat.add_zero])
                clear hv u0 v2
                go_wp2
                go_round
                case rel => exact ⟨j + 1, by omega, by go_num, by rw [e1.out], by rw [e0.out]⟩
                case measure => simp [intOf]; omega
          · clear hq3
            go_wp2_with fail
            go_at_call 73
            refine (kindFn_any hk m1 hB q (by omega)).mono ?_
            rintro e w' ⟨rfl, rfl⟩
            obtain ⟨v, hv⟩ : ∃ v, kindV ks' q = v := ⟨_, rfl⟩
            rw [hv]
            by_cases v3 : v = 3 ∨ v = 4
            · have u1 : unitN ks' q = 1 := ku1.out.2 (by rw [hv]; exact v3)
              have e1 := Lib.hid (show cntU ks' 1 (out.take (j + 1)) = cm1 + 1 by rw [hc1.out, if_pos u1])
              have e0 := Lib.hid (show cntU ks' 0 (out.take (j + 1)) = cm0 by rw [hc0'.out, if_neg (by omega), Nat.add_zero])
              clear hv u1
              rcases v3 with rfl | rfl
              · go_wp2
                go_round
                case rel => exact ⟨j + 1, by omega, by go_num, by rw [e1.out]; go_num, by rw [e0.out]⟩
                case measure => simp [intOf]; omega
              · go_wp2
                go_round
                case rel => exact ⟨j + 1, by omega, by go_num, by rw [e1.out]; go_num, by rw [e0.out]⟩
                case measure => simp [intOf]; omega
            · have n3 : (v == 3) = false := by simp; omega
              have n4 : (v == 4) = false := by simp; omega
              have u1 : unitN ks' q ≠ 1 := fun h => v3 (by rw [← hv]; exact ku1.out.1 h)
              have e1 := Lib.hid (show cntU ks' 1 (out.take (j + 1)) = cm1 by rw [hc1.out, if_neg u1, Nat.add_zero])
              clear v3 u1
              by_cases v2 : v = 2
              · have u0 : unitN ks' q = 0 := ku0.out.2 (by rw [hv]; exact v2)
                have e0 := Lib.hid (show cntU ks' 0 (out.take (j + 1)) = cm0 + 1 by rw [hc0'.out, if_pos u0])
                clear hv u0 n3 n4
                subst v2
                go_wp2
                go_round
                case rel => exact ⟨j + 1, by omega, by go_num, by rw [e1.out], by rw [e0.out]; go_num⟩
                case measure => simp [intOf]; omega
              · have n2 : (v == 2) = false := by simpa using v2
                have u0 : unitN ks' q ≠ 0 := fun h => v2 (by rw [← hv]; exact ku0.out.1 h)
                have e0 := Lib.hid (show cntU ks' 0 (out.take (j + 1)) = cm0 by rw [hc0'.out, if_neg u0, Nat.add_zero])
                clear hv u0 v2
                go_wp2
                go_round
                case rel => exact ⟨j + 1, by omega, by go_num, by rw [e1.out], by rw [e0.out]⟩
                case measure => simp [intOf]; omega
      · have hjn : j = out.length := by omega
        subst hjn
        rw [List.take_length]
        obtain ⟨-, -, -, q1, q0, qb⟩ := HP.out
        have FE := Lib.hid (show (∀ j, j < n' → cs'.getD j false = false) → out.length = 0 from fun h => by rw [P0.out h]; rfl)
        have FF := Lib.hid (show ∀ i, i < n' → (∀ j, j < i → cs'.getD j false = false) → cs'.getD i false = true → (width < 1 → out.length = 0) ∧ (1 ≤ width → ¬ (busy = true ∧ unitN ks' i = 0) → 0 < out.length ∧ (outI out).getD 0 0 = (i : Int)) from fun i hi h hcs => by
          obtain ⟨f1, f2⟩ := P9.out i hi h hcs
          refine ⟨fun hw => by rw [f1 hw]; rfl, fun hw hb => ?_⟩
          obtain ⟨t, ht⟩ := f2 hw hb
          rw [ht]
          exact ⟨by simp, rfl⟩)
        clear HP P9 P0 hpost HS hj hjl P1' P7
        generalize cntU ks' 1 out = cm1 at *
        generalize cntU ks' 0 out = cm0 at *
        generalize outI out = xs at *
        generalize out.length = L at *
        cases busy
        · clear qb
          go_wp2
          go_loop [150] (fun iv => ∃ t : Nat, t ≤ n' ∧ iv = .int .i64 t ∧ ∀ j, j < t → cs'.getD j false = false) (fun i => n' - (intOf i).toNat)
          case atStart => exact ⟨0, Nat.zero_le _, rfl, fun j hj => absurd hj (by omega)⟩
          case round =>
            obtain ⟨t, ht, rfl, hpre⟩ := hrel
            replace hpre := Lib.hid hpre
            by_cases htn : t < n'
            · obtain ⟨bd, rfl, hcb⟩ := hc.at_ htn
              obtain ⟨is, his⟩ : ∃ b, cs'.getD t false = b := ⟨_, rfl⟩
              rw [his] at hcb
              cases is
              · have hnext := Lib.hid (show ∀ j, j < t + 1 → cs'.getD j false = false from fun j hj => by
                  by_cases e : j = t
                  · subst e; exact his
                  · exact hpre.out j (by omega))
                clear his
                go_wp2
                go_round
                case rel => exact ⟨t + 1, by omega, by go_num, hnext.out⟩
                case measure => simp [intOf]; omega
              · obtain ⟨f1, f2⟩ := FF.out t htn hpre.out his
                clear his
                by_cases hw1 : width < 1
                · have hL := f1 hw1
                  clear f1 f2 FF FE hx
                  subst hL
                  go_wp2
                  go_ret
                  exact ⟨rfl, hb⟩
                · have hw1' : 1 ≤ width := by omega
                  have f2' := f2 hw1'
                  replace hb := Lib.hid hb
                  clear f1 f2 hw1
                  obtain ⟨g1, g2⟩ := f2' (by simp)
                  obtain ⟨ad, rfl, hc0⟩ := hx.at_ (j := 0) g1
                  rw [g2] at hc0
                  have hc0' : w5.cell? ad = some (.int .i64 (t : Int)) := by have h := hc0; unfold Addr.add at h; simpa using h
                  clear f2' g2
                  go_wp2
                  go_ret
                  exact ⟨ret_bool (by simp), hb.out⟩
            · have htn' : t = n' := by omega
              subst htn'
              have hL := FE.out hpre.out
              clear FE FF hx
              subst hL
              go_wp2
              go_ret
              exact ⟨rfl, hb⟩
        · have qb0 := qb rfl
          clear qb
          subst qb0
          go_wp2
          go_loop [150] (fun iv => ∃ t : Nat, t ≤ n' ∧ iv = .int .i64 t ∧ ∀ j, j < t → cs'.getD j false = false) (fun i => n' - (intOf i).toNat)
          case atStart => exact ⟨0, Nat.zero_le _, rfl, fun j hj => absurd hj (by omega)⟩
          case round =>
            obtain ⟨t, ht, rfl, hpre⟩ := hrel
            replace hpre := Lib.hid hpre
            by_cases htn : t < n'
            · obtain ⟨bd, rfl, hcb⟩ := hc.at_ htn
              obtain ⟨is, his⟩ : ∃ b, cs'.getD t false = b := ⟨_, rfl⟩
              rw [his] at hcb
              cases is
              · have hnext := Lib.hid (show ∀ j, j < t + 1 → cs'.getD j false = false from fun j hj => by
                  by_cases e : j = t
                  · subst e; exact his
                  · exact hpre.out j (by omega))
                clear his
                go_wp2
                go_round
                case rel => exact ⟨t + 1, by omega, by go_num, hnext.out⟩
                case measure => simp [intOf]; omega
              · obtain ⟨f1, f2⟩ := FF.out t htn hpre.out his
                clear his
                by_cases hw1 : width < 1
                · have hL := f1 hw1
                  clear f1 f2 FF FE hx
                  subst hL
                  go_wp2
                  go_ret
                  exact ⟨rfl, hb⟩
                · have hw1' : 1 ≤ width := by omega
                  have f2' := f2 hw1'
                  replace hb := Lib.hid hb
                  clear f1 f2 hw1
                  by_cases hu : unitN ks' t = 0
                  · have hkv := (kind_unit ks' t).1.1 hu
                    clear f2' hu
                    replace hkv := Lib.hid hkv
                    go_wp2_with (go_at_call 73; refine (kindFn_any hk m1 hB t (by omega)).mono ?_; rintro e w' ⟨rfl, rfl⟩; rw [hkv.out])
                    go_ret
                    exact ⟨rfl, hb.out⟩
                  · obtain ⟨g1, g2⟩ := f2' (fun h => hu h.2)
                    have hkv : (kindV ks' t == 2) = false := by simpa using fun e => hu ((kind_unit ks' t).1.2 e)
                    obtain ⟨ad, rfl, hc0⟩ := hx.at_ (j := 0) g1
                    rw [g2] at hc0
                    have hc0' : w5.cell? ad = some (.int .i64 (t : Int)) := by have h := hc0; unfold Addr.add at h; simpa using h
                    clear f2' g2 hu
                    go_wp2_with (go_at_call 73; refine (kindFn_any hk m1 hB t (by omega)).mono ?_; rintro e w' ⟨rfl, rfl⟩)
                    go_ret
                    exact ⟨ret_bool (by simp), hb.out⟩
            · have htn' : t = n' := by omega
              subst htn'
              have hL := FE.out hpre.out
              clear FE FF hx
              subst hL
              go_wp2
              go_ret
              exact ⟨rfl, hb⟩
  · have hw0' : width < 0 := by omega
    obtain rfl : out = [] := List.eq_nil_of_length_eq_zero (by omega)
    obtain rfl : m = [] := List.eq_nil_of_length_eq_zero (by simpa using hml)
    clear P1 P9 P0 HP hpost hml hw0
    go_wp2_with (first
      | (go_at_call 70; refine HS.out.mono ?_; rintro e w4 ⟨rfl, q4, rfl⟩)
      | (go_at_call 69; refine (alive17_any _).mono ?_; rintro e w5 ⟨rfl, b5⟩))
    have b := (Go.Joins.below_draws w3.heap.size w3 q4).trans b5
    replace hc := hc.below b
    replace hb := hb.trans (b.mono hb.size)
    clear b b5 HS hx hk hB hs
    cases busy
    · refine wp_loop_rounds 1 ?_
      rw [rounds_succ]
      go_wp2
      go_loop [150] (fun iv => ∃ t : Nat, t ≤ n' ∧ iv = .int .i64 t) (fun i => n' - (intOf i).toNat)
      case atStart => exact ⟨0, Nat.zero_le _, rfl⟩
      case round =>
        obtain ⟨t, ht, rfl⟩ := hrel
        by_cases htn : t < n'
        · obtain ⟨bd, rfl, hcb⟩ := hc.at_ htn
          obtain ⟨is, his⟩ : ∃ b, cs'.getD t false = b := ⟨_, rfl⟩
          rw [his] at hcb
          clear his
          cases is
          · go_wp2
            go_round
            case rel => exact ⟨t + 1, by omega, by go_num⟩
            case measure => simp [intOf]; omega
          · go_wp2
            go_ret
            exact ⟨rfl, hb⟩
        · have htn' : t = n' := by omega
          subst htn'
          go_wp2
          go_ret
          exact ⟨rfl, hb⟩
    · refine wp_loop_rounds 1 ?_
      rw [rounds_succ]
      go_wp2
      go_loop [150] (fun iv => ∃ t : Nat, t ≤ n' ∧ iv = .int .i64 t) (fun i => n' - (intOf i).toNat)
      case atStart => exact ⟨0, Nat.zero_le _, rfl⟩
      case round =>
        obtain ⟨t, ht, rfl⟩ := hrel
        by_cases htn : t < n'
        · obtain ⟨bd, rfl, hcb⟩ := hc.at_ htn
          obtain ⟨is, his⟩ : ∃ b, cs'.getD t false = b := ⟨_, rfl⟩
          rw [his] at hcb
          clear his
          cases is
          · go_wp2
            go_round
            case rel => exact ⟨t + 1, by omega, by go_num⟩
            case measure => simp [intOf]; omega
          · go_wp2
            go_ret
            exact ⟨rfl, hb⟩
        · have htn' : t = n' := by omega
          subst htn'
          go_wp2
          go_ret
          exact ⟨rfl, hb⟩

theorem own : ownKnob Try.prog.godebug = none := by kernel_rfl
theorem laidOut : laidOutB Try.prog = true := by kernel_rfl

set_option maxRecDepth 100000 in
theorem lifted (os : Os) (started : os.Started) (H : Type) (enc : TypeId × Value → H) :
    ReturnsInHanded {} Try.checked os 18 .any (Rows.pickFirstSpec.pre6 enc Try.prog Try.f18 Rows.pickFirstRow.domain false) (Rows.pickFirstSpec.post enc Try.prog Try.f18 false true false false) := by
  refine returnsInHanded_of_change (C := Try.checked) own started (by kernel_rfl) Try.func18
    (ChangeSpec.witness6 (enc := enc) (C := Try.checked) false ⟨#[], #[.int .i64 0, .bool false, .slice none 0 0, .slice none 0 0, .int .i64 0], []⟩ 8 (by kernel_rfl) (by kernel_rfl) (by kernel_rfl) (by kernel_rfl)) ?_
  intro W base args ds gs before hval0 hW hcnd _
  have hval : ∀ (j : Nat) t v, Try.f18.params[j]? = some t → args[j]? = some v → Value.okWide Try.prog W .any base t v := hval0
  have hW' := hW
  obtain ⟨p, q, hA0, hV, rfl, hfz, hnd⟩ := hW
  have hA : DataW.TrodAll enc Try.prog W 0 (fun _ => true) true Try.f18.params.toList args.toList ds p := hA0
  rw [Try.params18] at hA hval
  obtain ⟨v0, vs0, d0, ds0, p0, q0, hargs, rfl, rfl, h0, r0⟩ := trodAll_cons hA
  obtain ⟨v1, vs1, d1, ds1, p1, q1, rfl, rfl, rfl, h1, r1⟩ := trodAll_cons r0
  obtain ⟨v2, vs2, d2, ds2, p2, q2, rfl, rfl, rfl, h2, r2⟩ := trodAll_cons r1
  obtain ⟨v3, vs3, d3, ds3, p3, q3, rfl, rfl, rfl, h3, r3⟩ := trodAll_cons r2
  obtain ⟨v4, vs4, d4, ds4, p4, q4, rfl, rfl, rfl, h4, r4⟩ := trodAll_cons r3
  obtain ⟨rfl, rfl, rfl⟩ := trodAll_nil r4
  obtain rfl : args = #[v0, v1, v2, v3, v4] := by cases args; simp_all
  obtain ⟨rfl, rfl⟩ := trodVars_none hV
  have hlt := hW'.lt
  have k0 := h0
  obtain ⟨width, rfl, -, -, w_width⟩ := open_int Try.underlying3 (hval 0 3 v0 rfl rfl) h0
  have k1 := h1
  obtain ⟨busy, rfl, -, -⟩ := open_bool Try.underlying4 (hval 1 4 v1 rfl rfl) h1
  have k2 := h2
  obtain ⟨kinds_a, kinds_n, kinds_c, kinds, rfl, w_kinds_n, w_kinds_c, w_kinds, w_kinds_wf⟩ := arg_ints (k := .i64) Try.underlying22 Try.underlying3 (by kernel_rfl) (hval 2 22 v2 rfl rfl) h2
  have k3 := h3
  obtain ⟨can_a, can_n, can_c, can, rfl, w_can_n, w_can_c, w_can⟩ := arg_bools Try.underlying80 Try.underlying4 (by kernel_rfl) (hval 3 80 v3 rfl rfl) h3
  have k4 := h4
  obtain ⟨cut, rfl, -, -, w_cut⟩ := open_int Try.underlying3 (hval 4 3 v4 rfl rfl) h4
  clear hA0 hval0
  simp only [List.append_nil] at hW'
  refine (walk width busy cut kinds_a can_a kinds_n kinds_c can_n can_c kinds can w_kinds_n w_kinds_c w_can_n w_can_c W w_kinds w_can).mono fun e W' ⟨he, bel⟩ => ?_
  subst he
  exact ⟨_, rfl, _, _, _, [], _, [], hW', trodAll_mk1 (shut_bool Try.underlying4 _), (trodAll_cons_mk (Below.trod laidOut (by kernel_rfl) (of_decide_eq_true (by kernel_rfl)) k0 bel (fun x hx => hlt x (by simp [hx]))) (trodAll_cons_mk (Below.trod laidOut (by kernel_rfl) (of_decide_eq_true (by kernel_rfl)) k1 bel (fun x hx => hlt x (by simp [hx]))) (trodAll_cons_mk (Below.trod laidOut (by kernel_rfl) (of_decide_eq_true (by kernel_rfl)) k2 bel (fun x hx => hlt x (by simp [hx]))) (trodAll_cons_mk (Below.trod laidOut (by kernel_rfl) (of_decide_eq_true (by kernel_rfl)) k3 bel (fun x hx => hlt x (by simp [hx]))) (trodAll_cons_mk (Below.trod laidOut (by kernel_rfl) (of_decide_eq_true (by kernel_rfl)) k4 bel (fun x hx => hlt x (by simp [hx]))) trodAll_mk0))))), rfl, bel.frame _, fun h => by cases h⟩

/-- THE STATEMENT -/
theorem proved : Rows.PickFirstSaid :=
  OpenClaim.holds_of_wide 18 Try.f18 rfl rfl rfl rfl rfl rfl rfl ⟨rfl, rfl, rfl, rfl, rfl⟩ rfl rfl rfl rfl rfl (by kernel_rfl) Try.func18 (by kernel_rfl)
    (of_decide_eq_true (by kernel_rfl)) (by unfold Func.isWrapper; first | (rw [if_pos (by decide +kernel)]; kernel_rfl) | (rw [if_neg (by decide +kernel)]; exact ⟨rfl, rfl⟩))
    (fun os started H enc _ => lifted os started H enc)
#print axioms proved
end Go.Proofs.Ytebeelphilfjhaa.pickFirst
