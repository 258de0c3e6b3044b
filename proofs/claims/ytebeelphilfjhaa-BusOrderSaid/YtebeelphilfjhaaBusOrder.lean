/- Proved: the statement of BusOrder (auspexlaw09): requests are done in the order in which they were pushed, each when all ahead of it are, and as many cycles went by as it takes; for every input; no condition. -/
import Derived.Test.YtebeelphilfjhaaRows
import Derived.Test.YtebeelphilfjhaaBusO
import Derived.OpenShut
namespace Go.Proofs.Ytebeelphilfjhaa.busOrder
open Go.ChangeShapes Go.WideShapes Go.ChangeAt Go.RowKit
set_option linter.unusedVariables false
set_option linter.unusedSimpArgs false

theorem info_int : (Try.prog.info? 3).map (fun i => (i.zero, i.size, i.bytes)) = some (some (.int .i64 0), 1, 8) := by kernel_rfl
def endsOf (zs : List Int) (k : Nat) : List Int := (List.range k).map fun i : Nat => sumN zs (i + 1)
theorem ends_snoc (zs : List Int) (k : Nat) : endsOf zs (k + 1) = endsOf zs k ++ [sumN zs (k + 1)] := by simp [endsOf, List.range_succ]
theorem ends_len (zs : List Int) (k : Nat) : (endsOf zs k).length = k := by simp [endsOf]
theorem ends_get (zs : List Int) (N d : Nat) (h : d < N) : (endsOf zs N).getD d 0 = sumN zs (d + 1) := by simp [endsOf, List.getD, h]

set_option maxHeartbeats 2000000
set_option maxRecDepth 100000
theorem walk (Z : Option Addr) (N c : Nat) (zs0 : List Int) (h1 : N ≤ c) (h2 : c ≤ maxLen) (w : World) (hz0' : IntsAt w Z N .i64 zs0) :
    Calls Try.prog 8 #[.slice Z N c] w fun e W' => e = .returned (.bool true) ∧ Below w.heap.size w W' := by
  obtain ⟨i0, hi, hz0, hz1, hz2⟩ := info_parts info_int
  unfold maxLen at h2
  by_cases hN : N ≤ 12
  · have hz := hz0'
    have hN' : (N : Int) ≤ 12 := by omega
    clear hz0'
    generalize zs0 = zs at *
    go_enter Try.func8, Try.ntmps8
    go_wp2
    go_loopw [3, 4, 5, 23] (fun q ends sum i wr => ∃ (k : Nat) (A : Option Addr) (cq : Nat), k ≤ N ∧ i = .int .i64 k ∧ q = .slice A k cq ∧ k ≤ cq ∧ cq ≤ maxLen ∧ ReqsAt wr A k (rsOf zs k) ∧ sum = .int .i64 (sumN zs k) ∧ wr.ownsRow w.heap.size 3 1 ends k ((endsOf zs k).map (Value.int .i64)) ∧ Below w.heap.size w wr) (fun _ _ _ i _ => N - (intOf i).toNat)
    case atStart => exact ⟨0, none, 0, Nat.zero_le _, rfl, rfl, Nat.le_refl _, Nat.zero_le _, reqs_nil _ _, rfl, World.ownsRow_nil _ _ _ _, Below.refl _ _⟩
    case round =>
      obtain ⟨k, A, cq, hk, rfl, rfl, hkc, hcm, hq, rfl, hown, hbel⟩ := hrel
      by_cases hkn : k < N
      · obtain ⟨a, rfl, hc⟩ := (hz.below hbel).at_ (j := k) hkn
        obtain ⟨z, hzz⟩ : ∃ z, zs.getD k 0 = z := ⟨_, rfl⟩
        rw [hzz] at hc
        have hn : nth zs k = if z < 1 then 1 else if 20 < z then 20 else z := by unfold nth; rw [hzz]
        clear hzz
        by_cases z1 : z < 1
        · rw [if_pos z1] at hn
          have Hn := Lib.hid hn
          clear hn
          go_wp2_with fail
          refine (push_new A k cq (rsOf zs k) 1 (16 * (k : Int)) 1 (ByteArray.mk #[]) (by omega) _ hq).mono ?_
          rintro e w1 ⟨A', c', rfl, q1, q2, hq', qf, b⟩
          have Qf := Lib.hid qf
          have He := Lib.hid (fun g hg => (hown.lt g hg).2)
          clear qf
          rw [if_neg (by omega)] at hq'
          have hq'' : ReqsAt w1 A' (k + 1) (rsOf zs (k + 1)) := by rw [rsOf_snoc, Hn.out]; exact hq'
          have HQ := Lib.hid hq''
          have hown1 := own_below hown b
          have hbel1 := hbel.trans (b.mono hbel.size)
          have hsum : sumN zs (k + 1) = sumN zs k + 1 := by rw [← Hn.out]; rfl
          have hsr := sumN_range zs k
          have HSum := Lib.hid hsum
          clear b hq hq' hq'' hown hbel hsum
          go_wp2_with (at_builtin; refine wpList_append_own _ rfl (.tmp 40) (.tmp 42) 22 rfl w.heap.size 3 i0 (.int .i64 0) 1 8 Try.underlying22 hi hz0 hz1 hz2 rfl (by decide) _ _ _ rfl (hown1.alloc _) ⟨w1.heap.size, 0, none⟩ 1 1 [_] rfl rfl (cell_new1 _ _ _) (one_int _ _) (by unfold maxLen; omega) (by omega) (by have := hbel1.size; simp; omega) ?_; intro v' w2 hown2 hgrow _)
          have hq2 := reqs_grown HQ.out hgrow He.out Qf.out
          have hbel2 := below_app hbel1 (Nat.le_refl _) hown1 hgrow
          clear hgrow hown1 hbel1
          go_wp2
          go_roundw
          case rel => exact ⟨k + 1, A', c', by omega, by go_num, rfl, q1, q2, hq2, by rw [HSum.out], by rw [ends_snoc, List.map_append, HSum.out]; exact hown2, hbel2⟩
          case measure => simp [intOf]; omega
        · rw [if_neg z1] at hn
          by_cases z2 : 20 < z
          · rw [if_pos z2] at hn
            have Hn := Lib.hid hn
            clear hn
            go_wp2_with fail
            refine (push_new A k cq (rsOf zs k) 1 (16 * (k : Int)) 20 (ByteArray.mk #[]) (by omega) _ hq).mono ?_
            rintro e w1 ⟨A', c', rfl, q1, q2, hq', qf, b⟩
            have Qf := Lib.hid qf
            have He := Lib.hid (fun g hg => (hown.lt g hg).2)
            clear qf
            rw [if_neg (by omega)] at hq'
            have hq'' : ReqsAt w1 A' (k + 1) (rsOf zs (k + 1)) := by rw [rsOf_snoc, Hn.out]; exact hq'
            have HQ := Lib.hid hq''
            have hown1 := own_below hown b
            have hbel1 := hbel.trans (b.mono hbel.size)
            have hsum : sumN zs (k + 1) = sumN zs k + 20 := by rw [← Hn.out]; rfl
            have hsr := sumN_range zs k
            have HSum := Lib.hid hsum
            clear b hq hq' hq'' hown hbel hsum
            go_wp2_with (at_builtin; refine wpList_append_own _ rfl (.tmp 40) (.tmp 42) 22 rfl w.heap.size 3 i0 (.int .i64 0) 1 8 Try.underlying22 hi hz0 hz1 hz2 rfl (by decide) _ _ _ rfl (hown1.alloc _) ⟨w1.heap.size, 0, none⟩ 1 1 [_] rfl rfl (cell_new1 _ _ _) (one_int _ _) (by unfold maxLen; omega) (by omega) (by have := hbel1.size; simp; omega) ?_; intro v' w2 hown2 hgrow _)
            have hq2 := reqs_grown HQ.out hgrow He.out Qf.out
            have hbel2 := below_app hbel1 (Nat.le_refl _) hown1 hgrow
            clear hgrow hown1 hbel1
            go_wp2
            go_roundw
            case rel => exact ⟨k + 1, A', c', by omega, by go_num, rfl, q1, q2, hq2, by rw [HSum.out], by rw [ends_snoc, List.map_append, HSum.out]; exact hown2, hbel2⟩
            case measure => simp [intOf]; omega
          · rw [if_neg z2] at hn
            have Hn := Lib.hid hn
            have z3 : 1 ≤ z := by omega
            have z4 : z ≤ 20 := by omega
            clear hn z1 z2
            go_wp2_with fail
            refine (push_new A k cq (rsOf zs k) 1 (16 * (k : Int)) z (ByteArray.mk #[]) (by omega) _ hq).mono ?_
            rintro e w1 ⟨A', c', rfl, q1, q2, hq', qf, b⟩
            have Qf := Lib.hid qf
            have He := Lib.hid (fun g hg => (hown.lt g hg).2)
            clear qf
            rw [if_neg (by omega)] at hq'
            have hq'' : ReqsAt w1 A' (k + 1) (rsOf zs (k + 1)) := by rw [rsOf_snoc, Hn.out]; exact hq'
            have HQ := Lib.hid hq''
            have hown1 := own_below hown b
            have hbel1 := hbel.trans (b.mono hbel.size)
            have hsum : sumN zs (k + 1) = sumN zs k + z := by rw [← Hn.out]; rfl
            have hsr := sumN_range zs k
            have HSum := Lib.hid hsum
            clear b hq hq' hq'' hown hbel hsum
            go_wp2_with (at_builtin; refine wpList_append_own _ rfl (.tmp 40) (.tmp 42) 22 rfl w.heap.size 3 i0 (.int .i64 0) 1 8 Try.underlying22 hi hz0 hz1 hz2 rfl (by decide) _ _ _ rfl (hown1.alloc _) ⟨w1.heap.size, 0, none⟩ 1 1 [_] rfl rfl (cell_new1 _ _ _) (one_int _ _) (by unfold maxLen; omega) (by omega) (by have := hbel1.size; simp; omega) ?_; intro v' w2 hown2 hgrow _)
            have hq2 := reqs_grown HQ.out hgrow He.out Qf.out
            have hbel2 := below_app hbel1 (Nat.le_refl _) hown1 hgrow
            clear hgrow hown1 hbel1
            go_wp2
            go_roundw
            case rel => exact ⟨k + 1, A', c', by omega, by go_num, rfl, q1, q2, hq2, by rw [HSum.out], by rw [ends_snoc, List.map_append, HSum.out]; exact hown2, hbel2⟩
            case measure => simp [intOf]; omega
      · obtain rfl : N = k := by omega
        obtain ⟨E, ce, rfl, e1, e2, hE⟩ := ints_own hown (ends_len zs N)
        have hs240 := sumN_range zs N
        have HE := Lib.hid hE
        obtain ⟨S, hS⟩ : ∃ S, sumN zs N = S := ⟨_, rfl⟩
        rw [hS] at hs240 ⊢
        have HS := Lib.hid hS
        clear hE hown hS
        obtain ⟨wo, rfl⟩ : ∃ wo : World, wo = wr := ⟨_, rfl⟩
        go_wp2
        go_loopw [3, 8, 9] (fun q d cy wr => ∃ (d' : Nat) (c : Int) (A : Option Addr) (cq : Nat), d' ≤ N ∧ 1 ≤ c ∧ c ≤ S + 1 ∧ sumN zs d' ≤ c - 1 ∧ (d' < N → c - 1 < sumN zs (d' + 1)) ∧ d = .int .i64 d' ∧ cy = .int .i64 c ∧ q = .slice A (N - d') cq ∧ N - d' ≤ cq ∧ cq ≤ maxLen ∧ ReqsAt wr A (N - d') (qAt zs N d' c) ∧ Below wo.heap.size wo wr) (fun _ _ cy _ => (S + 2 - intOf cy).toNat)
        case atStart => exact ⟨0, 1, A, cq, Nat.zero_le _, by omega, by omega, by simp [sumN], fun h => by have := nth_range zs 0; simp only [sumN]; omega, rfl, rfl, rfl, hkc, hcm, by rw [qAt_start]; exact hq, Below.refl _ _⟩
        case round =>
          clear hq hkc hcm
          obtain ⟨d, c, A, cq, hd, c1, c2, s1, s2, rfl, rfl, rfl, hkc, hcm, hq, hb2⟩ := hrel
          by_cases hle : c ≤ S
          · have hdn : d < N := by
              rcases Nat.lt_or_ge d N with h | h
              · exact h
              · obtain rfl : d = N := by omega
                have := HS.out
                omega
            have HT := Lib.hid (qAt_tick zs N d c (by omega) hdn s1 (s2 hdn))
            have HL := Lib.hid (fun c => qAt_len zs N d c hd)
            have HL1 := Lib.hid (fun c => qAt_len zs N (d + 1) c hdn)
            have HS2 := Lib.hid (fun h : d + 1 < N => (show sumN zs (d + 1 + 1) = sumN zs (d + 1) + nth zs (d + 1) from rfl))
            have HS3 := Lib.hid s2
            have hs3 := s2 hdn
            clear s2
            go_wp2_with fail
            refine (tick_any A (N - d) cq _ (by omega) _ hq hkc hcm).mono ?_
            rintro e w3 ⟨A3, c3, rfl, t1, t2, ht, b⟩
            rw [HT.out] at t1 ht ⊢
            replace hb2 := hb2.trans (b.mono hb2.size)
            clear b hq
            have hf := four_new w3 39 (.int .i64 0) (.int .u32 0) (.int .i64 0) (.string (ByteArray.mk #[]))
            have hdn' : decide ((d : Int) < (N : Int)) = true := by simp; omega
            by_cases e : c = sumN zs (d + 1)
            · rw [if_pos e] at t1 ht ⊢
              simp only [HL1.out] at t1 ht ⊢
              obtain ⟨ea, rfl, hcell⟩ := (HE.out.below (hb2.alloc hb2.size (.cells #[.int .i64 1, .int .u32 (16 * (d : Int)), .int .i64 0, .string (ByteArray.mk #[])] 39))).at_ (j := d) hdn
              rw [ends_get zs N d hdn, ← e] at hcell
              have HEq := Lib.hid e
              clear e
              simp only [reqV]
              go_wp2
              go_roundw
              case rel =>
                refine ⟨d + 1, c + 1, A3, c3, hdn, by omega, by omega, by rw [← HEq.out]; omega, fun h => ?_, by go_num, rfl, (by first | rfl | (congr 1; omega)), t1, t2, ht.below (alloc_below _ _), hb2.alloc hb2.size _⟩
                have h1 := HS2.out h
                have h2 := nth_range zs (d + 1)
                have h3 := HEq.out
                omega
              case measure => simp [intOf]; omega
            · rw [if_neg e] at t1 ht ⊢
              simp only [HL.out] at t1 ht ⊢
              obtain ⟨ea, rfl, hcell⟩ := (HE.out.below (hb2.alloc hb2.size (.cells #[.int .i64 0, .int .u32 0, .int .i64 0, .string (ByteArray.mk #[])] 39))).at_ (j := d) hdn
              rw [ends_get zs N d hdn] at hcell
              have hne : (sumN zs (d + 1) == c) = false := by simp; omega
              obtain ⟨v, hv⟩ : ∃ v, sumN zs (d + 1) = v := ⟨_, rfl⟩
              rw [hv] at hcell hne
              have HV := Lib.hid hv
              have HEq := Lib.hid e
              clear e hv
              simp only [reqV, req0]
              go_wp2
              go_roundw
              case rel =>
                refine ⟨d, c + 1, A3, c3, hd, by omega, by omega, by omega, fun h => ?_, rfl, rfl, rfl, t1, t2, ht.below (alloc_below _ _), hb2.alloc hb2.size _⟩
                have h1 := HS3.out h
                have h2 := HV.out
                have h3 := HEq.out
                omega
              case measure => simp [intOf]; omega
          · obtain rfl : N = d := by
              rcases Nat.lt_or_ge d N with h | h
              · have h1 := s2 h
                have h2 := sumN_mono zs (d + 1) N h
                have h3 := HS.out
                omega
              · omega
            rw [qAt_end] at hq
            have hn0 : N - N = 0 := Nat.sub_self _
            rw [hn0] at hq hkc ⊢
            clear s2 hn0
            go_wp2_with fail
            refine (tick_any A 0 cq [] (by omega) _ hq hkc hcm).mono ?_
            rintro e w3 ⟨A3, c3, rfl, t1, t2, ht, b⟩
            have hb3 := hbel.trans ((hb2.trans (b.mono hb2.size)).mono hbel.size)
            simp only [tickR, reqV, req0, List.length_nil]
            clear b hq t1 t2 ht
            have hf := four_new w3 39 (.int .i64 0) (.int .u32 0) (.int .i64 0) (.string (ByteArray.mk #[]))
            go_wp2_with fail
            refine (alive09_any _).mono ?_
            rintro e w4 ⟨rfl, b⟩
            replace hb3 := hb3.trans ((alloc_then b).mono hb3.size)
            clear b
            go_wp2
            go_ret
            exact ⟨rfl, hb3⟩
  · have hz := hz0'.take (m := 12) (by omega)
    have hN' : 12 < (N : Int) := by omega
    have hc12 : 12 ≤ c := by omega
    clear hz0' hN
    generalize zs0.take 12 = zs at *
    go_enter Try.func8, Try.ntmps8
    go_wp2
    go_loopw [3, 4, 5, 23] (fun q ends sum i wr => ∃ (k : Nat) (A : Option Addr) (cq : Nat), k ≤ 12 ∧ i = .int .i64 k ∧ q = .slice A k cq ∧ k ≤ cq ∧ cq ≤ maxLen ∧ ReqsAt wr A k (rsOf zs k) ∧ sum = .int .i64 (sumN zs k) ∧ wr.ownsRow w.heap.size 3 1 ends k ((endsOf zs k).map (Value.int .i64)) ∧ Below w.heap.size w wr) (fun _ _ _ i _ => 12 - (intOf i).toNat)
    case atStart => exact ⟨0, none, 0, Nat.zero_le _, rfl, rfl, Nat.le_refl _, Nat.zero_le _, reqs_nil _ _, rfl, World.ownsRow_nil _ _ _ _, Below.refl _ _⟩
    case round =>
      obtain ⟨k, A, cq, hk, rfl, rfl, hkc, hcm, hq, rfl, hown, hbel⟩ := hrel
      by_cases hkn : k < 12
      · obtain ⟨a, rfl, hc⟩ := (hz.below hbel).at_ (j := k) hkn
        obtain ⟨z, hzz⟩ : ∃ z, zs.getD k 0 = z := ⟨_, rfl⟩
        rw [hzz] at hc
        have hn : nth zs k = if z < 1 then 1 else if 20 < z then 20 else z := by unfold nth; rw [hzz]
        clear hzz
        by_cases z1 : z < 1
        · rw [if_pos z1] at hn
          have Hn := Lib.hid hn
          clear hn
          go_wp2_with fail
          refine (push_new A k cq (rsOf zs k) 1 (16 * (k : Int)) 1 (ByteArray.mk #[]) (by omega) _ hq).mono ?_
          rintro e w1 ⟨A', c', rfl, q1, q2, hq', qf, b⟩
          have Qf := Lib.hid qf
          have He := Lib.hid (fun g hg => (hown.lt g hg).2)
          clear qf
          rw [if_neg (by omega)] at hq'
          have hq'' : ReqsAt w1 A' (k + 1) (rsOf zs (k + 1)) := by rw [rsOf_snoc, Hn.out]; exact hq'
          have HQ := Lib.hid hq''
          have hown1 := own_below hown b
          have hbel1 := hbel.trans (b.mono hbel.size)
          have hsum : sumN zs (k + 1) = sumN zs k + 1 := by rw [← Hn.out]; rfl
          have hsr := sumN_range zs k
          have HSum := Lib.hid hsum
          clear b hq hq' hq'' hown hbel hsum
          go_wp2_with (at_builtin; refine wpList_append_own _ rfl (.tmp 40) (.tmp 42) 22 rfl w.heap.size 3 i0 (.int .i64 0) 1 8 Try.underlying22 hi hz0 hz1 hz2 rfl (by decide) _ _ _ rfl (hown1.alloc _) ⟨w1.heap.size, 0, none⟩ 1 1 [_] rfl rfl (cell_new1 _ _ _) (one_int _ _) (by unfold maxLen; omega) (by omega) (by have := hbel1.size; simp; omega) ?_; intro v' w2 hown2 hgrow _)
          have hq2 := reqs_grown HQ.out hgrow He.out Qf.out
          have hbel2 := below_app hbel1 (Nat.le_refl _) hown1 hgrow
          clear hgrow hown1 hbel1
          go_wp2
          go_roundw
          case rel => exact ⟨k + 1, A', c', by omega, by go_num, rfl, q1, q2, hq2, by rw [HSum.out], by rw [ends_snoc, List.map_append, HSum.out]; exact hown2, hbel2⟩
          case measure => simp [intOf]; omega
        · rw [if_neg z1] at hn
          by_cases z2 : 20 < z
          · rw [if_pos z2] at hn
            have Hn := Lib.hid hn
            clear hn
            go_wp2_with fail
            refine (push_new A k cq (rsOf zs k) 1 (16 * (k : Int)) 20 (ByteArray.mk #[]) (by omega) _ hq).mono ?_
            rintro e w1 ⟨A', c', rfl, q1, q2, hq', qf, b⟩
            have Qf := Lib.hid qf
            have He := Lib.hid (fun g hg => (hown.lt g hg).2)
            clear qf
            rw [if_neg (by omega)] at hq'
            have hq'' : ReqsAt w1 A' (k + 1) (rsOf zs (k + 1)) := by rw [rsOf_snoc, Hn.out]; exact hq'
            have HQ := Lib.hid hq''
            have hown1 := own_below hown b
            have hbel1 := hbel.trans (b.mono hbel.size)
            have hsum : sumN zs (k + 1) = sumN zs k + 20 := by rw [← Hn.out]; rfl
            have hsr := sumN_range zs k
            have HSum := Lib.hid hsum
            clear b hq hq' hq'' hown hbel hsum
            go_wp2_with (at_builtin; refine wpList_append_own _ rfl (.tmp 40) (.tmp 42) 22 rfl w.heap.size 3 i0 (.int .i64 0) 1 8 Try.underlying22 hi hz0 hz1 hz2 rfl (by decide) _ _ _ rfl (hown1.alloc _) ⟨w1.heap.size, 0, none⟩ 1 1 [_] rfl rfl (cell_new1 _ _ _) (one_int _ _) (by unfold maxLen; omega) (by omega) (by have := hbel1.size; simp; omega) ?_; intro v' w2 hown2 hgrow _)
            have hq2 := reqs_grown HQ.out hgrow He.out Qf.out
            have hbel2 := below_app hbel1 (Nat.le_refl _) hown1 hgrow
            clear hgrow hown1 hbel1
            go_wp2
            go_roundw
            case rel => exact ⟨k + 1, A', c', by omega, by go_num, rfl, q1, q2, hq2, by rw [HSum.out], by rw [ends_snoc, List.map_append, HSum.out]; exact hown2, hbel2⟩
            case measure => simp [intOf]; omega
          · rw [if_neg z2] at hn
            have Hn := Lib.hid hn
            have z3 : 1 ≤ z := by omega
            have z4 : z ≤ 20 := by omega
            clear hn z1 z2
            go_wp2_with fail
            refine (push_new A k cq (rsOf zs k) 1 (16 * (k : Int)) z (ByteArray.mk #[]) (by omega) _ hq).mono ?_
            rintro e w1 ⟨A', c', rfl, q1, q2, hq', qf, b⟩
            have Qf := Lib.hid qf
            have He := Lib.hid (fun g hg => (hown.lt g hg).2)
            clear qf
            rw [if_neg (by omega)] at hq'
            have hq'' : ReqsAt w1 A' (k + 1) (rsOf zs (k + 1)) := by rw [rsOf_snoc, Hn.out]; exact hq'
            have HQ := Lib.hid hq''
            have hown1 := own_below hown b
            have hbel1 := hbel.trans (b.mono hbel.size)
            have hsum : sumN zs (k + 1) = sumN zs k + z := by rw [← Hn.out]; rfl
            have hsr := sumN_range zs k
            have HSum := Lib.hid hsum
            clear b hq hq' hq'' hown hbel hsum
            go_wp2_with (at_builtin; refine wpList_append_own _ rfl (.tmp 40) (.tmp 42) 22 rfl w.heap.size 3 i0 (.int .i64 0) 1 8 Try.underlying22 hi hz0 hz1 hz2 rfl (by decide) _ _ _ rfl (hown1.alloc _) ⟨w1.heap.size, 0, none⟩ 1 1 [_] rfl rfl (cell_new1 _ _ _) (one_int _ _) (by unfold maxLen; omega) (by omega) (by have := hbel1.size; simp; omega) ?_; intro v' w2 hown2 hgrow _)
            have hq2 := reqs_grown HQ.out hgrow He.out Qf.out
            have hbel2 := below_app hbel1 (Nat.le_refl _) hown1 hgrow
            clear hgrow hown1 hbel1
            go_wp2
            go_roundw
            case rel => exact ⟨k + 1, A', c', by omega, by go_num, rfl, q1, q2, hq2, by rw [HSum.out], by rw [ends_snoc, List.map_append, HSum.out]; exact hown2, hbel2⟩
            case measure => simp [intOf]; omega
      · obtain rfl : 12 = k := by omega
        obtain ⟨E, ce, rfl, e1, e2, hE⟩ := ints_own hown (ends_len zs 12)
        have hs240 := sumN_range zs 12
        have HE := Lib.hid hE
        obtain ⟨S, hS⟩ : ∃ S, sumN zs 12 = S := ⟨_, rfl⟩
        rw [hS] at hs240 ⊢
        have HS := Lib.hid hS
        clear hE hown hS
        obtain ⟨wo, rfl⟩ : ∃ wo : World, wo = wr := ⟨_, rfl⟩
        go_wp2
        go_loopw [3, 8, 9] (fun q d cy wr => ∃ (d' : Nat) (c : Int) (A : Option Addr) (cq : Nat), d' ≤ 12 ∧ 1 ≤ c ∧ c ≤ S + 1 ∧ sumN zs d' ≤ c - 1 ∧ (d' < 12 → c - 1 < sumN zs (d' + 1)) ∧ d = .int .i64 d' ∧ cy = .int .i64 c ∧ q = .slice A (12 - d') cq ∧ 12 - d' ≤ cq ∧ cq ≤ maxLen ∧ ReqsAt wr A (12 - d') (qAt zs 12 d' c) ∧ Below wo.heap.size wo wr) (fun _ _ cy _ => (S + 2 - intOf cy).toNat)
        case atStart => exact ⟨0, 1, A, cq, Nat.zero_le _, by omega, by omega, by simp [sumN], fun h => by have := nth_range zs 0; simp only [sumN]; omega, rfl, rfl, rfl, hkc, hcm, by rw [qAt_start]; exact hq, Below.refl _ _⟩
        case round =>
          clear hq hkc hcm
          obtain ⟨d, c, A, cq, hd, c1, c2, s1, s2, rfl, rfl, rfl, hkc, hcm, hq, hb2⟩ := hrel
          by_cases hle : c ≤ S
          · have hdn : d < 12 := by
              rcases Nat.lt_or_ge d 12 with h | h
              · exact h
              · obtain rfl : d = 12 := by omega
                have := HS.out
                omega
            have HT := Lib.hid (qAt_tick zs 12 d c (by omega) hdn s1 (s2 hdn))
            have HL := Lib.hid (fun c => qAt_len zs 12 d c hd)
            have HL1 := Lib.hid (fun c => qAt_len zs 12 (d + 1) c hdn)
            have HS2 := Lib.hid (fun h : d + 1 < 12 => (show sumN zs (d + 1 + 1) = sumN zs (d + 1) + nth zs (d + 1) from rfl))
            have HS3 := Lib.hid s2
            have hs3 := s2 hdn
            clear s2
            go_wp2_with fail
            refine (tick_any A (12 - d) cq _ (by omega) _ hq hkc hcm).mono ?_
            rintro e w3 ⟨A3, c3, rfl, t1, t2, ht, b⟩
            rw [HT.out] at t1 ht ⊢
            replace hb2 := hb2.trans (b.mono hb2.size)
            clear b hq
            have hf := four_new w3 39 (.int .i64 0) (.int .u32 0) (.int .i64 0) (.string (ByteArray.mk #[]))
            have hdn' : decide ((d : Int) < 12) = true := by simp; omega
            by_cases e : c = sumN zs (d + 1)
            · rw [if_pos e] at t1 ht ⊢
              simp only [HL1.out] at t1 ht ⊢
              obtain ⟨ea, rfl, hcell⟩ := (HE.out.below (hb2.alloc hb2.size (.cells #[.int .i64 1, .int .u32 (16 * (d : Int)), .int .i64 0, .string (ByteArray.mk #[])] 39))).at_ (j := d) hdn
              rw [ends_get zs 12 d hdn, ← e] at hcell
              have HEq := Lib.hid e
              clear e
              simp only [reqV]
              go_wp2
              go_roundw
              case rel =>
                refine ⟨d + 1, c + 1, A3, c3, hdn, by omega, by omega, by rw [← HEq.out]; omega, fun h => ?_, by go_num, rfl, (by first | rfl | (congr 1; omega)), t1, t2, ht.below (alloc_below _ _), hb2.alloc hb2.size _⟩
                have h1 := HS2.out h
                have h2 := nth_range zs (d + 1)
                have h3 := HEq.out
                omega
              case measure => simp [intOf]; omega
            · rw [if_neg e] at t1 ht ⊢
              simp only [HL.out] at t1 ht ⊢
              obtain ⟨ea, rfl, hcell⟩ := (HE.out.below (hb2.alloc hb2.size (.cells #[.int .i64 0, .int .u32 0, .int .i64 0, .string (ByteArray.mk #[])] 39))).at_ (j := d) hdn
              rw [ends_get zs 12 d hdn] at hcell
              have hne : (sumN zs (d + 1) == c) = false := by simp; omega
              obtain ⟨v, hv⟩ : ∃ v, sumN zs (d + 1) = v := ⟨_, rfl⟩
              rw [hv] at hcell hne
              have HV := Lib.hid hv
              have HEq := Lib.hid e
              clear e hv
              simp only [reqV, req0]
              go_wp2
              go_roundw
              case rel =>
                refine ⟨d, c + 1, A3, c3, hd, by omega, by omega, by omega, fun h => ?_, rfl, rfl, rfl, t1, t2, ht.below (alloc_below _ _), hb2.alloc hb2.size _⟩
                have h1 := HS3.out h
                have h2 := HV.out
                have h3 := HEq.out
                omega
              case measure => simp [intOf]; omega
          · obtain rfl : 12 = d := by
              rcases Nat.lt_or_ge d 12 with h | h
              · have h1 := s2 h
                have h2 := sumN_mono zs (d + 1) 12 h
                have h3 := HS.out
                omega
              · omega
            rw [qAt_end] at hq
            have hn0 : 12 - 12 = 0 := Nat.sub_self _
            rw [hn0] at hq hkc ⊢
            clear s2 hn0
            go_wp2_with fail
            refine (tick_any A 0 cq [] (by omega) _ hq hkc hcm).mono ?_
            rintro e w3 ⟨A3, c3, rfl, t1, t2, ht, b⟩
            have hb3 := hbel.trans ((hb2.trans (b.mono hb2.size)).mono hbel.size)
            simp only [tickR, reqV, req0, List.length_nil]
            clear b hq t1 t2 ht
            have hf := four_new w3 39 (.int .i64 0) (.int .u32 0) (.int .i64 0) (.string (ByteArray.mk #[]))
            go_wp2_with fail
            refine (alive09_any _).mono ?_
            rintro e w4 ⟨rfl, b⟩
            replace hb3 := hb3.trans ((alloc_then b).mono hb3.size)
            clear b
            go_wp2
            go_ret
            exact ⟨rfl, hb3⟩

theorem own : ownKnob Try.prog.godebug = none := by kernel_rfl
theorem laidOut : laidOutB Try.prog = true := by kernel_rfl

set_option maxRecDepth 100000 in
theorem lifted (os : Os) (started : os.Started) (H : Type) (enc : TypeId × Value → H) :
    ReturnsInHanded {} Try.checked os 8 .any (Rows.busOrderSpec.pre6 enc Try.prog Try.f8 Rows.busOrderRow.domain false) (Rows.busOrderSpec.post enc Try.prog Try.f8 false true false false) := by
  refine returnsInHanded_of_change (C := Try.checked) own started (by kernel_rfl) Try.func8
    (ChangeSpec.witness6 (enc := enc) (C := Try.checked) false ⟨#[], #[.slice none 0 0], []⟩ 8 (by kernel_rfl) (by kernel_rfl) (by kernel_rfl) (by kernel_rfl)) ?_
  intro W base args ds gs before hval0 hW hcnd _
  have hval : ∀ (j : Nat) t v, Try.f8.params[j]? = some t → args[j]? = some v → Value.okWide Try.prog W .any base t v := hval0
  have hW' := hW
  obtain ⟨p, q, hA0, hV, rfl, hfz, hnd⟩ := hW
  have hA : DataW.TrodAll enc Try.prog W 0 (fun _ => true) true Try.f8.params.toList args.toList ds p := hA0
  rw [Try.params8] at hA hval
  obtain ⟨v0, vs0, d0, ds0, p0, q0, hargs, rfl, rfl, h0, r0⟩ := trodAll_cons hA
  obtain ⟨rfl, rfl, rfl⟩ := trodAll_nil r0
  obtain rfl : args = #[v0] := by cases args; simp_all
  obtain ⟨rfl, rfl⟩ := trodVars_none hV
  have hlt := hW'.lt
  have k0 := h0
  obtain ⟨lefts_a, lefts_n, lefts_c, lefts, rfl, w_lefts_n, w_lefts_c, w_lefts, w_lefts_wf⟩ := arg_ints (k := .i64) Try.underlying22 Try.underlying3 (by kernel_rfl) (hval 0 22 v0 rfl rfl) h0
  clear hA0 hval0
  simp only [List.append_nil] at hW'
  refine (walk lefts_a lefts_n lefts_c lefts w_lefts_n w_lefts_c W w_lefts).mono fun e W' ⟨he, bel⟩ => ?_
  subst he
  exact ⟨_, rfl, _, _, _, [], _, [], hW', trodAll_mk1 (shut_bool Try.underlying4 _), (trodAll_cons_mk (Below.trod laidOut (by kernel_rfl) (of_decide_eq_true (by kernel_rfl)) k0 bel (fun x hx => hlt x (by simp [hx]))) trodAll_mk0), rfl, bel.frame _, fun h => by cases h⟩

/-- THE STATEMENT -/
theorem proved : Rows.BusOrderSaid :=
  OpenClaim.holds_of_wide 8 Try.f8 rfl rfl rfl rfl rfl rfl rfl ⟨rfl, rfl, rfl, rfl, rfl⟩ rfl rfl rfl rfl rfl (by kernel_rfl) Try.func8 (by kernel_rfl)
    (of_decide_eq_true (by kernel_rfl)) (by unfold Func.isWrapper; first | (rw [if_pos (by decide +kernel)]; kernel_rfl) | (rw [if_neg (by decide +kernel)]; exact ⟨rfl, rfl⟩))
    (fun os started H enc _ => lifted os started H enc)
#print axioms proved
end Go.Proofs.Ytebeelphilfjhaa.busOrder
