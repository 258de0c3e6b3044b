/- Proved: the card of GaugeMost (auspexlaw24): the most of rates is one of them, none stands behind it, in whatever order they are handed in; for every input; on the world that holds the powers of ten. -/
import Derived.Test.YtebeelphilfjhaaDoorCards
import Derived.Test.YtebeelphilfjhaaDoorTie
import Derived.Test.YtebeelphilfjhaaDoorGaugeM
import Derived.WalkKit
import Derived.ProofKit
import Derived.OpenShut
import Derived.Deep.DeepHandedRow
import Derived.Lib.LaidTab
import Derived.Test.YtebeelphilfjhaaDoorOwn
import Derived.Deep.RegionLaw
namespace Go.Proofs.YtebeelphilfjhaaDoor.gaugeMost
open Go.ChangeShapes Go.WideShapes Go.ChangeAt Go.RowKit
set_option linter.unusedVariables false
set_option maxHeartbeats 1000000
set_option maxRecDepth 100000

theorem info_flt : (Tryd.prog.info? 22).map (fun i => (i.zero, i.size, i.bytes)) = some (some (.float .f64 0), 1, 8) := by kernel_rfl
theorem all_flt (l : List Nat) : ∀ u ∈ l.map (Value.float .f64), u.oneCell' = true := by
  intro u hu
  obtain ⟨z, _, rfl⟩ := List.mem_map.1 hu
  rfl
theorem own_flts {w : World} {base e n c : Nat} {A : Option Addr} {zs : List Nat} (h : w.ownsRow base e 1 (.slice A n c) n (zs.map (Value.float .f64))) (hn : zs.length = n) (hz : ∀ z ∈ zs, z < 18446744073709551616) : FltsAt w A n zs :=
  ⟨hn, fun j z hj => by
    have hjl : j < n := by have := (List.getElem?_eq_some_iff.1 hj).1; omega
    obtain ⟨g, rfl, hg⟩ := own_head h (by omega)
    refine ⟨hz z (List.mem_of_getElem? hj), _, rfl, (h.lt g rfl).2, ?_⟩
    rw [Addr.add_lit, Nat.zero_add, h.cellAt _ (by omega), List.getElem?_map, hj]
    rfl⟩
theorem FltsAt.news {w : World} {a : Addr} {n : Nat} {l : List Nat} (h : FltsAt w (some a) n l) (B m : Nat) : ∀ (j : Nat) u, (((l.drop B).take m).map (Value.float .f64))[j]? = some u → w.cell? ((a.add B).add j) = some u := by
  intro j u hu
  rw [List.getElem?_map] at hu
  obtain ⟨z, hz, rfl⟩ := Option.map_eq_some_iff.1 hu
  rw [List.getElem?_take] at hz
  by_cases hj : j < m
  · rw [if_pos hj, List.getElem?_drop] at hz
    obtain ⟨_, a', ha, _, hc⟩ := h.2 (B + j) z hz
    obtain rfl : a = a' := by injection ha
    rw [Addr.add_add]
    exact hc
  · rw [if_neg hj] at hz; cases hz
theorem maxK_mem (l : List Nat) (hl : ∀ x ∈ l, x < 18446744073709551616) : (∀ x ∈ l, fK x ≤ maxK l l.length) ∧ (l ≠ [] → ∃ x ∈ l, fK x = maxK l l.length) := by
  have hg : ∀ j, l.getD j 0 < 18446744073709551616 := fun j => by
    rw [List.getD_eq_getElem?_getD]
    cases h : l[j]? with
    | none => decide
    | some z => exact hl z (List.mem_of_getElem? h)
  refine ⟨fun x hx => ?_, fun hne => ?_⟩
  · obtain ⟨j, hj, rfl⟩ := List.getElem_of_mem hx
    have := maxK_ge l l.length j hj
    rwa [List.getD_eq_getElem?_getD, List.getElem?_eq_getElem hj] at this
  · have hpos : 0 < l.length := List.length_pos_iff.2 hne
    obtain ⟨j, hj, e⟩ := maxK_is l hg l.length hpos
    rw [List.getD_eq_getElem?_getD, List.getElem?_eq_getElem hj] at e
    exact ⟨l[j], List.getElem_mem hj, e⟩
theorem maxK_same {l l' : List Nat} (hl : ∀ x ∈ l, x < 18446744073709551616) (hm : ∀ x, x ∈ l ↔ x ∈ l') (hne : l ≠ []) : maxK l l.length = maxK l' l'.length := by
  have h1 := maxK_mem l hl
  have h2 := maxK_mem l' (fun x hx => hl x ((hm x).2 hx))
  obtain ⟨x, hx, ex⟩ := h1.2 hne
  have hne' : l' ≠ [] := fun e => by rw [e] at hm; exact absurd ((hm x).1 hx) (by simp)
  obtain ⟨y, hy, ey⟩ := h2.2 hne'
  have a1 := h2.1 x ((hm x).1 hx)
  have a2 := h1.1 y ((hm y).2 hy)
  omega
theorem turned_mem (l : List Nat) (B : Nat) (x : Nat) : x ∈ l ↔ x ∈ l.drop B ++ l.take B := by
  rw [List.mem_append, or_comm, ← List.mem_append, List.take_append_drop]
def oneB (l : List Nat) (r k : Nat) : Bool := decide (∃ j, j < k ∧ fK (l.getD j 0) = fK r)
theorem oneB_succ (l : List Nat) (r k : Nat) : oneB l r (k + 1) = (oneB l r k || decide (fK (l.getD k 0) = fK r)) := by
  unfold oneB
  rw [Bool.eq_iff_iff]
  simp only [decide_eq_true_eq, Bool.or_eq_true]
  constructor
  · rintro ⟨j, hj, e⟩
    by_cases h : j = k
    · subst h; exact .inr e
    · exact .inl ⟨j, by omega, e⟩
  · rintro (⟨j, hj, e⟩ | e)
    · exact ⟨j, by omega, e⟩
    · exact ⟨k, by omega, e⟩
theorem oneB_zero (l : List Nat) (r : Nat) : oneB l r 0 = false := decide_eq_false (by rintro ⟨j, hj, _⟩; omega)
theorem tmod_range (d : Int) (m : Nat) (h : 0 < m) : -(m : Int) < d.tmod m ∧ d.tmod m < m := by
  rcases Int.lt_or_le d 0 with hd | hd
  · have e : d.tmod m = -((-d) % m) := by
      rw [← Int.tmod_eq_emod_of_nonneg (by omega : 0 ≤ -d), Int.neg_tmod, Int.neg_neg]
    have h1 := Int.emod_nonneg (-d) (by omega : (m : Int) ≠ 0)
    have h2 := Int.emod_lt_of_pos (-d) (by omega : (0 : Int) < m)
    omega
  · rw [Int.tmod_eq_emod_of_nonneg hd]
    have h1 := Int.emod_nonneg d (by omega : (m : Int) ≠ 0)
    have h2 := Int.emod_lt_of_pos d (by omega : (0 : Int) < m)
    omega

theorem turn_range (d : Int) (m : Nat) (h : 0 < m) (hm : m ≤ 50) : ∃ B : Nat, B < m ∧ (wrap64 (d.tmod m + m)).tmod m = (B : Int) := by
  obtain ⟨h1, h2⟩ := tmod_range d m h
  have e : wrap64 (d.tmod m + m) = d.tmod m + m := by unfold wrap64; omega
  rw [e, Int.tmod_eq_emod_of_nonneg (by omega)]
  have h3 := Int.emod_nonneg (d.tmod m + m) (by omega : (m : Int) ≠ 0)
  have h4 := Int.emod_lt_of_pos (d.tmod m + m) (by omega : (0 : Int) < m)
  exact ⟨((d.tmod m + m) % m).toNat, by omega, by omega⟩

theorem walk (A : Option Addr) (n c : Nat) (l : List Nat) (d : Int) (hn : n ≤ c) (hc : c ≤ maxLen) (hd : (Lit.int .i64 d).wf = true) (w : World) (hl : FltsAt w A n l) (ht : Tab w) :
    Calls Tryd.prog 6 #[.slice A n c, .int .i64 d] w fun e w' => e = .returned (.bool true) ∧ Below w.heap.size w w' := by
  unfold maxLen at hc
  have hd' := bounds_i64 hd
  have hl' := hl.take (Nat.min_le_left n 50)
  have hm : min n 50 ≤ 50 := Nat.min_le_right _ _
  obtain ⟨m, hmE⟩ : ∃ m, min n 50 = m := ⟨_, rfl⟩
  have hmin : min (n : Int) 50 = (m : Int) := by omega
  have hmn : m ≤ n := by omega
  rw [hmE] at hl' hm
  have T := Lib.hid ht
  have HL := Lib.hid hl'
  clear hl hl' hmE ht
  generalize l.take m = l at *
  by_cases h0 : m = 0
  · subst h0
    go_enter Tryd.func6, Tryd.ntmps6
    go_wp2_with fail
    go_at_call 20
    refine (most_any _ _ _ _ (by omega) _ HL.out).mono ?_
    rintro e w1 ⟨r, rfl, L1, k1, b1⟩
    have N1 := Lib.hid (show fNan r = true from by
      cases h : fNan r
      · have := fK_above L1 h
        rw [k1] at this
        have : maxK l 0 = -(3 * (HUGE : Int)) := rfl
        omega
      · rfl)
    have T1 := Lib.hid (T.out.below b1)
    have B1 := Lib.hid b1
    clear k1 b1
    go_wp2_with fail
    go_at_call 10
    refine (alive24_any _ T1.out).mono ?_
    rintro e w2 ⟨rfl, b2⟩
    have B2 := Lib.hid (B1.out.trans (b2.mono B1.out.size))
    clear b2
    go_wp2_with fail
    go_at_call 22
    refine (none_any r L1 _).mono ?_
    rintro e w3 ⟨rfl, rfl⟩
    rw [N1.out]
    go_wp2
    go_ret
    exact ⟨rfl, B2.out⟩
  · have h0' : ((m : Int) == 0) = false := by simp; omega
    have hmpos : 0 < m := by omega
    obtain ⟨B, hB, hturn⟩ := turn_range d m hmpos hm
    obtain ⟨-, a, rfl, -⟩ := HL.out.at_ hmpos
    have hBc : B < c := by omega
    have hBc1 : (B : Int) < (c : Int) := by omega
    have hBc2 : (B : Int) < (m : Int) := by omega
    have hBc3 : (B : Int) ≤ (c : Int) := by omega
    have hBc4 : (m : Int) ≤ (c : Int) := by omega
    have hBc5 : ¬ c = B := by omega
    have hBc6 : (B : Int) ≤ (m : Int) := by omega
    have hBc7 : (0 : Int) ≤ (B : Int) := by omega
    go_enter Tryd.func6, Tryd.ntmps6
    go_wp2_with fail
    go_at_call 20
    refine (most_any _ _ _ _ (by omega) _ HL.out).mono ?_
    rintro e w1 ⟨r, rfl, L1, k1, b1⟩
    have K1 := Lib.hid k1
    have T1 := Lib.hid (T.out.below b1)
    have HL1 := Lib.hid (HL.out.below b1)
    have B1 := Lib.hid b1
    clear k1 b1
    obtain ⟨i0, hi, hz0, hz1, hz2⟩ := info_parts info_flt
    have hlen : l.length = m := HL.out.1
    have HO := Lib.hid ((World.ownsRow_made w1 (base := w1.heap.size) (e := 22) (size := 1) #[] 0 (Nat.le_refl _) (Nat.zero_le _) rfl).drew)
    have hbA : Below w1.heap.size w1 (w1.alloc (.cells #[] 22)).drew := ((Below.refl _ _).alloc (Nat.le_refl _) _).trans (below_dr _ _ 1)
    have HN1 := Lib.hid (FltsAt.news (HL1.out.below hbA) B (m - B))
    have HL1a := Lib.hid (all_flt ((l.drop B).take (m - B)))
    have hl1 : (((l.drop B).take (m - B)).map (Value.float .f64)).length = (m - B) * 1 := by simp; omega
    have HN2 := Lib.hid (fun (w2 : World) (hb : Below w1.heap.size w1 w2) => FltsAt.news (HL1.out.below hb) 0 B)
    have HL2a := Lib.hid (all_flt ((l.drop 0).take B))
    have hl2 : (((l.drop 0).take B).map (Value.float .f64)).length = B * 1 := by simp; omega
    have HG := Lib.hid (fun (w2 : World) (hg : (w1.alloc (.cells #[] 22)).drew.grownBy w2 (some w1.heap.size)) => show Below w1.heap.size w1 w2 from hbA.grown hg (by simp) (fun k hk => by cases hk; exact Nat.le_refl _))
    have hs0 : w1.heap.size ≤ (w1.alloc (.cells #[] 22)).drew.heap.size := by simp
    have HS0 := Lib.hid hs0
    have hm8 : m * 8 ≤ 140737488355328 := by omega
    have Ha0 : a.add 0 = a := by simp [Addr.add]
    have HA0 := Lib.hid Ha0
    clear hbA hs0 Ha0
    obtain ⟨N1, hN1⟩ : ∃ N1, N1 = ((l.drop B).take (m - B)).map (Value.float .f64) := ⟨_, rfl⟩
    obtain ⟨N2, hN2⟩ : ∃ N2, N2 = ((l.drop 0).take B).map (Value.float .f64) := ⟨_, rfl⟩
    rw [← hN1] at HN1 HL1a hl1
    rw [← hN2] at HN2 HL2a hl2
    have HL1l := Lib.hid hl1
    have HL2l := Lib.hid hl2
    have HNE := Lib.hid (And.intro hN1 hN2)
    have HLen := Lib.hid hlen
    rw [HA0.out] at HN2
    clear hl1 hl2 hN1 hN2 hlen
    go_wp2
    go_region_law (first
      | (refine step_append_own (by rfl) (.tmp 35) (.tmp 38) 29 (by rfl) w1.heap.size 22 i0 (.float .f64 0) 1 8 Tryd.underlying29 hi hz0 hz1 hz2 rfl (by decide) _ 0 _ (by rfl) HO.out (a.add B) (m - B) (c - B) N1 (by rfl) HL1l.out HN1.out HL1a.out (by unfold maxLen; omega) (by omega) HS0.out ?_; intro v2 w2 hown2 hgrow2 hnil2; have HB2 := Lib.hid (HG.out w2 hgrow2); have HO2 := Lib.hid hown2; clear hown2 hgrow2 hnil2)
      | (refine step_append_own (by rfl) (.tmp 39) (.tmp 42) 29 (by rfl) w1.heap.size 22 i0 (.float .f64 0) 1 8 Tryd.underlying29 hi hz0 hz1 hz2 rfl (by decide) v2 (0 + (m - B)) _ (by rfl) HO2.out a B c N2 (by rfl) HL2l.out (HN2.out w2 HB2.out) HL2a.out (by unfold maxLen; omega) (by omega) HB2.out.size ?_; intro v3 w3 hown3 hgrow3 hnil3; have HB3 := Lib.hid (HB2.out.grown hgrow3 HB2.out.size (fun k hk => (HO2.out.lt k hk).1)); have HO3 := Lib.hid hown3; clear hown3 hgrow3 hnil3))
    have hown3 := HO3.out
    rw [HNE.out.1, HNE.out.2, List.drop_zero, List.nil_append, ← List.map_append, Nat.zero_add, show m - B + B = m by omega] at hown3
    have htk : (l.drop B).take (m - B) = l.drop B := List.take_of_length_le (by rw [List.length_drop, HLen.out]; exact Nat.le_refl _)
    rw [htk] at hown3
    have hlt64 : ∀ x ∈ l, x < 18446744073709551616 := fun x hx => by
      obtain ⟨j, hj, rfl⟩ := List.getElem_of_mem hx
      exact (HL.out.2 j _ (List.getElem?_eq_getElem hj)).1
    have hrl : (l.drop B ++ l.take B).length = m := by rw [List.length_append, List.length_drop, List.length_take, HLen.out]; omega
    have hne : l ≠ [] := fun e => by have := HLen.out; rw [e] at this; simp at this; omega
    have hmx : maxK (l.drop B ++ l.take B) m = maxK l m := by
      have := maxK_same hlt64 (fun x => turned_mem l B x) hne
      rw [hrl, HLen.out] at this
      exact this.symm
    obtain ⟨A3, cp, rfl, hcp, -, -⟩ := own_form hown3
    have HL3 := Lib.hid (own_flts hown3 hrl (fun x hx => hlt64 x ((turned_mem l B x).2 hx)))
    have HMX := Lib.hid hmx
    have HW3 := Lib.hid (HL1.out.below HB3.out)
    have T3 := Lib.hid (T1.out.below HB3.out)
    have B3 := Lib.hid (B1.out.trans (HB3.out.mono B1.out.size))
    have HGE := Lib.hid (fun j hj => maxK_ge l m j hj)
    have HIS := Lib.hid (maxK_is l HL.out.lt m hmpos)
    clear hown3 htk hlt64 hrl hne hmx HO HN1 HL1a HN2 HL2a HG HS0 HA0 HL1l HL2l HNE HB2 HO2 HB3 HO3 hcp
    go_wp2
    go_loop [8, 46] (fun one i => ∃ k : Nat, k ≤ m ∧ i = .int .i64 k ∧ one = .bool (oneB l r k)) (fun _ i => m - (intOf i).toNat)
    case atStart => exact ⟨0, by omega, rfl, by rw [oneB_zero]⟩
    case round =>
      obtain ⟨k, hk, rfl, rfl⟩ := hrel
      obtain ⟨o, ho⟩ : ∃ o, oneB l r k = o := ⟨_, rfl⟩
      rw [ho]
      have HOB := Lib.hid ho
      clear ho
      by_cases hlt : k < m
      · obtain ⟨hx, a', ha', hcell⟩ := HW3.out.at_ hlt
        obtain rfl : a = a' := by injection ha'
        clear ha'
        have hge := HGE.out k hlt
        have hstep := oneB_succ l r k
        obtain ⟨x, hxE⟩ : ∃ x, l.getD k 0 = x := ⟨_, rfl⟩
        rw [hxE] at hcell hx hge hstep
        have hnl : ¬ cmpK r x < 0 := fun h => by
          have := (cmpK_lt r x).1 h
          rw [K1.out] at this
          omega
        obtain ⟨z, hz⟩ : ∃ z, cmpK r x = z := ⟨_, rfl⟩
        rw [hz] at hnl
        have HZ := Lib.hid hz
        obtain ⟨sm, hsm⟩ : ∃ sm, sameB x r = sm := ⟨_, rfl⟩
        have hsm2 : decide (fK x = fK r) = sm := hsm
        rw [hsm2, HOB.out] at hstep
        have HSM := Lib.hid hsm
        have HST := Lib.hid hstep
        clear hz hsm hsm2 hstep hge hxE
        cases o <;> cases sm
        all_goals
          go_wp2_with (first
            | (go_at_call 11; refine (same_any x r hx L1 _).mono ?_; rintro e w' ⟨rfl, rfl⟩; rw [HSM.out])
            | (go_at_call 14; refine (order_any r x L1 hx _).mono ?_; rintro e w' ⟨rfl, rfl⟩; rw [HZ.out]))
          go_round
          case rel => exact ⟨k + 1, by omega, by go_num, by rw [HST.out]; rfl⟩
          case measure => simp [intOf]; omega
      · obtain rfl : k = m := by omega
        have ho1 : o = true := by
          rw [← HOB.out]
          obtain ⟨j, hj, e⟩ := HIS.out
          exact decide_eq_true ⟨j, hj, e.trans K1.out.symm⟩
        subst ho1
        go_wp2_with fail
        go_at_call 10
        refine (alive24_any _ T3.out).mono ?_
        rintro e w4 ⟨rfl, b4⟩
        have HL4 := Lib.hid (HL3.out.below b4)
        have B4 := Lib.hid (B3.out.trans (b4.mono B3.out.size))
        clear b4
        go_wp2_with fail
        go_at_call 20
        refine (most_any _ _ _ _ (by omega) _ HL4.out).mono ?_
        rintro e w5 ⟨r5, rfl, L5, k5, b5⟩
        have HS5 := Lib.hid (show sameB r5 r = true from decide_eq_true (by rw [k5, HMX.out, K1.out]))
        have B5 := Lib.hid (B4.out.trans (b5.mono B4.out.size))
        clear b5 k5
        go_wp2_with fail
        go_at_call 11
        refine (same_any r5 r L5 L1 _).mono ?_
        rintro e w6 ⟨rfl, rfl⟩
        rw [HS5.out]
        go_wp2
        go_ret
        exact ⟨rfl, B5.out⟩

theorem own : ownKnob Tryd.prog.godebug = none := by kernel_rfl
theorem laidOut : laidOutB Tryd.prog = true := by kernel_rfl
set_option maxRecDepth 100000 in
theorem contract (H : Type) (enc : TypeId × Value → H) (W : World) (base : Nat) (args : Array Value) (ds gs : List (DataW H)) (before : List MemPlace)
    (hval : ∀ (j : Nat) t v, Tryd.f6.params[j]? = some t → args[j]? = some v → Value.okWide Tryd.prog W .any base t v)
    (hW : DataW.Whole enc Tryd.prog Tryd.f6.params.toList Rows.gaugeMostSpec.vars false W args.toList ds gs before) (hL : laidMetH Tryd.prog Rows.gaugeMostRow.laid W) :
    Calls Tryd.prog 6 args W fun e W' => ∃ v, e = .returned v ∧ Rows.gaugeMostSpec.post enc Tryd.prog Tryd.f6 false true false false W args v W' := by
  have hW' := hW
  obtain ⟨p, q, hA0, hV, rfl, hfz, hnd⟩ := hW
  have hA : DataW.TrodAll enc Tryd.prog W 0 (fun _ => true) true Tryd.f6.params.toList args.toList ds p := hA0
  rw [Tryd.params6] at hA hval
  obtain ⟨v0, vs0, d0, ds0, p0, q0, hargs, rfl, rfl, h0, r0⟩ := trodAll_cons hA
  obtain ⟨v1, vs1, d1, ds1, p1, q1, rfl, rfl, rfl, h1, r1⟩ := trodAll_cons r0
  obtain ⟨rfl, rfl, rfl⟩ := trodAll_nil r1
  obtain rfl : args = #[v0, v1] := by cases args; simp_all
  obtain ⟨rfl, rfl⟩ := trodVars_none hV
  have hlt := hW'.lt
  have k0 := h0
  obtain ⟨l_a, l_n, l_c, l, rfl, w_l_n, w_l_c, w_l⟩ := arg_floats Tryd.underlying29 Tryd.underlying22 (by kernel_rfl) (hval 0 29 v0 rfl rfl) h0
  have k1 := h1
  obtain ⟨d, rfl, -, -, w_d⟩ := open_int Tryd.underlying3 (hval 1 3 v1 rfl rfl) h1
  clear hA0
  simp only [List.append_nil] at hW'
  refine (walk l_a l_n l_c l d w_l_n w_l_c w_d W w_l (table hL)).mono fun e W' ⟨he, bel⟩ => ?_
  subst he
  exact ⟨_, rfl, _, _, _, [], _, [], hW', trodAll_mk1 (shut_bool Tryd.underlying4 _), (trodAll_cons_mk (Below.trod laidOut (by kernel_rfl) (of_decide_eq_true (by kernel_rfl)) k0 bel (fun x hx => hlt x (by simp [hx]))) (trodAll_cons_mk (Below.trod laidOut (by kernel_rfl) (of_decide_eq_true (by kernel_rfl)) k1 bel (fun x hx => hlt x (by simp [hx]))) trodAll_mk0)), rfl, bel.frame _, fun h => by cases h⟩

theorem laid_met (os : Os) : laidMet Tryd.prog Rows.gaugeMostRow.laid ((laidWorld os).forCall (fun _ _ => 0) ⟨#[], #[Value.slice none 0 0, Value.int .i64 0], []⟩).memory :=
  laidMet_of_run' 8 (by kernel_rfl) (by kernel_rfl)
theorem reads (os : Os) {H : Type} (enc : TypeId × Value → H) : ∃ places, DataW.whole enc Tryd.prog ((laidWorld os).forCall (fun _ _ => 0) ⟨#[], #[Value.slice none 0 0, Value.int .i64 0], []⟩).memory Tryd.f6.params.toList Rows.gaugeMostSpec.vars false #[Value.slice none 0 0, Value.int .i64 0].toList 8 = some ([.nil, .lit (.int .i64 0)], [], places) :=
  ⟨[], by kernel_rfl⟩

set_option maxRecDepth 100000 in
theorem lifted (os : Os) (started : os.Started) (H : Type) (enc : TypeId × Value → H) (F : Stop.Interp) :
    ReturnsInHanded {} Tryd.checked os 6 .any ((OpenSpec.ofChange Rows.gaugeMostSpec).preRow enc Tryd.prog Tryd.f6 Rows.gaugeMostRow.domain false Rows.gaugeMostRow.laid) (((OpenSpec.ofChange Rows.gaugeMostSpec).at F).post enc Tryd.prog Tryd.f6 false true false false) := by
  obtain ⟨places, hx⟩ := reads os enc
  refine returnsInHanded_of_row (C := Tryd.checked) (s := OpenSpec.ofChange Rows.gaugeMostSpec) own started (by kernel_rfl) Tryd.func6
    (witness_row_at (enc := enc) (C := Tryd.checked) false (laidWorld os) #[Value.slice none 0 0, Value.int .i64 0] rfl (by kernel_rfl) (by kernel_rfl) (by kernel_rfl)
      (OpenSpec.preRow_of_cond 8 hx (by kernel_rfl) (fun k hk => by cases hk) (by kernel_rfl) (laid_met os))) ?_
  intro W base args ds gs before hval hW _ _ _ hL _ _
  exact contract H enc W base args ds gs before hval hW hL

theorem said : Rows.GaugeMostSaid :=
  OpenClaim.holds_of_cond 6 Tryd.f6 rfl rfl rfl rfl rfl rfl rfl ⟨rfl, rfl, rfl, rfl, rfl⟩ rfl rfl rfl rfl rfl (by kernel_rfl) Tryd.func6 (by kernel_rfl)
    (of_decide_eq_true (by kernel_rfl)) (by unfold Func.isWrapper; first | (rw [if_pos (by decide +kernel)]; kernel_rfl) | (rw [if_neg (by decide +kernel)]; exact ⟨rfl, rfl⟩))
    (fun os started H enc _ F => by rw [OpenClaim.pre_eq_preRow]; exact lifted os started H enc F)

theorem plain (f : FuncId) (fn : Func) (hf : Tryd.pinned.checked.prog.funcNamed "auspex/auspexlaw24.GaugeMost" = some f) (hfn : Tryd.pinned.checked.prog.funcs[f]? = some fn) :
    false = Tryd.pinned.checked.prog.looks [] ∧ ∀ (j : Nat) t, fn.params[j]? = some t → Tryd.pinned.checked.prog.wantsStandIn t = false := by
  obtain rfl : f = 6 := Option.some.inj ((show Tryd.prog.funcNamed "auspex/auspexlaw24.GaugeMost" = some 6 by kernel_rfl).symm.trans hf) |>.symm
  obtain rfl : fn = Tryd.f6 := (Option.some.inj (Tryd.func6.symm.trans hfn)).symm
  refine ⟨by kernel_rfl, fun j t ht => ?_⟩
  rw [Tryd.params6] at ht
  have hm := Array.mem_of_getElem? ht
  simp only [List.mem_toArray, List.mem_cons, List.not_mem_nil, or_false] at hm
  rcases hm with rfl | rfl
  · exact (show Tryd.prog.wantsStandIn 29 = false by kernel_rfl)
  · exact (show Tryd.prog.wantsStandIn 3 = false by kernel_rfl)

/-- THE CARD -/
theorem proved : Rows.GaugeMostCardSaid :=
  Claim7.holds_tied_plain_at .later [] _ _ _ _ said (fun _ h => by cases h) (by kernel_rfl) (fun _ h => by cases h) gaugeMost_row_tie rfl ⟨rfl, rfl⟩ (by kernel_rfl) rfl plain (by kernel_rfl)
#print axioms proved
end Go.Proofs.YtebeelphilfjhaaDoor.gaugeMost
