/- Proved: the card of GaugeWhole (auspexlaw24): a whole number's rate to one is written as it is, with three zeros; a mean of one rate is that rate, of as many alike numbers that number; for every input; on the world that holds the powers of ten. -/
import Derived.Test.YtebeelphilfjhaaDoorCards
import Derived.Test.YtebeelphilfjhaaDoorTie
import Derived.Test.YtebeelphilfjhaaDoorGaugeM
import Derived.WalkKit
import Derived.ProofKit
import Derived.OpenShut
import Derived.Deep.DeepHandedRow
import Derived.Lib.LaidTab
import Derived.Test.YtebeelphilfjhaaDoorOwn
import Derived.Test.YtebeelphilfjhaaDoorMathX
namespace Go.Proofs.YtebeelphilfjhaaDoor.gaugeWhole
open Go.ChangeShapes Go.WideShapes Go.ChangeAt Go.RowKit
set_option linter.unusedVariables false
set_option maxHeartbeats 1000000

theorem info_flt : (Tryd.prog.info? 22).map (fun i => (i.zero, i.size, i.bytes)) = some (some (.float .f64 0), 1, 8) := by kernel_rfl
theorem one_flt (x : Nat) : ∀ u ∈ [Value.float .f64 x], u.oneCell' = true := by
  intro u hu
  simp at hu
  subst hu
  rfl
theorem own_flts {w : World} {base e n c : Nat} {A : Option Addr} {zs : List Nat} (h : w.ownsRow base e 1 (.slice A n c) n (zs.map (Value.float .f64))) (hn : zs.length = n) (hz : ∀ z ∈ zs, z < 18446744073709551616) : FltsAt w A n zs :=
  ⟨hn, fun j z hj => by
    have hjl : j < n := by have := (List.getElem?_eq_some_iff.1 hj).1; omega
    obtain ⟨g, rfl, hg⟩ := own_head h (by omega)
    refine ⟨hz z (List.mem_of_getElem? hj), _, rfl, (h.lt g rfl).2, ?_⟩
    rw [Addr.add_lit, Nat.zero_add, h.cellAt _ (by omega), List.getElem?_map, hj]
    rfl⟩
theorem rate_W {n d : Nat} (hd : d ≠ 0) (hd2 : d < 9007199254740992) (h : n * d < 9007199254740992) : rateO ((n * d : Nat) : Int) (d : Int) = some (W n) := by
  show Ieee.double.div (floatOfInt .f64 ((n * d : Nat) : Int)) (floatOfInt .f64 (d : Int)) = _
  rw [floatOfInt_W, floatOfInt_W]
  exact W_div hd hd2 h
theorem got_some {o : Option Nat} {r x : Nat} (h : Got o r) (e : o = some x) : r = x := by
  rcases h.2 with h | ⟨h, _⟩ <;> rw [e] at h
  · exact (Option.some.inj h).symm
  · cases h
theorem sumN_W (N M : Nat) : ∀ k s, k ≤ M → M * N < 9007199254740992 → SumN (List.replicate M (W N)) k s → s = W (k * N)
  | 0, s, _, _, h => by rw [Nat.zero_mul, W_zero]; exact h
  | k + 1, r, hk, hm, ⟨s, h1, h2⟩ => by
    have e := sumN_W N M k s (by omega) hm h1
    have g : (List.replicate M (W N)).getD k 0 = W N := by
      rw [List.getD_eq_getElem?_getD, List.getElem?_replicate, if_pos (by omega)]; rfl
    rw [g, e] at h2
    have hkm : (k + 1) * N ≤ M * N := Nat.mul_le_mul_right _ hk
    rw [Nat.succ_mul] at hkm ⊢
    exact got_some h2 (W_add (by omega))
theorem mean_W {N M r : Nat} (h0 : M ≠ 0) (hM : M < 9007199254740992) (hm : M * N < 9007199254740992) (h : MeanR (List.replicate M (W N)) M r) : r = W N := by
  rcases h with ⟨h, _⟩ | ⟨_, s, h1, h2⟩
  · exact absurd h h0
  · have e := sumN_W N M M s (Nat.le_refl _) hm h1
    rw [e] at h2
    refine got_some h2 ?_
    rw [floatOfInt_W]
    show Ieee.double.div (W (M * N)) (W M) = _
    rw [Nat.mul_comm]
    exact W_div h0 hM (by rw [Nat.mul_comm]; exact hm)
theorem maxK_rep (X M : Nat) (hX : -(3 * (HUGE : Int)) ≤ fK X) : ∀ k, k ≤ M → maxK (List.replicate M X) k = if k = 0 then -(3 * (HUGE : Int)) else fK X
  | 0, _ => rfl
  | k + 1, hk => by
    have e := maxK_rep X M hX k (by omega)
    have g : (List.replicate M X).getD k 0 = X := by
      rw [List.getD_eq_getElem?_getD, List.getElem?_replicate, if_pos (by omega)]; rfl
    show (if maxK (List.replicate M X) k < fK ((List.replicate M X).getD k 0) then fK ((List.replicate M X).getD k 0) else maxK (List.replicate M X) k) = _
    rw [g, e, if_neg (show ¬ k + 1 = 0 by omega)]
    by_cases h0 : k = 0
    · rw [if_pos h0]; split <;> omega
    · rw [if_neg h0, if_neg (by omega)]
theorem rep_len {k : Nat} {X : Nat} : ((List.replicate k X).map (Value.float .f64)) ++ [Value.float .f64 X] = (List.replicate (k + 1) X).map (Value.float .f64) := by
  rw [List.replicate_succ', List.map_append]; rfl

theorem walk (n d : Int) (hn : (Lit.int .i64 n).wf = true) (hd : (Lit.int .i64 d).wf = true) (w : World) (ht : Tab w) :
    Calls Tryd.prog 9 #[.int .i64 n, .int .i64 d] w fun e w' => e = .returned (.bool true) ∧ Below w.heap.size w w' := by
  obtain ⟨N, hN⟩ : ∃ N : Nat, min (max n 0) 1073741824 = (N : Int) := ⟨(min (max n 0) 1073741824).toNat, by omega⟩
  obtain ⟨M, hM⟩ : ∃ M : Nat, min (max d 1) 16 = (M : Int) := ⟨(min (max d 1) 16).toNat, by omega⟩
  have hN1 : N ≤ 1073741824 := by omega
  have hM1 : 1 ≤ M := by omega
  have hM2 : M ≤ 16 := by omega
  obtain ⟨i0, hi, hz0, hz1, hz2⟩ := info_parts info_flt
  have T := Lib.hid ht
  have hR1 := Lib.hid (show rateO (N : Int) 1 = some (W N) from by have := rate_W (n := N) (d := 1) (by omega) (by omega) (by omega); rwa [Nat.mul_one] at this)
  have hXl := W_lt N
  have hU := W_units (n := N) (by omega)
  have HX := Lib.hid hU
  have HTX := Lib.hid (text_W (n := N) (by omega))
  clear ht hn hd hU
  obtain ⟨X, hX⟩ : ∃ X, X = W N := ⟨_, rfl⟩
  rw [← hX] at hXl hR1 HX HTX
  have HXE := Lib.hid hX
  clear hX
  go_enter Tryd.func9, Tryd.ntmps9
  go_wp2_with (first
    | (go_at_call 12; refine (rate_any _ 1 _).mono ?_; rintro e w2 ⟨r1, q1, rfl, h1, rfl⟩; obtain rfl := got_some h1 hR1.out))
  clear h1
  have HB0 := Lib.hid (below_dr w.heap.size w q1)
  have HSZ := Lib.hid (show (w.drewN q1).heap.size = w.heap.size from rfl)
  generalize w.drewN q1 = w0 at *
  go_loopw [6, 16] (fun v i wr => ∃ k : Nat, k ≤ M ∧ i = .int .i64 k ∧ wr.ownsRow w.heap.size 22 1 v k ((List.replicate k r1).map (Value.float .f64)) ∧ Below w.heap.size w wr) (fun _ i _ => M - (intOf i).toNat)
  case atStart => exact ⟨0, by omega, rfl, World.ownsRow_nil _ _ _ _, HB0.out⟩
  case round =>
    obtain ⟨k, hk, rfl, hown, hbel⟩ := hrel
    by_cases hlt : k < M
    · have hsz := hbel.size
      have HBel := Lib.hid hbel
      clear hbel
      go_wp2_with (at_builtin; refine wpList_append_own _ rfl (.tmp 18) (.tmp 20) 29 rfl w.heap.size 22 i0 (.float .f64 0) 1 8 Tryd.underlying29 hi hz0 hz1 hz2 rfl (by decide) _ _ _ rfl (hown.alloc _) ⟨wr.heap.size, 0, none⟩ 1 1 [.float .f64 r1] rfl rfl (cell_new1 _ _ _) (one_flt _) (by unfold maxLen; omega) (by omega) (by simp; omega) ?_; intro v' w2 hown2 hgrow2 hnil2)
      have hb2 := below_app HBel.out (by omega) hown hgrow2
      rw [rep_len] at hown2
      clear hown hgrow2 hnil2
      go_roundw
      case rel => exact ⟨k + 1, by omega, by go_num, hown2, hb2⟩
      case measure => simp [intOf]; omega
    · obtain rfl : k = M := by omega
      obtain ⟨A, cp, rfl, hcp, -, -⟩ := own_form hown
      have hX64 : r1 < 18446744073709551616 := by omega
      have HL0 := Lib.hid (own_flts hown (by simp) (fun z hz => by rw [(List.mem_replicate.1 hz).2]; exact hX64))
      have T0 := Lib.hid (T.out.below hbel)
      have B0 := Lib.hid hbel
      have HMean := Lib.hid (fun r h => @mean_W N k r (by omega) (by omega) (by have := Nat.mul_le_mul hM2 hN1; omega) h)
      have HMax := Lib.hid (maxK_rep r1 k (fK_least hX64) k (Nat.le_refl _))
      obtain ⟨I, hI⟩ : ∃ I, I = Lib.itoa (N : Int) := ⟨_, rfl⟩
      have hil : I.length ≤ 21 := by rw [hI]; exact Lib.itoa_length_le (N : Int) (by omega) (by omega)
      have hj := fun w => run_join ⟨I.toArray⟩ ⟨#[46, 48, 48, 48]⟩ I [46, 48, 48, 48] rfl rfl (by omega) (by simp) w
      have HI := Lib.hid hI
      rw [← hI] at HTX
      clear hown hbel hI hil
      obtain ⟨Z, hZ⟩ : ∃ Z, Z = I ++ [46, 48, 48, 48] := ⟨_, rfl⟩
      rw [← hZ] at hj HTX
      clear hZ
      go_wp2_with fail
      go_at_call 10
      refine (alive24_any _ T0.out).mono ?_
      rintro e w1 ⟨rfl, b1⟩
      have T1 := Lib.hid (T0.out.below b1)
      have HL1 := Lib.hid (HL0.out.below b1)
      have B1 := Lib.hid (B0.out.trans (b1.mono B0.out.size))
      clear b1
      go_wp2_with fail
      go_at_call 16
      refine (text_any r1 hX64 _ T1.out).mono ?_
      rintro e w2 ⟨rfl, b2⟩
      rw [HTX.out]
      have T2 := Lib.hid (T1.out.below b2)
      have HL2 := Lib.hid (HL1.out.below b2)
      have B2 := Lib.hid (B1.out.trans (b2.mono B1.out.size))
      clear b2
      go_wp2_with fail
      go_at_call 24
      refine (Tryd.strconv_Itoa (N : Int) (by omega) (by omega) _ T2.out).mono ?_
      rintro e w3 ⟨rfl, kk, os, rfl⟩
      rw [← HI.out]
      have b3 := Lib.below_grow w2.heap.size w2 (Nat.le_refl _) kk os
      have T3 := Lib.hid (T2.out.below b3)
      have HL3 := Lib.hid (HL2.out.below b3)
      have B3 := Lib.hid (B2.out.trans (b3.mono B2.out.size))
      clear b3
      generalize Sort.grow (w2.drewN kk) os = w3 at *
      go_wp2_with fail
      go_at_call 18
      refine (mean_any _ _ _ _ (by omega) _ HL3.out).mono ?_
      rintro e w4 ⟨r4, q4, rfl, h4, rfl⟩
      have h4' := HMean.out r4 (by rw [← HXE.out]; exact h4)
      rw [← HXE.out] at h4'
      obtain rfl := h4'
      clear h4
      have HS4 := Lib.hid (show sameB r4 r4 = true from decide_eq_true rfl)
      have HL4 := Lib.hid (HL3.out.below (below_dr _ w3 q4))
      go_wp2_with fail
      go_at_call 11
      refine (same_any r4 r4 hX64 hX64 _).mono ?_
      rintro e w5 ⟨rfl, rfl⟩
      rw [HS4.out]
      go_wp2_with fail
      go_at_call 20
      refine (most_any _ _ _ _ (by omega) _ HL4.out).mono ?_
      rintro e w6 ⟨r6, rfl, L6, k6, b6⟩
      have HS6 := Lib.hid (show sameB r6 r4 = true from decide_eq_true (by rw [k6, HMax.out, if_neg (by omega)]))
      have T6 := Lib.hid ((T3.out.below (below_dr _ w3 q4)).below b6)
      have B6 := Lib.hid ((B3.out.trans (below_dr _ w3 q4)).trans (b6.mono B3.out.size))
      clear b6 k6
      go_wp2_with fail
      go_at_call 11
      refine (same_any r6 r4 L6 hX64 _).mono ?_
      rintro e w7 ⟨rfl, rfl⟩
      rw [HS6.out]
      go_wp2_with fail
      go_at_call 12
      refine (rate_any _ 0 _).mono ?_
      rintro e w8 ⟨r8, q8, rfl, h8, rfl⟩
      have L8 := h8.1
      have T8 := Lib.hid (T6.out.below (below_dr _ w6 q8))
      by_cases hN0 : N = 0
      · subst hN0
        have n8 : textP r8 = [110, 111, 110, 101] := by
          rcases h8.2 with h | h
          · rw [show rateO ((0 : Nat) : Int) 0 = none from rate00] at h; cases h
          · unfold textP; rw [h.2]; rfl
        have N8 := Lib.hid n8
        clear h8 n8
        go_wp2_with fail
        go_at_call 16
        refine (text_any r8 L8 _ T8.out).mono ?_
        rintro e w9 ⟨rfl, b9⟩
        rw [N8.out]
        have B9 := Lib.hid ((B6.out.trans (below_dr _ w6 q8)).trans (b9.mono B6.out.size))
        clear b9
        go_wp2
        go_ret
        exact ⟨rfl, B9.out⟩
      · have e8 := got_some h8 (show rateO (N : Int) 0 = some 9218868437227405312 from by
          show Ieee.double.div (floatOfInt .f64 (N : Int)) (floatOfInt .f64 ((0 : Nat) : Int)) = _
          rw [floatOfInt_W, floatOfInt_W, W_zero]
          exact div_zero hN0 (by omega))
        subst e8
        have N8 := Lib.hid text_inf
        have hN0' : ((N : Int) == 0) = false := by simp; omega
        clear h8
        go_wp2_with fail
        go_at_call 16
        refine (text_any 9218868437227405312 L8 _ T8.out).mono ?_
        rintro e w9 ⟨rfl, b9⟩
        rw [N8.out]
        have B9 := Lib.hid ((B6.out.trans (below_dr _ w6 q8)).trans (b9.mono B6.out.size))
        clear b9
        go_wp2
        go_ret
        exact ⟨rfl, B9.out⟩

theorem own : ownKnob Tryd.prog.godebug = none := by kernel_rfl
theorem laidOut : laidOutB Tryd.prog = true := by kernel_rfl
set_option maxRecDepth 100000 in
theorem contract (H : Type) (enc : TypeId × Value → H) (W : World) (base : Nat) (args : Array Value) (ds gs : List (DataW H)) (before : List MemPlace)
    (hval : ∀ (j : Nat) t v, Tryd.f9.params[j]? = some t → args[j]? = some v → Value.okWide Tryd.prog W .any base t v)
    (hW : DataW.Whole enc Tryd.prog Tryd.f9.params.toList Rows.gaugeWholeSpec.vars false W args.toList ds gs before) (hL : laidMetH Tryd.prog Rows.gaugeWholeRow.laid W) :
    Calls Tryd.prog 9 args W fun e W' => ∃ v, e = .returned v ∧ Rows.gaugeWholeSpec.post enc Tryd.prog Tryd.f9 false true false false W args v W' := by
  have hW' := hW
  obtain ⟨p, q, hA0, hV, rfl, hfz, hnd⟩ := hW
  have hA : DataW.TrodAll enc Tryd.prog W 0 (fun _ => true) true Tryd.f9.params.toList args.toList ds p := hA0
  rw [Tryd.params9] at hA hval
  obtain ⟨v0, vs0, d0, ds0, p0, q0, hargs, rfl, rfl, h0, r0⟩ := trodAll_cons hA
  obtain ⟨v1, vs1, d1, ds1, p1, q1, rfl, rfl, rfl, h1, r1⟩ := trodAll_cons r0
  obtain ⟨rfl, rfl, rfl⟩ := trodAll_nil r1
  obtain rfl : args = #[v0, v1] := by cases args; simp_all
  obtain ⟨rfl, rfl⟩ := trodVars_none hV
  have hlt := hW'.lt
  have k0 := h0
  obtain ⟨n, rfl, -, -, w_n⟩ := open_int Tryd.underlying3 (hval 0 3 v0 rfl rfl) h0
  have k1 := h1
  obtain ⟨d, rfl, -, -, w_d⟩ := open_int Tryd.underlying3 (hval 1 3 v1 rfl rfl) h1
  clear hA0
  simp only [List.append_nil] at hW'
  refine (walk n d w_n w_d W  (table hL)).mono fun e W' ⟨he, bel⟩ => ?_
  subst he
  exact ⟨_, rfl, _, _, _, [], _, [], hW', trodAll_mk1 (shut_bool Tryd.underlying4 _), (trodAll_cons_mk (Below.trod laidOut (by kernel_rfl) (of_decide_eq_true (by kernel_rfl)) k0 bel (fun x hx => hlt x (by simp [hx]))) (trodAll_cons_mk (Below.trod laidOut (by kernel_rfl) (of_decide_eq_true (by kernel_rfl)) k1 bel (fun x hx => hlt x (by simp [hx]))) trodAll_mk0)), rfl, bel.frame _, fun h => by cases h⟩

theorem laid_met (os : Os) : laidMet Tryd.prog Rows.gaugeWholeRow.laid ((laidWorld os).forCall (fun _ _ => 0) ⟨#[], #[Value.int .i64 0, Value.int .i64 0], []⟩).memory :=
  laidMet_of_run' 8 (by kernel_rfl) (by kernel_rfl)
theorem reads (os : Os) {H : Type} (enc : TypeId × Value → H) : ∃ places, DataW.whole enc Tryd.prog ((laidWorld os).forCall (fun _ _ => 0) ⟨#[], #[Value.int .i64 0, Value.int .i64 0], []⟩).memory Tryd.f9.params.toList Rows.gaugeWholeSpec.vars false #[Value.int .i64 0, Value.int .i64 0].toList 8 = some ([.lit (.int .i64 0), .lit (.int .i64 0)], [], places) :=
  ⟨[], by kernel_rfl⟩

set_option maxRecDepth 100000 in
theorem lifted (os : Os) (started : os.Started) (H : Type) (enc : TypeId × Value → H) (F : Stop.Interp) :
    ReturnsInHanded {} Tryd.checked os 9 .any ((OpenSpec.ofChange Rows.gaugeWholeSpec).preRow enc Tryd.prog Tryd.f9 Rows.gaugeWholeRow.domain false Rows.gaugeWholeRow.laid) (((OpenSpec.ofChange Rows.gaugeWholeSpec).at F).post enc Tryd.prog Tryd.f9 false true false false) := by
  obtain ⟨places, hx⟩ := reads os enc
  refine returnsInHanded_of_row (C := Tryd.checked) (s := OpenSpec.ofChange Rows.gaugeWholeSpec) own started (by kernel_rfl) Tryd.func9
    (witness_row_at (enc := enc) (C := Tryd.checked) false (laidWorld os) #[Value.int .i64 0, Value.int .i64 0] rfl (by kernel_rfl) (by kernel_rfl) (by kernel_rfl)
      (OpenSpec.preRow_of_cond 8 hx (by kernel_rfl) (fun k hk => by cases hk) (by kernel_rfl) (laid_met os))) ?_
  intro W base args ds gs before hval hW _ _ _ hL _ _
  exact contract H enc W base args ds gs before hval hW hL

theorem said : Rows.GaugeWholeSaid :=
  OpenClaim.holds_of_cond 9 Tryd.f9 rfl rfl rfl rfl rfl rfl rfl ⟨rfl, rfl, rfl, rfl, rfl⟩ rfl rfl rfl rfl rfl (by kernel_rfl) Tryd.func9 (by kernel_rfl)
    (of_decide_eq_true (by kernel_rfl)) (by unfold Func.isWrapper; first | (rw [if_pos (by decide +kernel)]; kernel_rfl) | (rw [if_neg (by decide +kernel)]; exact ⟨rfl, rfl⟩))
    (fun os started H enc _ F => by rw [OpenClaim.pre_eq_preRow]; exact lifted os started H enc F)

theorem plain (f : FuncId) (fn : Func) (hf : Tryd.pinned.checked.prog.funcNamed "auspex/auspexlaw24.GaugeWhole" = some f) (hfn : Tryd.pinned.checked.prog.funcs[f]? = some fn) :
    false = Tryd.pinned.checked.prog.looks [] ∧ ∀ (j : Nat) t, fn.params[j]? = some t → Tryd.pinned.checked.prog.wantsStandIn t = false := by
  obtain rfl : f = 9 := Option.some.inj ((show Tryd.prog.funcNamed "auspex/auspexlaw24.GaugeWhole" = some 9 by kernel_rfl).symm.trans hf) |>.symm
  obtain rfl : fn = Tryd.f9 := (Option.some.inj (Tryd.func9.symm.trans hfn)).symm
  refine ⟨by kernel_rfl, fun j t ht => ?_⟩
  rw [Tryd.params9] at ht
  have hm := Array.mem_of_getElem? ht
  simp only [List.mem_toArray, List.mem_cons, List.not_mem_nil, or_false] at hm
  rcases hm with rfl | rfl
  · exact (show Tryd.prog.wantsStandIn 3 = false by kernel_rfl)
  · exact (show Tryd.prog.wantsStandIn 3 = false by kernel_rfl)

/-- THE CARD -/
theorem proved : Rows.GaugeWholeCardSaid :=
  Claim7.holds_tied_plain_at .later [] _ _ _ _ said (fun _ h => by cases h) (by kernel_rfl) (fun _ h => by cases h) gaugeWhole_row_tie rfl ⟨rfl, rfl⟩ (by kernel_rfl) rfl plain (by kernel_rfl)
#print axioms proved
end Go.Proofs.YtebeelphilfjhaaDoor.gaugeWhole
