/- THE CONTRACTS of gauge.Text, of auspexlaw24's text, and of alive. -/
import Derived.Test.YtebeelphilfjhaaDoorGaugeB
import Derived.Test.YtebeelphilfjhaaDoorMathU
import Derived.Test.YtebeelphilfjhaaDoorShelf
import Derived.Lib.AppendIntMem
import Derived.Below
namespace Go.Proofs.YtebeelphilfjhaaDoor
open Go.ChangeShapes Go.WideShapes Go.ChangeAt Go.RowKit Go.Sort
set_option linter.unusedSimpArgs false

abbrev Tab (w : World) : Prop := Lib.TabIs Tryd.prog w "internal/strconv.uint64pow10" .u64 Lib.pow10Tab
theorem Tab.below {w w' : World} (h : Tab w) (hb : Below w.heap.size w w') : Tab w' := Lib.tabBelow_of_tabIs h w' hb

theorem ret_str {a b : ByteArray} (h : a = b) : Ending.returned (.string a) = .returned (.string b) := by rw [h]
theorem ba_eq {a b : ByteArray} (h : a.data.toList = b.data.toList) : a = b := by
  cases a; cases b
  simp only at h
  rw [ByteArray.mk.injEq]
  exact Array.toList_inj.1 h

theorem floor_any (z u : Nat) (h : Units z u) (w : World) : Calls Tryd.prog 31 #[.float .f64 z] w fun e w' => e = .returned (.float .f64 (Ieee.double.nearest false (u / U1) 0)) ∧ w = w' := by
  have hf : ∀ w : World, (callFunc 39 #[.float .f64 z]).run Tryd.prog w = .ok (.value (.float .f64 (Ieee.double.nearest false (u / U1) 0))) w := fun w => by
    have e := run_callFunc_extern (e := Extern.MathFloor.toIntegral "math.archFloor" .down) Tryd.func39 (by kernel_rfl) (by kernel_rfl) (by kernel_rfl) (by kernel_rfl) #[.float .f64 z] w
    rw [e]
    have hfl := h.floor
    obtain ⟨m, i, er, _⟩ := h
    have er' : FloatKind.f64.decode z = .number false m i := er
    rw [er] at hfl
    have hfl' : FloatKind.f64.encode ((Ieee.Datum.number false m i).integral .down) = Ieee.double.nearest false (u / U1) 0 := hfl
    have key : ∀ D, FloatKind.f64.decode z = D → D = .number false m i → (Extern.MathFloor.toIntegral "math.archFloor" .down #[.float .f64 z]).run Tryd.prog w = .ok (.float .f64 (FloatKind.f64.encode ((Ieee.Datum.number false m i).integral .down))) w := by
      intro D hD hD2
      show Sem.run Tryd.prog (match FloatKind.f64.decode z with
        | .nan s t => _
        | d => pure (Value.float .f64 (FloatKind.f64.encode (d.integral .down)))) w = _
      rw [hD, hD2]
      rfl
    rw [key _ er' rfl, hfl']
    rfl
  go_enter Tryd.func31, Tryd.ntmps31
  go_wp2
  go_ret
  exact ⟨rfl, rfl⟩

theorem three_any (q : Nat) (hq : q < 1000) (w : World) (ht : Tab w) : Calls Tryd.prog 33 #[.int .i64 q] w fun e w' => e = .returned (.string ⟨(pad3 q).toArray⟩) ∧ Below w.heap.size w w' := by
  obtain ⟨p1, p2⟩ := pad3_itoa' q hq
  have hsz : (⟨(Lib.itoa ((1000 + q : Nat) : Int)).toArray⟩ : ByteArray).size = 4 := by show (Lib.itoa ((1000 + q : Nat) : Int)).toArray.size = 4; simpa using p2
  have PA := Lib.hid (pad3_itoa q hq)
  have T := Lib.hid ht
  have e0 : (1000 : Int) + (q : Int) = ((1000 + q : Nat) : Int) := by omega
  have E0 := Lib.hid e0
  clear p1 p2 ht e0
  obtain ⟨S, hS⟩ : ∃ S : ByteArray, S = ⟨(Lib.itoa ((1000 + q : Nat) : Int)).toArray⟩ := ⟨_, rfl⟩
  rw [← hS] at hsz
  have HS := Lib.hid hS
  clear hS
  go_enter Tryd.func33, Tryd.ntmps33
  go_wp2_with (first
    | (go_at_call 24; rw [E0.out]; refine (Tryd.strconv_Itoa _ (by omega) (by omega) _ T.out).mono ?_; rintro e w' ⟨rfl, k, os, rfl⟩; rw [← HS.out]))
  go_ret
  refine ⟨ret_str (ba_eq ?_), Lib.below_grow _ _ (Nat.le_refl _) _ _⟩
  rw [HS.out, Lib.extract_data]
  have h1 : ((⟨(Lib.itoa ((1000 + q : Nat) : Int)).toArray⟩ : ByteArray).data.toList.drop 1) = pad3 q := PA.out
  rw [h1]
  show (pad3 q).take 3 = (pad3 q).toArray.toList
  rw [List.take_of_length_le]
  rw [← h1, List.length_drop]
  have : (⟨(Lib.itoa ((1000 + q : Nat) : Int)).toArray⟩ : ByteArray).data.toList.length = 4 := (pad3_itoa' q hq).2
  omega


theorem fNan_abs (b : Nat) : fNan (b % 9223372036854775808) = fNan b := by
  unfold fNan
  rw [read_double, read_double, Nat.mod_mod]
  generalize b % 9223372036854775808 = z
  repeat' split
  all_goals rfl

theorem geq_1e12 {z : Nat} (hz : z < 18446744073709551616) (hn : fNan z = false) : (FloatKind.f64.format.order z 4786511204640096256 == some .gt || FloatKind.f64.format.order z 4786511204640096256 == some .eq) = decide (((1000000000000 * U1 : Nat) : Int) ≤ fV z) := by
  have h1 : (FloatKind.f64.format.order z 4786511204640096256 == some .gt) = _ := gt_double hz (by omega)
  have h2 : (FloatKind.f64.format.order z 4786511204640096256 == some .eq) = _ := eq_double hz (by omega)
  rw [h1, h2, hn, fNan_1e12, fV_1e12]
  simp only [Bool.not_false, Bool.true_and]
  rw [Bool.eq_iff_iff]
  simp only [Bool.or_eq_true, decide_eq_true_eq]
  omega

theorem pad3_size (q : Nat) (h : q < 1000) : (pad3 q).length ≤ 3 := by
  revert h; revert q; decide +kernel
/-- strings joined, told by their bytes -/
theorem run_join (a b : ByteArray) (x y : List UInt8) (ha : a = ⟨x.toArray⟩) (hb : b = ⟨y.toArray⟩) (hx : x.length ≤ 100) (hy : y.length ≤ 100) (w : World) : (Op.stringOp .add a b).run Tryd.prog w = .ok (.string ⟨(x ++ y).toArray⟩) w := by
  subst ha hb
  exact run_string_add_lists w x y (by omega) (by omega)
theorem text_any (b : Nat) (hb : b < 18446744073709551616) (w : World) (ht : Tab w) : Calls Tryd.prog 16 #[.float .f64 b] w fun e w' => e = .returned (.string ⟨(textP b).toArray⟩) ∧ Below w.heap.size w w' := by
  have KEY := Lib.hid (show textP b = if fNan b then [110, 111, 110, 101] else (if fSgn b then [45] else []) ++ bodyP (b % 9223372036854775808) from rfl)
  have HB := Lib.hid (show ∀ z, bodyP z = if ((1000000000000 * U1 : Nat) : Int) ≤ fV z then [105, 110, 102] else Lib.itoa (wholeP z : Int) ++ ([46] ++ pad3 (thouP z)) from fun _ => rfl)
  obtain ⟨z, hz⟩ : ∃ z, z = b % 9223372036854775808 := ⟨_, rfl⟩
  have hz63 : z < 9223372036854775808 := by omega
  have hz64 : z < 18446744073709551616 := by omega
  have hnz : fNan z = fNan b := by rw [hz]; exact fNan_abs b
  have HZ := Lib.hid hz
  clear hz
  cases hn : fNan b
  · rw [hn] at hnz
    have hg := geq_1e12 hz64 hnz
    by_cases hbig : ((1000000000000 * U1 : Nat) : Int) ≤ fV z
    · rw [decide_eq_true hbig] at hg
      have BIG := Lib.hid hbig
      have NB := Lib.hid hn
      clear hnz hbig hn
      cases hs : fSgn b
      all_goals
        have SB := Lib.hid hs
        clear hs
        go_enter Tryd.func16, Tryd.ntmps16
        go_wp2_with (first
          | (go_at_call 28; refine (isNaN_any _ (by assumption) _).mono ?_; rintro e w' ⟨rfl, rfl⟩; rw [NB.out])
          | (go_at_call 29; refine (abs_any _ (by assumption) _).mono ?_; rintro e w' ⟨rfl, rfl⟩; rw [← HZ.out])
          | (go_at_call 30; refine (signbit_any _ (by assumption) _).mono ?_; rintro e w' ⟨rfl, rfl⟩; rw [SB.out]))
        go_ret
        refine ⟨ret_str (ba_eq ?_), Below.refl _ _⟩
        rw [KEY.out, NB.out, SB.out, ← HZ.out, HB.out, if_pos BIG.out]
        rfl
    · rw [decide_eq_false hbig] at hg
      obtain ⟨u, d, r, F⟩ := text_facts hz63 hnz hbig
      obtain ⟨v, hru, hv⟩ := F.runits
      have hW := F.wunits
      have BIG := Lib.hid hbig
      have NB := Lib.hid hn
      have hth := F.thou
      have hwh := F.wholeE
      have hsm := F.small
      have hU := U1_pos
      have rs := fun w => run_float_arith (P := Tryd.prog) w .sub 22 .f64 z (Ieee.double.nearest false (u / U1) 0) d F.sub
      have rm := fun w => run_float_arith (P := Tryd.prog) w .mul 22 .f64 d 4652007308841189376 r F.mul
      have hcW : floatToIntVal .f64 (Ieee.double.nearest false (u / U1) 0) .i64 = some ((u / U1 : Nat) : Int) := by
        have := hW.conv (by rw [Nat.mul_div_cancel _ hU]; omega)
        rw [Nat.mul_div_cancel _ hU] at this
        exact this
      have c1 := fun w => run_convert_float_int (P := Tryd.prog) w 22 2 .f64 .i64 (Ieee.double.nearest false (u / U1) 0) _ (by kernel_rfl) Tryd.underlying2 hcW
      have hq := whole_written (n := thouP z) (by omega)
      have hcQ : floatToIntVal .f64 (Ieee.double.nearest false (thouP z) 0) .i64 = some ((thouP z : Nat) : Int) := by
        have := hq.conv (by rw [Nat.mul_div_cancel _ hU]; omega)
        rw [Nat.mul_div_cancel _ hU] at this
        exact this
      have c2 := fun w => run_convert_float_int (P := Tryd.prog) w 22 3 .f64 .i64 (Ieee.double.nearest false (thouP z) 0) _ (by kernel_rfl) Tryd.underlying3 hcQ
      have fl1 := Lib.hid (floor_any z u F.units)
      have fl2 := Lib.hid (floor_any r v hru)
      have T := Lib.hid ht
      have WH := Lib.hid hwh
      have HV := Lib.hid hv
      clear hnz hbig hn hcW hcQ hq hwh ht hru hW F hv
      obtain ⟨WB, hWB⟩ : ∃ WB, WB = Ieee.double.nearest false (u / U1) 0 := ⟨_, rfl⟩
      obtain ⟨QB, hQB⟩ : ∃ QB, QB = Ieee.double.nearest false (thouP z) 0 := ⟨_, rfl⟩
      rw [← hWB] at rs c1
      rw [← hQB] at c2
      have HWB := Lib.hid hWB
      have HQB := Lib.hid hQB
      obtain ⟨NN, hNN⟩ : ∃ NN, NN = u / U1 := ⟨_, rfl⟩
      rw [← hNN] at c1 hsm
      have HNN := Lib.hid hNN
      obtain ⟨Q, hQ⟩ : ∃ Q, Q = thouP z := ⟨_, rfl⟩
      rw [← hQ] at c2 hth
      have HQ := Lib.hid hQ
      clear hWB hQB hNN hQ
      clear hU
      have hi1 : (Lib.itoa (NN : Int)).length ≤ 21 := Lib.itoa_length_le (NN : Int) (by omega) (by omega)
      have hi2 : (pad3 Q).length ≤ 3 := pad3_size Q hth
      obtain ⟨I1, hI1⟩ : ∃ I, I = Lib.itoa (NN : Int) := ⟨_, rfl⟩
      obtain ⟨I2, hI2⟩ : ∃ I, I = pad3 Q := ⟨_, rfl⟩
      rw [← hI1] at hi1
      rw [← hI2] at hi2
      generalize U1 = X at *
      have HI1 := Lib.hid hI1
      have HI2 := Lib.hid hI2
      clear hI1 hI2
      have a2 := fun w => run_join ⟨I1.toArray⟩ ⟨#[46]⟩ I1 [46] rfl rfl (by omega) (by simp) w
      have a3 := fun w => run_join ⟨(I1 ++ [46]).toArray⟩ ⟨I2.toArray⟩ (I1 ++ [46]) I2 rfl rfl (by simp; omega) (by omega) w
      cases hs : fSgn b
      · have a1 := fun w => run_join ⟨#[]⟩ ⟨I1.toArray⟩ [] I1 rfl rfl (by simp) (by omega) w
        rw [show [] ++ I1 = I1 from rfl] at a1
        have SB := Lib.hid hs
        clear hs hi1 hi2
        go_enter Tryd.func16, Tryd.ntmps16
        go_wp2_with (first
          | (go_at_call 28; refine (isNaN_any _ (by assumption) _).mono ?_; rintro e w' ⟨rfl, rfl⟩; rw [NB.out])
          | (go_at_call 29; refine (abs_any _ (by assumption) _).mono ?_; rintro e w' ⟨rfl, rfl⟩; rw [← HZ.out])
          | (go_at_call 30; refine (signbit_any _ (by assumption) _).mono ?_; rintro e w' ⟨rfl, rfl⟩; rw [SB.out])
          | (go_at_call 31; first | ((with_reducible refine (fl1.out _).mono ?_); rintro e w' ⟨rfl, rfl⟩; rw [← HWB.out]) | ((with_reducible refine (fl2.out _).mono ?_); rintro e w' ⟨rfl, rfl⟩; rw [HV.out, ← HQB.out]))
          | (go_at_call 32; refine (Tryd.strconv_FormatInt_10 _ (by omega) (by omega) _ T.out).mono ?_; rintro e w' ⟨rfl, k, os, rfl⟩; rw [← HI1.out])
          | (go_at_call 33; refine (three_any Q hth _ (T.out.below (Lib.below_grow _ _ (Nat.le_refl _) _ _))).mono ?_; rintro e w' ⟨rfl, hb2⟩; rw [← HI2.out]))
        go_ret
        refine ⟨ret_str (ba_eq ?_), (Lib.below_grow _ _ (Nat.le_refl _) _ _).trans (hb2.mono (Lib.size_grow _ _ _))⟩
        rw [KEY.out, NB.out, SB.out, ← HZ.out, HB.out, if_neg (Int.not_le.2 BIG.out), WH.out, ← HNN.out, ← HQ.out, ← HI1.out, ← HI2.out]
        rfl
      · obtain ⟨J, hJ⟩ : ∃ J, J = [45] ++ I1 := ⟨_, rfl⟩
        have hjl : J.length ≤ 22 := by rw [hJ]; simp; omega
        have a4 := fun w => run_join ⟨#[45]⟩ ⟨I1.toArray⟩ [45] I1 rfl rfl (by simp) (by omega) w
        rw [← hJ] at a4
        have a5 := fun w => run_join ⟨J.toArray⟩ ⟨#[46]⟩ J [46] rfl rfl (by omega) (by simp) w
        have a6 := fun w => run_join ⟨(J ++ [46]).toArray⟩ ⟨I2.toArray⟩ (J ++ [46]) I2 rfl rfl (by simp; omega) (by omega) w
        have HJ := Lib.hid hJ
        have SB := Lib.hid hs
        clear hs hi1 hi2 a2 a3 hJ hjl
        go_enter Tryd.func16, Tryd.ntmps16
        go_wp2_with (first
          | (go_at_call 28; refine (isNaN_any _ (by assumption) _).mono ?_; rintro e w' ⟨rfl, rfl⟩; rw [NB.out])
          | (go_at_call 29; refine (abs_any _ (by assumption) _).mono ?_; rintro e w' ⟨rfl, rfl⟩; rw [← HZ.out])
          | (go_at_call 30; refine (signbit_any _ (by assumption) _).mono ?_; rintro e w' ⟨rfl, rfl⟩; rw [SB.out])
          | (go_at_call 31; first | ((with_reducible refine (fl1.out _).mono ?_); rintro e w' ⟨rfl, rfl⟩; rw [← HWB.out]) | ((with_reducible refine (fl2.out _).mono ?_); rintro e w' ⟨rfl, rfl⟩; rw [HV.out, ← HQB.out]))
          | (go_at_call 32; refine (Tryd.strconv_FormatInt_10 _ (by omega) (by omega) _ T.out).mono ?_; rintro e w' ⟨rfl, k, os, rfl⟩; rw [← HI1.out])
          | (go_at_call 33; refine (three_any Q hth _ (T.out.below (Lib.below_grow _ _ (Nat.le_refl _) _ _))).mono ?_; rintro e w' ⟨rfl, hb2⟩; rw [← HI2.out]))
        go_ret
        refine ⟨ret_str (ba_eq ?_), (Lib.below_grow _ _ (Nat.le_refl _) _ _).trans (hb2.mono (Lib.size_grow _ _ _))⟩
        rw [KEY.out, NB.out, SB.out, ← HZ.out, HB.out, if_neg (Int.not_le.2 BIG.out), WH.out, ← HNN.out, ← HQ.out, ← HI1.out, ← HI2.out, HJ.out]
        show (([45] ++ I1) ++ 46 :: I2).toArray.toList = _
        simp
  · have NB := Lib.hid hn
    have SB := NB
    clear hn hnz
    go_enter Tryd.func16, Tryd.ntmps16
    go_wp2_with (first
      | (go_at_call 28; refine (isNaN_any _ (by assumption) _).mono ?_; rintro e w' ⟨rfl, rfl⟩; rw [NB.out])
      | (go_at_call 29; refine (abs_any _ (by assumption) _).mono ?_; rintro e w' ⟨rfl, rfl⟩; rw [← HZ.out])
      | (go_at_call 30; refine (signbit_any _ (by assumption) _).mono ?_; rintro e w' ⟨rfl, rfl⟩; rw [SB.out]))
    go_ret
    refine ⟨ret_str (ba_eq ?_), Below.refl _ _⟩
    rw [KEY.out, NB.out]
    rfl

end Go.Proofs.YtebeelphilfjhaaDoor
