/- THE CONTRACTS of auspexlaw24's text, and of alive. -/
import Derived.Test.YtebeelphilfjhaaDoorGaugeT
namespace Go.Proofs.YtebeelphilfjhaaDoor
open Go.ChangeShapes Go.WideShapes Go.ChangeAt Go.RowKit Go.Sort
set_option linter.unusedSimpArgs false
set_option linter.unusedVariables false

/-- the sign turned -/
def negF (b : Nat) : Nat := if fSgn b then b - 9223372036854775808 else b + 9223372036854775808
theorem negFloat_eq (b : Nat) (hb : b < 18446744073709551616) : Op.negFloat .f64 b = negF b := by
  show b ^^^ 2 ^ (11 + 52) = _
  unfold negF fSgn
  simp only [decide_eq_true_eq]
  have e : ∀ x : Nat, x < 2 ^ 63 → x ^^^ 2 ^ 63 = 2 ^ 63 + x := fun x hx => by
    have := Nat.two_pow_add_eq_or_of_lt hx 1
    rw [Nat.mul_one] at this
    rw [this]
    refine Nat.eq_of_testBit_eq fun i => ?_
    rw [Nat.testBit_xor, Nat.testBit_or, Nat.testBit_two_pow]
    by_cases hi : 63 = i
    · subst hi
      have : x.testBit 63 = false := Nat.testBit_lt_two_pow hx
      simp [this]
    · simp [hi]
  split
  · rename_i h
    obtain ⟨x, rfl⟩ := Nat.exists_eq_add_of_le h
    have hx : x < 2 ^ 63 := by omega
    have h2 := e x hx
    rw [show 9223372036854775808 + x = x ^^^ 2 ^ 63 from h2.symm, Nat.xor_assoc, Nat.xor_self, Nat.xor_zero, h2]
    omega
  · rw [e b (by omega)]
    omega

theorem run_neg (b : Nat) (w : World) : (Op.unary .neg (.float .f64 b)).run Tryd.prog w = .ok (.float .f64 (Op.negFloat .f64 b)) w := rfl
theorem refText_any (b : Nat) (hb : b < 18446744073709551616) (w : World) (ht : Tab w) : Calls Tryd.prog 17 #[.float .f64 b] w fun e w' => e = .returned (.string ⟨(textP b).toArray⟩) ∧ Below w.heap.size w w' := by
  have KEY := Lib.hid (show textP b = if fNan b then [110, 111, 110, 101] else (if fSgn b then [45] else []) ++ bodyP (b % 9223372036854775808) from rfl)
  have HB := Lib.hid (show ∀ z, bodyP z = if ((1000000000000 * U1 : Nat) : Int) ≤ fV z then [105, 110, 102] else Lib.itoa (wholeP z : Int) ++ ([46] ++ pad3 (thouP z)) from fun _ => rfl)
  obtain ⟨z, hz⟩ : ∃ z, z = b % 9223372036854775808 := ⟨_, rfl⟩
  have hz63 : z < 9223372036854775808 := by omega
  have hz64 : z < 18446744073709551616 := by omega
  have hnz : fNan z = fNan b := by rw [hz]; exact fNan_abs b
  have mb : minusB b = (!fNan b && fSgn b) := rfl
  cases hn : fNan b
  · rw [hn] at hnz mb
    simp only [Bool.not_false, Bool.true_and] at mb
    have hg := geq_1e12 hz64 hnz
    have hzs : fSgn b = false → b = z := fun h => by
      have : ¬ 9223372036854775808 ≤ b := of_decide_eq_false h
      omega
    have hneg : fSgn b = true → Op.negFloat .f64 b = z := fun h => by
      rw [negFloat_eq b hb]
      unfold negF
      rw [if_pos h]
      have : 9223372036854775808 ≤ b := of_decide_eq_true h
      omega
    by_cases hbig : ((1000000000000 * U1 : Nat) : Int) ≤ fV z
    · rw [decide_eq_true hbig] at hg
      have BIG := Lib.hid hbig
      have NB := Lib.hid hn
      have HZ := Lib.hid hz
      clear hnz hbig hn hz
      cases hs : fSgn b
      · rw [hs] at mb
        have MB := Lib.hid mb
        have SB := Lib.hid hs
        obtain rfl := hzs hs
        clear hs mb hneg hzs
        go_enter Tryd.func17, Tryd.ntmps17
        go_wp2_with (first
          | (go_at_call 22; refine (none_any _ (by assumption) _).mono ?_; rintro e w' ⟨rfl, rfl⟩; rw [NB.out])
          | (go_at_call 25; refine (minus_any _ (by assumption) _).mono ?_; rintro e w' ⟨rfl, rfl⟩; rw [MB.out]))
        go_ret
        refine ⟨ret_str (ba_eq ?_), Below.refl _ _⟩
        rw [KEY.out, NB.out, SB.out, ← HZ.out, HB.out, if_pos BIG.out]
        rfl
      · rw [hs] at mb
        have MB := Lib.hid mb
        have SB := Lib.hid hs
        have hng := fun w => run_neg b w
        rw [hneg hs] at hng
        clear hs mb hneg hzs
        go_enter Tryd.func17, Tryd.ntmps17
        go_wp2_with (first
          | (go_at_call 22; refine (none_any _ (by assumption) _).mono ?_; rintro e w' ⟨rfl, rfl⟩; rw [NB.out])
          | (go_at_call 25; refine (minus_any _ (by assumption) _).mono ?_; rintro e w' ⟨rfl, rfl⟩; rw [MB.out]))
        go_ret
        refine ⟨ret_str (ba_eq ?_), Below.refl _ _⟩
        rw [KEY.out, NB.out, SB.out, ← HZ.out, HB.out, if_pos BIG.out]
        rfl
    · rw [decide_eq_false hbig] at hg
      obtain ⟨u, d, r, F⟩ := text_facts hz63 hnz hbig
      obtain ⟨v, hru, hv⟩ := F.runits
      have BIG := Lib.hid (Int.not_le.1 hbig)
      have NB := Lib.hid hn
      have HZ := Lib.hid hz
      have hth := F.thou
      have hwh := F.wholeE
      have hsm := F.small
      have rs := fun w => run_float_arith (P := Tryd.prog) w .sub 22 .f64 z (Ieee.double.nearest false (u / U1) 0) d F.sub
      have rm := fun w => run_float_arith (P := Tryd.prog) w .mul 22 .f64 d 4652007308841189376 r F.mul
      have hcZ : floatToIntVal .f64 z .i64 = some ((u / U1 : Nat) : Int) := F.units.conv (by omega)
      have c1 := fun w => run_convert_float_int (P := Tryd.prog) w 22 2 .f64 .i64 z _ (by kernel_rfl) Tryd.underlying2 hcZ
      have hcR : floatToIntVal .f64 r .i64 = some ((thouP z : Nat) : Int) := by
        have := hru.conv (by rw [hv]; omega)
        rw [hv] at this
        exact this
      have c2 := fun w => run_convert_float_int (P := Tryd.prog) w 22 2 .f64 .i64 r _ (by kernel_rfl) Tryd.underlying2 hcR
      have cw := floatOfInt_nat (u / U1)
      have T := Lib.hid ht
      have WH := Lib.hid hwh
      clear hnz hbig hn hcZ hcR hwh ht hru F hv hz
      obtain ⟨WB, hWB⟩ : ∃ WB, WB = Ieee.double.nearest false (u / U1) 0 := ⟨_, rfl⟩
      rw [← hWB] at rs cw
      obtain ⟨NN, hNN⟩ : ∃ NN, NN = u / U1 := ⟨_, rfl⟩
      rw [← hNN] at c1 hsm cw
      have HNN := Lib.hid hNN
      obtain ⟨Q, hQ⟩ : ∃ Q, Q = thouP z := ⟨_, rfl⟩
      rw [← hQ] at c2 hth
      have HQ := Lib.hid hQ
      clear hWB hNN hQ
      have hi1 : (Lib.itoa (NN : Int)).length ≤ 21 := Lib.itoa_length_le (NN : Int) (by omega) (by omega)
      have hi2 : (Lib.itoa (Q : Int)).length ≤ 21 := Lib.itoa_length_le (Q : Int) (by omega) (by omega)
      have fa := fun w ht => Tryd.strconv_FormatInt_10 (NN : Int) (by omega) (by omega) w ht
      have fb := fun w ht => Tryd.strconv_FormatInt_10 (Q : Int) (by omega) (by omega) w ht
      have hpd : pad3 Q = (if Q < 100 then [48] else []) ++ ((if Q < 10 then [48] else []) ++ Lib.itoa (Q : Int)) := rfl
      obtain ⟨I1, hI1⟩ : ∃ I, I = Lib.itoa (NN : Int) := ⟨_, rfl⟩
      obtain ⟨I2, hI2⟩ : ∃ I, I = Lib.itoa (Q : Int) := ⟨_, rfl⟩
      rw [← hI1] at hi1 fa
      rw [← hI2] at hi2 fb hpd
      have FA := Lib.hid fa
      have FB := Lib.hid fb
      have HPD := Lib.hid hpd
      generalize U1 = X at *
      have HI1 := Lib.hid hI1
      have HI2 := Lib.hid hI2
      clear hI1 hI2 fa fb hpd
      obtain ⟨sg, hsg⟩ : ∃ sg : List UInt8, sg = if fSgn b then [45] else [] := ⟨_, rfl⟩
      have hsl : sg.length ≤ 1 := by rw [hsg]; split <;> simp
      obtain ⟨J, hJ⟩ : ∃ J, J = sg ++ I1 := ⟨_, rfl⟩
      have hjl : J.length ≤ 22 := by rw [hJ]; simp; omega
      have a4 := fun w => run_join ⟨sg.toArray⟩ ⟨I1.toArray⟩ sg I1 rfl rfl (by omega) (by omega) w
      rw [← hJ] at a4
      obtain ⟨J1, hJ1⟩ : ∃ J1, J1 = J ++ [46] := ⟨_, rfl⟩
      have hjl1 : J1.length ≤ 23 := by rw [hJ1]; simp; omega
      have a5 := fun w => run_join ⟨J.toArray⟩ ⟨#[46]⟩ J [46] rfl rfl (by omega) (by simp) w
      rw [← hJ1] at a5
      obtain ⟨J2, hJ2⟩ : ∃ J2, J2 = J1 ++ [48] := ⟨_, rfl⟩
      have hjl2 : J2.length ≤ 24 := by rw [hJ2]; simp; omega
      have a6 := fun w => run_join ⟨J1.toArray⟩ ⟨#[48]⟩ J1 [48] rfl rfl (by omega) (by simp) w
      rw [← hJ2] at a6
      obtain ⟨J3, hJ3⟩ : ∃ J3, J3 = J2 ++ [48] := ⟨_, rfl⟩
      have hjl3 : J3.length ≤ 25 := by rw [hJ3]; simp; omega
      have a7 := fun w => run_join ⟨J2.toArray⟩ ⟨#[48]⟩ J2 [48] rfl rfl (by omega) (by simp) w
      rw [← hJ3] at a7
      have b1 := fun w => run_join ⟨J1.toArray⟩ ⟨I2.toArray⟩ J1 I2 rfl rfl (by omega) (by omega) w
      have b2 := fun w => run_join ⟨J2.toArray⟩ ⟨I2.toArray⟩ J2 I2 rfl rfl (by omega) (by omega) w
      have b3 := fun w => run_join ⟨J3.toArray⟩ ⟨I2.toArray⟩ J3 I2 rfl rfl (by omega) (by omega) w
      have HJ := Lib.hid (And.intro hJ (And.intro hJ1 (And.intro hJ2 hJ3)))
      clear hJ hJ1 hJ2 hJ3 hjl hjl1 hjl2 hjl3 hsl hi1 hi2
      cases hs : fSgn b
      all_goals rw [hs] at mb hsg
      all_goals have MB := Lib.hid mb
      all_goals have SB := Lib.hid hs
      · obtain rfl := hzs hs
        obtain rfl : sg = [] := hsg
        clear hs mb hneg hzs
        by_cases h100 : Q < 100
        · by_cases h10 : Q < 10
          · go_enter Tryd.func17, Tryd.ntmps17
            go_wp2_with (first
              | (go_at_call 22; refine (none_any _ (by assumption) _).mono ?_; rintro e w' ⟨rfl, rfl⟩; rw [NB.out])
              | (go_at_call 25; refine (minus_any _ (by assumption) _).mono ?_; rintro e w' ⟨rfl, rfl⟩; rw [MB.out])
              | (go_at_call 32; first | ((with_reducible refine (FA.out _ T.out).mono ?_); rintro e w' ⟨rfl, k, os, rfl⟩) | ((with_reducible refine (FB.out _ (T.out.below (Lib.below_grow _ _ (Nat.le_refl _) _ _))).mono ?_); rintro e w' ⟨rfl, k2, os2, rfl⟩)))
            go_ret
            refine ⟨ret_str (ba_eq ?_), (Lib.below_grow _ _ (Nat.le_refl _) _ _).trans ((Lib.below_grow _ _ (Nat.le_refl _) _ _).mono (Lib.size_grow _ _ _))⟩
            rw [KEY.out, NB.out, SB.out, ← HZ.out, HB.out, if_neg (Int.not_le.2 BIG.out), WH.out, ← HNN.out, ← HQ.out, ← HI1.out]
            rw [HPD.out, if_pos h100, if_pos h10, HJ.out.2.2.2, HJ.out.2.2.1, HJ.out.2.1, HJ.out.1]
            simp
          · go_enter Tryd.func17, Tryd.ntmps17
            go_wp2_with (first
              | (go_at_call 22; refine (none_any _ (by assumption) _).mono ?_; rintro e w' ⟨rfl, rfl⟩; rw [NB.out])
              | (go_at_call 25; refine (minus_any _ (by assumption) _).mono ?_; rintro e w' ⟨rfl, rfl⟩; rw [MB.out])
              | (go_at_call 32; first | ((with_reducible refine (FA.out _ T.out).mono ?_); rintro e w' ⟨rfl, k, os, rfl⟩) | ((with_reducible refine (FB.out _ (T.out.below (Lib.below_grow _ _ (Nat.le_refl _) _ _))).mono ?_); rintro e w' ⟨rfl, k2, os2, rfl⟩)))
            go_ret
            refine ⟨ret_str (ba_eq ?_), (Lib.below_grow _ _ (Nat.le_refl _) _ _).trans ((Lib.below_grow _ _ (Nat.le_refl _) _ _).mono (Lib.size_grow _ _ _))⟩
            rw [KEY.out, NB.out, SB.out, ← HZ.out, HB.out, if_neg (Int.not_le.2 BIG.out), WH.out, ← HNN.out, ← HQ.out, ← HI1.out]
            rw [HPD.out, if_pos h100, if_neg h10, HJ.out.2.2.1, HJ.out.2.1, HJ.out.1]
            simp
        · have h10 : ¬ Q < 10 := by omega
          go_enter Tryd.func17, Tryd.ntmps17
          go_wp2_with (first
            | (go_at_call 22; refine (none_any _ (by assumption) _).mono ?_; rintro e w' ⟨rfl, rfl⟩; rw [NB.out])
            | (go_at_call 25; refine (minus_any _ (by assumption) _).mono ?_; rintro e w' ⟨rfl, rfl⟩; rw [MB.out])
            | (go_at_call 32; first | ((with_reducible refine (FA.out _ T.out).mono ?_); rintro e w' ⟨rfl, k, os, rfl⟩) | ((with_reducible refine (FB.out _ (T.out.below (Lib.below_grow _ _ (Nat.le_refl _) _ _))).mono ?_); rintro e w' ⟨rfl, k2, os2, rfl⟩)))
          go_ret
          refine ⟨ret_str (ba_eq ?_), (Lib.below_grow _ _ (Nat.le_refl _) _ _).trans ((Lib.below_grow _ _ (Nat.le_refl _) _ _).mono (Lib.size_grow _ _ _))⟩
          rw [KEY.out, NB.out, SB.out, ← HZ.out, HB.out, if_neg (Int.not_le.2 BIG.out), WH.out, ← HNN.out, ← HQ.out, ← HI1.out]
          rw [HPD.out, if_neg h100, if_neg h10, HJ.out.2.1, HJ.out.1]
          simp
      · have hng := fun w => run_neg b w
        rw [hneg hs] at hng
        obtain rfl : sg = [45] := hsg
        clear hs mb hneg hzs
        by_cases h100 : Q < 100
        · by_cases h10 : Q < 10
          · go_enter Tryd.func17, Tryd.ntmps17
            go_wp2_with (first
              | (go_at_call 22; refine (none_any _ (by assumption) _).mono ?_; rintro e w' ⟨rfl, rfl⟩; rw [NB.out])
              | (go_at_call 25; refine (minus_any _ (by assumption) _).mono ?_; rintro e w' ⟨rfl, rfl⟩; rw [MB.out])
              | (go_at_call 32; first | ((with_reducible refine (FA.out _ T.out).mono ?_); rintro e w' ⟨rfl, k, os, rfl⟩) | ((with_reducible refine (FB.out _ (T.out.below (Lib.below_grow _ _ (Nat.le_refl _) _ _))).mono ?_); rintro e w' ⟨rfl, k2, os2, rfl⟩)))
            go_ret
            refine ⟨ret_str (ba_eq ?_), (Lib.below_grow _ _ (Nat.le_refl _) _ _).trans ((Lib.below_grow _ _ (Nat.le_refl _) _ _).mono (Lib.size_grow _ _ _))⟩
            rw [KEY.out, NB.out, SB.out, ← HZ.out, HB.out, if_neg (Int.not_le.2 BIG.out), WH.out, ← HNN.out, ← HQ.out, ← HI1.out]
            rw [HPD.out, if_pos h100, if_pos h10, HJ.out.2.2.2, HJ.out.2.2.1, HJ.out.2.1, HJ.out.1]
            simp
          · go_enter Tryd.func17, Tryd.ntmps17
            go_wp2_with (first
              | (go_at_call 22; refine (none_any _ (by assumption) _).mono ?_; rintro e w' ⟨rfl, rfl⟩; rw [NB.out])
              | (go_at_call 25; refine (minus_any _ (by assumption) _).mono ?_; rintro e w' ⟨rfl, rfl⟩; rw [MB.out])
              | (go_at_call 32; first | ((with_reducible refine (FA.out _ T.out).mono ?_); rintro e w' ⟨rfl, k, os, rfl⟩) | ((with_reducible refine (FB.out _ (T.out.below (Lib.below_grow _ _ (Nat.le_refl _) _ _))).mono ?_); rintro e w' ⟨rfl, k2, os2, rfl⟩)))
            go_ret
            refine ⟨ret_str (ba_eq ?_), (Lib.below_grow _ _ (Nat.le_refl _) _ _).trans ((Lib.below_grow _ _ (Nat.le_refl _) _ _).mono (Lib.size_grow _ _ _))⟩
            rw [KEY.out, NB.out, SB.out, ← HZ.out, HB.out, if_neg (Int.not_le.2 BIG.out), WH.out, ← HNN.out, ← HQ.out, ← HI1.out]
            rw [HPD.out, if_pos h100, if_neg h10, HJ.out.2.2.1, HJ.out.2.1, HJ.out.1]
            simp
        · have h10 : ¬ Q < 10 := by omega
          go_enter Tryd.func17, Tryd.ntmps17
          go_wp2_with (first
            | (go_at_call 22; refine (none_any _ (by assumption) _).mono ?_; rintro e w' ⟨rfl, rfl⟩; rw [NB.out])
            | (go_at_call 25; refine (minus_any _ (by assumption) _).mono ?_; rintro e w' ⟨rfl, rfl⟩; rw [MB.out])
            | (go_at_call 32; first | ((with_reducible refine (FA.out _ T.out).mono ?_); rintro e w' ⟨rfl, k, os, rfl⟩) | ((with_reducible refine (FB.out _ (T.out.below (Lib.below_grow _ _ (Nat.le_refl _) _ _))).mono ?_); rintro e w' ⟨rfl, k2, os2, rfl⟩)))
          go_ret
          refine ⟨ret_str (ba_eq ?_), (Lib.below_grow _ _ (Nat.le_refl _) _ _).trans ((Lib.below_grow _ _ (Nat.le_refl _) _ _).mono (Lib.size_grow _ _ _))⟩
          rw [KEY.out, NB.out, SB.out, ← HZ.out, HB.out, if_neg (Int.not_le.2 BIG.out), WH.out, ← HNN.out, ← HQ.out, ← HI1.out]
          rw [HPD.out, if_neg h100, if_neg h10, HJ.out.2.1, HJ.out.1]
          simp
  · rw [hn] at mb
    simp only [Bool.not_true, Bool.false_and] at mb
    have NB := Lib.hid hn
    have MB := Lib.hid mb
    clear hn hnz mb
    go_enter Tryd.func17, Tryd.ntmps17
    go_wp2_with (first
      | (go_at_call 22; refine (none_any _ (by assumption) _).mono ?_; rintro e w' ⟨rfl, rfl⟩; rw [NB.out])
      | (go_at_call 25; refine (minus_any _ (by assumption) _).mono ?_; rintro e w' ⟨rfl, rfl⟩; rw [MB.out]))
    go_ret
    refine ⟨ret_str (ba_eq ?_), Below.refl _ _⟩
    rw [KEY.out, NB.out]
    rfl

theorem below_dr (B : Nat) (w : World) (q : Nat) : Below B w (w.drewN q) := ⟨rfl, rfl, rfl, Nat.le_refl _, fun _ _ => rfl⟩
/-- two of three are so many thousandths -/
theorem rate23 : rateO 2 3 = some 4604180019048437077 := by decide +kernel
theorem got23 {r : Nat} (h : Got (rateO 2 3) r) : r = 4604180019048437077 := by
  rcases h.2 with h | ⟨h, _⟩ <;> rw [rate23] at h
  · exact (Option.some.inj h).symm
  · cases h
theorem text23 : textP 4604180019048437077 = [48, 46, 54, 54, 54] := by decide +kernel
theorem alive24_any (w : World) (ht : Tab w) : Calls Tryd.prog 10 #[] w fun e w' => e = .returned (.bool true) ∧ Below w.heap.size w w' := by
  have T := Lib.hid ht
  have TX := Lib.hid text23
  clear ht
  go_enter Tryd.func10, Tryd.ntmps10
  go_wp2_with (first
    | (go_at_call 12; refine (rate_any 2 3 _).mono ?_; rintro e w' ⟨r, q, rfl, hg, rfl⟩; obtain rfl := got23 hg; clear hg)
    | (go_at_call 16; refine (text_any _ (by omega) _ (T.out.below (below_dr _ _ _))).mono ?_; rintro e w' ⟨rfl, hb⟩; rw [TX.out]))
  go_ret
  exact ⟨rfl, (below_dr _ _ _).trans hb⟩

end Go.Proofs.YtebeelphilfjhaaDoor
