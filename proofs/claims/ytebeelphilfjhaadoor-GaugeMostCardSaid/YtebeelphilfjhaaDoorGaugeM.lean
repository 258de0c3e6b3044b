/- THE CONTRACTS of gauge.Mean and Most, and of auspexlaw24's mean and most. -/
import Derived.Test.YtebeelphilfjhaaDoorGaugeLaid
import Derived.Test.YtebeelphilfjhaaDoorBlk
import Derived.Deep.QuietTactic
import Derived.BigQuiet
import Derived.Laws.EntriesVeiled
namespace Go.Proofs.YtebeelphilfjhaaDoor
open Go.ChangeShapes Go.WideShapes Go.ChangeAt Go.RowKit Go.Deep
set_option linter.unusedVariables false
set_option linter.unusedSimpArgs false

/-- the sum of the first k, as the additions go -/
def SumN (l : List Nat) : Nat → Nat → Prop
  | 0, s => s = 0
  | k + 1, r => ∃ s, SumN l k s ∧ Got (floatBits .add .f64 s (l.getD k 0)) r
theorem SumN.sim {l : List Nat} : ∀ {k a b : Nat}, SumN l k a → SumN l k b → Sim a b
  | 0, _, _, h, g => .inl (h.trans g.symm)
  | k + 1, _, _, ⟨_, h1, h2⟩, ⟨_, g1, g2⟩ => (SumN.sim h1 g1).add h2 g2
theorem SumN.lt {l : List Nat} : ∀ {k a : Nat}, SumN l k a → a < 18446744073709551616
  | 0, _, h => by have : _ = 0 := h; omega
  | k + 1, _, ⟨_, _, h2⟩ => h2.1
/-- the mean of a row of n -/
def MeanR (l : List Nat) (n : Nat) (r : Nat) : Prop := (n = 0 ∧ fNan r = true ∧ r < 18446744073709551616) ∨ (n ≠ 0 ∧ ∃ s, SumN l n s ∧ Got (floatBits .quo .f64 s (floatOfInt .f64 n)) r)
theorem MeanR.sim {l : List Nat} {n a b : Nat} (h : MeanR l n a) (g : MeanR l n b) : Sim a b := by
  rcases h with ⟨h0, h1, -⟩ | ⟨h0, s, h1, h2⟩ <;> rcases g with ⟨g0, g1, -⟩ | ⟨g0, t, g1, g2⟩
  · exact .inr ⟨h1, g1⟩
  · exact absurd h0 g0
  · exact absurd g0 h0
  · exact (h1.sim g1).div h2 g2
theorem MeanR.lt {l : List Nat} {n a : Nat} (h : MeanR l n a) : a < 18446744073709551616 := by
  rcases h with ⟨_, _, h⟩ | ⟨_, s, _, h⟩
  · exact h
  · exact h.1

theorem fNan_nan : fNan 9221120237041090561 = true := by decide +kernel

theorem mean_any (A : Option Addr) (n c : Nat) (l : List Nat) (hn : n ≤ 1000) (w : World) (hl : FltsAt w A n l) :
    Calls Tryd.prog 18 #[.slice A n c] w fun e w' => ∃ r q, e = .returned (.float .f64 r) ∧ MeanR l n r ∧ w' = w.drewN q := by
  by_cases h0 : n = 0
  · subst h0
    go_enter Tryd.func18, Tryd.ntmps18
    go_wp2_with (first
      | (go_at_call 34; refine (nan_any _).mono ?_; rintro e w' ⟨rfl, rfl⟩))
    go_ret
    exact ⟨_, 0, rfl, .inl ⟨rfl, fNan_nan, by omega⟩, rfl⟩
  · have h0' : ((n : Int) == 0) = false := by simp; omega
    have hpos : 0 < n := by omega
    go_enter Tryd.func18, Tryd.ntmps18
    go_wp2
    go_loopw [3, 12] (fun s i wr => ∃ (k x q : Nat), k ≤ n ∧ i = .int .i64 k ∧ s = .float .f64 x ∧ SumN l k x ∧ wr = w.drewN q) (fun _ i _ => n - (intOf i).toNat)
    case atStart => exact ⟨0, 0, 0, by omega, rfl, rfl, rfl, rfl⟩
    case round =>
      obtain ⟨k, x, q, hk, rfl, rfl, hs, rfl⟩ := hrel
      by_cases hlt : k < n
      · obtain ⟨hx, a, rfl, hc⟩ := hl.at_ hlt
        have hc' : (w.drewN q).cell? (a.add k) = some (.float .f64 (l.getD k 0)) := hc
        obtain ⟨r, q2, hrun, hg⟩ := run_float_any .add (.inl rfl) 22 x (l.getD k 0) (w.drewN q)
        have G := Lib.hid hg
        have S := Lib.hid hs
        have L := Lib.hid hl
        clear hg hs hc hl
        obtain ⟨y, hy⟩ : ∃ y, l.getD k 0 = y := ⟨_, rfl⟩
        rw [hy] at hc' hrun hx
        have HY := Lib.hid hy
        clear hy
        go_wp2
        go_roundw
        case rel => exact ⟨k + 1, r, q + q2, by omega, by go_num, rfl, ⟨x, S.out, G.out⟩, rfl⟩
        case measure => simp [intOf]; omega
      · obtain rfl : k = n := by omega
        obtain ⟨r, q2, hrun, hg⟩ := run_float_any .quo (.inr (.inl rfl)) 22 x (floatOfInt .f64 (k : Int)) (w.drewN q)
        have G := Lib.hid hg
        have S := Lib.hid hs
        clear hg hs hl
        go_wp2
        go_ret
        exact ⟨r, q + q2, rfl, .inr ⟨h0, x, S.out, G.out⟩, rfl⟩

theorem run_store_flt (w : World) (a : Addr) (b : Nat) : (store a (.float .f64 b)).run Tryd.prog w = stored Tryd.prog w a (.float .f64 b) .plain := run_store _ w a _ _ rfl
/-- the greatest key of the first k; none's, if there are none -/
def maxK (l : List Nat) : Nat → Int
  | 0 => -(3 * (HUGE : Int))
  | k + 1 => if maxK l k < fK (l.getD k 0) then fK (l.getD k 0) else maxK l k
def keepK (x y : Nat) : Nat := if fK x < fK y then y else x
theorem offer_any (b x y : Nat) (hx : x < 18446744073709551616) (hy : y < 18446744073709551616) (w : World) (hB : Blk w b [.func (Fn.func 14) #[] #[], .float .f64 x]) :
    Calls Tryd.prog 35 #[.pointer (some ⟨b, 0, none⟩), .float .f64 y] w fun e w' => e = .returned (.tuple #[]) ∧ Blk w' b [.func (Fn.func 14) #[] #[], .float .f64 (keepK x y)] ∧ Below b w w' := by
  have c0 := hB.2.1 0 _ rfl
  have c1 := hB.2.1 1 _ rfl
  have f1 := hB.2.2 1 (by simp)
  have hlt := hB.1
  have sf := run_store_flt
  have HB := Lib.hid hB
  have r := cmpK_range x y
  have hk := cmpK_lt x y
  clear hB
  obtain ⟨z, hz⟩ : ∃ z, cmpK x y = z := ⟨_, rfl⟩
  rw [hz] at r hk
  have HZ := Lib.hid hz
  have HK := Lib.hid hk
  clear hz hk
  have sq : ∀ q, b < (w.drewN q).heap.size := fun q => hlt
  by_cases h : z < 0
  · have K1 : keepK x y = y := by unfold keepK; rw [if_pos (HK.out.1 h)]
    have HK1 := Lib.hid K1
    clear K1
    go_enter Tryd.func35, Tryd.ntmps35
    go_wp2
    go_quiet ((go_at_call 14; exact Calls.quiet_of_same ((order_any x y hx hy _).mono fun _ _ ⟨h1, h2⟩ => ⟨by rw [h1, HZ.out], h2.symm⟩)))
    go_wp2
    go_end0
    refine ⟨rfl, ?_, ?_⟩
    · rw [HK1.out]
      have h1 := HB.out.set (i := 1) (v := .float .f64 y) (by simp)
      exact h1.below (below_dr (b + 1) _ _) (Nat.lt_succ_self b)
    · exact ((Below.refl b w).setCell (by exact Nat.le_refl _) _).trans (below_dr _ _ _)
  · have K1 : keepK x y = x := by unfold keepK; rw [if_neg (fun e => h (HK.out.2 e))]
    have HK1 := Lib.hid K1
    clear K1
    go_enter Tryd.func35, Tryd.ntmps35
    go_wp2
    go_quiet ((go_at_call 14; exact Calls.quiet_of_same ((order_any x y hx hy _).mono fun _ _ ⟨h1, h2⟩ => ⟨by rw [h1, HZ.out], h2.symm⟩)))
    go_wp2
    go_end0
    refine ⟨rfl, ?_, ?_⟩
    · rw [HK1.out]
      exact HB.out.below (below_dr (b + 1) _ _) (Nat.lt_succ_self b)
    · exact below_dr _ _ _

theorem most_any (A : Option Addr) (n c : Nat) (l : List Nat) (hn : n ≤ 1000) (w : World) (hl : FltsAt w A n l) :
    Calls Tryd.prog 20 #[.slice A n c] w fun e w' => ∃ r, e = .returned (.float .f64 r) ∧ r < 18446744073709551616 ∧ fK r = maxK l n ∧ Below w.heap.size w w' := by
  have sf := run_store_flt
  have hB0 := Lib.hid (Blk.new w 64 [.func (Fn.func 14) #[] #[], .float .f64 9221120237041090561])
  have hb0 := Lib.hid ((Below.refl w.heap.size w).alloc (Nat.le_refl _) (.cells #[.func (Fn.func 14) #[] #[], .float .f64 9221120237041090561] 64))
  have HL := Lib.hid hl
  clear hl
  go_enter Tryd.func20, Tryd.ntmps20
  go_wp2_with (first
    | (go_at_call 34; refine (nan_any _).mono ?_; rintro e w' ⟨rfl, rfl⟩))
  go_loopw [12] (fun i wr => ∃ (k x : Nat), k ≤ n ∧ i = .int .i64 k ∧ Blk wr w.heap.size [.func (Fn.func 14) #[] #[], .float .f64 x] ∧ x < 18446744073709551616 ∧ fK x = maxK l k ∧ Below w.heap.size w wr) (fun i _ => n - (intOf i).toNat)
  case atStart => exact ⟨0, 9221120237041090561, by omega, rfl, hB0.out, by omega, fK_nan fNan_nan, hb0.out⟩
  case round =>
    obtain ⟨k, x, hk, rfl, hB, hx, hm, hb⟩ := hrel
    have HM := Lib.hid hm
    have HBl := Lib.hid hB
    have HBe := Lib.hid hb
    have c1 := hB.2.1 1 _ rfl
    have hlt1 := hB.1
    clear hm hB hb
    by_cases hlt : k < n
    · obtain ⟨hy, a, rfl, hc⟩ := (HL.out.below HBe.out).at_ hlt
      obtain ⟨y, hyE⟩ : ∃ y, l.getD k 0 = y := ⟨_, rfl⟩
      rw [hyE] at hc hy
      have HY := Lib.hid hyE
      clear hyE c1
      go_wp2_with (first
        | (go_at_call 35; refine (offer_any w.heap.size x y hx hy _ HBl.out).mono ?_; rintro e w' ⟨rfl, hB', hb'⟩))
      go_roundw
      case rel =>
        refine ⟨k + 1, keepK x y, by omega, by go_num, hB', by unfold keepK; split <;> assumption, ?_, HBe.out.trans hb'⟩
        unfold keepK
        show _ = if maxK l k < fK (l.getD k 0) then fK (l.getD k 0) else maxK l k
        rw [HY.out, ← HM.out]
        split <;> rfl
      case measure => simp [intOf]; omega
    · obtain rfl : k = n := by omega
      go_wp2
      go_ret
      exact ⟨x, rfl, hx, HM.out, HBe.out⟩

theorem maxK_ge (l : List Nat) : ∀ (n j : Nat), j < n → fK (l.getD j 0) ≤ maxK l n
  | 0, _, h => absurd h (by omega)
  | n + 1, j, h => by
    show _ ≤ if maxK l n < fK (l.getD n 0) then fK (l.getD n 0) else maxK l n
    by_cases e : j = n
    · subst e; split <;> omega
    · have := maxK_ge l n j (by omega)
      split <;> omega
theorem maxK_is (l : List Nat) (hl : ∀ j, l.getD j 0 < 18446744073709551616) : ∀ (n : Nat), 0 < n → ∃ j, j < n ∧ fK (l.getD j 0) = maxK l n
  | 0, h => absurd h (by omega)
  | n + 1, _ => by
    show ∃ j, j < n + 1 ∧ _ = if maxK l n < fK (l.getD n 0) then fK (l.getD n 0) else maxK l n
    by_cases h : maxK l n < fK (l.getD n 0)
    · exact ⟨n, by omega, by rw [if_pos h]⟩
    · rw [if_neg h]
      by_cases h0 : n = 0
      · subst h0
        refine ⟨0, by omega, ?_⟩
        have : maxK l 0 = -(3 * (HUGE : Int)) := rfl
        have := fK_least (hl 0)
        omega
      · obtain ⟨j, hj, e⟩ := maxK_is l hl n (by omega)
        exact ⟨j, by omega, e⟩
theorem FltsAt.lt {w : World} {A : Option Addr} {n : Nat} {l : List Nat} (h : FltsAt w A n l) (j : Nat) : l.getD j 0 < 18446744073709551616 := by
  by_cases hj : j < n
  · exact (h.at_ hj).1
  · rw [List.getD_eq_getElem?_getD, List.getElem?_eq_none (by have := h.1; omega)]
    decide
theorem rate00 : rateO 0 0 = none := by decide +kernel

theorem refMean_any (A : Option Addr) (n c : Nat) (l : List Nat) (hn : n ≤ 1000) (w : World) (hl : FltsAt w A n l) :
    Calls Tryd.prog 19 #[.slice A n c] w fun e w' => ∃ r q, e = .returned (.float .f64 r) ∧ MeanR l n r ∧ w' = w.drewN q := by
  have hz := fun g => ((n : Int) == 0) = g
  go_enter Tryd.func19, Tryd.ntmps19
  go_wp2
  go_loopw [3, 8] (fun s i wr => ∃ (k x q : Nat), k ≤ n ∧ i = .int .i64 k ∧ s = .float .f64 x ∧ SumN l k x ∧ wr = w.drewN q) (fun _ i _ => n - (intOf i).toNat)
  case atStart => exact ⟨0, 0, 0, by omega, rfl, rfl, rfl, rfl⟩
  case round =>
    obtain ⟨k, x, q, hk, rfl, rfl, hs, rfl⟩ := hrel
    by_cases hlt : k < n
    · obtain ⟨hx, a, rfl, hc⟩ := hl.at_ hlt
      have hc' : (w.drewN q).cell? (a.add k) = some (.float .f64 (l.getD k 0)) := hc
      obtain ⟨r, q2, hrun, hg⟩ := run_float_any .add (.inl rfl) 22 x (l.getD k 0) (w.drewN q)
      have G := Lib.hid hg
      have S := Lib.hid hs
      have L := Lib.hid hl
      clear hg hs hc hl
      obtain ⟨y, hy⟩ : ∃ y, l.getD k 0 = y := ⟨_, rfl⟩
      rw [hy] at hc' hrun hx
      have HY := Lib.hid hy
      clear hy
      go_wp2
      go_roundw
      case rel => exact ⟨k + 1, r, q + q2, by omega, by go_num, rfl, ⟨x, S.out, G.out⟩, rfl⟩
      case measure => simp [intOf]; omega
    · obtain rfl : k = n := by omega
      by_cases h0 : k = 0
      · subst h0
        go_wp2_with (first
          | (go_at_call 13; refine (refRate_any 0 0 _).mono ?_; rintro e w' ⟨r, q2, rfl, hg, rfl⟩))
        go_ret
        refine ⟨r, q + q2, rfl, .inl ⟨rfl, ?_, hg.1⟩, rfl⟩
        rcases hg.2 with h | h
        · rw [rate00] at h; cases h
        · exact h.2
      · have h0' : ((k : Int) == 0) = false := by simp; omega
        obtain ⟨r, q2, hrun, hg⟩ := run_float_any .quo (.inr (.inl rfl)) 22 x (floatOfInt .f64 (k : Int)) (w.drewN q)
        have G := Lib.hid hg
        have S := Lib.hid hs
        clear hg hs hl
        go_wp2
        go_ret
        exact ⟨r, q + q2, rfl, .inr ⟨h0, x, S.out, G.out⟩, rfl⟩

theorem refMost_any (A : Option Addr) (n c : Nat) (l : List Nat) (hn : n ≤ 1000) (w : World) (hl : FltsAt w A n l) :
    Calls Tryd.prog 21 #[.slice A n c] w fun e w' => ∃ r q, e = .returned (.float .f64 r) ∧ r < 18446744073709551616 ∧ fK r = maxK l n ∧ w' = w.drewN q := by
  have HL := Lib.hid hl
  clear hl
  go_enter Tryd.func21, Tryd.ntmps21
  go_wp2
  go_loop [4, 5, 10] (fun _ _ i => ∃ k : Nat, k ≤ n ∧ i = .int .i64 k ∧ ∀ j, j < k → fK (l.getD j 0) ≠ maxK l n) (fun _ _ i => n - (intOf i).toNat)
  case atStart => exact ⟨0, by omega, rfl, fun j hj => absurd hj (by omega)⟩
  case round =>
    obtain ⟨k, hk, rfl, hno⟩ := hrel
    have NO := Lib.hid hno
    clear hno
    by_cases hlt : k < n
    · obtain ⟨hx, a, rfl, hc⟩ := HL.out.at_ hlt
      obtain ⟨x, hxE⟩ : ∃ y, l.getD k 0 = y := ⟨_, rfl⟩
      rw [hxE] at hc hx
      have HX := Lib.hid hxE
      clear hxE
      have hle0 := fK_least hx
      go_wp2
      go_loop [5, 16] (fun t i => ∃ j : Nat, j ≤ n ∧ i = .int .i64 j ∧ t = .bool (decide (maxK l j ≤ fK x))) (fun _ i => n - (intOf i).toNat)
      case atStart => exact ⟨0, by omega, rfl, by rw [decide_eq_true (show maxK l 0 ≤ fK x from hle0)]⟩
      case round =>
        obtain ⟨j, hj, rfl, rfl⟩ := hrel
        obtain ⟨t, htE⟩ : ∃ t, decide (maxK l j ≤ fK x) = t := ⟨_, rfl⟩
        rw [htE]
        have HT := Lib.hid htE
        clear htE
        by_cases hltj : j < n
        · obtain ⟨hy, a2, ha2, hc2⟩ := HL.out.at_ hltj
          obtain rfl : a = a2 := by injection ha2
          obtain ⟨y, hyE⟩ : ∃ y, l.getD j 0 = y := ⟨_, rfl⟩
          rw [hyE] at hc2 hy
          have HY := Lib.hid hyE
          have hk2 := Lib.hid (cmpK_lt x y)
          have step : maxK l (j + 1) = if maxK l j < fK (l.getD j 0) then fK (l.getD j 0) else maxK l j := rfl
          rw [hyE] at step
          have ST := Lib.hid step
          clear hyE step ha2
          obtain ⟨z, hz⟩ : ∃ z, cmpK x y = z := ⟨_, rfl⟩
          have HZ := Lib.hid hz
          clear hz
          by_cases hneg : z < 0
          · go_wp2_with (first
              | (go_at_call 15; refine (refOrder_any x y hx hy _).mono ?_; rintro e w' ⟨rfl, rfl⟩; rw [HZ.out]))
            go_round
            case rel =>
              refine ⟨j + 1, by omega, by go_num, ?_⟩
              have h1 := hk2.out.1 (by rw [HZ.out]; exact hneg)
              rw [decide_eq_false (by rw [ST.out]; split <;> omega)]
            case measure => simp [intOf]; omega
          · go_wp2_with (first
              | (go_at_call 15; refine (refOrder_any x y hx hy _).mono ?_; rintro e w' ⟨rfl, rfl⟩; rw [HZ.out]))
            go_round
            case rel =>
              refine ⟨j + 1, by omega, by go_num, ?_⟩
              have h1 : ¬ fK x < fK y := fun h => by have h9 := hk2.out.2 h; rw [HZ.out] at h9; omega
              rw [← HT.out, decide_eq_decide.2 (show maxK l j ≤ fK x ↔ maxK l (j + 1) ≤ fK x by rw [ST.out]; split <;> omega)]
            case measure => simp [intOf]; omega
        · obtain rfl : j = n := by omega
          cases t
          · go_wp2
            go_round
            case rel =>
              refine ⟨k + 1, by omega, by go_num, fun i hi => ?_⟩
              by_cases e : i = k
              · subst e
                rw [HX.out]
                have := of_decide_eq_false HT.out
                omega
              · exact NO.out i (by omega)
            case measure => simp [intOf]; omega
          · go_wp2
            go_ret
            refine ⟨x, rfl, hx, ?_, 0, rfl⟩
            have h1 := of_decide_eq_true HT.out
            have h2 := maxK_ge l j k hlt
            rw [HX.out] at h2
            omega
    · obtain rfl : k = n := by omega
      go_wp2_with (first
        | (go_at_call 13; refine (refRate_any 0 0 _).mono ?_; rintro e w' ⟨r, q2, rfl, hg, rfl⟩))
      go_ret
      rcases Nat.eq_zero_or_pos k with h0 | h0
      · subst h0
        refine ⟨r, q2, rfl, hg.1, ?_, rfl⟩
        rcases hg.2 with h | h
        · rw [rate00] at h; cases h
        · exact fK_nan h.2
      · obtain ⟨j, hj, e⟩ := maxK_is l HL.out.lt k h0
        exact absurd e (NO.out j hj)

end Go.Proofs.YtebeelphilfjhaaDoor
