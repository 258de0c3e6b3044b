/- THE CONTRACTS of package divide's Do and Took, and of auspexref04. -/
import Derived.Test.YtkamljmopbocnaaGreatDoorDivide
import Derived.Test.YtkamljmopbocnaaGreatDoorAlu
namespace Go.Proofs.YtkamljmopbocnaaGreatDoor
open Go.ChangeShapes Go.WideShapes Go.ChangeAt Go.RowKit
set_option maxRecDepth 100000

theorem szB_range (s : Bool) (a : Int) (ha : 0 ≤ a) (ha' : a < 4294967296) : 0 ≤ szB s a ∧ szB s a < 4294967296 := by
  unfold szB
  cases s
  · simp; omega
  · by_cases h : 2147483648 ≤ a
    · rw [decide_eq_true h]; simp; omega
    · rw [decide_eq_false h]; simp; omega
theorem szB_zero (s : Bool) (a : Int) (ha : 0 ≤ a) (ha' : a < 4294967296) : szB s a = 0 ↔ a = 0 := by
  unfold szB
  cases s
  · simp
  · by_cases h : 2147483648 ≤ a
    · rw [decide_eq_true h]; simp; omega
    · rw [decide_eq_false h]; simp
theorem szB_sz (op a : Int) : szB (sgB op) a = sz op a := by
  unfold szB sgB sz
  by_cases h1 : op = 42 ∨ op = 44 <;> by_cases h2 : 2147483648 ≤ a <;> simp [h1, h2]

theorem div_quo (s : Bool) (a b : Int) (ha : 0 ≤ a) (ha' : a < 4294967296) (hb : 0 ≤ b) (hb' : b < 4294967296) (h0 : b ≠ 0) :
    wsB s (decide (2147483648 ≤ a) != decide (2147483648 ≤ b)) (szB s a / szB s b) = bif s then (wrap32 a).tdiv (wrap32 b) % 4294967296 else a / b := by
  cases s
  · rfl
  · rw [cond_true, quo_form a b ha ha' hb hb' h0]
    have e1 : szB true a = sz 42 a := szB_sz 42 a
    have e2 : szB true b = sz 42 b := szB_sz 42 b
    rw [e1, e2]
    unfold wsB
    by_cases c1 : 2147483648 ≤ a <;> by_cases c2 : 2147483648 ≤ b <;> simp [c1, c2]
theorem div_rem (s : Bool) (a b : Int) (ha : 0 ≤ a) (ha' : a < 4294967296) (hb : 0 ≤ b) (hb' : b < 4294967296) (h0 : b ≠ 0) :
    wsB s (decide (2147483648 ≤ a)) (szB s a % szB s b) = bif s then (wrap32 a).tmod (wrap32 b) % 4294967296 else a % b := by
  cases s
  · rfl
  · rw [cond_true, rem_form a b ha ha' hb hb' h0]
    have e1 : szB true a = sz 44 a := szB_sz 44 a
    have e2 : szB true b = sz 44 b := szB_sz 44 b
    rw [e1, e2]
    unfold wsB
    by_cases c1 : 2147483648 ≤ a <;> simp [c1]

theorem wrap_quo {x y : Int} (hx : 0 ≤ x) (hx' : x < 4294967296) (hy : 0 ≤ y) (_h0 : y ≠ 0) : IntKind.u32.wrap (x.tdiv y) = x / y := by
  have h1 := Int.ediv_nonneg hx hy
  have h2 := Int.ediv_le_self y hx
  rw [IntKind.wrap_u32', Int.tdiv_eq_ediv_of_nonneg hx]
  omega
/-- a call that leaves the world alone, met behind draws that were joined -/
theorem joined_same {P : Program} {f : FuncId} {args : Array Value} {w : World} {k n : Nat} {v : Value} (h : Calls P f args (w.drewN (k + n)) fun e w' => e = .returned v ∧ w' = w.drewN (k + n)) :
    Calls P f args (w.drewN (k + n)) fun e w' => e = .returned v ∧ ∃ m, w' = w.drewN (k + m) := by
  refine h.mono ?_
  rintro e w' ⟨he, hw⟩
  exact ⟨he, n, hw⟩
theorem bdrewN' {B : Nat} {a w : World} (h : Below B a w) (n : Nat) : Below B a (w.drewN n) := ⟨h.os, h.tape, h.output, h.size, h.block⟩

set_option maxHeartbeats 2000000 in
theorem divDo_any (op a b : Int) (ha : 0 ≤ a) (ha' : a < 4294967296) (hb : 0 ≤ b) (hb' : b < 4294967296) (w : World) :
    Calls Tryz.prog 63 #[.int .i64 op, .int .u32 a, .int .u32 b] w fun e w' => e = .returned (.int .u32 (divW op a b)) ∧ Below w.heap.size w w' := by
  by_cases hk : 42 ≤ op ∧ op ≤ 45
  · by_cases h0 : b = 0
    · subst h0
      rcases (show op = 42 ∨ op = 43 ∨ op = 44 ∨ op = 45 by omega) with rfl | rfl | rfl | rfl
      · have K := Lib.hid (show knB 42 = true from rfl)
        go_enter Tryz.func63, Tryz.ntmps63
        go_wp2_with (first
          | (go_at_call 66; refine (dsigned_any _ _).mono ?_; rintro e w1 ⟨rfl, rfl⟩; rw [K.out])
          | (go_at_call 92; refine (byZero_any _ _ _).mono ?_; rintro e w1 ⟨rfl, rfl⟩))
        go_ret
        exact ⟨rfl, (Below.refl _ _).alloc (Nat.le_refl _) _⟩
      · have K := Lib.hid (show knB 43 = true from rfl)
        go_enter Tryz.func63, Tryz.ntmps63
        go_wp2_with (first
          | (go_at_call 66; refine (dsigned_any _ _).mono ?_; rintro e w1 ⟨rfl, rfl⟩; rw [K.out])
          | (go_at_call 92; refine (byZero_any _ _ _).mono ?_; rintro e w1 ⟨rfl, rfl⟩))
        go_ret
        exact ⟨rfl, (Below.refl _ _).alloc (Nat.le_refl _) _⟩
      · have K := Lib.hid (show knB 44 = true from rfl)
        go_enter Tryz.func63, Tryz.ntmps63
        go_wp2_with (first
          | (go_at_call 66; refine (dsigned_any _ _).mono ?_; rintro e w1 ⟨rfl, rfl⟩; rw [K.out])
          | (go_at_call 92; refine (byZero_any _ _ _).mono ?_; rintro e w1 ⟨rfl, rfl⟩))
        go_ret
        exact ⟨rfl, (Below.refl _ _).alloc (Nat.le_refl _) _⟩
      · have K := Lib.hid (show knB 45 = true from rfl)
        go_enter Tryz.func63, Tryz.ntmps63
        go_wp2_with (first
          | (go_at_call 66; refine (dsigned_any _ _).mono ?_; rintro e w1 ⟨rfl, rfl⟩; rw [K.out])
          | (go_at_call 92; refine (byZero_any _ _ _).mono ?_; rintro e w1 ⟨rfl, rfl⟩))
        go_ret
        exact ⟨rfl, (Below.refl _ _).alloc (Nat.le_refl _) _⟩
    · have b0 : (b == 0) = false := by simpa using h0
      rcases (show op = 42 ∨ op = 43 ∨ op = 44 ∨ op = 45 by omega) with rfl | rfl | rfl | rfl
      · have hd : divW 42 a b = (wrap32 a).tdiv (wrap32 b) % 4294967296 := by simp [divW, h0]
        rw [hd]
        clear hd hk
        have K := Lib.hid (show knB 42 = true from rfl)
        have S := Lib.hid (show sgB 42 = true from rfl)
        have z : (szB true b == 0) = false := by simpa [szB_zero true b hb hb'] using h0
        have z2 : szB true b ≠ 0 := by simpa using z
        have E := Lib.hid (div_quo true a b ha ha' hb hb' h0)
        obtain ⟨l1, l2⟩ := szB_range true a ha ha'
        obtain ⟨l3, l4⟩ := szB_range true b hb hb'
        have l5 : 1 ≤ szB true b := by omega
        have Z2 := Lib.hid z
        clear z
        go_enter Tryz.func63, Tryz.ntmps63
        go_wp2_with (go_at_call 66; refine (dsigned_any _ _).mono ?_; rintro e w1 ⟨rfl, rfl⟩; rw [S.out, K.out])
        go_quiet ((go_at_call 67; exact Calls.quiet_of_same (divSize_any _ _ (by omega) (by omega) _)))
        go_wp2
        go_quiet ((first | (go_at_call 94; exact joined_same (below_any _ (by omega) (by omega) _)) | (go_at_call 93; exact joined_same (withSign_any _ true _ _ _ (by go_simp)))))
        go_wp2
        go_ret
        exact ⟨ret_int (E.out), bdrewN' (bdrewN' ((Below.refl _ _).alloc (Nat.le_refl _) _) _) _⟩
      · have hd : divW 43 a b = a / b := by simp [divW, h0]
        rw [hd]
        clear hd hk
        have K := Lib.hid (show knB 43 = true from rfl)
        have S := Lib.hid (show sgB 43 = false from rfl)
        have z : (szB false b == 0) = false := by simpa [szB_zero false b hb hb'] using h0
        have z2 : szB false b ≠ 0 := by simpa using z
        have E := Lib.hid (div_quo false a b ha ha' hb hb' h0)
        obtain ⟨l1, l2⟩ := szB_range false a ha ha'
        obtain ⟨l3, l4⟩ := szB_range false b hb hb'
        have l5 : 1 ≤ szB false b := by omega
        have Z2 := Lib.hid z
        clear z
        go_enter Tryz.func63, Tryz.ntmps63
        go_wp2_with (go_at_call 66; refine (dsigned_any _ _).mono ?_; rintro e w1 ⟨rfl, rfl⟩; rw [S.out, K.out])
        go_quiet ((go_at_call 67; exact Calls.quiet_of_same (divSize_any _ _ (by omega) (by omega) _)))
        go_wp2
        go_quiet ((first | (go_at_call 94; exact joined_same (below_any _ (by omega) (by omega) _)) | (go_at_call 93; exact joined_same (withSign_any _ false _ _ _ (by go_simp)))))
        go_wp2
        go_ret
        exact ⟨ret_int (E.out), bdrewN' (bdrewN' ((Below.refl _ _).alloc (Nat.le_refl _) _) _) _⟩
      · have hd : divW 44 a b = (wrap32 a).tmod (wrap32 b) % 4294967296 := by simp [divW, h0]
        rw [hd]
        clear hd hk
        have K := Lib.hid (show knB 44 = true from rfl)
        have S := Lib.hid (show sgB 44 = true from rfl)
        have z : (szB true b == 0) = false := by simpa [szB_zero true b hb hb'] using h0
        have z2 : szB true b ≠ 0 := by simpa using z
        have E := Lib.hid (div_rem true a b ha ha' hb hb' h0)
        obtain ⟨l1, l2⟩ := szB_range true a ha ha'
        obtain ⟨l3, l4⟩ := szB_range true b hb hb'
        have l5 : 1 ≤ szB true b := by omega
        have Z2 := Lib.hid z
        clear z
        go_enter Tryz.func63, Tryz.ntmps63
        go_wp2_with (go_at_call 66; refine (dsigned_any _ _).mono ?_; rintro e w1 ⟨rfl, rfl⟩; rw [S.out, K.out])
        go_quiet ((go_at_call 67; exact Calls.quiet_of_same (divSize_any _ _ (by omega) (by omega) _)))
        go_wp2
        go_quiet ((first | (go_at_call 94; exact joined_same (below_any _ (by omega) (by omega) _)) | (go_at_call 93; exact joined_same (withSign_any _ true _ _ _ (by go_simp)))))
        go_wp2
        go_ret
        exact ⟨ret_int (E.out), bdrewN' (bdrewN' ((Below.refl _ _).alloc (Nat.le_refl _) _) _) _⟩
      · have hd : divW 45 a b = a % b := by simp [divW, h0]
        rw [hd]
        clear hd hk
        have K := Lib.hid (show knB 45 = true from rfl)
        have S := Lib.hid (show sgB 45 = false from rfl)
        have z : (szB false b == 0) = false := by simpa [szB_zero false b hb hb'] using h0
        have z2 : szB false b ≠ 0 := by simpa using z
        have E := Lib.hid (div_rem false a b ha ha' hb hb' h0)
        obtain ⟨l1, l2⟩ := szB_range false a ha ha'
        obtain ⟨l3, l4⟩ := szB_range false b hb hb'
        have l5 : 1 ≤ szB false b := by omega
        have Z2 := Lib.hid z
        clear z
        go_enter Tryz.func63, Tryz.ntmps63
        go_wp2_with (go_at_call 66; refine (dsigned_any _ _).mono ?_; rintro e w1 ⟨rfl, rfl⟩; rw [S.out, K.out])
        go_quiet ((go_at_call 67; exact Calls.quiet_of_same (divSize_any _ _ (by omega) (by omega) _)))
        go_wp2
        go_quiet ((first | (go_at_call 94; exact joined_same (below_any _ (by omega) (by omega) _)) | (go_at_call 93; exact joined_same (withSign_any _ false _ _ _ (by go_simp)))))
        go_wp2
        go_ret
        exact ⟨ret_int (E.out), bdrewN' (bdrewN' ((Below.refl _ _).alloc (Nat.le_refl _) _) _) _⟩
  · have K := Lib.hid (show knB op = false from decide_eq_false hk)
    have E : divW op a b = 0 := by
      unfold divW
      rw [if_neg (by omega), if_neg (by omega), if_neg (by omega), if_neg (by omega)]
    rw [E]
    clear E
    go_enter Tryz.func63, Tryz.ntmps63
    go_wp2_with (go_at_call 66; refine (dsigned_any _ _).mono ?_; rintro e w1 ⟨rfl, rfl⟩; rw [K.out])
    go_ret
    exact ⟨rfl, (Below.refl _ _).alloc (Nat.le_refl _) _⟩

theorem took_form (op a b : Int) (hk : 42 ≤ op ∧ op ≤ 45) :
    tookW op a b = if b = 0 ∨ sz op a < sz op b then 2 else 3 + (nb (sz op a).toNat : Int) - (nb (sz op b).toNat : Int) := by
  unfold tookW
  rw [if_pos hk]

set_option maxHeartbeats 1000000 in
theorem divTook_any (op a b : Int) (ha : 0 ≤ a) (ha' : a < 4294967296) (hb : 0 ≤ b) (hb' : b < 4294967296) (w : World) :
    Calls Tryz.prog 38 #[.int .i64 op, .int .u32 a, .int .u32 b] w fun e w' => e = .returned (.int .i64 (tookW op a b)) ∧ w = w' := by
  by_cases hk : 42 ≤ op ∧ op ≤ 45
  · have K := Lib.hid (show knB op = true from decide_eq_true hk)
    have Z := Lib.hid (szB_sz op)
    obtain ⟨l1, l2⟩ := sz_range (op := op) ha ha'
    obtain ⟨l3, l4⟩ := sz_range (op := op) hb hb'
    have n1 := nb_le32 (n := (sz op a).toNat) (by omega)
    have n2 := nb_le32 (n := (sz op b).toNat) (by omega)
    rw [took_form op a b hk]
    have hz := sz_zero (op := op) hb hb'
    by_cases h0 : b = 0
    · rw [if_pos (.inl h0)]
      have z : (sz op b == 0) = true := by simpa using hz.2 h0
      clear hz h0
      go_enter Tryz.func38, Tryz.ntmps38
      go_wp2_with (first
        | (go_at_call 66; refine (dsigned_any _ _).mono ?_; rintro e w1 ⟨rfl, rfl⟩; rw [K.out])
        | (go_at_call 67; refine (divSize_any _ _ (by omega) (by omega) _).mono ?_; rintro e w1 ⟨rfl, rfl⟩; rw [Z.out]))
      go_ret
      exact ⟨rfl, rfl⟩
    · have z : (sz op b == 0) = false := by rw [beq_eq_false_iff_ne]; exact fun e => h0 (hz.1 e)
      by_cases h1 : sz op a < sz op b
      · rw [if_pos (.inr h1)]
        have d1 : decide (sz op a < sz op b) = true := decide_eq_true h1
        clear hz h0
        go_enter Tryz.func38, Tryz.ntmps38
        go_wp2_with (first
          | (go_at_call 66; refine (dsigned_any _ _).mono ?_; rintro e w1 ⟨rfl, rfl⟩; rw [K.out])
          | (go_at_call 67; refine (divSize_any _ _ (by omega) (by omega) _).mono ?_; rintro e w1 ⟨rfl, rfl⟩; rw [Z.out]))
        go_ret
        exact ⟨rfl, rfl⟩
      · rw [if_neg (by omega)]
        have d1 : decide (sz op a < sz op b) = false := decide_eq_false h1
        clear hz h0
        go_enter Tryz.func38, Tryz.ntmps38
        go_wp2_with (first
          | (go_at_call 66; refine (dsigned_any _ _).mono ?_; rintro e w1 ⟨rfl, rfl⟩; rw [K.out])
          | (go_at_call 67; refine (divSize_any _ _ (by omega) (by omega) _).mono ?_; rintro e w1 ⟨rfl, rfl⟩; rw [Z.out])
          | (go_at_call 68; refine (bits_any _ (by omega) (by omega) _).mono ?_; rintro e w1 ⟨rfl, rfl⟩))
        go_ret
        exact ⟨ret_int (by omega), rfl⟩
  · have K := Lib.hid (show knB op = false from decide_eq_false hk)
    have E : tookW op a b = 0 := by unfold tookW; rw [if_neg hk]
    rw [E]
    clear E
    go_enter Tryz.func38, Tryz.ntmps38
    go_wp2_with (go_at_call 66; refine (dsigned_any _ _).mono ?_; rintro e w1 ⟨rfl, rfl⟩; rw [K.out])
    go_ret
    exact ⟨rfl, rfl⟩

end Go.Proofs.YtkamljmopbocnaaGreatDoor
