/- THE CONTRACTS of auspexref04; that the program of layer 4 is alive. -/
import Derived.Test.YtkamljmopbocnaaGreatDoorDivide2
namespace Go.Proofs.YtkamljmopbocnaaGreatDoor
open Go.ChangeShapes Go.WideShapes Go.ChangeAt Go.RowKit
set_option maxRecDepth 100000

theorem word04_any (n : Int) (h1 : -4611686018427387904 ≤ n) (h2 : n ≤ 4611686018427387904) (w : World) :
    Calls Tryz.prog 74 #[.int .i64 n] w fun e w' => e = .returned (.int .u32 (n % 4294967296)) ∧ w = w' := by
  have e : n.tmod 4294967296 = if 0 ≤ n then n % 4294967296 else -((-n) % 4294967296) := by
    by_cases h : 0 ≤ n
    · rw [if_pos h, Int.tmod_eq_emod_of_nonneg h]
    · rw [if_neg h, show n = -(-n) by omega, Int.neg_tmod, Int.tmod_eq_emod_of_nonneg (by omega)]; simp
  have hb : -4294967296 < n.tmod 4294967296 ∧ n.tmod 4294967296 < 4294967296 := by rw [e]; split <;> omega
  have hf : (n.tmod 4294967296 < 0 → n.tmod 4294967296 + 4294967296 = n % 4294967296) ∧ (0 ≤ n.tmod 4294967296 → n.tmod 4294967296 = n % 4294967296) := by rw [e]; split <;> omega
  have F := Lib.hid hf
  obtain ⟨b1, b2⟩ := hb
  clear hf e
  by_cases hn : n.tmod 4294967296 < 0
  · go_enter Tryz.func74, Tryz.ntmps74
    go_wp2
    go_ret
    exact ⟨ret_int (by have := F.out.1; omega), rfl⟩
  · have hn' : 0 ≤ n.tmod 4294967296 := by omega
    go_enter Tryz.func74, Tryz.ntmps74
    go_wp2
    go_ret
    exact ⟨ret_int (by have := F.out.2; omega), rfl⟩

theorem refSize_any (op a : Int) (ha : 0 ≤ a) (ha' : a < 4294967296) (w : World) :
    Calls Tryz.prog 50 #[.int .i64 op, .int .u32 a] w fun e w' => e = .returned (.int .i64 (sz op a)) ∧ w = w' := by
  have hw := wrap32_in a
  have hc := Lib.hid (wrap32_cases a ha ha')
  by_cases h1 : op = 42 ∨ op = 44
  · have hs : sz op a = if 2147483648 ≤ a then 4294967296 - a else a := by simp [sz, h1]
    have S := Lib.hid hs
    clear hs
    by_cases h2 : wrap32 a < 0
    · rcases h1 with rfl | rfl
      all_goals
        go_enter Tryz.func50, Tryz.ntmps50
        go_wp2_with (go_at_call 73; refine (signed_any _ ha ha' _).mono ?_; rintro e w1 ⟨rfl, rfl⟩)
        go_ret
        exact ⟨ret_int (by rw [S.out]; have := hc.out; split <;> omega), rfl⟩
    · rcases h1 with rfl | rfl
      all_goals
        go_enter Tryz.func50, Tryz.ntmps50
        go_wp2_with (go_at_call 73; refine (signed_any _ ha ha' _).mono ?_; rintro e w1 ⟨rfl, rfl⟩)
        go_ret
        exact ⟨ret_int (by rw [S.out]; have := hc.out; split <;> omega), rfl⟩
  · have n1 : (op == 42) = false := by rw [beq_eq_false_iff_ne]; omega
    have n2 : (op == 44) = false := by rw [beq_eq_false_iff_ne]; omega
    have hs : sz op a = a := by simp [sz, h1]
    have S := Lib.hid hs
    clear hs
    go_enter Tryz.func50, Tryz.ntmps50
    go_wp2
    go_ret
    exact ⟨ret_int S.out.symm, rfl⟩

theorem refBits_any (a : Int) (ha : 0 ≤ a) (ha' : a < 4294967296) (w : World) :
    Calls Tryz.prog 51 #[.int .u32 a] w fun e w' => e = .returned (.int .i64 (nb a.toNat : Nat)) ∧ w = w' := by
  obtain ⟨A, rfl⟩ := Int.eq_ofNat_of_zero_le ha
  have hA : A < 4294967296 := by omega
  clear ha ha'
  obtain ⟨T, HT⟩ : ∃ T, Hid (T = nb A) := ⟨_, Lib.hid rfl⟩
  rw [Int.toNat_natCast, ← HT.out]
  have hT : T ≤ 32 := by rw [HT.out]; exact nb_le32 hA
  go_enter Tryz.func51, Tryz.ntmps51
  go_wp2
  go_loop [0, 3] (fun a n => ∃ x k : Nat, x < 4294967296 ∧ k ≤ T ∧ k + nb x = T ∧ a = .int .u32 x ∧ n = .int .i64 k) (fun a _ => (intOf a).toNat)
  case atStart => exact ⟨A, 0, hA, by omega, by rw [HT.out]; omega, rfl, rfl⟩
  case round =>
    obtain ⟨x, k, hx, hk, hs, rfl, rfl⟩ := hrel
    by_cases h0 : x = 0
    · subst h0
      have hkT : k = T := by rw [nb_zero] at hs; omega
      subst hkT
      clear hs
      go_wp2
      go_ret
      exact ⟨rfl, rfl⟩
    · have hn := nb_pos h0
      have HN := Lib.hid hn
      have HS := Lib.hid hs
      have hk2 : k < T := by omega
      have hx0 : 0 < x := by omega
      clear hn hs
      go_wp2
      go_round
      case rel => exact ⟨x / 2, k + 1, by omega, by omega, by have := HN.out; have := HS.out; omega, by go_num, by go_num⟩
      case measure => simp [intOf]; omega

theorem quo_range (a b : Int) :
    (-4611686018427387904 ≤ (wrap32 a).tdiv (wrap32 b) ∧ (wrap32 a).tdiv (wrap32 b) ≤ 4611686018427387904) ∧ (-4611686018427387904 ≤ (wrap32 a).tmod (wrap32 b) ∧ (wrap32 a).tmod (wrap32 b) ≤ 4611686018427387904) := by
  have hw := wrap32_in a
  have h1 : ((wrap32 a).tdiv (wrap32 b)).natAbs ≤ (wrap32 a).natAbs := by rw [Int.natAbs_tdiv]; exact Nat.div_le_self _ _
  have h2 : ((wrap32 a).tmod (wrap32 b)).natAbs ≤ (wrap32 a).natAbs := by rw [Int.natAbs_tmod]; exact Nat.mod_le _ _
  omega

set_option maxHeartbeats 1000000 in
theorem refDiv_any (op a b : Int) (ha : 0 ≤ a) (ha' : a < 4294967296) (hb : 0 ≤ b) (hb' : b < 4294967296) (w : World) :
    Calls Tryz.prog 45 #[.int .i64 op, .int .u32 a, .int .u32 b] w fun e w' => e = .returned (.int .u32 (divW op a b)) ∧ w = w' := by
  by_cases hk : 42 ≤ op ∧ op ≤ 45
  · by_cases h0 : b = 0
    · subst h0
      rcases (show op = 42 ∨ op = 43 ∨ op = 44 ∨ op = 45 by omega) with rfl | rfl | rfl | rfl
      all_goals
        go_enter Tryz.func45, Tryz.ntmps45
        go_wp2
        go_ret
        exact ⟨rfl, rfl⟩
    · have b0 : (b == 0) = false := by simpa using h0
      obtain ⟨⟨q1, q2⟩, ⟨q3, q4⟩⟩ := quo_range a b
      obtain ⟨v1, v2⟩ := wrap32_in a
      obtain ⟨v3, v4⟩ := wrap32_in b
      have hwb : wrap32 b ≠ 0 := by unfold wrap32; omega
      have hd1 := Int.ediv_nonneg ha hb
      have hd2 := Int.ediv_le_self b ha
      have hm1 := Int.emod_nonneg a h0
      have hm2 := Int.emod_lt_of_pos a (show 0 < b by omega)
      rcases (show op = 42 ∨ op = 43 ∨ op = 44 ∨ op = 45 by omega) with rfl | rfl | rfl | rfl
      · have hd : divW 42 a b = (wrap32 a).tdiv (wrap32 b) % 4294967296 := by simp [divW, h0]
        rw [hd]
        clear hd
        go_enter Tryz.func45, Tryz.ntmps45
        go_wp2_with (first
          | (go_at_call 73; refine (signed_any _ (by omega) (by omega) _).mono ?_; rintro e w1 ⟨rfl, rfl⟩)
          | (go_at_call 74; refine (word04_any _ (by omega) (by omega) _).mono ?_; rintro e w1 ⟨rfl, rfl⟩))
        go_ret
        exact ⟨rfl, rfl⟩
      · have hd : divW 43 a b = a / b := by simp [divW, h0]
        rw [hd]
        clear hd
        go_enter Tryz.func45, Tryz.ntmps45
        go_wp2_with (first
          | (go_at_call 74; refine (word04_any _ (by omega) (by omega) _).mono ?_; rintro e w1 ⟨rfl, rfl⟩))
        go_ret
        exact ⟨ret_int (by omega), rfl⟩
      · have hd : divW 44 a b = (wrap32 a).tmod (wrap32 b) % 4294967296 := by simp [divW, h0]
        rw [hd]
        clear hd
        go_enter Tryz.func45, Tryz.ntmps45
        go_wp2_with (first
          | (go_at_call 73; refine (signed_any _ (by omega) (by omega) _).mono ?_; rintro e w1 ⟨rfl, rfl⟩)
          | (go_at_call 74; refine (word04_any _ (by omega) (by omega) _).mono ?_; rintro e w1 ⟨rfl, rfl⟩))
        go_ret
        exact ⟨rfl, rfl⟩
      · have hd : divW 45 a b = a % b := by simp [divW, h0]
        rw [hd]
        clear hd
        go_enter Tryz.func45, Tryz.ntmps45
        go_wp2_with (first
          | (go_at_call 74; refine (word04_any _ (by omega) (by omega) _).mono ?_; rintro e w1 ⟨rfl, rfl⟩))
        go_ret
        exact ⟨ret_int (by omega), rfl⟩
  · have E : divW op a b = 0 := by
      unfold divW
      rw [if_neg (by omega), if_neg (by omega), if_neg (by omega), if_neg (by omega)]
    rw [E]
    clear E
    by_cases h1 : op < 42
    · go_enter Tryz.func45, Tryz.ntmps45
      go_wp2
      go_ret
      exact ⟨rfl, rfl⟩
    · have h2 : 45 < op := by omega
      go_enter Tryz.func45, Tryz.ntmps45
      go_wp2
      go_ret
      exact ⟨rfl, rfl⟩

set_option maxHeartbeats 1000000 in
theorem refTook_any (op a b : Int) (ha : 0 ≤ a) (ha' : a < 4294967296) (hb : 0 ≤ b) (hb' : b < 4294967296) (w : World) :
    Calls Tryz.prog 30 #[.int .i64 op, .int .u32 a, .int .u32 b] w fun e w' => e = .returned (.int .i64 (tookW op a b)) ∧ w = w' := by
  by_cases hk : 42 ≤ op ∧ op ≤ 45
  · obtain ⟨k1, k2⟩ := hk
    obtain ⟨l1, l2⟩ := sz_range (op := op) ha ha'
    obtain ⟨l3, l4⟩ := sz_range (op := op) hb hb'
    have n1 := nb_le32 (n := (sz op a).toNat) (by omega)
    have n2 := nb_le32 (n := (sz op b).toNat) (by omega)
    rw [took_form op a b ⟨k1, k2⟩]
    by_cases h0 : b = 0
    · rw [if_pos (.inl h0)]
      subst h0
      go_enter Tryz.func30, Tryz.ntmps30
      go_wp2_with (first
        | (go_at_call 50; refine (refSize_any _ _ (by omega) (by omega) _).mono ?_; rintro e w1 ⟨rfl, rfl⟩))
      go_ret
      exact ⟨rfl, rfl⟩
    · have b0 : (b == 0) = false := by simpa using h0
      by_cases h1 : sz op a < sz op b
      · rw [if_pos (.inr h1)]
        have d1 : decide (sz op a < sz op b) = true := decide_eq_true h1
        clear h0
        go_enter Tryz.func30, Tryz.ntmps30
        go_wp2_with (first
          | (go_at_call 50; refine (refSize_any _ _ (by omega) (by omega) _).mono ?_; rintro e w1 ⟨rfl, rfl⟩))
        go_ret
        exact ⟨rfl, rfl⟩
      · rw [if_neg (by omega)]
        have d1 : decide (sz op a < sz op b) = false := decide_eq_false h1
        clear h0
        go_enter Tryz.func30, Tryz.ntmps30
        go_wp2_with (first
          | (go_at_call 50; refine (refSize_any _ _ (by omega) (by omega) _).mono ?_; rintro e w1 ⟨rfl, rfl⟩)
          | (go_at_call 51; refine (refBits_any _ (by omega) (by omega) _).mono ?_; rintro e w1 ⟨rfl, rfl⟩))
        go_ret
        exact ⟨rfl, rfl⟩
  · have E : tookW op a b = 0 := by unfold tookW; rw [if_neg hk]
    rw [E]
    clear E
    by_cases h1 : op < 42
    · go_enter Tryz.func30, Tryz.ntmps30
      go_wp2
      go_ret
      exact ⟨rfl, rfl⟩
    · have h2 : 45 < op := by omega
      go_enter Tryz.func30, Tryz.ntmps30
      go_wp2
      go_ret
      exact ⟨rfl, rfl⟩

end Go.Proofs.YtkamljmopbocnaaGreatDoor
