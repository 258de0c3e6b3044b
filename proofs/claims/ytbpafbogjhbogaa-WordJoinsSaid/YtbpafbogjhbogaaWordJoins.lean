/- Proved: the statement of WordJoins (auspexlaw01): bytes that are joined are the word's lowest ones; a word's four bytes make it; continuing the sign a second time does nothing; for every input; no condition. -/
import Derived.Test.YtbpafbogjhbogaaRows
import Derived.Test.YtbpafbogjhbogaaWordB
import Derived.OpenShut
import Derived.ShutString
namespace Go.Proofs.Ytbpafbogjhbogaa.wordJoins
open Go.ChangeShapes Go.WideShapes Go.ChangeAt Go.RowKit
open Go.ChangeMaps (open_string shut_string)
set_option linter.unusedVariables false

theorem joinN_bit : ∀ (l : List UInt8) (k : Nat), (joinN l).testBit k = (l.getD (k / 8) 0).toNat.testBit (k % 8)
  | [], k => by simp [joinN]
  | b :: r, k => by
    have hb := b.toNat_lt
    show (256 * joinN r + b.toNat).testBit k = _
    rw [show (256 : Nat) = 2 ^ 8 from rfl, Nat.testBit_two_pow_mul_add _ hb]
    by_cases h : k < 8
    · rw [if_pos h, show k / 8 = 0 by omega, show k % 8 = k by omega]
      rfl
    · rw [if_neg h, joinN_bit r (k - 8), show k / 8 = (k - 8) / 8 + 1 by omega, show k % 8 = (k - 8) % 8 by omega]
      rfl

theorem byt_bit (a : Int) (k j : Nat) (hk : k < 4) : (byt a k).testBit j = (decide (j < 8) && a.toNat.testBit (8 * k + j)) := by
  have hf : fitsB (8 * (k : Int)) 8 = true := fitsB_iff.2 (by omega)
  unfold byt
  rw [testBit_fld, hf, show (8 * (k : Int)).toNat = 8 * k by omega]
  rfl

/-- the bytes of a string of bytes that a word has -/
theorem str_toList (a : Int) (n : Nat) : (strOfNums (bytL a n)).data.toList = (List.range n).map fun k => UInt8.ofNat (byt a k) := by
  rw [strOfNums_data]
  simp [bytL]
theorem str_size (a : Int) (n : Nat) : (strOfNums (bytL a n)).size = n := by rw [strOfNums_size, bytL_len]

theorem ofNat_byt (a : Int) (k : Nat) : (UInt8.ofNat (byt a k)).toNat = byt a k := by
  rw [UInt8.toNat_ofNat']
  exact Nat.mod_eq_of_lt (byt_lt a k)

theorem all4 (a : Int) (ha : 0 ≤ a) (ha' : a < 4294967296) : joinN (strOfNums (bytL a 4)).data.toList = a.toNat := by
  refine Nat.eq_of_testBit_eq fun k => ?_
  rw [joinN_bit, str_toList]
  by_cases hk : k < 32
  · have h4 : k / 8 < 4 := by omega
    rw [List.getD_eq_getElem?_getD, List.getElem?_map, List.getElem?_range h4]
    show (UInt8.ofNat (byt a (k / 8))).toNat.testBit (k % 8) = _
    rw [ofNat_byt, byt_bit a (k / 8) (k % 8) h4, show 8 * (k / 8) + k % 8 = k by omega]
    simp; omega
  · rw [testBit_high (a := a.toNat) (by omega) (by omega), List.getD_eq_getElem?_getD, List.getElem?_eq_none (by simp; omega)]
    simp

theorem back (s : ByteArray) (h : s.size ≤ 4) : strOfNums (bytL (joinN s.data.toList : Nat) s.size) = s := by
  have hll : s.data.toList.length = s.size := rfl
  have e : (strOfNums (bytL (joinN s.data.toList : Nat) s.size)).data.toList = s.data.toList := by
    rw [str_toList]
    refine List.ext_getElem (by simp) fun k h1 h2 => ?_
    rw [List.getElem_map, List.getElem_range]
    refine UInt8.toNat_inj.1 ?_
    rw [ofNat_byt]
    refine Nat.eq_of_testBit_eq fun j => ?_
    have hk : k < 4 := by omega
    rw [byt_bit _ k j hk, Int.toNat_natCast, joinN_bit]
    by_cases hj : j < 8
    · rw [show (8 * k + j) / 8 = k by omega, show (8 * k + j) % 8 = j by omega, List.getD_eq_getElem?_getD, List.getElem?_eq_getElem h2]
      simp [hj]
    · have hb := (s.data.toList[k]).toNat_lt
      rw [Nat.testBit_lt_two_pow (Nat.lt_of_lt_of_le hb (Nat.pow_le_pow_right (n := 2) (by omega) (show 8 ≤ j by omega)))]
      simp [hj]
  have e2 : (strOfNums (bytL (joinN s.data.toList : Nat) s.size)).data = s.data := Array.toList_inj.1 e
  generalize strOfNums (bytL (joinN s.data.toList : Nat) s.size) = r at *
  cases r
  cases s
  simp only at e2
  rw [e2]

theorem bytes_ok (a n : Int) (ha : 0 ≤ a) (ha' : a < 4294967296) (hn : 0 ≤ n) (hn' : n ≤ 4) (t : ByteArray) (ht : strOfNums (bytL a n.toNat) = t) (w : World) :
    Calls Try.prog 31 #[.int .u32 a, .int .i64 n] w fun e w' => e = .returned (.tuple #[.string t, .int .i64 0]) ∧ Below w.heap.size w w' := by
  have h := bytes_any a n ha ha' w
  rw [if_pos ⟨hn, hn'⟩, if_pos ⟨hn, hn'⟩, ht] at h
  exact h
theorem join_ok (s : ByteArray) (hs : s.size ≤ 4) (x : Int) (hx : (joinN s.data.toList : Int) = x) (w : World) :
    Calls Try.prog 33 #[.string s] w fun e w' => e = .returned (.tuple #[.int .u32 x, .int .i64 0]) ∧ Below w.heap.size w w' := by
  have h := join_any s (by omega) w
  rw [if_pos hs, if_pos hs, hx] at h
  exact h
theorem join_long (s : ByteArray) (hs : s.size ≤ 9223372036854775807) (hl : ¬ s.size ≤ 4) (w : World) :
    Calls Try.prog 33 #[.string s] w fun e w' => e = .returned (.tuple #[.int .u32 0, .int .i64 2]) ∧ Below w.heap.size w w' := by
  have h := join_any s hs w
  rw [if_neg hl, if_neg hl] at h
  exact h

set_option maxHeartbeats 4000000 in
theorem walk (a : Int) (s : ByteArray) (n : Int) (wa : (Lit.int .u32 a).wf = true) (ws : s.size ≤ maxLen) (wn : (Lit.int .i64 n).wf = true) (w : World) :
    Calls Try.prog 6 #[.int .u32 a, .string s, .int .i64 n] w fun e w' => e = .returned (.bool true) ∧ Below w.heap.size w w' := by
  obtain ⟨ha, ha'⟩ := bounds_u32 wa
  have hs : s.size ≤ 9223372036854775807 := by unfold maxLen at ws; exact ws
  clear ws
  obtain ⟨t, T⟩ : ∃ t, Hid (strOfNums (bytL a (4 : Int).toNat) = t) := ⟨_, Lib.hid rfl⟩
  have htl : t.size ≤ 4 := by rw [← T.out, str_size]; decide
  have X := Lib.hid (show (joinN t.data.toList : Int) = a by rw [← T.out]; have := all4 a ha (by omega); have e : (4 : Int).toNat = 4 := rfl; rw [e, this]; omega)
  have hz := sxt_lt a n (by omega)
  obtain ⟨z, Z, z0, z1⟩ : ∃ z : Int, Hid ((sxt a n : Int) = z) ∧ 0 ≤ z ∧ z < 4294967296 := ⟨_, Lib.hid rfl, by omega, by omega⟩
  have E6 := Lib.hid (show (sxt z n : Int) = z by rw [← Z.out, sxt_twice])
  clear hz
  by_cases h4 : s.size ≤ 4
  · have hj := joinN_lt32 (l := s.data.toList) h4
    obtain ⟨y, Y, y0, y1⟩ : ∃ y : Int, Hid ((joinN s.data.toList : Int) = y) ∧ 0 ≤ y ∧ y < 4294967296 := ⟨_, Lib.hid rfl, by omega, by omega⟩
    have B := Lib.hid (show strOfNums (bytL y ((s.size : Nat) : Int).toNat) = s by rw [← Y.out, Int.toNat_natCast]; exact back s h4)
    clear hj
    by_cases c1 : n < 1
    · have d1 : decide (n < 1) = true := decide_eq_true c1
      have E7 := E6
      go_enter Try.func6, Try.ntmps6
      go_wp2_with fail
      refine (bytes_ok a 4 ha (by omega) (by omega) (by omega) t T.out _).mono ?_
      rintro e w1 ⟨rfl, hb1⟩
      go_wp2_with fail
      refine (join_ok t htl a X.out _).mono ?_
      rintro e w2 ⟨rfl, hb2⟩
      go_wp2_with fail
      refine (alive01_any _).mono ?_
      rintro e w3 ⟨rfl, hb3⟩
      go_wp2_with fail
      (refine (join_ok s h4 y Y.out _).mono ?_; rintro e w5 ⟨rfl, hb5⟩; go_wp2_with fail; refine (bytes_ok y _ y0 y1 (by omega) (by omega) s B.out _).mono ?_; rintro e w7 ⟨rfl, hb7⟩)
      go_wp2_with (first
        | (go_at_call 29; refine (sext_any _ _ (by omega) (by omega) _).mono ?_; rintro e w6 ⟨rfl, rfl⟩; first | rw [E6.out] | rw [Z.out])
        | (go_at_call 25; refine (field_any _ _ _ (by omega) (by omega) _).mono ?_; rintro e w4 ⟨rfl, m4, rfl⟩; (try rw [E7.out])))
      go_ret
      exact ⟨rfl, by repeat (first | exact Below.refl _ _ | refine bdrewN ?_ _ | refine bthen ?_ (by assumption))⟩
    · have d1 : decide (n < 1) = false := decide_eq_false c1
      by_cases c2 : 32 < n
      · have d2 : decide (32 < n) = true := decide_eq_true c2
        have E7 := E6
        go_enter Try.func6, Try.ntmps6
        go_wp2_with fail
        refine (bytes_ok a 4 ha (by omega) (by omega) (by omega) t T.out _).mono ?_
        rintro e w1 ⟨rfl, hb1⟩
        go_wp2_with fail
        refine (join_ok t htl a X.out _).mono ?_
        rintro e w2 ⟨rfl, hb2⟩
        go_wp2_with fail
        refine (alive01_any _).mono ?_
        rintro e w3 ⟨rfl, hb3⟩
        go_wp2_with fail
        (refine (join_ok s h4 y Y.out _).mono ?_; rintro e w5 ⟨rfl, hb5⟩; go_wp2_with fail; refine (bytes_ok y _ y0 y1 (by omega) (by omega) s B.out _).mono ?_; rintro e w7 ⟨rfl, hb7⟩)
        go_wp2_with (first
          | (go_at_call 29; refine (sext_any _ _ (by omega) (by omega) _).mono ?_; rintro e w6 ⟨rfl, rfl⟩; first | rw [E6.out] | rw [Z.out])
          | (go_at_call 25; refine (field_any _ _ _ (by omega) (by omega) _).mono ?_; rintro e w4 ⟨rfl, m4, rfl⟩; (try rw [E7.out])))
        go_ret
        exact ⟨rfl, by repeat (first | exact Below.refl _ _ | refine bdrewN ?_ _ | refine bthen ?_ (by assumption))⟩
      · have d2 : decide (32 < n) = false := decide_eq_false c2
        have E7 := Lib.hid (show fld z 0 n = fld a 0 n by rw [← Z.out]; exact fld_sxt a n (by omega) (by omega))
        go_enter Try.func6, Try.ntmps6
        go_wp2_with fail
        refine (bytes_ok a 4 ha (by omega) (by omega) (by omega) t T.out _).mono ?_
        rintro e w1 ⟨rfl, hb1⟩
        go_wp2_with fail
        refine (join_ok t htl a X.out _).mono ?_
        rintro e w2 ⟨rfl, hb2⟩
        go_wp2_with fail
        refine (alive01_any _).mono ?_
        rintro e w3 ⟨rfl, hb3⟩
        go_wp2_with fail
        (refine (join_ok s h4 y Y.out _).mono ?_; rintro e w5 ⟨rfl, hb5⟩; go_wp2_with fail; refine (bytes_ok y _ y0 y1 (by omega) (by omega) s B.out _).mono ?_; rintro e w7 ⟨rfl, hb7⟩)
        go_wp2_with (first
          | (go_at_call 29; refine (sext_any _ _ (by omega) (by omega) _).mono ?_; rintro e w6 ⟨rfl, rfl⟩; first | rw [E6.out] | rw [Z.out])
          | (go_at_call 25; refine (field_any _ _ _ (by omega) (by omega) _).mono ?_; rintro e w4 ⟨rfl, m4, rfl⟩; (try rw [E7.out])))
        go_ret
        exact ⟨rfl, by repeat (first | exact Below.refl _ _ | refine bdrewN ?_ _ | refine bthen ?_ (by assumption))⟩
  · by_cases c1 : n < 1
    · have d1 : decide (n < 1) = true := decide_eq_true c1
      have E7 := E6
      go_enter Try.func6, Try.ntmps6
      go_wp2_with fail
      refine (bytes_ok a 4 ha (by omega) (by omega) (by omega) t T.out _).mono ?_
      rintro e w1 ⟨rfl, hb1⟩
      go_wp2_with fail
      refine (join_ok t htl a X.out _).mono ?_
      rintro e w2 ⟨rfl, hb2⟩
      go_wp2_with fail
      refine (alive01_any _).mono ?_
      rintro e w3 ⟨rfl, hb3⟩
      go_wp2_with fail
      (refine (join_long s hs h4 _).mono ?_; rintro e w5 ⟨rfl, hb5⟩)
      go_wp2_with (first
        | (go_at_call 29; refine (sext_any _ _ (by omega) (by omega) _).mono ?_; rintro e w6 ⟨rfl, rfl⟩; first | rw [E6.out] | rw [Z.out])
        | (go_at_call 25; refine (field_any _ _ _ (by omega) (by omega) _).mono ?_; rintro e w4 ⟨rfl, m4, rfl⟩; (try rw [E7.out])))
      go_ret
      exact ⟨rfl, by repeat (first | exact Below.refl _ _ | refine bdrewN ?_ _ | refine bthen ?_ (by assumption))⟩
    · have d1 : decide (n < 1) = false := decide_eq_false c1
      by_cases c2 : 32 < n
      · have d2 : decide (32 < n) = true := decide_eq_true c2
        have E7 := E6
        go_enter Try.func6, Try.ntmps6
        go_wp2_with fail
        refine (bytes_ok a 4 ha (by omega) (by omega) (by omega) t T.out _).mono ?_
        rintro e w1 ⟨rfl, hb1⟩
        go_wp2_with fail
        refine (join_ok t htl a X.out _).mono ?_
        rintro e w2 ⟨rfl, hb2⟩
        go_wp2_with fail
        refine (alive01_any _).mono ?_
        rintro e w3 ⟨rfl, hb3⟩
        go_wp2_with fail
        (refine (join_long s hs h4 _).mono ?_; rintro e w5 ⟨rfl, hb5⟩)
        go_wp2_with (first
          | (go_at_call 29; refine (sext_any _ _ (by omega) (by omega) _).mono ?_; rintro e w6 ⟨rfl, rfl⟩; first | rw [E6.out] | rw [Z.out])
          | (go_at_call 25; refine (field_any _ _ _ (by omega) (by omega) _).mono ?_; rintro e w4 ⟨rfl, m4, rfl⟩; (try rw [E7.out])))
        go_ret
        exact ⟨rfl, by repeat (first | exact Below.refl _ _ | refine bdrewN ?_ _ | refine bthen ?_ (by assumption))⟩
      · have d2 : decide (32 < n) = false := decide_eq_false c2
        have E7 := Lib.hid (show fld z 0 n = fld a 0 n by rw [← Z.out]; exact fld_sxt a n (by omega) (by omega))
        go_enter Try.func6, Try.ntmps6
        go_wp2_with fail
        refine (bytes_ok a 4 ha (by omega) (by omega) (by omega) t T.out _).mono ?_
        rintro e w1 ⟨rfl, hb1⟩
        go_wp2_with fail
        refine (join_ok t htl a X.out _).mono ?_
        rintro e w2 ⟨rfl, hb2⟩
        go_wp2_with fail
        refine (alive01_any _).mono ?_
        rintro e w3 ⟨rfl, hb3⟩
        go_wp2_with fail
        (refine (join_long s hs h4 _).mono ?_; rintro e w5 ⟨rfl, hb5⟩)
        go_wp2_with (first
          | (go_at_call 29; refine (sext_any _ _ (by omega) (by omega) _).mono ?_; rintro e w6 ⟨rfl, rfl⟩; first | rw [E6.out] | rw [Z.out])
          | (go_at_call 25; refine (field_any _ _ _ (by omega) (by omega) _).mono ?_; rintro e w4 ⟨rfl, m4, rfl⟩; (try rw [E7.out])))
        go_ret
        exact ⟨rfl, by repeat (first | exact Below.refl _ _ | refine bdrewN ?_ _ | refine bthen ?_ (by assumption))⟩

theorem own : ownKnob Try.prog.godebug = none := by kernel_rfl

set_option maxRecDepth 100000 in
theorem lifted (os : Os) (started : os.Started) (H : Type) (enc : TypeId × Value → H) :
    ReturnsInHanded {} Try.checked os 6 .any (Rows.wordJoinsSpec.pre6 enc Try.prog Try.f6 Rows.wordJoinsRow.domain false) (Rows.wordJoinsSpec.post enc Try.prog Try.f6 false true false false) := by
  refine returnsInHanded_of_change (C := Try.checked) own started (by kernel_rfl) Try.func6
    (ChangeSpec.witness6 (enc := enc) (C := Try.checked) false ⟨#[], #[.int .u32 0, .string ByteArray.empty, .int .i64 0], []⟩ 8 (by kernel_rfl) (by kernel_rfl) (by kernel_rfl) (by kernel_rfl)) ?_
  intro W base args ds gs before hval0 hW hcnd _
  have hval : ∀ (j : Nat) t v, Try.f6.params[j]? = some t → args[j]? = some v → Value.okWide Try.prog W .any base t v := hval0
  have hW' := hW
  obtain ⟨p, q, hA0, hV, rfl, hfz, hnd⟩ := hW
  have hA : DataW.TrodAll enc Try.prog W 0 (fun _ => true) true Try.f6.params.toList args.toList ds p := hA0
  rw [Try.params6] at hA hval
  obtain ⟨v0, vs0, d0, ds0, p0, q0, hargs, rfl, rfl, h0, r0⟩ := trodAll_cons hA
  obtain ⟨v1, vs1, d1, ds1, p1, q1, rfl, rfl, rfl, h1, r1⟩ := trodAll_cons r0
  obtain ⟨v2, vs2, d2, ds2, p2, q2, rfl, rfl, rfl, h2, r2⟩ := trodAll_cons r1
  obtain ⟨rfl, rfl, rfl⟩ := trodAll_nil r2
  obtain rfl : args = #[v0, v1, v2] := by cases args; simp_all
  obtain ⟨rfl, rfl⟩ := trodVars_none hV
  obtain ⟨a, rfl, rfl, rfl, w_a⟩ := open_int Try.underlying22 (hval 0 22 v0 rfl rfl) h0
  obtain ⟨s, rfl, rfl, rfl, w_s⟩ := open_string Try.underlying9 (hval 1 9 v1 rfl rfl) h1
  obtain ⟨n, rfl, rfl, rfl, w_n⟩ := open_int Try.underlying3 (hval 2 3 v2 rfl rfl) h2
  clear hA0 hval0
  simp only [List.append_nil] at hW'
  refine (walk a s n w_a w_s w_n W).mono fun e W' ⟨he, bel⟩ => ?_
  subst he
  exact ⟨_, rfl, _, _, _, [], _, [], hW', trodAll_mk1 (shut_bool Try.underlying4 _), (trodAll_cons_mk (shut_int Try.underlying22 w_a) (trodAll_cons_mk (shut_string Try.underlying9 w_s) (trodAll_cons_mk (shut_int Try.underlying3 w_n) trodAll_mk0))), rfl, bel.frame _, fun h => by cases h⟩

/-- THE STATEMENT -/
theorem proved : Rows.WordJoinsSaid :=
  OpenClaim.holds_of_wide 6 Try.f6 rfl rfl rfl rfl rfl rfl rfl ⟨rfl, rfl, rfl, rfl, rfl⟩ rfl rfl rfl rfl rfl (by kernel_rfl) Try.func6 (by kernel_rfl)
    (of_decide_eq_true (by kernel_rfl)) (by unfold Func.isWrapper; first | (rw [if_pos (by decide +kernel)]; kernel_rfl) | (rw [if_neg (by decide +kernel)]; exact ⟨rfl, rfl⟩))
    (fun os started H enc _ => lifted os started H enc)
#print axioms proved
end Go.Proofs.Ytbpafbogjhbogaa.wordJoins
