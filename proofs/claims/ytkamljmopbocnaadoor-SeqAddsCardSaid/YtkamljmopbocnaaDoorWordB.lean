/- THE CONTRACTS of Bytes and Join, of package word and of auspexref01. -/
import Derived.Test.YtkamljmopbocnaaDoorWordLaw
import Derived.Test.YtkamljmopbocnaaDoorMathW
import Derived.Laws.BytesArg
import Derived.WalkLawsBesides
namespace Go.Proofs.YtkamljmopbocnaaDoor
open Go.ChangeShapes Go.WideShapes Go.ChangeAt Go.RowKit
set_option maxRecDepth 100000

theorem info_u8 : (Tryd.prog.info? 5).map (fun i => (i.zero, i.size, i.bytes)) = some (some (.int .u8 0), 1, 1) := by kernel_rfl

/-- byte k of a word -/
def byt (a : Int) (k : Nat) : Nat := fld a (8 * (k : Int)) 8
def bytL (a : Int) (n : Nat) : List Int := (List.range n).map fun k => (byt a k : Int)
theorem byt_lt (a : Int) (k : Nat) : byt a k < 256 := by
  unfold byt fld
  cases fitsB (8 * (k : Int)) 8
  · simp
  · rw [cond_true]; exact Nat.lt_of_lt_of_le (mk_lt _ _) (by decide)
theorem bytL_succ (a : Int) (k : Nat) : bytL a (k + 1) = bytL a k ++ [(byt a k : Int)] := by simp [bytL, List.range_succ]
theorem bytL_len (a : Int) (n : Nat) : (bytL a n).length = n := by simp [bytL]

/-- a slice that owns a row of bytes, as a string -/
theorem conv_own {w : World} {base : Nat} {v : Value} {xs : List Int} {n : Nat} (hn : xs.length = n) (hown : w.ownsRow base 5 1 v n (xs.map (Value.int .u8))) :
    (convert 35 9 v).run Tryd.prog w = .ok (.string (strOfNums xs)) w := by
  rcases hown.2 with ⟨rfl, h0⟩ | ⟨g, cap, cur, rfl, hg, hh, r⟩
  · have : xs = [] := by cases xs; rfl; simp at hn; omega
    subst this
    exact run_convert_bytes_nil w 35 5 Tryd.underlying35 Tryd.underlying5 0 0 9 Tryd.underlying9
  · refine run_convert_bytes_arg w 35 5 Tryd.underlying35 Tryd.underlying5 g 0 n cap xs hn (fun i hi => ?_) 9 Tryd.underlying9
    have := hown.cellAt i (by omega)
    rw [Nat.zero_add, this]
    simp [List.getD, show i < xs.length by omega]

theorem refBytes_any (a n : Int) (ha : 0 ≤ a) (w : World) :
    Calls Tryd.prog 40 #[.int .u32 a, .int .i64 n] w fun e w' => e = .returned (.tuple #[.string (if 0 ≤ n ∧ n ≤ 4 then strOfNums (bytL a n.toNat) else ByteArray.empty), .int .i64 (if 0 ≤ n ∧ n ≤ 4 then 0 else 1)]) ∧ Below w.heap.size w w' := by
  by_cases hn : 0 ≤ n ∧ n ≤ 4
  · rw [if_pos hn, if_pos hn]
    obtain ⟨h0, h1⟩ := hn
    obtain ⟨N, rfl⟩ := Int.eq_ofNat_of_zero_le h0
    obtain ⟨i0, hi, hz0, hz1, hz2⟩ := info_parts info_u8
    go_enter Tryd.func40, Tryd.ntmps40
    go_wp2
    go_loopw [6, 7] (fun v i wr => ∃ k : Nat, k ≤ N ∧ i = .int .i64 k ∧ wr.ownsRow w.heap.size 5 1 v k ((bytL a k).map (Value.int .u8)) ∧ Below w.heap.size w wr) (fun _ i _ => N - (intOf i).toNat)
    case atStart => exact ⟨0, Nat.zero_le _, rfl, World.ownsRow_made _ _ _ (Nat.le_refl _) (by simp [maxLen]) rfl, (Below.refl _ _).alloc (Nat.le_refl _) _⟩
    case round =>
      obtain ⟨k, hk, rfl, hown, hbel⟩ := hrel
      by_cases hkn : k < N
      · have hlt := byt_lt a k
        have B := Lib.hid (show fld a (8 * (k : Int)) 8 = byt a k from rfl)
        go_wp2_with fail
        refine (refField_any _ _ _ ha _).mono ?_
        rintro e w2 ⟨rfl, hb2⟩
        rw [B.out]
        have hown2 : w2.ownsRow w.heap.size 5 1 _ k ((bytL a k).map (Value.int .u8)) := own_below hown hb2
        have hbel2 := hbel.trans (hb2.mono hbel.size)
        clear hown hbel
        go_wp2_with (at_builtin; refine wpList_append_own _ rfl (.tmp 20) (.tmp 26) 35 rfl w.heap.size 5 i0 (.int .u8 0) 1 1 Tryd.underlying35 hi hz0 hz1 hz2 rfl (by decide) _ _ _ rfl (hown2.alloc _) ⟨w2.heap.size, 0, none⟩ 1 1 [_] rfl rfl (cell_new1 _ _ _) (one_int _ _) ?_ ?_ ?_ ?_)
        · unfold maxLen; omega
        · omega
        · have := hbel2.size; simp; omega
        intro v' w1 hown' hgrow _
        have hbel1 := below_app hbel2 (Nat.le_refl _) hown2 hgrow
        have hown1 : w1.ownsRow w.heap.size 5 1 v' (k + 1) ((bytL a (k + 1)).map (Value.int .u8)) := by
          rw [bytL_succ, List.map_append]; exact hown'
        clear hown' hgrow hown2 hbel2 hb2
        go_wp2
        go_roundw
        case rel => exact ⟨k + 1, by omega, by go_num, hown1, hbel1⟩
        case measure => simp [intOf]; omega
      · have hkN : k = N := by omega
        subst hkN
        have hconv := conv_own (bytL_len a k) hown
        go_wp2
        go_ret2
        exact ⟨by rw [Int.toNat_natCast]; rfl, hbel⟩
  · rw [if_neg hn, if_neg hn]
    by_cases h0 : n < 0
    · go_enter Tryd.func40, Tryd.ntmps40
      go_wp2
      go_ret2
      exact ⟨rfl, Below.refl _ _⟩
    · have h1 : 4 < n := by omega
      go_enter Tryd.func40, Tryd.ntmps40
      go_wp2
      go_ret2
      exact ⟨rfl, Below.refl _ _⟩

theorem stored_byte {w : World} {base g N k : Nat} {a : Int} (hk : k < N)
    (h : w.ownsRow base 5 1 (.slice (some ⟨g, 0, none⟩) N N) N ((bytL a k ++ List.replicate (N - k) 0).map (Value.int .u8))) :
    (w.setCell ⟨g, k, none⟩ (.int .u8 (byt a k : Nat))).ownsRow base 5 1 (.slice (some ⟨g, 0, none⟩) N N) N ((bytL a (k + 1) ++ List.replicate (N - (k + 1)) 0).map (Value.int .u8)) := by
  have := h.stored k (.int .u8 (byt a k : Nat))
  have e : ((bytL a k ++ List.replicate (N - k) 0).map (Value.int .u8)).set k (.int .u8 (byt a k : Nat)) = (bytL a (k + 1) ++ List.replicate (N - (k + 1)) 0).map (Value.int .u8) := by
    rw [← List.map_set, bytL_succ]
    congr 1
    have hl := bytL_len a k
    rw [show N - k = (N - (k + 1)) + 1 by omega, List.replicate_succ, List.set_append_right _ _ (by omega), hl]
    simp
  rw [e] at this
  exact this.1

theorem bytes_any (a n : Int) (ha : 0 ≤ a) (ha' : a < 4294967296) (w : World) :
    Calls Tryd.prog 54 #[.int .u32 a, .int .i64 n] w fun e w' => e = .returned (.tuple #[.string (if 0 ≤ n ∧ n ≤ 4 then strOfNums (bytL a n.toNat) else ByteArray.empty), .int .i64 (if 0 ≤ n ∧ n ≤ 4 then 0 else 1)]) ∧ Below w.heap.size w w' := by
  by_cases hn : 0 ≤ n ∧ n ≤ 4
  · rw [if_pos hn, if_pos hn]
    obtain ⟨h0, h1⟩ := hn
    obtain ⟨N, rfl⟩ := Int.eq_ofNat_of_zero_le h0
    obtain ⟨i0, hi, hz0, hz1, hz2⟩ := info_parts info_u8
    go_enter Tryd.func54, Tryd.ntmps54
    go_wp2_with (at_make; refine wpList_make_full _ rfl _ _ 35 rfl w.heap.size 5 i0 (.int .u8 0) 1 Tryd.underlying35 hi hz0 hz1 .i64 .i64 _ _ N rfl rfl rfl rfl (by rw [hz2]; omega) (by unfold maxLen; omega) (Nat.le_refl _) ?_; intro w0 hown0 hgrow0)
    have hbel0 : Below w.heap.size w w0 := (Below.refl _ _).grown hgrow0 (Nat.le_refl _) (fun k hk => by cases hk)
    rw [show (madeCells (Value.int .u8 0).cells (N * 1)).toList = (bytL a 0 ++ List.replicate (N - 0) 0).map (Value.int .u8) by rw [Nat.mul_one, Nat.sub_zero]; simp [bytL, Value.cells, toList_madeCells_one]] at hown0
    clear hgrow0
    generalize hB : w.heap.size = B at *
    have HB := Lib.hid hB
    clear hB
    go_wp2
    go_loopw [17] (fun i wr => ∃ k : Nat, k ≤ N ∧ i = .int .i64 k ∧ wr.ownsRow B 5 1 (.slice (some ⟨B, 0, none⟩) N N) N ((bytL a k ++ List.replicate (N - k) 0).map (Value.int .u8)) ∧ Below B w wr) (fun i _ => N - (intOf i).toNat)
    case atStart => exact ⟨0, Nat.zero_le _, rfl, hown0, hbel0⟩
    case round =>
      obtain ⟨k, hk, rfl, hown, hbel⟩ := hrel
      by_cases hkn : k < N
      · have hlt := byt_lt a k
        have Bk := Lib.hid (show fld a (8 * (k : Int)) 8 = byt a k from rfl)
        have hf := hown.frozenAt k
        have hc := hown.cellAt k (by omega)
        have hcell : wr.cell? ⟨B, k, none⟩ = some (.int .u8 0) := by
          rw [hc]
          simp [List.getElem?_append_right, bytL_len]
          rw [List.getElem?_replicate, if_pos (by omega)]
        clear hc
        go_wp2_with fail
        refine (field_any _ _ _ ha ha' _).mono ?_
        rintro e w2 ⟨rfl, m, rfl⟩
        rw [Bk.out]
        have hs := stored_byte hkn hown
        clear hown
        go_wp2
        go_roundw
        case rel => exact ⟨k + 1, by omega, by go_num, hs, ((bdrewN hbel m).setCell (show B ≤ B from Nat.le_refl _) _)⟩
        case measure => simp [intOf]; omega
      · have hkN : k = N := by omega
        subst hkN
        have hl := bytL_len a k
        have e : bytL a k ++ List.replicate (k - k) 0 = bytL a k := by simp
        rw [e] at hown
        have hconv := conv_own hl hown
        go_wp2
        go_ret2
        exact ⟨by rw [Int.toNat_natCast]; rfl, by rw [HB.out]; exact hbel⟩
  · rw [if_neg hn, if_neg hn]
    by_cases h0 : n < 0
    · go_enter Tryd.func54, Tryd.ntmps54
      go_wp2
      go_ret2
      exact ⟨rfl, Below.refl _ _⟩
    · have h1 : 4 < n := by omega
      go_enter Tryd.func54, Tryd.ntmps54
      go_wp2
      go_ret2
      exact ⟨rfl, Below.refl _ _⟩

/-- the word that bytes make -/
def joinN : List UInt8 → Nat
  | [] => 0
  | b :: r => 256 * joinN r + b.toNat
theorem joinN_lt : ∀ l, joinN l < 2 ^ (8 * l.length)
  | [] => by simp [joinN]
  | b :: r => by
    have h := joinN_lt r
    have hb := b.toNat_lt
    simp only [joinN, List.length_cons]
    rw [show 8 * (r.length + 1) = 8 * r.length + 8 by omega, Nat.pow_add]
    generalize 2 ^ (8 * r.length) = P at *
    omega
theorem joinN_lt32 {l : List UInt8} (h : l.length ≤ 4) : joinN l < 4294967296 :=
  Nat.lt_of_lt_of_le (joinN_lt l) (Nat.pow_le_pow_right (n := 2) (by omega) (show 8 * l.length ≤ 32 by omega))
theorem joinN_snoc : ∀ (l : List UInt8) (b : UInt8), joinN (l ++ [b]) = joinN l + 2 ^ (8 * l.length) * b.toNat
  | [], b => by simp [joinN]
  | c :: r, b => by
    simp only [List.cons_append, joinN, joinN_snoc r b, List.length_cons]
    rw [show 8 * (r.length + 1) = 8 * r.length + 8 by omega, Nat.pow_add, Nat.mul_add, Nat.add_right_comm]
    congr 1
    rw [Nat.mul_comm (2 ^ (8 * r.length)) (2 ^ 8), Nat.mul_assoc]

/-- a byte set behind the others -/
theorem stw_join (l : List UInt8) (b : UInt8) (h : l.length < 4) : stw (joinN l : Nat) (8 * (l.length : Int)) 8 (b.toNat : Nat) = joinN (l ++ [b]) := by
  have hf : fitsB (8 * (l.length : Int)) 8 = true := fitsB_iff.2 (by omega)
  have hlt := joinN_lt l
  have hlt32 := joinN_lt32 (l := l) (by omega)
  have hb := b.toNat_lt
  rw [joinN_snoc]
  refine Nat.eq_of_testBit_eq fun k => ?_
  rw [testBit_stw _ _ _ _ _ hf, Nat.add_comm, Nat.testBit_two_pow_mul_add _ hlt]
  unfold stb
  simp only [Int.toNat_natCast]
  rw [show (8 * (l.length : Int)).toNat = 8 * l.length by omega, show (8 : Int).toNat = 8 from rfl]
  by_cases h1 : k < 8 * l.length
  · simp [h1, show ¬ 8 * l.length ≤ k by omega, show k < 32 by omega]
  · by_cases h2 : k < 8 * l.length + 8
    · simp [h1, h2, show 8 * l.length ≤ k by omega, show k < 32 by omega]
    · have e1 : b.toNat.testBit (k - 8 * l.length) = false := Nat.testBit_lt_two_pow (Nat.lt_of_lt_of_le hb (Nat.pow_le_pow_right (n := 2) (by omega) (show 8 ≤ k - 8 * l.length by omega)))
      have e2 : (joinN l).testBit k = false := Nat.testBit_lt_two_pow (Nat.lt_of_lt_of_le hlt (Nat.pow_le_pow_right (n := 2) (by omega) (show 8 * l.length ≤ k by omega)))
      simp [h1, h2, e1, e2]

theorem join_any (s : ByteArray) (hs : s.size ≤ 9223372036854775807) (w : World) :
    Calls Tryd.prog 55 #[.string s] w fun e w' => e = .returned (.tuple #[.int .u32 (if s.size ≤ 4 then joinN s.data.toList else 0 : Nat), .int .i64 (if s.size ≤ 4 then 0 else 2)]) ∧ Below w.heap.size w w' := by
  by_cases h4 : s.size ≤ 4
  · rw [if_pos h4, if_pos h4]
    go_enter Tryd.func55, Tryd.ntmps55
    go_wp2
    go_loopw [4, 11] (fun t i wr => ∃ k : Nat, k ≤ s.size ∧ i = .int .i64 k ∧ t = .int .u32 (joinN (s.data.toList.take k) : Nat) ∧ Below w.heap.size w wr) (fun _ i _ => s.size - (intOf i).toNat)
    case atStart => exact ⟨0, Nat.zero_le _, rfl, by simp [joinN], Below.refl _ _⟩
    case round =>
      obtain ⟨k, hk, rfl, rfl, hbel⟩ := hrel
      by_cases hkn : k < s.size
      · have hlen : (s.data.toList.take k).length = k := by rw [List.length_take]; have : s.data.toList.length = s.size := rfl; omega
        have hlt := joinN_lt32 (l := s.data.toList.take k) (by omega)
        have hsn : s.data.toList.take (k + 1) = s.data.toList.take k ++ [s[k]] := by rw [List.take_succ_eq_append_getElem (by simpa using hkn)]; rfl
        have E := stw_join (s.data.toList.take k) s[k] (by omega)
        rw [hlen, ← hsn] at E
        have H := Lib.hid E
        have hb := s[k].toNat_lt
        clear E hsn hlen
        go_wp2_with fail
        refine (set_any _ _ _ _ (by omega) (by omega) (by omega) (by omega) _).mono ?_
        rintro e w2 ⟨rfl, m, rfl⟩
        rw [H.out]
        go_wp2
        go_roundw
        case rel => exact ⟨k + 1, by omega, by go_num, rfl, bdrewN hbel m⟩
        case measure => simp [intOf]; omega
      · have hkN : k = s.size := by omega
        subst hkN
        have e : s.data.toList.take s.size = s.data.toList := List.take_of_length_le (Nat.le_refl _)
        rw [e]
        go_wp2
        go_ret2
        exact ⟨rfl, hbel⟩
  · rw [if_neg h4, if_neg h4]
    go_enter Tryd.func55, Tryd.ntmps55
    go_wp2
    go_ret2
    exact ⟨rfl, Below.refl _ _⟩

theorem refJoin_any (s : ByteArray) (hs : s.size ≤ 9223372036854775807) (w : World) :
    Calls Tryd.prog 42 #[.string s] w fun e w' => e = .returned (.tuple #[.int .u32 (if s.size ≤ 4 then joinN s.data.toList else 0 : Nat), .int .i64 (if s.size ≤ 4 then 0 else 2)]) ∧ w = w' := by
  by_cases h4 : s.size ≤ 4
  · rw [if_pos h4, if_pos h4]
    go_enter Tryd.func42, Tryd.ntmps42
    go_wp2
    go_loop [4, 5] (fun t i => ∃ j : Int, -1 ≤ j ∧ j < s.size ∧ i = .int .i64 j ∧ t = .int .u32 (joinN (s.data.toList.drop (j + 1).toNat) : Nat)) (fun _ i => (intOf i + 1).toNat)
    case atStart => exact ⟨_, by omega, by omega, rfl, by rw [List.drop_eq_nil_of_le (by have : s.data.toList.length = s.size := rfl; omega)]; rfl⟩
    case round =>
      obtain ⟨j, h1, h2, rfl, rfl⟩ := hrel
      by_cases hj : 0 ≤ j
      · obtain ⟨k, rfl⟩ := Int.eq_ofNat_of_zero_le hj
        have hkn : k < s.size := by omega
        have hll : s.data.toList.length = s.size := rfl
        have hd : s.data.toList.drop k = s[k] :: s.data.toList.drop (k + 1) := by rw [List.drop_eq_getElem_cons (by simpa using hkn)]; rfl
        have hlt := joinN_lt (s.data.toList.drop (k + 1))
        have hlt2 : joinN (s.data.toList.drop (k + 1)) < 2 ^ 24 := Nat.lt_of_lt_of_le hlt (Nat.pow_le_pow_right (n := 2) (by omega) (by rw [List.length_drop]; omega))
        have hb := s[k].toNat_lt
        have H := Lib.hid (show joinN (s.data.toList.drop k) = 256 * joinN (s.data.toList.drop (k + 1)) + s[k].toNat by rw [hd]; rfl)
        rw [show ((k : Int) + 1).toNat = k + 1 by omega]
        generalize hJ : joinN (s.data.toList.drop (k + 1)) = J at *
        clear hlt hd hll hJ
        go_wp2
        go_round
        case rel => exact ⟨k - 1, by omega, by omega, rfl, by rw [show ((k : Int) - 1 + 1).toNat = k by omega, H.out]; congr 1⟩
        case measure => simp [intOf]
      · have hj1 : j = -1 := by omega
        subst hj1
        go_wp2
        go_ret2
        exact ⟨rfl, rfl⟩
  · rw [if_neg h4, if_neg h4]
    go_enter Tryd.func42, Tryd.ntmps42
    go_wp2
    go_ret2
    exact ⟨rfl, rfl⟩

end Go.Proofs.YtkamljmopbocnaaDoor
