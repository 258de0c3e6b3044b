import Derived.Test.YtaokhegbfaokdaaDoorMemB
import Derived.Test.YtaokhegbfaokdaaDoorSeqB
import Derived.Test.YtaokhegbfaokdaaDoorRfB
import Derived.Deep.QuietTactic
import Derived.BigQuiet
/- THE CONTRACTS of Read and Write of auspexref05. -/
namespace Go.Proofs.YtaokhegbfaokdaaDoor
open Go.ChangeShapes Go.WideShapes Go.ChangeAt Go.RowKit Go.Lib
set_option maxRecDepth 100000
set_option linter.unusedVariables false

theorem own_belowR {w w2 : World} {B e size n : Nat} {v : Value} {xs : List Value} (h : w.ownsRow B e size v n xs) (hb : Below w.heap.size w w2) : w2.ownsRow B e size v n xs := by
  refine ⟨h.1, ?_⟩
  rcases h.2 with hx | ⟨g, cap, cur, h1, h2, h3, h4⟩
  · exact .inl hx
  · refine .inr ⟨g, cap, cur, h1, h2, ?_, h4⟩
    have hlt : g < w.heap.size := by
      rcases Nat.lt_or_ge g w.heap.size with h' | h'
      · exact h'
      · rw [Array.getElem?_eq_none h'] at h3; cases h3
    rw [hb.block g hlt]; exact h3
theorem cell_newR (w : World) (x : Value) (t : TypeId) : ∀ j u, [x][j]? = some u → (w.alloc (.cells #[x] t)).cell? ((⟨w.heap.size, 0, none⟩ : Addr).add j) = some u := by
  intro j u hj
  match j, hj with
  | 0, hj =>
    simp at hj
    subst hj
    show (w.alloc (.cells #[x] t)).cell? ⟨w.heap.size, 0, none⟩ = some x
    rw [World.cell?_alloc_at _ _ _ _ rfl]
    rfl
theorem one_intR (k : IntKind) (x : Int) : ∀ u ∈ [Value.int k x], u.oneCell' = true := by
  intro u hu
  simp at hu
  subst hu
  rfl

theorem below_appR {B : Nat} {w wr w1 : World} {e size n : Nat} {v : Value} {xs : List Value} {o : Obj} (hbel : Below B w wr) (hB : B ≤ w.heap.size) (hown : wr.ownsRow B e size v n xs) (hgrow : (wr.alloc o).grownBy w1 v.ownBlock) : Below B w w1 :=
  (hbel.alloc (by have := hbel.size; omega) o).grown hgrow (by have := hbel.size; simp; omega) (fun j hj => (hown.lt j hj).1)

set_option maxHeartbeats 1000000
theorem refRead_any (m : ByteArray) (addr many : Int) (s1 : m.size ≤ 1000) (h0 : 0 ≤ addr) (hm : 0 ≤ many) (h1 : addr + many ≤ m.size) (w : World) :
    Calls Tryd.prog 13 #[.string m, .int .u32 addr, .int .i64 many] w fun e w' => e = .returned (.string (m.extract addr.toNat (addr + many).toNat)) ∧ w = w' := by
  have hsl := run_slice_string (P := Tryd.prog) w 9 m .i64 .i64 addr (addr + many) Tryd.underlying9 h0 (by omega) h1
  go_enter Tryd.func13, Tryd.ntmps13
  go_wp2
  go_ret
  exact ⟨rfl, rfl⟩

theorem refWrite_any (m : ByteArray) (addr : Int) (b : ByteArray) (s1 : m.size ≤ 1000) (h0 : 0 ≤ addr) (h1 : addr + b.size ≤ m.size) (w : World) :
    Calls Tryd.prog 27 #[.string m, .int .u32 addr, .string b] w fun e w' => e = .returned (.string (wrS m b addr.toNat)) ∧ Below w.heap.size w w' := by
  obtain ⟨i0, hi, hz0, hz1, hz2⟩ := info_parts info_byte
  have Hg := Lib.hid (fun k => wr_get m b addr.toNat (by omega) k)
  have Hs := Lib.hid (show (wrL m b addr.toNat).length = m.size from wr_size m b addr.toNat (by omega))
  go_enter Tryd.func27, Tryd.ntmps27
  go_wp2
  go_loopw [7, 8] (fun v i wr => ∃ k : Nat, k ≤ m.size ∧ i = .int .i64 k ∧ wr.ownsRow w.heap.size 5 1 v k (((wrL m b addr.toNat).take k).map fun x : UInt8 => Value.int .u8 x.toNat) ∧ Below w.heap.size w wr) (fun _ i _ => m.size - (intOf i).toNat)
  case atStart => exact ⟨0, Nat.zero_le _, rfl, World.ownsRow_made _ _ _ (Nat.le_refl _) (by simp [maxLen]) rfl, (Below.refl _ _).alloc (Nat.le_refl _) _⟩
  case round =>
    obtain ⟨k, hk, rfl, hown, hbel⟩ := hrel
    by_cases hkn : k < m.size
    · by_cases c : addr ≤ k ∧ (k : Int) - addr < b.size
      · obtain ⟨c1, c2⟩ := c
        have d1 : decide ((k : Int) - addr ≥ 0) = true := by simp; omega
        have d2 : decide ((k : Int) - addr < b.size) = true := by simp; omega
        have hq : ((k : Int) - addr).toNat < b.size := by omega
        have hx : (wrL m b addr.toNat).take (k + 1) = (wrL m b addr.toNat).take k ++ [b[((k : Int) - addr).toNat]] := by
          have h := Hg.out k
          have hl := Hs.out
          rw [if_pos (by omega), show k - addr.toNat = ((k : Int) - addr).toNat by omega] at h
          rw [List.take_succ_eq_append_getElem (by omega)]
          have e1 : (wrL m b addr.toNat)[k]? = b.data.toList[((k : Int) - addr).toNat]? := h
          rw [List.getElem?_eq_getElem (by omega), List.getElem?_eq_getElem (by rw [ba_len]; exact hq)] at e1
          rw [Option.some.inj e1]
          rfl
        have HX := Lib.hid hx
        clear hx
        go_wp2_with (at_builtin; refine wpList_append_own _ rfl (.tmp 29) (.tmp 33) 53 rfl w.heap.size 5 i0 (.int .u8 0) 1 1 Tryd.underlying53 hi hz0 hz1 hz2 rfl (by decide) _ _ _ rfl (hown.alloc _) ⟨wr.heap.size, 0, none⟩ 1 1 [_] rfl rfl (cell_newR _ _ _) (one_intR _ _) (by unfold maxLen; omega) (by omega) (by have := hbel.size; simp; omega) ?_; intro v' w1 hown' hgrow _)
        have hbel1 := below_appR hbel (Nat.le_refl _) hown hgrow
        clear hgrow hown
        go_wp2
        go_roundw
        case rel => exact ⟨k + 1, by omega, by go_num, by rw [HX.out, List.map_append]; exact hown', hbel1⟩
        case measure => simp [intOf]; omega
      · have hq : k < m.size := hkn
        have hx : (wrL m b addr.toNat).take (k + 1) = (wrL m b addr.toNat).take k ++ [m[k]] := by
          have h := Hg.out k
          have hl := Hs.out
          rw [if_neg (by omega)] at h
          rw [List.take_succ_eq_append_getElem (by omega)]
          have e1 : (wrL m b addr.toNat)[k]? = m.data.toList[k]? := h
          rw [List.getElem?_eq_getElem (by omega), List.getElem?_eq_getElem (by rw [ba_len]; exact hq)] at e1
          rw [Option.some.inj e1]
          rfl
        by_cases c1 : addr ≤ k
        · have d1 : decide ((k : Int) - addr ≥ 0) = true := by simp; omega
          have d2 : decide ((k : Int) - addr < b.size) = false := by simp; omega
          clear c
          have HX := Lib.hid hx
          clear hx
          go_wp2_with (at_builtin; refine wpList_append_own _ rfl (.tmp 35) (.tmp 39) 53 rfl w.heap.size 5 i0 (.int .u8 0) 1 1 Tryd.underlying53 hi hz0 hz1 hz2 rfl (by decide) _ _ _ rfl (hown.alloc _) ⟨wr.heap.size, 0, none⟩ 1 1 [_] rfl rfl (cell_newR _ _ _) (one_intR _ _) (by unfold maxLen; omega) (by omega) (by have := hbel.size; simp; omega) ?_; intro v' w1 hown' hgrow _)
          have hbel1 := below_appR hbel (Nat.le_refl _) hown hgrow
          clear hgrow hown
          go_wp2
          go_roundw
          case rel => exact ⟨k + 1, by omega, by go_num, by rw [HX.out, List.map_append]; exact hown', hbel1⟩
          case measure => simp [intOf]; omega
        · have d1 : decide ((k : Int) - addr ≥ 0) = false := by simp; omega
          clear c
          have HX := Lib.hid hx
          clear hx
          go_wp2_with (at_builtin; refine wpList_append_own _ rfl (.tmp 35) (.tmp 39) 53 rfl w.heap.size 5 i0 (.int .u8 0) 1 1 Tryd.underlying53 hi hz0 hz1 hz2 rfl (by decide) _ _ _ rfl (hown.alloc _) ⟨wr.heap.size, 0, none⟩ 1 1 [_] rfl rfl (cell_newR _ _ _) (one_intR _ _) (by unfold maxLen; omega) (by omega) (by have := hbel.size; simp; omega) ?_; intro v' w1 hown' hgrow _)
          have hbel1 := below_appR hbel (Nat.le_refl _) hown hgrow
          clear hgrow hown
          go_wp2
          go_roundw
          case rel => exact ⟨k + 1, by omega, by go_num, by rw [HX.out, List.map_append]; exact hown', hbel1⟩
          case measure => simp [intOf]; omega
    · have hkN : k = m.size := by omega
      have Hk := Lib.hid hkN
      clear hkN
      have hl := Hs.out
      rw [List.take_of_length_le (by omega), map_u8] at hown
      have hconv := conv_bytes (by simp; omega) hown
      rw [strOfNums_nat] at hconv
      clear hl hown
      go_wp2
      go_ret
      exact ⟨rfl, hbel⟩

end Go.Proofs.YtaokhegbfaokdaaDoor

/- THE CONTRACTS of auspexref05's Fetch and Load. -/
namespace Go.Proofs.YtaokhegbfaokdaaDoor
open Go.ChangeShapes Go.WideShapes Go.ChangeAt Go.RowKit
set_option linter.unusedVariables false
set_option linter.unusedSimpArgs false
set_option maxRecDepth 100000
set_option maxHeartbeats 1000000

theorem refFetch_any {w : World} {A : Option Addr} {n cap : Nat} {zs : List Int} (h : IntsAt w A n .u32 zs) (hn : n ≤ 200) (pc : Int) (h0 : 0 ≤ pc) (h1 : pc < 4294967296) :
    Calls Tryd.prog 21 #[.slice A n cap, .int .u32 pc] w fun e w' => e = .returned (.tuple #[.int .u32 (ftV zs n pc), .bool (ftB n pc)]) ∧ w = w' := by
  have H := Lib.hid h
  clear h
  go_enter Tryd.func21, Tryd.ntmps21
  go_wp2
  go_loop [6, 7, 10] (fun _ _ i => ∃ k : Nat, k ≤ n ∧ i = .int .i64 k ∧ ∀ j : Nat, j < k → pc ≠ 4 * j) (fun _ _ i => n - (intOf i).toNat)
  case atStart => exact ⟨0, by omega, rfl, fun j hj => absurd hj (by omega)⟩
  case round =>
    obtain ⟨k, hk, rfl, hno⟩ := hrel
    have NO := Lib.hid hno
    clear hno
    by_cases hlt : k < n
    · obtain ⟨a, rfl, hc⟩ := H.out.at_ hlt
      by_cases he : pc = 4 * k
      · have G1 := Lib.hid (show zs.getD k 0 = ftV zs n pc by unfold ftV; rw [if_pos (by omega), show (pc / 4).toNat = k by omega])
        have G2 := Lib.hid (show true = ftB n pc by unfold ftB; simp; omega)
        generalize zs.getD k 0 = v at *
        have q : (pc == 4 * (k : Int) % 18446744073709551616) = true := by simp; omega
        clear he
        go_wp2
        go_ret2
        exact ⟨ret_word G1.out G2.out, rfl⟩
      · have NO2 := Lib.hid (show ∀ j : Nat, j < k + 1 → pc ≠ 4 * j by
          intro j hj
          rcases Nat.lt_or_ge j k with h | h
          · exact NO.out j h
          · rw [show j = k by omega]; exact he)
        have q : (pc == 4 * (k : Int) % 18446744073709551616) = false := by simp; omega
        clear he NO
        generalize zs.getD k 0 = v at *
        go_wp2
        go_round
        case rel => exact ⟨k + 1, by omega, by go_num, NO2.out⟩
        case measure => simp [intOf]; omega
    · have hkN : k = n := by omega
      have G := Lib.hid (show ¬ (pc % 4 = 0 ∧ pc / 4 < n) from fun hh => NO.out (pc / 4).toNat (by omega) (by omega))
      have G1 := Lib.hid (show 0 = ftV zs n pc by unfold ftV; rw [if_neg G.out])
      have G2 := Lib.hid (show false = ftB n pc by unfold ftB; exact (decide_eq_false G.out).symm)
      clear hk hlt
      subst hkN
      go_wp2
      go_ret2
      exact ⟨ret_word G1.out G2.out, rfl⟩

theorem refLoad_any (op : Int) (s : ByteArray) (hs : s.size ≤ 1000) (w : World) :
    Calls Tryd.prog 29 #[.int .i64 op, .string s] w fun e w' => e = .returned (.int .u32 (ldV op s)) ∧ Below w.heap.size w w' := by
  have HK := Lib.hid (fun w => refKind_any op w)
  have HS := Lib.hid (fun w => refSize02_any op w)
  by_cases hk : kindI op = 3
  · rw [hk] at HK
    by_cases hz : (s.size : Int) = sizeOp op
    · have HZ := Lib.hid (show ((s.size : Int) != sizeOp op) = false by simpa using hz)
      have h4 : s.size ≤ 4 := by have : sizeOp op ≤ 4 := by unfold sizeOp; split; omega; split; omega; split <;> omega
                                 omega
      have hjl := joinN_lt32 (l := s.data.toList) h4
      have HJ := Lib.hid (fun w => refJoin_any s (by omega) w)
      rw [if_pos h4, if_pos h4] at HJ
      by_cases ho : op = 11 ∨ op = 12
      · have HV := Lib.hid (show (sxt (joinN s.data.toList : Nat) (8 * (s.size : Int)) : Nat) = ldV op s by unfold ldV; rw [if_pos ⟨hk, hz⟩, if_pos ho])
        have HB := Lib.hid (show 8 * (s.size : Int) = if op = 11 then 8 else 16 by rw [hz]; unfold sizeOp; rcases ho with rfl | rfl <;> rfl)
        rw [HB.out] at HV
        have HX := Lib.hid (fun b w => refSext_any (joinN s.data.toList : Nat) b (by omega) w)
        have q1 := HZ.out
        clear hk hz
        rcases ho with rfl | rfl
        all_goals
          go_enter Tryd.func29, Tryd.ntmps29
          go_wp2_with (first
            | (go_at_call 5; refine (HK.out _).mono ?_; rintro e w1 ⟨rfl, rfl⟩)
            | (go_at_call 11; refine (HS.out _).mono ?_; rintro e w1 ⟨rfl, rfl⟩)
            | (go_at_call 28; refine (HJ.out _).mono ?_; rintro e w1 ⟨rfl, rfl⟩)
            | (go_at_call 47; refine (HX.out _ _).mono ?_; rintro e w1 ⟨rfl, b⟩))
          go_ret
          exact ⟨ret_int HV.out, b⟩
      · have HV := Lib.hid (show ((joinN s.data.toList : Nat) : Int) = ldV op s by unfold ldV; rw [if_pos ⟨hk, hz⟩, if_neg ho])
        have o1 : (op == 11) = false := by simp; omega
        have o2 : (op == 12) = false := by simp; omega
        have q1 := HZ.out
        clear hk hz ho
        go_enter Tryd.func29, Tryd.ntmps29
        go_wp2_with (first
          | (go_at_call 5; refine (HK.out _).mono ?_; rintro e w1 ⟨rfl, rfl⟩)
          | (go_at_call 11; refine (HS.out _).mono ?_; rintro e w1 ⟨rfl, rfl⟩)
          | (go_at_call 28; refine (HJ.out _).mono ?_; rintro e w1 ⟨rfl, rfl⟩))
        go_ret
        exact ⟨ret_int HV.out, Below.refl _ _⟩
    · have q1 : ((s.size : Int) != sizeOp op) = true := by simpa using hz
      have HV := Lib.hid (show 0 = ldV op s by unfold ldV; rw [if_neg (fun h => hz h.2)])
      clear hk hz
      go_enter Tryd.func29, Tryd.ntmps29
      go_wp2_with (first
        | (go_at_call 5; refine (HK.out _).mono ?_; rintro e w1 ⟨rfl, rfl⟩)
        | (go_at_call 11; refine (HS.out _).mono ?_; rintro e w1 ⟨rfl, rfl⟩))
      go_ret
      exact ⟨ret_int HV.out, Below.refl _ _⟩
  · have q0 : (kindI op != 3) = true := by simpa using hk
    have HV := Lib.hid (show 0 = ldV op s by unfold ldV; rw [if_neg (fun h => hk h.1)])
    obtain ⟨K, hK⟩ : ∃ K, kindI op = K := ⟨_, rfl⟩
    rw [hK] at HK q0
    clear hk hK
    go_enter Tryd.func29, Tryd.ntmps29
    go_wp2_with (first
      | (go_at_call 5; refine (HK.out _).mono ?_; rintro e w1 ⟨rfl, rfl⟩)
      | (go_at_call 11; refine (HS.out _).mono ?_; rintro e w1 ⟨rfl, rfl⟩))
    go_ret
    exact ⟨ret_int HV.out, Below.refl _ _⟩
end Go.Proofs.YtaokhegbfaokdaaDoor

/- THE CONTRACT of auspexref05.Clean. -/
namespace Go.Proofs.YtaokhegbfaokdaaDoor
open Go.ChangeShapes Go.WideShapes Go.ChangeAt Go.RowKit Go.Lib
set_option linter.unusedVariables false
set_option linter.unusedSimpArgs false
set_option maxHeartbeats 1000000
set_option maxRecDepth 100000

theorem zeros_nums (q : Nat) : strOfNums (List.replicate q (0 : Int)) = ⟨(List.replicate q (0 : UInt8)).toArray⟩ := by
  have h := strOfNums_nat (List.replicate q (0 : UInt8))
  rw [List.map_replicate] at h
  exact h
theorem ret_str {a b : ByteArray} (h : a = b) : Ending.returned (.string a) = .returned (.string b) := by rw [h]
theorem refClean_any (m : ByteArray) (hm : m.size ≤ 1000) (w : World) : Calls Tryd.prog 7 #[.string m] w fun e w' => e = .returned (.string (clS m)) ∧ Below w.heap.size w w' := by
  obtain ⟨i0, hi, hz0, hz1, hz2⟩ := info_parts info_byte
  by_cases h : m.size ≤ 256
  · have h2 : (m.size : Int) ≤ 256 := by omega
    go_enter Tryd.func7, Tryd.ntmps7
    go_wp2
    go_loop [3] (fun i => ∃ s : Nat, (s = 16 ∨ s = 32 ∨ s = 64 ∨ s = 128 ∨ s = 256) ∧ (s = 16 ∨ s < 2 * m.size) ∧ i = .int .i64 s) (fun i => 600 - (intOf i).toNat)
    case atStart => exact ⟨16, Or.inl rfl, Or.inl rfl, rfl⟩
    case round =>
      obtain ⟨s, hs, hs2, rfl⟩ := hrel
      have HS := Lib.hid (And.intro hs hs2)
      by_cases hlt : s < m.size
      · clear hs hs2
        go_wp2
        go_round
        case rel => exact ⟨2 * s, by have := HS.out; omega, by have := HS.out; omega, by first | rfl | (congr 1; omega)⟩
        case measure => have := HS.out; simp [intOf]; omega
      · have hs3 : s ≤ 256 := by omega
        have hex := clN_exit m.size s (by omega) hs hs2 (by omega)
        have HX := Lib.hid hex
        obtain ⟨q, hq⟩ : ∃ q, s - m.size = q := ⟨_, rfl⟩
        have hcl : ByteArray.append m (strOfNums (List.replicate q (0 : Int))) = clS m := by
          rw [zeros_nums, ← hq]
          refine ba_ext fun j => ?_
          show (ByteArray.append m _).data.toList[j]? = (clL m)[j]?
          unfold clL
          have h1 := ba_len m
          rw [Nat.min_eq_left h, HX.out, List.take_of_length_le (by omega)]
          simp
        have HC := Lib.hid hcl
        have hsub : (s : Int) - (m.size : Int) = (q : Int) := by omega
        have hq3 : q ≤ 256 := by omega
        clear hs hs2 hex hcl hq
        go_wp2_with (at_make; refine wpList_make_full _ rfl _ _ 53 rfl w.heap.size 5 i0 (.int .u8 0) 1 Tryd.underlying53 hi hz0 hz1 .i64 .i64 _ _ q rfl rfl rfl rfl (by rw [hz2]; omega) (by unfold maxLen; omega) (Nat.le_refl _) ?_; intro w0 hown0 hgrow0)
        have hbel0 : Below w.heap.size w w0 := (Below.refl _ _).grown hgrow0 (Nat.le_refl _) (fun k hk => by cases hk)
        rw [show (madeCells (Value.int .u8 0).cells (q * 1)).toList = (List.replicate q (0 : Int)).map (Value.int .u8) by rw [Nat.mul_one]; simp [Value.cells, toList_madeCells_one]] at hown0
        have hconv := conv_bytes (by rw [List.length_replicate]) hown0
        clear hown0 hgrow0
        go_wp2
        rw [hconv]
        clear hconv
        have hzs : (strOfNums (List.replicate q (0 : Int))).size ≤ 256 := by rw [strOfNums_size, List.length_replicate]; exact hq3
        generalize strOfNums (List.replicate q (0 : Int)) = Z at *
        go_wp2
        go_ret
        exact ⟨ret_str (by rw [← HC.out]; rfl), hbel0⟩
  · have h2 : 256 < (m.size : Int) := by omega
    have hex : (m.extract 0 256).size = 256 := by rw [ex_size _ _ _ (by omega) (by omega)]
    have HE := Lib.hid hex
    have H' := Lib.hid h
    have hd : (m.extract 0 256).data.toList = m.data.toList.take 256 := by rw [ex_data]; rfl
    have HD := Lib.hid hd
    clear hex hd h
    go_enter Tryd.func7, Tryd.ntmps7
    go_wp2
    have HG := Lib.hid (show 256 < m.size by omega)
    generalize m.extract 0 256 = P at *
    have hP := HE.out
    go_wp2
    go_loop [3] (fun i => ∃ s : Nat, (s = 16 ∨ s = 32 ∨ s = 64 ∨ s = 128 ∨ s = 256) ∧ (s = 16 ∨ s < 2 * 256) ∧ i = .int .i64 s) (fun i => 600 - (intOf i).toNat)
    case atStart => exact ⟨16, Or.inl rfl, Or.inl rfl, rfl⟩
    case round =>
      obtain ⟨s, hs, hs2, rfl⟩ := hrel
      have HS := Lib.hid (And.intro hs hs2)
      by_cases hlt : s < 256
      · clear hs hs2
        go_wp2
        go_round
        case rel => exact ⟨2 * s, by have := HS.out; omega, by have := HS.out; omega, by first | rfl | (congr 1; omega)⟩
        case measure => have := HS.out; simp [intOf]; omega
      · have hs3 : s ≤ 256 := by omega
        have hex := clN_exit 256 s (by omega) hs hs2 (by omega)
        have HX := Lib.hid hex
        obtain ⟨q, hq⟩ : ∃ q, s - 256 = q := ⟨_, rfl⟩
        have hcl : ByteArray.append P (strOfNums (List.replicate q (0 : Int))) = clS m := by
          rw [zeros_nums, ← hq]
          refine ba_ext fun j => ?_
          show (ByteArray.append P _).data.toList[j]? = (clL m)[j]?
          unfold clL
          have h1 := ba_len m
          rw [Nat.min_eq_right (by have := HG.out; omega), HX.out, ← HD.out]
          simp
        have HC := Lib.hid hcl
        have hsub : (s : Int) - 256 = (q : Int) := by omega
        have hq3 : q ≤ 256 := by omega
        clear hs hs2 hex hcl hq
        go_wp2_with (at_make; refine wpList_make_full _ rfl _ _ 53 rfl w.heap.size 5 i0 (.int .u8 0) 1 Tryd.underlying53 hi hz0 hz1 .i64 .i64 _ _ q rfl rfl rfl rfl (by rw [hz2]; omega) (by unfold maxLen; omega) (Nat.le_refl _) ?_; intro w0 hown0 hgrow0)
        have hbel0 : Below w.heap.size w w0 := (Below.refl _ _).grown hgrow0 (Nat.le_refl _) (fun k hk => by cases hk)
        rw [show (madeCells (Value.int .u8 0).cells (q * 1)).toList = (List.replicate q (0 : Int)).map (Value.int .u8) by rw [Nat.mul_one]; simp [Value.cells, toList_madeCells_one]] at hown0
        have hconv := conv_bytes (by rw [List.length_replicate]) hown0
        clear hown0 hgrow0
        go_wp2
        rw [hconv]
        clear hconv
        have hzs : (strOfNums (List.replicate q (0 : Int))).size ≤ 256 := by rw [strOfNums_size, List.length_replicate]; exact hq3
        generalize strOfNums (List.replicate q (0 : Int)) = Z at *
        go_wp2
        go_ret
        exact ⟨ret_str (by rw [← HC.out]; rfl), hbel0⟩
end Go.Proofs.YtaokhegbfaokdaaDoor

/- THE CONTRACT of auspexref06.halted. -/
namespace Go.Proofs.YtaokhegbfaokdaaDoor
open Go.ChangeShapes Go.WideShapes Go.ChangeAt Go.RowKit Go.Sort
set_option linter.unusedVariables false
set_option linter.unusedSimpArgs false
set_option maxHeartbeats 2000000
set_option maxRecDepth 100000

theorem refHalted_any (s : Sq) (hs : s.regs.length = 32) (why addr : Int) (w : World) :
    Calls Tryd.prog 22 #[sqV s, .int .i64 why, .int .u32 addr] w fun r w' => r = .returned (.tuple #[sqV (haltS s why addr).1, stV (haltS s why addr).2]) ∧ Below w.heap.size w w' := by
  obtain ⟨cs, hcs⟩ : ∃ cs, sqC s = cs := ⟨_, rfl⟩
  have hl := sqC_len hs
  have h34 := sqC_halt hs
  have h0 := sqC_pc s
  have ho1 := sqC_one s
  obtain ⟨cs2, hcs2⟩ : ∃ cs2, sqC { s with halt := why } = cs2 := ⟨_, rfl⟩
  have hset := sqC_setHalt hs why
  have hl2 := sqC_len (s := { s with halt := why }) hs
  have ho2 := sqC_one { s with halt := why }
  obtain ⟨ds, hds⟩ : ∃ ds, ds = [Value.int .u32 s.pc, .int .u32 s.pc, .int .i64 0, .int .u32 0, .int .u32 addr, .int .i64 0, .bool false, .int .i64 why, .int .i64 0] := ⟨_, rfl⟩
  have hv : Value.tuple #[sqV (haltS s why addr).1, stV (haltS s why addr).2] = .tuple #[.agg cs2.toArray, .agg ds.toArray] := by rw [← hcs2, hds]; rfl
  rw [hv, show sqV s = .agg cs.toArray by rw [← hcs]; rfl]
  generalize s.pc = pc at *
  rw [hcs, hcs2] at hset
  rw [hcs] at hl h34 h0 ho1
  rw [hcs2] at hl2 ho2
  clear hv hcs hcs2
  have H1 := Lib.hid (show (Tryd.prog.info? 34).map (·.size) = some cs.length by rw [hl]; exact sq_info)
  have HO1 := Lib.hid ho1
  have HL := Lib.hid hl
  have HI := Lib.hid (show (Tryd.prog.info? 34).map (·.size) = some cs2.length by rw [hl2]; exact sq_info)
  have HZ := Lib.hid (show z35.length = cs2.length by rw [hl2]; rfl)
  have HO := Lib.hid ho2
  have HD := Lib.hid hds
  have H0 := Lib.hid h0
  have H34 := Lib.hid h34
  have HS := Lib.hid hset
  clear ho2 hl2 hds hset ho1 hl h0 h34
  go_enter Tryd.func22, Tryd.ntmps22
  go_upto_region 1 with fail
  refine wp_allocs [(cs, 34), (z35, 34), (z9, 36)] rfl ?_
  intro W0 y1 KB y3
  have X1 := Lib.hid (show Blk W0 w.heap.size cs from y3 0 _ rfl)
  have X2 := Lib.hid (show Blk W0 (w.heap.size + 1) z35 from y3 1 _ rfl)
  have X3 := Lib.hid (show Blk W0 (w.heap.size + 1 + 1) z9 from y3 2 _ rfl)
  replace KB := Lib.hid KB
  have HS0 := Lib.hid (show W0.heap.size = w.heap.size + 3 from y1)
  clear y1 y3
  go_upto_region 2 with (first
    | (refine wpList_load_mid rfl 34 (.tmp 3) rfl _ 0 rfl cs _ X1.out.range Tryd.underlying34 rfl H1.out ?_)
    | (refine wpList_store_new rfl 34 (.tmp 8) (.tmp 9) rfl W0.heap.size rfl _ cs _ rfl rfl (by rw [HL.out]; rfl) H1.out HO1.out ?_
       intro W2 hb2 hB2 hs2
       have z1 := X1.out.below hb2 X1.out.1
       have z2 := X2.out.below hb2 X2.out.1
       have z3 := X3.out.below hb2 X3.out.1
       have z4 := KB.out.trans (hb2.mono KB.out.size)
       clear X1 X2 X3 KB
       have X1 := Lib.hid z1
       have X2 := Lib.hid z2
       have X3 := Lib.hid z3
       have KB := Lib.hid z4
       have X4 := Lib.hid hB2
       clear hb2 hB2 z1 z2 z3 z4 hs2))
  generalize W0.heap.size = b8 at *
  have s34 := X4.out.2.1 34 _ H34.out
  have e34 := X4.out.2.2 34 (by have := HL.out; omega)
  go_upto_region 3 with fail
  clear s34 e34
  have hb8 : b8 = w.heap.size + 3 := HS0.out
  have z1 := (X1.out).other (p := ⟨b8, 34, none⟩) (v := .int .i64 why) (by simp; omega)
  have z2 := (X2.out).other (p := ⟨b8, 34, none⟩) (v := .int .i64 why) (by simp; omega)
  have z3 := (X3.out).other (p := ⟨b8, 34, none⟩) (v := .int .i64 why) (by simp; omega)
  have z4 := (X4.out).set (i := 34) (v := .int .i64 why) (by have := HL.out; omega)
  rw [HS.out] at z4
  have z5 := (KB.out).setCell (p := ⟨b8, 34, none⟩) (by show w.heap.size ≤ b8; omega) (.int .i64 why)
  generalize (World.setCell W2 ⟨b8, 34, none⟩ (.int .i64 why)) = W3 at *
  clear X1 X2 X3 X4 KB
  have X2 := Lib.hid z2
  have X3 := Lib.hid z3
  have KB := Lib.hid z5
  have q0 := stW_cell (z1.2.1 0 _ H0.out) (w.heap.size + 1) cs2 (w.heap.size + 1 + 1) ds (by simp) (by simp <;> omega)
  have XK := Lib.hid (z4.stage (w.heap.size + 1) cs2 (w.heap.size + 1 + 1) ds (by omega) (by omega))
  clear z1 z2 z3 z4 z5 hb8
  refine wp_region_two [] [0, 1, 2, 3, 4, 5, 6, 7] 8 9 _ _ (w.heap.size + 1) (w.heap.size + 1 + 1) z35 z9 cs2 ds 34 36 (.tmp 6) (.tmp 12) (.tmp 7) (.tmp 19) (by kernel_rfl) (by kernel_rfl) rfl rfl rfl ⟨rfl, rfl, rfl⟩ ⟨rfl, rfl, rfl⟩ (by omega) X2.out X3.out HZ.out (by rw [HD.out]; rfl) HI.out (by rw [HD.out]; exact st_info) HO.out (by rw [HD.out]; exact stC_one ⟨_, _, _, _, _, _, _, _, _⟩) ?_
  simp only [opsAt, List.getElem?_toArray, List.getElem?_cons_zero, List.getElem?_cons_succ, Option.toList_some, List.cons_append, List.nil_append]
  refine wpQuiet_next ?_
  repeat (first
    | (go_big_quiet_want; refine quiet_load_stage 34 (.tmp 8) rfl _ rfl cs2 _ XK.out Tryd.underlying34 rfl HI.out ?_; simp only [Act.put, List.setIfInBounds_toArray, List.set_cons_succ, List.set_cons_zero]; go_big_quiet_on)
    | (go_big_quiet_step (fail)))
  refine wpQuiet_nil ?_
  refine ⟨⟨rfl, rfl, rfl, by rw [HD.out]; rfl⟩, fun w9 n1 n2 n3 n4 => ?_⟩
  go_wp2
  exact bodyPost_ret (v := .tuple #[.agg cs2.toArray, .agg ds.toArray]) (results_cell_two Tryd.results22 _ w9 (w.heap.size + 1) (w.heap.size + 1 + 1) cs2 ds _ _ rfl rfl n1 n2 Tryd.underlying34 rfl HI.out Tryd.underlying36 rfl (by rw [HD.out]; exact st_info)) rfl ⟨rfl, KB.out.trans (n4 _ (by omega) (by omega))⟩
end Go.Proofs.YtaokhegbfaokdaaDoor
