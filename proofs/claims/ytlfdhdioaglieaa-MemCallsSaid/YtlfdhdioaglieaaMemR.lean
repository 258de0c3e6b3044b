/- THE CONTRACTS of Read and Write of auspexref05. -/
import Derived.Test.YtlfdhdioaglieaaMemM
namespace Go.Proofs.Ytlfdhdioaglieaa
open Go.ChangeShapes Go.WideShapes Go.ChangeAt Go.RowKit Go.Lib
set_option linter.unusedVariables false

theorem own_below {w w2 : World} {B e size n : Nat} {v : Value} {xs : List Value} (h : w.ownsRow B e size v n xs) (hb : Below w.heap.size w w2) : w2.ownsRow B e size v n xs := by
  refine ⟨h.1, ?_⟩
  rcases h.2 with hx | ⟨g, cap, cur, h1, h2, h3, h4⟩
  · exact .inl hx
  · refine .inr ⟨g, cap, cur, h1, h2, ?_, h4⟩
    have hlt : g < w.heap.size := by
      rcases Nat.lt_or_ge g w.heap.size with h' | h'
      · exact h'
      · rw [Array.getElem?_eq_none h'] at h3; cases h3
    rw [hb.block g hlt]; exact h3
theorem cell_new1 (w : World) (x : Value) (t : TypeId) : ∀ j u, [x][j]? = some u → (w.alloc (.cells #[x] t)).cell? ((⟨w.heap.size, 0, none⟩ : Addr).add j) = some u := by
  intro j u hj
  match j, hj with
  | 0, hj =>
    simp at hj
    subst hj
    show (w.alloc (.cells #[x] t)).cell? ⟨w.heap.size, 0, none⟩ = some x
    rw [World.cell?_alloc_at _ _ _ _ rfl]
    rfl
theorem one_int (k : IntKind) (x : Int) : ∀ u ∈ [Value.int k x], u.oneCell' = true := by
  intro u hu
  simp at hu
  subst hu
  rfl

theorem below_app {B : Nat} {w wr w1 : World} {e size n : Nat} {v : Value} {xs : List Value} {o : Obj} (hbel : Below B w wr) (hB : B ≤ w.heap.size) (hown : wr.ownsRow B e size v n xs) (hgrow : (wr.alloc o).grownBy w1 v.ownBlock) : Below B w w1 :=
  (hbel.alloc (by have := hbel.size; omega) o).grown hgrow (by have := hbel.size; simp; omega) (fun j hj => (hown.lt j hj).1)

set_option maxHeartbeats 1000000
theorem refRead_any (m : ByteArray) (addr many : Int) (s1 : m.size ≤ 1000) (h0 : 0 ≤ addr) (hm : 0 ≤ many) (h1 : addr + many ≤ m.size) (w : World) :
    Calls Try.prog 14 #[.string m, .int .u32 addr, .int .i64 many] w fun e w' => e = .returned (.string (m.extract addr.toNat (addr + many).toNat)) ∧ w = w' := by
  have hsl := run_slice_string (P := Try.prog) w 9 m .i64 .i64 addr (addr + many) Try.underlying9 h0 (by omega) h1
  go_enter Try.func14, Try.ntmps14
  go_wp2
  go_ret
  exact ⟨rfl, rfl⟩

theorem refWrite_any (m : ByteArray) (addr : Int) (b : ByteArray) (s1 : m.size ≤ 1000) (h0 : 0 ≤ addr) (h1 : addr + b.size ≤ m.size) (w : World) :
    Calls Try.prog 15 #[.string m, .int .u32 addr, .string b] w fun e w' => e = .returned (.string (wrS m b addr.toNat)) ∧ Below w.heap.size w w' := by
  obtain ⟨i0, hi, hz0, hz1, hz2⟩ := info_parts info_u8
  have Hg := Lib.hid (fun k => wr_get m b addr.toNat (by omega) k)
  have Hs := Lib.hid (show (wrL m b addr.toNat).length = m.size from wr_size m b addr.toNat (by omega))
  go_enter Try.func15, Try.ntmps15
  go_wp2
  go_loopw [7, 8] (fun v i wr => ∃ k : Nat, k ≤ m.size ∧ i = .int .i64 k ∧ wr.ownsRow w.heap.size 5 1 v k (((wrL m b addr.toNat).take k).map fun x : UInt8 => Value.int .u8 x.toNat) ∧ Below w.heap.size w wr) (fun _ i _ => m.size - (intOf i).toNat)
  case atStart => exact ⟨0, Nat.zero_le _, rfl, World.ownsRow_made _ _ _ (Nat.le_refl _) (by simp [maxLen]) rfl, (Below.refl _ _).alloc (Nat.le_refl _) _⟩
  case round =>
    obtain ⟨k, hk, rfl, hown, hbel⟩ := hrel
    by_cases hkn : k < m.size
    · by_cases c : addr ≤ k ∧ (k : Int) - addr < b.size
      · obtain ⟨c1, c2⟩ := c
        have d1 : decide ((k : Int) - addr ≥ 0) = true := by simp; omega
        have d2 : decide ((k : Int) - addr < b.size) = true := by simp; omega
        have hq : ((k : Int) - addr).toNat < b.size := by omega
        have hx : (wrL m b addr.toNat).take (k + 1) = (wrL m b addr.toNat).take k ++ [b[((k : Int) - addr).toNat]] := by
          have h := Hg.out k
          have hl := Hs.out
          rw [if_pos (by omega), show k - addr.toNat = ((k : Int) - addr).toNat by omega] at h
          rw [List.take_succ_eq_append_getElem (by omega)]
          have e1 : (wrL m b addr.toNat)[k]? = b.data.toList[((k : Int) - addr).toNat]? := h
          rw [List.getElem?_eq_getElem (by omega), List.getElem?_eq_getElem (by rw [ba_len]; exact hq)] at e1
          rw [Option.some.inj e1]
          rfl
        have HX := Lib.hid hx
        clear hx
        go_wp2_with (at_builtin; refine wpList_append_own _ rfl (.tmp 29) (.tmp 33) 42 rfl w.heap.size 5 i0 (.int .u8 0) 1 1 Try.underlying42 hi hz0 hz1 hz2 rfl (by decide) _ _ _ rfl (hown.alloc _) ⟨wr.heap.size, 0, none⟩ 1 1 [_] rfl rfl (cell_new1 _ _ _) (one_int _ _) (by unfold maxLen; omega) (by omega) (by have := hbel.size; simp; omega) ?_; intro v' w1 hown' hgrow _)
        have hbel1 := below_app hbel (Nat.le_refl _) hown hgrow
        clear hgrow hown
        go_wp2
        go_roundw
        case rel => exact ⟨k + 1, by omega, by go_num, by rw [HX.out, List.map_append]; exact hown', hbel1⟩
        case measure => simp [intOf]; omega
      · have hq : k < m.size := hkn
        have hx : (wrL m b addr.toNat).take (k + 1) = (wrL m b addr.toNat).take k ++ [m[k]] := by
          have h := Hg.out k
          have hl := Hs.out
          rw [if_neg (by omega)] at h
          rw [List.take_succ_eq_append_getElem (by omega)]
          have e1 : (wrL m b addr.toNat)[k]? = m.data.toList[k]? := h
          rw [List.getElem?_eq_getElem (by omega), List.getElem?_eq_getElem (by rw [ba_len]; exact hq)] at e1
          rw [Option.some.inj e1]
          rfl
        by_cases c1 : addr ≤ k
        · have d1 : decide ((k : Int) - addr ≥ 0) = true := by simp; omega
          have d2 : decide ((k : Int) - addr < b.size) = false := by simp; omega
          clear c
          have HX := Lib.hid hx
          clear hx
          go_wp2_with (at_builtin; refine wpList_append_own _ rfl (.tmp 35) (.tmp 39) 42 rfl w.heap.size 5 i0 (.int .u8 0) 1 1 Try.underlying42 hi hz0 hz1 hz2 rfl (by decide) _ _ _ rfl (hown.alloc _) ⟨wr.heap.size, 0, none⟩ 1 1 [_] rfl rfl (cell_new1 _ _ _) (one_int _ _) (by unfold maxLen; omega) (by omega) (by have := hbel.size; simp; omega) ?_; intro v' w1 hown' hgrow _)
          have hbel1 := below_app hbel (Nat.le_refl _) hown hgrow
          clear hgrow hown
          go_wp2
          go_roundw
          case rel => exact ⟨k + 1, by omega, by go_num, by rw [HX.out, List.map_append]; exact hown', hbel1⟩
          case measure => simp [intOf]; omega
        · have d1 : decide ((k : Int) - addr ≥ 0) = false := by simp; omega
          clear c
          have HX := Lib.hid hx
          clear hx
          go_wp2_with (at_builtin; refine wpList_append_own _ rfl (.tmp 35) (.tmp 39) 42 rfl w.heap.size 5 i0 (.int .u8 0) 1 1 Try.underlying42 hi hz0 hz1 hz2 rfl (by decide) _ _ _ rfl (hown.alloc _) ⟨wr.heap.size, 0, none⟩ 1 1 [_] rfl rfl (cell_new1 _ _ _) (one_int _ _) (by unfold maxLen; omega) (by omega) (by have := hbel.size; simp; omega) ?_; intro v' w1 hown' hgrow _)
          have hbel1 := below_app hbel (Nat.le_refl _) hown hgrow
          clear hgrow hown
          go_wp2
          go_roundw
          case rel => exact ⟨k + 1, by omega, by go_num, by rw [HX.out, List.map_append]; exact hown', hbel1⟩
          case measure => simp [intOf]; omega
    · have hkN : k = m.size := by omega
      have Hk := Lib.hid hkN
      clear hkN
      have hl := Hs.out
      rw [List.take_of_length_le (by omega), map_u8] at hown
      have hconv := conv_own (by simp; omega) hown
      rw [strOfNums_nat] at hconv
      clear hl hown
      go_wp2
      go_ret
      exact ⟨rfl, hbel⟩

end Go.Proofs.Ytlfdhdioaglieaa
