/- THE CONTRACTS of package cache: setOf, place, rightSet, Right, Find. -/
import Derived.Test.YtcgahdmacngipaaWaysC
import Derived.Deep.QuietTactic
import Derived.BigQuiet
import Derived.Deep.Cut
import Derived.Deep.CutRange
namespace Go.Proofs.Ytcgahdmacngipaa
open Go.ChangeShapes Go.WideShapes Go.ChangeAt Go.RowKit Go.Sort
set_option linter.unusedVariables false
set_option linter.unusedSimpArgs false
set_option maxHeartbeats 2000000
set_option maxRecDepth 100000

theorem ret_intC {k : IntKind} {a b : Int} (h : a = b) : Ending.returned (.int k a) = .returned (.int k b) := by rw [h]
theorem ret_boolC {a b : Bool} (h : a = b) : Ending.returned (.bool a) = .returned (.bool b) := by rw [h]
theorem cLineOf_any (a : Int) (h0 : 0 ≤ a) (h1 : a < 4294967296) (w : World) : Calls Try.prog 33 #[.int .u32 a] w fun e w' => e = .returned (.int .u32 (a - a % 16)) ∧ w = w' := by
  go_enter Try.func33, Try.ntmps33
  go_wp2
  go_ret
  exact ⟨rfl, rfl⟩
theorem cRefLineOf_any (a : Int) (h0 : 0 ≤ a) (h1 : a < 4294967296) (w : World) : Calls Try.prog 36 #[.int .u32 a] w fun e w' => e = .returned (.int .u32 (a - a % 16)) ∧ w = w' := by
  go_enter Try.func36, Try.ntmps36
  go_wp2
  go_ret
  exact ⟨rfl, rfl⟩
theorem setOf_any (a : Int) (n : Nat) (h0 : 0 ≤ a) (h1 : a < 4294967296) (hn : 0 < n) (hn4 : n ≤ 4) (w : World) : Calls Try.prog 34 #[.int .u32 a, .int .i64 n] w fun e w' => e = .returned (.int .i64 (setI n a)) ∧ w = w' := by
  have hz : ((n : Int) == 0) = false := by simp; omega
  have hw : IntKind.u32.wrap (n : Int) = n := by
    show (n : Int) % 4294967296 = n
    omega
  have hr := setI_range hn a
  go_enter Try.func34, Try.ntmps34
  go_wp2
  go_ret
  unfold setI at hr ⊢
  exact ⟨ret_intC (by unfold wrap64; omega), rfl⟩
theorem refSetOf_any (ways : Int) (A : Option Addr) (n c : Nat) (a : Int) (h0 : 0 ≤ a) (h1 : a < 4294967296) (hn : 0 < n) (hn4 : n ≤ 4) (w : World) : Calls Try.prog 37 #[caV ways A n c, .int .u32 a] w fun e w' => e = .returned (.int .i64 (setI n a)) ∧ Below w.heap.size w w' := by
  have f1 := Blk.new w 24 [.int .i64 ways, .slice A n c]
  have f3 : Below w.heap.size w (w.alloc (.cells #[.int .i64 ways, .slice A n c] 24)) := (Below.refl _ _).alloc (Nat.le_refl _) _
  have hz : ((n : Int) == 0) = false := by simp; omega
  unfold caV
  go_enter Try.func37, Try.ntmps37
  go_wp2
  go_ret
  exact ⟨rfl, f3⟩
theorem place1_any (line : Int) (r : Wy) (b1 : Nat) (w : World) (h1 : w.cell? ⟨b1, 0, none⟩ = some (.int .u32 line)) :
    Calls Try.prog 45 #[wyV r, .pointer (some ⟨b1, 0, none⟩)] w fun e w' => e = .returned (.bool (isL line r)) ∧ Below w.heap.size w w' := by
  have f1 := Blk.new w 37 (wyC r)
  have f3 : Below w.heap.size w (w.alloc (.cells (wyC r).toArray 37)) := (Below.refl _ _).alloc (Nat.le_refl _) _
  have hl := block_lt_of_cell h1
  have h2 := (f3.cell hl).trans h1
  have c0 := f1.2.1 0 _ rfl
  unfold wyC at f3 h2 c0
  unfold wyV isL
  go_enter Try.func45, Try.ntmps45
  go_wp2
  go_ret
  exact ⟨rfl, f3⟩
theorem indexWay_any (line : Int) (b1 : Nat) (B : Option Addr) (k c2 : Nat) (zs : List Wy) (hk : k ≤ maxLen) (w : World)
    (h1 : w.cell? ⟨b1, 0, none⟩ = some (.int .u32 line)) (hZ : WaysAt w B k zs) :
    Calls Try.prog 44 #[.slice B k c2, .func (.func 45) #[] #[.pointer (some ⟨b1, 0, none⟩)]] w fun r w' => r = .returned (.int .i64 (placeI zs line)) ∧ Below w.heap.size w w' := by
  have HM := Lib.hid (fun r w h1 => place1_any line r b1 w h1)
  have HZ := Lib.hid hZ
  have HL := hZ.len
  have HC1 := Lib.hid h1
  unfold maxLen at hk
  clear hZ h1
  unfold placeI
  go_enter Try.func44, Try.ntmps44
  go_wp2
  go_loopw [8] (fun v wr => ∃ j : Nat, j ≤ k ∧ v = .int .i64 j ∧ (∀ y ∈ zs.take j, isL line y = false) ∧ Below w.heap.size w wr) (fun v _ => k - (intOf v).toNat)
  case atStart => exact ⟨0, by omega, rfl, by simp, Below.refl _ _⟩
  case round =>
    obtain ⟨j, hj, rfl, hno, hb⟩ := hrel
    have HB := Lib.hid hb
    have HNO := Lib.hid hno
    clear hb hno
    by_cases hlt : j < k
    · obtain ⟨x, hx⟩ : ∃ x, zs[j]? = some x := ⟨_, List.getElem?_eq_getElem (by omega)⟩
      obtain ⟨a, rfl, hal, hc0, hc1, hc2⟩ := (HZ.out.below HB.out).at_ hx
      have HX := Lib.hid hx
      have HMX := Lib.hid (HM.out x wr ((HB.out.cell (block_lt_of_cell HC1.out)).trans HC1.out))
      unfold wyV at HMX
      clear hx
      cases htx : isL line x
      · rw [htx] at HMX
        have HTX := Lib.hid htx
        clear htx
        go_wp2_with (go_at_call 45; refine HMX.out.mono ?_; rintro r w1 ⟨rfl, b⟩; have B1 := Lib.hid (HB.out.trans (b.mono HB.out.size)); clear b)
        go_roundw
        case rel => exact ⟨j + 1, by omega, by go_num, fun y hy => by
          rw [List.take_add_one, HX.out, List.mem_append] at hy
          rcases hy with hy | hy
          · exact HNO.out y hy
          · simp at hy
            subst hy
            exact HTX.out, B1.out⟩
        case measure => simp [intOf]; omega
      · rw [htx] at HMX
        have HTX := Lib.hid (idxP_hit (isL line) x zs j HNO.out HX.out htx)
        clear htx
        go_wp2_with (go_at_call 45; refine HMX.out.mono ?_; rintro r w1 ⟨rfl, b⟩; have B1 := Lib.hid (HB.out.trans (b.mono HB.out.size)); clear b)
        go_ret
        exact ⟨ret_intC HTX.out.symm, B1.out⟩
    · obtain rfl : j = k := by omega
      go_wp2
      go_ret
      refine ⟨ret_intC (idxP_none _ _ fun y hy => HNO.out y ?_).symm, HB.out⟩
      rw [List.take_of_length_le (by omega)]
      exact hy
theorem place_any (B : Option Addr) (k c2 : Nat) (zs : List Wy) (line : Int) (hk : k ≤ maxLen) (w : World) (hZ : WaysAt w B k zs) :
    Calls Try.prog 35 #[.slice B k c2, .int .u32 line] w fun r w' => r = .returned (.int .i64 (placeI zs line)) ∧ Below w.heap.size w w' := by
  have hb : Below w.heap.size w (w.alloc (.cells #[.int .u32 line] 25)) := (Below.refl _ _).alloc (Nat.le_refl _) _
  have HI := Lib.hid (indexWay_any line w.heap.size B k c2 zs hk (w.alloc (.cells #[.int .u32 line] 25)) (World.cell?_alloc_at _ _ _ _ rfl) (hZ.below hb))
  have HB := Lib.hid hb
  clear hb hZ
  go_enter Try.func35, Try.ntmps35
  go_wp2_with (go_at_call 44; refine HI.out.mono ?_; rintro r w1 ⟨rfl, b⟩; have B1 := Lib.hid (HB.out.trans (b.mono (by simp))); clear b)
  go_ret
  exact ⟨rfl, B1.out⟩
end Go.Proofs.Ytcgahdmacngipaa
