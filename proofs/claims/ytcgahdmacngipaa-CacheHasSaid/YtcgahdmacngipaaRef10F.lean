/- THE CONTRACT of auspexref10.Find. -/
import Derived.Test.YtcgahdmacngipaaRef10
namespace Go.Proofs.Ytcgahdmacngipaa
open Go.ChangeShapes Go.WideShapes Go.ChangeAt Go.RowKit Go.Sort
set_option linter.unusedVariables false
set_option linter.unusedSimpArgs false
set_option maxHeartbeats 4000000
set_option maxRecDepth 100000

theorem refFind_any (ways : Int) (A : Option Addr) (n cap : Nat) (hs : List Hd) (ss : List (List Wy)) (line : Int) (hn : n ≤ cap) (hc : cap ≤ maxLen) (hss : setsOK ss) (h0 : 0 ≤ line) (h1 : line < 4294967296) (w : World) (hS : SetsAt w A n hs ss) :
    Calls Try.prog 11 #[caV ways A n cap, .int .u32 line] w fun e w' => e = .returned (findV (findS ways ss line)) ∧ Below w.heap.size w w' := by
  have HR := Lib.hid (fun w h => refRight_anyC ways A n cap hs ss hn hc hss w h)
  have HLO := Lib.hid (fun w => cRefLineOf_any line h0 h1 w)
  have hl := hS.len
  have HS := Lib.hid hS
  unfold maxLen at hc
  have f1 := Blk.new w 24 [.int .i64 ways, .slice A n cap]
  have f3 : Below w.heap.size w (w.alloc (.cells #[.int .i64 ways, .slice A n cap] 24)) := (Below.refl _ _).alloc (Nat.le_refl _) _
  cases hr : rightC ways ss
  · rw [hr] at HR
    have HF := Lib.hid (findS_no line hr)
    clear hr hS
    unfold caV at HR ⊢
    go_enter Try.func11, Try.ntmps11
    go_upto_region 1 with fail
    generalize w.alloc (.cells #[.int .i64 ways, .slice A n cap] 24) = W0 at *
    have X1 := Lib.hid f1
    have KB := Lib.hid f3
    clear f1 f3
    go_wp2_with (first
      | (refine wpList_load_mid rfl 24 (.tmp 2) rfl w.heap.size 0 rfl [.int .i64 ways, .slice A n cap] _ X1.out.range Try.underlying24 rfl ca_info ?_)
      | (go_at_call 14; refine (HR.out _ (HS.out.below KB.out)).mono ?_; rintro e w1 ⟨rfl, b⟩; have K1 := Lib.hid (KB.out.trans (b.mono KB.out.size)); clear b))
    go_ret3
    exact ⟨ret_val (by rw [HF.out]; rfl), K1.out⟩
  · rw [hr] at HR
    obtain ⟨k, s, hk, hsk, hf⟩ := findS_yes line hr
    have hn4 := (right_at hr).1
    obtain ⟨L, hL⟩ : ∃ L, line - line % 16 = L := ⟨_, rfl⟩
    rw [hL] at HLO hk hf
    have hL0 : 0 ≤ L ∧ L < 4294967296 := by omega
    have HSO := Lib.hid (fun w => refSetOf_any ways A n cap L hL0.1 hL0.2 (by omega) (by omega) w)
    rw [← hl, hk] at HSO
    rw [hl] at HSO
    obtain ⟨a, q, rfl, hal, hq, hcj, hqn, hqa⟩ := hS.at_ hsk
    obtain ⟨qa, qn, qc⟩ := q
    simp only at hcj hqn hqa
    have hqw := hqa.2.2.2
    have hqw1 := hqa.1
    have hqw2 := hqa.2.1
    simp only at hqw hqw1 hqw2
    subst hqn
    unfold maxLen at hqw2
    have hkl : (k : Int) < n := by have := (List.getElem?_eq_some_iff.1 hsk).1; omega
    have ZW := Lib.hid hqw
    have CJ := Lib.hid hcj
    have HF := Lib.hid hf
    unfold caV at HR HSO ⊢
    clear hr hk hsk hq hcj hqa hf hn4 hL hS hqw
    go_enter Try.func11, Try.ntmps11
    go_upto_region 1 with fail
    generalize w.alloc (.cells #[.int .i64 ways, .slice (some a) n cap] 24) = W0 at *
    have X1 := Lib.hid f1
    have KB := Lib.hid f3
    clear f1 f3
    go_upto_region 5 with (first
      | (refine wpList_load_mid rfl 24 (.tmp 2) rfl w.heap.size 0 rfl [.int .i64 ways, .slice (some a) n cap] _ X1.out.range Try.underlying24 rfl ca_info ?_)
      | (go_at_call 14
         refine (HR.out _ (HS.out.below KB.out)).mono ?_
         rintro e w1 ⟨rfl, b⟩
         have z1 := KB.out.trans (b.mono KB.out.size)
         have z2 := X1.out.below b X1.out.1
         clear KB X1 b
         have KB := Lib.hid z1
         have X1 := Lib.hid z2
         clear z1 z2)
      | (go_at_call 36; refine (HLO.out _).mono ?_; rintro e w2 ⟨rfl, h⟩; subst h)
      | (go_at_call 37
         refine (HSO.out _).mono ?_
         rintro e w3 ⟨rfl, b⟩
         have z1 := KB.out.trans (b.mono KB.out.size)
         have z2 := X1.out.below b X1.out.1
         clear KB X1 b
         have KB := Lib.hid z1
         have X1 := Lib.hid z2
         clear z1 z2))
    have c1 := X1.out.2.1 1 _ rfl
    have hcj := (KB.out.cell (p := a.add k) (by rw [block_add]; exact hal)).trans CJ.out
    go_wp2_with fail
    clear c1 hcj
    go_loopw [25] (fun v wr => ∃ j : Nat, j ≤ s.length ∧ v = .int .i64 j ∧ (∀ y ∈ s.take j, isL L y = false) ∧ Below w.heap.size w wr) (fun v _ => s.length - (intOf v).toNat)
    case atStart => exact ⟨0, by omega, rfl, by simp, KB.out⟩
    case round =>
      obtain ⟨j, hj, rfl, hno, hb⟩ := hrel
      clear X1 KB
      have KB := Lib.hid hb
      have HNO := Lib.hid hno
      clear hb hno
      by_cases hlt : j < s.length
      · obtain ⟨x, hx⟩ : ∃ x, s[j]? = some x := ⟨_, List.getElem?_eq_getElem hlt⟩
        obtain ⟨bq, rfl, hbl, g0, g1, g2⟩ := (ZW.out.below KB.out).at_ hx
        have HX := Lib.hid hx
        clear hx
        have hx2 := Blk.new wr 37 (wyC x)
        have hb0 : Below wr.heap.size wr (wr.alloc (.cells (wyC x).toArray 37)) := (Below.refl _ _).alloc (Nat.le_refl _) _
        have hb1 := KB.out.trans (hb0.mono KB.out.size)
        have d0 := hx2.2.1 0 _ rfl
        unfold wyC at hb1 d0
        cases e9 : (x.line == L)
        · have HYL := Lib.hid (show isL L x = false from e9)
          go_wp2
          go_roundw
          case rel => exact ⟨j + 1, by omega, by go_num, (fun z hz => by
            rw [List.take_add_one, HX.out, List.mem_append] at hz
            rcases hz with hz | hz
            · exact HNO.out z hz
            · simp at hz
              subst hz
              exact HYL.out), hb1⟩
          case measure => simp [intOf]; omega
        · have HF2 := Lib.hid (show findS ways ss line = ((k : Int), (j : Int), true) by rw [HF.out, show placeI s L = (j : Int) from idxP_hit (isL L) x s j HNO.out HX.out e9, if_neg (by omega)])
          go_wp2
          go_ret3
          exact ⟨ret_val (by rw [HF2.out]; rfl), hb1⟩
      · obtain rfl : j = s.length := by omega
        have HF2 := Lib.hid (HF.out.trans (if_pos (by
          have := idxP_none (isL L) s (fun y hy => HNO.out y (by rw [List.take_of_length_le (Nat.le_refl _)]; exact hy))
          unfold placeI
          rw [this]
          decide)))
        go_wp2
        go_ret3
        exact ⟨ret_val (by rw [HF2.out]; rfl), KB.out⟩
end Go.Proofs.Ytcgahdmacngipaa
