/- THE CONTRACT of auspexref10.Put: of a cache that may not be, of a line that stands there. -/
import Derived.Test.YtcgahdmacngipaaRef10U
namespace Go.Proofs.Ytcgahdmacngipaa
open Go.ChangeShapes Go.WideShapes Go.ChangeAt Go.RowKit Go.Sort
set_option linter.unusedVariables false
set_option linter.unusedSimpArgs false
set_option maxHeartbeats 8000000
set_option maxRecDepth 100000

theorem findS_line (ways : Int) (ss : List (List Wy)) (line : Int) : findS ways ss (line - line % 16) = findS ways ss line := by
  have e : line - line % 16 - (line - line % 16) % 16 = line - line % 16 := by omega
  unfold findS
  rw [e]
theorem data_ne {d : ByteArray} (h : d.size = 16) : d.toList.isEmpty = false := by rw [dataE, h]; rfl
theorem refPut_bad (ways : Int) (A : Option Addr) (n cap : Nat) (hs : List Hd) (ss : List (List Wy)) (line : Int) (data : ByteArray) (dirty : Bool) (hn : n ≤ cap) (hc : cap ≤ maxLen) (hss : setsOK ss) (w : World) (hS : SetsAt w A n hs ss)
    (hr : rightC ways ss = false) :
    Calls Try.prog 22 #[caV ways A n cap, .int .u32 line, .string data, .bool dirty] w fun e w' => e = .returned (putV ways A n cap (ss, zeroW, false)) ∧ Below w.heap.size w w' := by
  have HR := Lib.hid (fun w h => refRight_anyC ways A n cap hs ss hn hc hss w h)
  have HS := Lib.hid hS
  rw [hr] at HR
  clear hS hr
  have HZI := Lib.hid (show (Try.prog.info? 24).map (·.size) = some (#[.int .i64 ways, .slice A n cap] : Array Value).size by kernel_rfl)
  have HZO := Lib.hid (show (#[.int .i64 ways, .slice A n cap] : Array Value).all (·.oneCell') = true by simp [Value.oneCell'])
  have HWI := Lib.hid (show (Try.prog.info? 37).map (·.size) = some zW.toArray.size by kernel_rfl)
  have HWO := Lib.hid (show zW.toArray.all (·.oneCell') = true by simp [zW, Value.oneCell'])
  unfold caV at HR ⊢
  go_enter Try.func22, Try.ntmps22
  go_upto_region 1 with fail
  refine wp_allocs [([.int .i64 ways, .slice A n cap], 24), ([.int .i64 0, .slice none 0 0], 24), (zW, 37)] rfl ?_
  intro W0 y1 KB y3
  have x1 := y3 0 _ rfl
  have x2 := y3 1 _ rfl
  have x3 := y3 2 _ rfl
  rw [Nat.add_zero] at x1
  have X1 := Lib.hid x1
  have X2 := Lib.hid x2
  have X3 := Lib.hid x3
  replace KB := Lib.hid KB
  have hb3 := x3.1
  clear y1 y3 x1 x2 x3
  go_wp2_with (first
    | (refine wpList_load_mid rfl 24 (.tmp 4) rfl w.heap.size 0 rfl [.int .i64 ways, .slice A n cap] _ X1.out.range Try.underlying24 rfl ca_info ?_)
    | (go_at_call 14
       refine (HR.out _ (HS.out.below KB.out)).mono ?_
       rintro e W1 ⟨rfl, b⟩
       have z1 := X1.out.below b X1.out.1
       have z2 := X2.out.below b X2.out.1
       have z4 := X3.out.below b X3.out.1
       have z3 := KB.out.trans (b.mono KB.out.size)
       clear X1 X2 X3 KB b
       have X1 := Lib.hid z1
       have X2 := Lib.hid z2
       have X3 := Lib.hid z4
       have KB := Lib.hid z3
       clear z1 z2 z3 z4)
    | (refine wpList_store_blk3 rfl 24 (.tmp 8) (.tmp 22) rfl (w.heap.size + 1) _ #[.int .i64 ways, .slice A n cap] X2.out rfl rfl rfl HZI.out HZO.out ?_
       intro W4 q1 q2 q2f q3 q4
       have G1 := Lib.hid q1
       have G3 := Lib.hid (KB.out.trans (q3 w.heap.size (by omega)))
       have Y3 := Lib.hid (X3.out.same (by omega) q2 q2f q4)
       clear q1 q2 q2f q3 q4)
    | (refine wpList_store_blk3 rfl 37 (.tmp 9) (.tmp 23) rfl (w.heap.size + 2) _ zW.toArray Y3.out rfl rfl rfl HWI.out HWO.out ?_
       intro W5 q1 q2 q2f q3 q4
       have R3 := Lib.hid q1
       have R2 := Lib.hid (G1.out.same (by omega) q2 q2f q4)
       have R1 := Lib.hid (G3.out.trans (q3 w.heap.size (by omega)))
       clear q1 q2 q2f q3 q4))
  exact bodyPost_ret (v := .tuple #[.agg #[.int .i64 ways, .slice A n cap], .agg zW.toArray, .bool false]) (results_ccs Try.results22 _ W5 (w.heap.size + 1) (w.heap.size + 2) [.int .i64 ways, .slice A n cap] zW (.bool false) _ _ rfl rfl rfl R2.out R3.out Try.underlying24 rfl ca_info Try.underlying37 rfl wy_info) rfl ⟨rfl, R1.out⟩
theorem refPut_found (ways : Int) (A : Option Addr) (n cap : Nat) (hs : List Hd) (ss : List (List Wy)) (line : Int) (data : ByteArray) (dirty : Bool) (hn : n ≤ cap) (hc : cap ≤ maxLen) (hss : setsOK ss) (h0 : 0 ≤ line) (h1 : line < 4294967296) (w : World) (hS : SetsAt w A n hs ss)
    (hr : rightC ways ss = true) (k i : Nat) (s : List Wy) (x : Wy) (hk : setI ss.length x.line = k) (hsk : ss[k]? = some s) (hx : s[i]? = some x) (hf : findS ways ss line = ((k : Int), (i : Int), true)) :
    Calls Try.prog 22 #[caV ways A n cap, .int .u32 line, .string data, .bool dirty] w fun e w' => ∃ (A' : Option Addr) (c' : Nat) (hs' : List Hd), e = .returned (putV ways A' n c' (putS ways ss line data dirty)) ∧ n ≤ c' ∧ c' ≤ maxLen ∧ (A' = none → c' = 0) ∧ SetsAt w' A' n hs' (putS ways ss line data dirty).1 ∧ Below w.heap.size w w' := by
  have HR := Lib.hid (fun w h => refRight_anyC ways A n cap hs ss hn hc hss w h)
  have HLO := Lib.hid (fun w => cRefLineOf_any line h0 h1 w)
  obtain ⟨L, hL⟩ : ∃ L, line - line % 16 = L := ⟨_, rfl⟩
  have hfl := findS_line ways ss line
  rw [hL] at HLO hfl
  have HF := Lib.hid (fun w h => refFind_any ways A n cap hs ss L hn hc hss (by omega) (by omega) w h)
  have HG := Lib.hid (fun w h => get_any ways A n cap hs ss L hn hc hss (by omega) (by omega) w h k i s x hsk hx (by rw [hfl]; exact hf))
  rw [hfl, hf] at HF
  have hl := hS.len
  have hn4 := (right_at hr).1
  have hw2 := (right_at hr).2.1
  have hsl := ((right_at hr).2.2 k s hsk).1
  have hxr := hss s (List.mem_of_getElem? hsk) x (List.mem_of_getElem? hx)
  have HPS := Lib.hid (putS_found (data := data) (dirty := dirty) hr hsk hx hf)
  have HAC := Lib.hid (fun (y : Wy) (hy : y.line = x.line) => accS_at hr hsk hx hy)
  have hk' : setI n x.line = k := by rw [← hl]; exact hk
  have hsk' := hsk
  have hsl' : s.length ≤ 90 := by omega
  rw [hr] at HR
  have HS := Lib.hid hS
  have HWI := Lib.hid (show (Try.prog.info? 37).map (·.size) = some zW.toArray.size by kernel_rfl)
  have HWO := Lib.hid (show zW.toArray.all (·.oneCell') = true by simp [zW, Value.oneCell'])
  unfold findV at HF
  unfold wyV at HG
  unfold caV at HF HR HG ⊢
  unfold putV
  clear hS hr hf hfl hsk hk
  obtain ⟨xl, xd, xb⟩ := x
  go_enter Try.func22, Try.ntmps22
  go_upto_region 1 with fail
  refine wp_allocs [([.int .i64 ways, .slice A n cap], 24), ([.int .i64 0, .slice none 0 0], 24), (zW, 37)] rfl ?_
  intro W0 y1 KB y3
  have x1 := y3 0 _ rfl
  have x2 := y3 1 _ rfl
  have x3 := y3 2 _ rfl
  rw [Nat.add_zero] at x1
  have X1 := Lib.hid x1
  have X2 := Lib.hid x2
  have X3 := Lib.hid x3
  replace KB := Lib.hid KB
  have hb3 := x3.1
  clear y1 y3 x1 x2 x3
  cases e16 : ((data.size : Int) != 16)
  all_goals
    go_upto_region 9 with (first
      | (refine wpList_load_mid rfl 24 (.tmp 4) rfl w.heap.size 0 rfl [.int .i64 ways, .slice A n cap] _ X1.out.range Try.underlying24 rfl ca_info ?_)
      | (go_at_call 14
         refine (HR.out _ (HS.out.below KB.out)).mono ?_
         rintro e W1 ⟨rfl, b⟩
         have z1 := X1.out.below b X1.out.1
         have z2 := X2.out.below b X2.out.1
         have z4 := X3.out.below b X3.out.1
         have z3 := KB.out.trans (b.mono KB.out.size)
         clear X1 X2 X3 KB b
         have X1 := Lib.hid z1
         have X2 := Lib.hid z2
         have X3 := Lib.hid z4
         have KB := Lib.hid z3
         clear z1 z2 z3 z4)
      | (go_at_call 36
         refine (HLO.out _).mono ?_
         rintro e W2 ⟨rfl, h⟩
         subst h)
      | (go_at_call 11
         refine (HF.out _ (HS.out.below KB.out)).mono ?_
         rintro e W3 ⟨rfl, b⟩
         have z1 := X1.out.below b X1.out.1
         have z2 := X2.out.below b X2.out.1
         have z4 := X3.out.below b X3.out.1
         have z3 := KB.out.trans (b.mono KB.out.size)
         clear X1 X2 X3 KB b
         have X1 := Lib.hid z1
         have X2 := Lib.hid z2
         have X3 := Lib.hid z4
         have KB := Lib.hid z3
         clear z1 z2 z3 z4)
      | (go_at_call 32
         refine (HG.out _ (HS.out.below KB.out)).mono ?_
         rintro e W4 ⟨rfl, b⟩
         have z1 := X1.out.below b X1.out.1
         have z2 := X2.out.below b X2.out.1
         have z4 := X3.out.below b X3.out.1
         have z3 := KB.out.trans (b.mono KB.out.size)
         clear X1 X2 X3 KB b
         have X1 := Lib.hid z1
         have X2 := Lib.hid z2
         have X3 := Lib.hid z4
         have KB := Lib.hid z3
         clear z1 z2 z3 z4)
      | (refine wpList_store_new rfl 37 (.tmp 15) (.tmp 39) rfl W4.heap.size rfl _ (wyC ⟨xl, xd, xb⟩) _ rfl rfl rfl wy_info (wyC_one _) ?_
         intro w3 b k4 s4
         have hb15 : w.heap.size + 2 < W4.heap.size := X3.out.1
         have z1 := X1.out.below b X1.out.1
         have z2 := X2.out.below b X2.out.1
         have z4 := X3.out.below b X3.out.1
         have z3 := KB.out.trans (b.mono KB.out.size)
         clear X1 X2 X3 KB b
         have X1 := Lib.hid z1
         have X2 := Lib.hid z2
         have X3 := Lib.hid z4
         have KB := Lib.hid z3
         clear z1 z2 z3 z4
         have X4 := Lib.hid k4
         clear k4 s4))
    generalize W4.heap.size = b15 at *
    have t1 := X4.out.2.1 1 _ rfl
    have f1 := X4.out.2.2 1 (by simp [wyC])
    have t2 := X4.out.2.1 2 _ rfl
    have f2 := X4.out.2.2 2 (by simp [wyC])
  · have hd16 : data.size = 16 := by simp at e16; omega
    have e5 := data_ne hd16
    have e6 : (!data.toList.isEmpty) = true := by rw [e5]; rfl
    go_upto_region 11 with fail
    clear t1 f1 t2 f2
    have z1 := X1.out.other (p := ⟨b15, 2, none⟩) (v := .string data) (by simp; omega)
    have z2 := X2.out.other (p := ⟨b15, 2, none⟩) (v := .string data) (by simp; omega)
    have z3 := X3.out.other (p := ⟨b15, 2, none⟩) (v := .string data) (by simp; omega)
    have z5 := KB.out.setCell (p := ⟨b15, 2, none⟩) (by show w.heap.size ≤ b15; omega) (.string data)
    have z4 : Blk (World.setCell w3 ⟨b15, 2, none⟩ (.string data)) b15 (wyC ⟨xl, xd, data⟩) := X4.out.set (i := 2) (v := .string data) (by simp [wyC])
    clear X1 X2 X3 X4 KB
    generalize World.setCell w3 ⟨b15, 2, none⟩ (.string data) = V1 at *
    have X1 := Lib.hid z1
    have X2 := Lib.hid z2
    have X3 := Lib.hid z3
    have KB := Lib.hid z5
    have X4 := Lib.hid z4
    clear z1 z2 z3 z4 z5
    have t1 := X4.out.2.1 1 _ rfl
    have f1 := X4.out.2.2 1 (by simp [wyC])
    cases xd
    · have HPO := show putOn ⟨xl, false, xb⟩ data dirty = ⟨xl, dirty, data⟩ by unfold putOn; rw [if_pos hd16]; rfl
      rw [HPO] at HPS
      have HACC := Lib.hid (HAC.out ⟨xl, dirty, data⟩ rfl)
      go_upto_region 12 with fail
      clear t1 f1
      have z1 := X1.out.other (p := ⟨b15, 1, none⟩) (v := .bool dirty) (by simp; omega)
      have z2 := X2.out.other (p := ⟨b15, 1, none⟩) (v := .bool dirty) (by simp; omega)
      have z3 := X3.out.other (p := ⟨b15, 1, none⟩) (v := .bool dirty) (by simp; omega)
      have z5 := KB.out.setCell (p := ⟨b15, 1, none⟩) (by show w.heap.size ≤ b15; omega) (.bool dirty)
      have z4 : Blk (World.setCell V1 ⟨b15, 1, none⟩ (.bool dirty)) b15 (wyC ⟨xl, dirty, data⟩) := X4.out.set (i := 1) (v := .bool dirty) (by simp [wyC])
      clear X1 X2 X3 X4 KB
      generalize World.setCell V1 ⟨b15, 1, none⟩ (.bool dirty) = V2 at *
      have X1 := Lib.hid z1
      have X2 := Lib.hid z2
      have X3 := Lib.hid z3
      have KB := Lib.hid z5
      have X4 := Lib.hid z4
      clear z1 z2 z3 z4 z5
      obtain ⟨y, hy⟩ : ∃ y : Wy, y = ⟨xl, dirty, data⟩ := ⟨_, rfl⟩
      rw [← hy] at HPS HACC X4
      have hxr : 0 ≤ y.line ∧ y.line < 4294967296 := by rw [hy]; exact hxr
      have hk' : setI n y.line = k := by rw [hy]; exact hk'
      clear hy
      have HFI := Lib.hid (fun W h => first_any ways A n cap hs ss y hn (by omega) (by omega) hxr.1 hxr.2 W h k s hk' hsk' hsl')
      unfold wyV caV at HFI
      rw [HACC.out] at HFI
      have HXI := Lib.hid (show (Try.prog.info? 37).map (·.size) = some (wyC y).length from wy_info)
      go_wp2_with (first
        | (refine wpList_load_mid rfl 24 (.tmp 4) rfl w.heap.size 0 rfl [.int .i64 ways, .slice A n cap] _ X1.out.range Try.underlying24 rfl ca_info ?_)
        | (refine wpList_load_mid rfl 37 (.tmp 15) rfl b15 0 rfl (wyC y) _ X4.out.range Try.underlying37 rfl wy_info ?_)
        | (go_at_call 42
           refine (HFI.out _ (HS.out.below KB.out)).mono ?_
           rintro e W6 ⟨A', c', q, rfl, g1, g2, g3, g4, g5, g6, g7, g8, b⟩
           have O1 := Lib.hid g7
           have O2 := Lib.hid g8
           have Y2 := Lib.hid (X2.out.below b X2.out.1)
           have Y3 := Lib.hid (X3.out.below b X3.out.1)
           have YB := Lib.hid (KB.out.trans (b.mono KB.out.size))
           have hlt := X3.out.1
           have HZI := Lib.hid (show (Try.prog.info? 24).map (·.size) = some (#[.int .i64 ways, .slice A' n c'] : Array Value).size by kernel_rfl)
           have HZO := Lib.hid (show (#[.int .i64 ways, .slice A' n c'] : Array Value).all (·.oneCell') = true by simp [Value.oneCell'])
           clear b g7 g8)
        | (refine wpList_store_blk3 rfl 24 (.tmp 8) (.tmp 52) rfl (w.heap.size + 1) _ #[.int .i64 ways, .slice A' n c'] Y2.out rfl rfl rfl HZI.out HZO.out ?_
           intro W7 q1 q2 q2f q3 q4
           have U2 := Lib.hid q1
           have U3 := Lib.hid (Y3.out.same (by omega) q2 q2f q4)
           have UB := Lib.hid (YB.out.trans (q3 w.heap.size (by omega)))
           have U1 := Lib.hid (O1.out.same (b := w.heap.size + 1) (by omega) q2 q2f q4)
           have U4 := Lib.hid (O2.out.same (b := w.heap.size + 1) (by omega) q2 q2f q4)
           clear q1 q2 q2f q3 q4)
        | (refine wpList_store_blk3 rfl 37 (.tmp 9) (.tmp 53) rfl (w.heap.size + 2) _ zW.toArray U3.out rfl rfl rfl HWI.out HWO.out ?_
           intro W8 q1 q2 q2f q3 q4
           have R3 := Lib.hid q1
           have R2 := Lib.hid (U2.out.same (by omega) q2 q2f q4)
           have RB := Lib.hid (UB.out.trans (q3 w.heap.size (by omega)))
           have R1 := Lib.hid (U1.out.same (b := w.heap.size + 2) (by omega) q2 q2f q4)
           have R4 := Lib.hid (U4.out.same (b := w.heap.size + 2) (by omega) q2 q2f q4)
           clear q1 q2 q2f q3 q4))
      exact bodyPost_ret (v := .tuple #[.agg #[.int .i64 ways, .slice A' n c'], .agg zW.toArray, .bool false]) (results_ccs Try.results22 _ W8 (w.heap.size + 1) (w.heap.size + 2) [.int .i64 ways, .slice A' n c'] zW (.bool false) _ _ rfl rfl rfl R2.out R3.out Try.underlying24 rfl ca_info Try.underlying37 rfl wy_info) rfl
        ⟨A', c', ret_val (by rw [HPS.out]; rfl), g1, g2, g3, ⟨hs.set k q, by
          rw [HPS.out]
          exact first_sets HS.out.2 RB.out (by have := R1.out.1; first | exact this | (rw [List.map_set] at this; exact this) | (rw [← List.map_set] at this; exact this)) g4 g5 g6 (by have := R4.out.1; exact this)⟩, RB.out⟩
    · have HPO := show putOn ⟨xl, true, xb⟩ data dirty = ⟨xl, true, data⟩ by unfold putOn; rw [if_pos hd16]; rfl
      rw [HPO] at HPS
      have HACC := Lib.hid (HAC.out ⟨xl, true, data⟩ rfl)
      go_upto_region 12 with fail
      clear t1 f1
      have z1 := X1.out.other (p := ⟨b15, 1, none⟩) (v := .bool true) (by simp; omega)
      have z2 := X2.out.other (p := ⟨b15, 1, none⟩) (v := .bool true) (by simp; omega)
      have z3 := X3.out.other (p := ⟨b15, 1, none⟩) (v := .bool true) (by simp; omega)
      have z5 := KB.out.setCell (p := ⟨b15, 1, none⟩) (by show w.heap.size ≤ b15; omega) (.bool true)
      have z4 : Blk (World.setCell V1 ⟨b15, 1, none⟩ (.bool true)) b15 (wyC ⟨xl, true, data⟩) := X4.out.set (i := 1) (v := .bool true) (by simp [wyC])
      clear X1 X2 X3 X4 KB
      generalize World.setCell V1 ⟨b15, 1, none⟩ (.bool true) = V2 at *
      have X1 := Lib.hid z1
      have X2 := Lib.hid z2
      have X3 := Lib.hid z3
      have KB := Lib.hid z5
      have X4 := Lib.hid z4
      clear z1 z2 z3 z4 z5
      obtain ⟨y, hy⟩ : ∃ y : Wy, y = ⟨xl, true, data⟩ := ⟨_, rfl⟩
      rw [← hy] at HPS HACC X4
      have hxr : 0 ≤ y.line ∧ y.line < 4294967296 := by rw [hy]; exact hxr
      have hk' : setI n y.line = k := by rw [hy]; exact hk'
      clear hy
      have HFI := Lib.hid (fun W h => first_any ways A n cap hs ss y hn (by omega) (by omega) hxr.1 hxr.2 W h k s hk' hsk' hsl')
      unfold wyV caV at HFI
      rw [HACC.out] at HFI
      have HXI := Lib.hid (show (Try.prog.info? 37).map (·.size) = some (wyC y).length from wy_info)
      go_wp2_with (first
        | (refine wpList_load_mid rfl 24 (.tmp 4) rfl w.heap.size 0 rfl [.int .i64 ways, .slice A n cap] _ X1.out.range Try.underlying24 rfl ca_info ?_)
        | (refine wpList_load_mid rfl 37 (.tmp 15) rfl b15 0 rfl (wyC y) _ X4.out.range Try.underlying37 rfl wy_info ?_)
        | (go_at_call 42
           refine (HFI.out _ (HS.out.below KB.out)).mono ?_
           rintro e W6 ⟨A', c', q, rfl, g1, g2, g3, g4, g5, g6, g7, g8, b⟩
           have O1 := Lib.hid g7
           have O2 := Lib.hid g8
           have Y2 := Lib.hid (X2.out.below b X2.out.1)
           have Y3 := Lib.hid (X3.out.below b X3.out.1)
           have YB := Lib.hid (KB.out.trans (b.mono KB.out.size))
           have hlt := X3.out.1
           have HZI := Lib.hid (show (Try.prog.info? 24).map (·.size) = some (#[.int .i64 ways, .slice A' n c'] : Array Value).size by kernel_rfl)
           have HZO := Lib.hid (show (#[.int .i64 ways, .slice A' n c'] : Array Value).all (·.oneCell') = true by simp [Value.oneCell'])
           clear b g7 g8)
        | (refine wpList_store_blk3 rfl 24 (.tmp 8) (.tmp 52) rfl (w.heap.size + 1) _ #[.int .i64 ways, .slice A' n c'] Y2.out rfl rfl rfl HZI.out HZO.out ?_
           intro W7 q1 q2 q2f q3 q4
           have U2 := Lib.hid q1
           have U3 := Lib.hid (Y3.out.same (by omega) q2 q2f q4)
           have UB := Lib.hid (YB.out.trans (q3 w.heap.size (by omega)))
           have U1 := Lib.hid (O1.out.same (b := w.heap.size + 1) (by omega) q2 q2f q4)
           have U4 := Lib.hid (O2.out.same (b := w.heap.size + 1) (by omega) q2 q2f q4)
           clear q1 q2 q2f q3 q4)
        | (refine wpList_store_blk3 rfl 37 (.tmp 9) (.tmp 53) rfl (w.heap.size + 2) _ zW.toArray U3.out rfl rfl rfl HWI.out HWO.out ?_
           intro W8 q1 q2 q2f q3 q4
           have R3 := Lib.hid q1
           have R2 := Lib.hid (U2.out.same (by omega) q2 q2f q4)
           have RB := Lib.hid (UB.out.trans (q3 w.heap.size (by omega)))
           have R1 := Lib.hid (U1.out.same (b := w.heap.size + 2) (by omega) q2 q2f q4)
           have R4 := Lib.hid (U4.out.same (b := w.heap.size + 2) (by omega) q2 q2f q4)
           clear q1 q2 q2f q3 q4))
      exact bodyPost_ret (v := .tuple #[.agg #[.int .i64 ways, .slice A' n c'], .agg zW.toArray, .bool false]) (results_ccs Try.results22 _ W8 (w.heap.size + 1) (w.heap.size + 2) [.int .i64 ways, .slice A' n c'] zW (.bool false) _ _ rfl rfl rfl R2.out R3.out Try.underlying24 rfl ca_info Try.underlying37 rfl wy_info) rfl
        ⟨A', c', ret_val (by rw [HPS.out]; rfl), g1, g2, g3, ⟨hs.set k q, by
          rw [HPS.out]
          exact first_sets HS.out.2 RB.out (by have := R1.out.1; first | exact this | (rw [List.map_set] at this; exact this) | (rw [← List.map_set] at this; exact this)) g4 g5 g6 (by have := R4.out.1; exact this)⟩, RB.out⟩
  · have hd16 : ¬ data.size = 16 := by simp at e16; omega
    cases xd
    · have HPO := show putOn ⟨xl, false, xb⟩ data dirty = ⟨xl, dirty, xb⟩ by unfold putOn; rw [if_neg hd16]; rfl
      rw [HPO] at HPS
      have HACC := Lib.hid (HAC.out ⟨xl, dirty, xb⟩ rfl)
      go_upto_region 12 with fail
      clear t1 f1 t2 f2
      have z1 := X1.out.other (p := ⟨b15, 1, none⟩) (v := .bool dirty) (by simp; omega)
      have z2 := X2.out.other (p := ⟨b15, 1, none⟩) (v := .bool dirty) (by simp; omega)
      have z3 := X3.out.other (p := ⟨b15, 1, none⟩) (v := .bool dirty) (by simp; omega)
      have z5 := KB.out.setCell (p := ⟨b15, 1, none⟩) (by show w.heap.size ≤ b15; omega) (.bool dirty)
      have z4 : Blk (World.setCell w3 ⟨b15, 1, none⟩ (.bool dirty)) b15 (wyC ⟨xl, dirty, xb⟩) := X4.out.set (i := 1) (v := .bool dirty) (by simp [wyC])
      clear X1 X2 X3 X4 KB
      generalize World.setCell w3 ⟨b15, 1, none⟩ (.bool dirty) = V2 at *
      have X1 := Lib.hid z1
      have X2 := Lib.hid z2
      have X3 := Lib.hid z3
      have KB := Lib.hid z5
      have X4 := Lib.hid z4
      clear z1 z2 z3 z4 z5
      obtain ⟨y, hy⟩ : ∃ y : Wy, y = ⟨xl, dirty, xb⟩ := ⟨_, rfl⟩
      rw [← hy] at HPS HACC X4
      have hxr : 0 ≤ y.line ∧ y.line < 4294967296 := by rw [hy]; exact hxr
      have hk' : setI n y.line = k := by rw [hy]; exact hk'
      clear hy
      have HFI := Lib.hid (fun W h => first_any ways A n cap hs ss y hn (by omega) (by omega) hxr.1 hxr.2 W h k s hk' hsk' hsl')
      unfold wyV caV at HFI
      rw [HACC.out] at HFI
      have HXI := Lib.hid (show (Try.prog.info? 37).map (·.size) = some (wyC y).length from wy_info)
      go_wp2_with (first
        | (refine wpList_load_mid rfl 24 (.tmp 4) rfl w.heap.size 0 rfl [.int .i64 ways, .slice A n cap] _ X1.out.range Try.underlying24 rfl ca_info ?_)
        | (refine wpList_load_mid rfl 37 (.tmp 15) rfl b15 0 rfl (wyC y) _ X4.out.range Try.underlying37 rfl wy_info ?_)
        | (go_at_call 42
           refine (HFI.out _ (HS.out.below KB.out)).mono ?_
           rintro e W6 ⟨A', c', q, rfl, g1, g2, g3, g4, g5, g6, g7, g8, b⟩
           have O1 := Lib.hid g7
           have O2 := Lib.hid g8
           have Y2 := Lib.hid (X2.out.below b X2.out.1)
           have Y3 := Lib.hid (X3.out.below b X3.out.1)
           have YB := Lib.hid (KB.out.trans (b.mono KB.out.size))
           have hlt := X3.out.1
           have HZI := Lib.hid (show (Try.prog.info? 24).map (·.size) = some (#[.int .i64 ways, .slice A' n c'] : Array Value).size by kernel_rfl)
           have HZO := Lib.hid (show (#[.int .i64 ways, .slice A' n c'] : Array Value).all (·.oneCell') = true by simp [Value.oneCell'])
           clear b g7 g8)
        | (refine wpList_store_blk3 rfl 24 (.tmp 8) (.tmp 52) rfl (w.heap.size + 1) _ #[.int .i64 ways, .slice A' n c'] Y2.out rfl rfl rfl HZI.out HZO.out ?_
           intro W7 q1 q2 q2f q3 q4
           have U2 := Lib.hid q1
           have U3 := Lib.hid (Y3.out.same (by omega) q2 q2f q4)
           have UB := Lib.hid (YB.out.trans (q3 w.heap.size (by omega)))
           have U1 := Lib.hid (O1.out.same (b := w.heap.size + 1) (by omega) q2 q2f q4)
           have U4 := Lib.hid (O2.out.same (b := w.heap.size + 1) (by omega) q2 q2f q4)
           clear q1 q2 q2f q3 q4)
        | (refine wpList_store_blk3 rfl 37 (.tmp 9) (.tmp 53) rfl (w.heap.size + 2) _ zW.toArray U3.out rfl rfl rfl HWI.out HWO.out ?_
           intro W8 q1 q2 q2f q3 q4
           have R3 := Lib.hid q1
           have R2 := Lib.hid (U2.out.same (by omega) q2 q2f q4)
           have RB := Lib.hid (UB.out.trans (q3 w.heap.size (by omega)))
           have R1 := Lib.hid (U1.out.same (b := w.heap.size + 2) (by omega) q2 q2f q4)
           have R4 := Lib.hid (U4.out.same (b := w.heap.size + 2) (by omega) q2 q2f q4)
           clear q1 q2 q2f q3 q4))
      exact bodyPost_ret (v := .tuple #[.agg #[.int .i64 ways, .slice A' n c'], .agg zW.toArray, .bool false]) (results_ccs Try.results22 _ W8 (w.heap.size + 1) (w.heap.size + 2) [.int .i64 ways, .slice A' n c'] zW (.bool false) _ _ rfl rfl rfl R2.out R3.out Try.underlying24 rfl ca_info Try.underlying37 rfl wy_info) rfl
        ⟨A', c', ret_val (by rw [HPS.out]; rfl), g1, g2, g3, ⟨hs.set k q, by
          rw [HPS.out]
          exact first_sets HS.out.2 RB.out (by have := R1.out.1; first | exact this | (rw [List.map_set] at this; exact this) | (rw [← List.map_set] at this; exact this)) g4 g5 g6 (by have := R4.out.1; exact this)⟩, RB.out⟩
    · have HPO := show putOn ⟨xl, true, xb⟩ data dirty = ⟨xl, true, xb⟩ by unfold putOn; rw [if_neg hd16]; rfl
      rw [HPO] at HPS
      have HACC := Lib.hid (HAC.out ⟨xl, true, xb⟩ rfl)
      go_upto_region 12 with fail
      clear t1 f1 t2 f2
      have z1 := X1.out.other (p := ⟨b15, 1, none⟩) (v := .bool true) (by simp; omega)
      have z2 := X2.out.other (p := ⟨b15, 1, none⟩) (v := .bool true) (by simp; omega)
      have z3 := X3.out.other (p := ⟨b15, 1, none⟩) (v := .bool true) (by simp; omega)
      have z5 := KB.out.setCell (p := ⟨b15, 1, none⟩) (by show w.heap.size ≤ b15; omega) (.bool true)
      have z4 : Blk (World.setCell w3 ⟨b15, 1, none⟩ (.bool true)) b15 (wyC ⟨xl, true, xb⟩) := X4.out.set (i := 1) (v := .bool true) (by simp [wyC])
      clear X1 X2 X3 X4 KB
      generalize World.setCell w3 ⟨b15, 1, none⟩ (.bool true) = V2 at *
      have X1 := Lib.hid z1
      have X2 := Lib.hid z2
      have X3 := Lib.hid z3
      have KB := Lib.hid z5
      have X4 := Lib.hid z4
      clear z1 z2 z3 z4 z5
      obtain ⟨y, hy⟩ : ∃ y : Wy, y = ⟨xl, true, xb⟩ := ⟨_, rfl⟩
      rw [← hy] at HPS HACC X4
      have hxr : 0 ≤ y.line ∧ y.line < 4294967296 := by rw [hy]; exact hxr
      have hk' : setI n y.line = k := by rw [hy]; exact hk'
      clear hy
      have HFI := Lib.hid (fun W h => first_any ways A n cap hs ss y hn (by omega) (by omega) hxr.1 hxr.2 W h k s hk' hsk' hsl')
      unfold wyV caV at HFI
      rw [HACC.out] at HFI
      have HXI := Lib.hid (show (Try.prog.info? 37).map (·.size) = some (wyC y).length from wy_info)
      go_wp2_with (first
        | (refine wpList_load_mid rfl 24 (.tmp 4) rfl w.heap.size 0 rfl [.int .i64 ways, .slice A n cap] _ X1.out.range Try.underlying24 rfl ca_info ?_)
        | (refine wpList_load_mid rfl 37 (.tmp 15) rfl b15 0 rfl (wyC y) _ X4.out.range Try.underlying37 rfl wy_info ?_)
        | (go_at_call 42
           refine (HFI.out _ (HS.out.below KB.out)).mono ?_
           rintro e W6 ⟨A', c', q, rfl, g1, g2, g3, g4, g5, g6, g7, g8, b⟩
           have O1 := Lib.hid g7
           have O2 := Lib.hid g8
           have Y2 := Lib.hid (X2.out.below b X2.out.1)
           have Y3 := Lib.hid (X3.out.below b X3.out.1)
           have YB := Lib.hid (KB.out.trans (b.mono KB.out.size))
           have hlt := X3.out.1
           have HZI := Lib.hid (show (Try.prog.info? 24).map (·.size) = some (#[.int .i64 ways, .slice A' n c'] : Array Value).size by kernel_rfl)
           have HZO := Lib.hid (show (#[.int .i64 ways, .slice A' n c'] : Array Value).all (·.oneCell') = true by simp [Value.oneCell'])
           clear b g7 g8)
        | (refine wpList_store_blk3 rfl 24 (.tmp 8) (.tmp 52) rfl (w.heap.size + 1) _ #[.int .i64 ways, .slice A' n c'] Y2.out rfl rfl rfl HZI.out HZO.out ?_
           intro W7 q1 q2 q2f q3 q4
           have U2 := Lib.hid q1
           have U3 := Lib.hid (Y3.out.same (by omega) q2 q2f q4)
           have UB := Lib.hid (YB.out.trans (q3 w.heap.size (by omega)))
           have U1 := Lib.hid (O1.out.same (b := w.heap.size + 1) (by omega) q2 q2f q4)
           have U4 := Lib.hid (O2.out.same (b := w.heap.size + 1) (by omega) q2 q2f q4)
           clear q1 q2 q2f q3 q4)
        | (refine wpList_store_blk3 rfl 37 (.tmp 9) (.tmp 53) rfl (w.heap.size + 2) _ zW.toArray U3.out rfl rfl rfl HWI.out HWO.out ?_
           intro W8 q1 q2 q2f q3 q4
           have R3 := Lib.hid q1
           have R2 := Lib.hid (U2.out.same (by omega) q2 q2f q4)
           have RB := Lib.hid (UB.out.trans (q3 w.heap.size (by omega)))
           have R1 := Lib.hid (U1.out.same (b := w.heap.size + 2) (by omega) q2 q2f q4)
           have R4 := Lib.hid (U4.out.same (b := w.heap.size + 2) (by omega) q2 q2f q4)
           clear q1 q2 q2f q3 q4))
      exact bodyPost_ret (v := .tuple #[.agg #[.int .i64 ways, .slice A' n c'], .agg zW.toArray, .bool false]) (results_ccs Try.results22 _ W8 (w.heap.size + 1) (w.heap.size + 2) [.int .i64 ways, .slice A' n c'] zW (.bool false) _ _ rfl rfl rfl R2.out R3.out Try.underlying24 rfl ca_info Try.underlying37 rfl wy_info) rfl
        ⟨A', c', ret_val (by rw [HPS.out]; rfl), g1, g2, g3, ⟨hs.set k q, by
          rw [HPS.out]
          exact first_sets HS.out.2 RB.out (by have := R1.out.1; first | exact this | (rw [List.map_set] at this; exact this) | (rw [← List.map_set] at this; exact this)) g4 g5 g6 (by have := R4.out.1; exact this)⟩, RB.out⟩
end Go.Proofs.Ytcgahdmacngipaa
