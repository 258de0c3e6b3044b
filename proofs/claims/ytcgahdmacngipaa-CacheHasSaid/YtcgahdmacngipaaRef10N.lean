/- THE CONTRACT of auspexref10.Put: of a line that doesn't stand there; of any. -/
import Derived.Test.YtcgahdmacngipaaRef10P
import Derived.Deep.RegionHeld3
namespace Go.Proofs.Ytcgahdmacngipaa
open Go.ChangeShapes Go.WideShapes Go.ChangeAt Go.RowKit Go.Sort
set_option linter.unusedVariables false
set_option linter.unusedSimpArgs false
set_option maxHeartbeats 8000000
set_option maxRecDepth 100000

theorem refPut_new (ways : Int) (A : Option Addr) (n cap : Nat) (hs : List Hd) (ss : List (List Wy)) (line : Int) (data : ByteArray) (dirty : Bool) (hn : n ≤ cap) (hc : cap ≤ maxLen) (hss : setsOK ss) (h0 : 0 ≤ line) (h1 : line < 4294967296) (w : World) (hS : SetsAt w A n hs ss)
    (hr : rightC ways ss = true) (k : Nat) (s : List Wy) (hk : setI ss.length (line - line % 16) = k) (hsk : ss[k]? = some s) (hp : placeI s (line - line % 16) < 0) (hf : findS ways ss line = ((k : Int), 0, false)) :
    Calls Try.prog 22 #[caV ways A n cap, .int .u32 line, .string data, .bool dirty] w fun e w' => ∃ (A' : Option Addr) (c' : Nat) (hs' : List Hd), e = .returned (putV ways A' n c' (putS ways ss line data dirty)) ∧ n ≤ c' ∧ c' ≤ maxLen ∧ (A' = none → c' = 0) ∧ SetsAt w' A' n hs' (putS ways ss line data dirty).1 ∧ Below w.heap.size w w' := by
  have HR := Lib.hid (fun w h => refRight_anyC ways A n cap hs ss hn hc hss w h)
  have HLO := Lib.hid (fun w => cRefLineOf_any line h0 h1 w)
  have HPS := Lib.hid (show putS ways ss line data dirty = (if (s.length : Int) + 1 ≤ ways then (ss.set k (newW line data dirty :: s), zeroW, false) else (ss.set k ((newW line data dirty :: s).take ways.toNat), (newW line data dirty :: s).getD ways.toNat zeroW, true)) by
    unfold putS
    rw [if_pos hr, hf, if_neg (by simp)]
    simp only [Int.toNat_natCast]
    unfold setAt
    rw [Int.toNat_natCast, List.getD_eq_getElem?_getD, hsk, Option.getD_some])
  have hfl := findS_line ways ss line
  have hnl : (newW line data dirty).line = line - line % 16 := rfl
  obtain ⟨nw, hnw⟩ : ∃ r, newW line data dirty = r := ⟨_, rfl⟩
  rw [hnw] at HPS hnl
  obtain ⟨L, hL⟩ : ∃ L, line - line % 16 = L := ⟨_, rfl⟩
  rw [hL] at HLO hfl hp hk hnl
  have HF := Lib.hid (fun w h => refFind_any ways A n cap hs ss L hn hc hss (by omega) (by omega) w h)
  rw [hfl, hf] at HF
  have hl := hS.len
  have hhl := hS.hlen
  have hn4 := (right_at hr).1
  have hw2 := (right_at hr).2.1
  have hsl := ((right_at hr).2.2 k s hsk).1
  have hxr : 0 ≤ nw.line ∧ nw.line < 4294967296 := by omega
  have hk' : setI n nw.line = k := by rw [hnl, ← hl]; exact hk
  have hkn : k < n := by have := (List.getElem?_eq_some_iff.1 hsk).1; omega
  have hki : (k : Int) < n := by omega
  have HNA := Lib.hid (fun m => accS_new (s := s) (y := nw) (by rw [hnl]; exact hp) m)
  rw [hr] at HR
  obtain ⟨a, q, rfl, hal, hq, hcj, hqn, hqa⟩ := hS.at_ hsk
  obtain ⟨qa, qn, qc⟩ := q
  have hqw := hqa.2.2.2
  have hqw1 := hqa.1
  have hqw2 := hqa.2.1
  have hqw3 := hqa.2.2.1
  simp only at hcj hqn hqw hqw1 hqw2 hqw3
  subst hqn
  have ZQ := Lib.hid hqw
  have CJ := Lib.hid hcj
  have HS := Lib.hid hS
  have HSK := Lib.hid hsk
  have HWS := Lib.hid (fun q s' W hS hq => withSet_any ways (some a) n cap hs ss k q s' hkn (by omega) W hS hq)
  unfold findV at HF
  unfold caV at HF HR HWS ⊢
  unfold putV
  clear hS hr hf hfl hk hq hcj hqa hqw hp hsk
  go_enter Try.func22, Try.ntmps22
  go_upto_region 1 with fail
  refine wp_allocs [([.int .i64 ways, .slice (some a) n cap], 24), ([.int .i64 0, .slice none 0 0], 24), (zW, 37)] rfl ?_
  intro W0 y1 KB y3
  have x1 := y3 0 _ rfl
  have x2 := y3 1 _ rfl
  have x3 := y3 2 _ rfl
  rw [Nat.add_zero] at x1
  have X1 := Lib.hid x1
  have X2 := Lib.hid x2
  have X3 := Lib.hid x3
  replace KB := Lib.hid KB
  have hb3 := x3.1
  clear y1 y3 x1 x2 x3
  cases e16 : ((data.size : Int) != 16)
  all_goals
    go_upto_region 14 with (first
      | (refine wpList_load_mid rfl 24 (.tmp 4) rfl w.heap.size 0 rfl [.int .i64 ways, .slice (some a) n cap] _ X1.out.range Try.underlying24 rfl ca_info ?_)
      | (go_at_call 14
         refine (HR.out _ (HS.out.below KB.out)).mono ?_
         rintro e W1 ⟨rfl, b⟩
         have z1 := X1.out.below b X1.out.1
         have z2 := X2.out.below b X2.out.1
         have z4 := X3.out.below b X3.out.1
         have z3 := KB.out.trans (b.mono KB.out.size)
         clear X1 X2 X3 KB b
         have X1 := Lib.hid z1
         have X2 := Lib.hid z2
         have X3 := Lib.hid z4
         have KB := Lib.hid z3
         clear z1 z2 z3 z4)
      | (go_at_call 36
         refine (HLO.out _).mono ?_
         rintro e W2 ⟨rfl, h⟩
         subst h)
      | (go_at_call 11
         refine (HF.out _ (HS.out.below KB.out)).mono ?_
         rintro e W3 ⟨rfl, b⟩
         have z1 := X1.out.below b X1.out.1
         have z2 := X2.out.below b X2.out.1
         have z4 := X3.out.below b X3.out.1
         have z3 := KB.out.trans (b.mono KB.out.size)
         clear X1 X2 X3 KB b
         have X1 := Lib.hid z1
         have X2 := Lib.hid z2
         have X3 := Lib.hid z4
         have KB := Lib.hid z3
         clear z1 z2 z3 z4)
      | (refine wpList_store_new rfl 37 (.tmp 16) (.tmp 54) rfl W3.heap.size rfl _ zW _ rfl rfl rfl wy_info (by simp [zW, Value.oneCell']) ?_
         intro w4 b k4 s4
         have hb16 : w.heap.size + 2 < W3.heap.size := X3.out.1
         have z1 := X1.out.below b X1.out.1
         have z2 := X2.out.below b X2.out.1
         have z4 := X3.out.below b X3.out.1
         have z3 := KB.out.trans (b.mono KB.out.size)
         clear X1 X2 X3 KB b
         have X1 := Lib.hid z1
         have X2 := Lib.hid z2
         have X3 := Lib.hid z4
         have KB := Lib.hid z3
         clear z1 z2 z3 z4
         have X4 := Lib.hid (show Blk w4 W3.heap.size [.int .u32 0, .bool false, .string ByteArray.empty] from k4)
         clear k4 s4))
    generalize W3.heap.size = b16 at *
    have c0 := X1.out.2.1 0 _ rfl
    have c1 := X1.out.2.1 1 _ rfl
    have cj := (KB.out.cell (p := a.add k) (by rw [block_add]; exact hal)).trans CJ.out
    have p0 := fun d os => cell_regrown c0 d os
    have p1 := fun d os => cell_regrown c1 d os
    have pj := fun d os => cell_regrown cj d os
    have hwt : ∃ b, decide (ways ≤ (s.length : Int)) = b := ⟨_, rfl⟩
    obtain ⟨wt, hwt⟩ := hwt
    try simp only [Act.put]
    refine wp_region_quiet_below (by kernel_rfl) (by kernel_rfl) ?_
    repeat (go_big_quiet_step (fail))
    refine wpQuiet_nil ?_
    intro _ hw'
    obtain ⟨⟨nq, osq⟩, hw''⟩ := hw'
    subst hw''
    have b := below_regrown w4 nq osq
    have z7 := X4.out.below b X4.out.1
    clear c0 c1 cj p0 p1 pj X4
    have z1 := X1.out.below b X1.out.1
    have z2 := X2.out.below b X2.out.1
    have z4 := X3.out.below b X3.out.1
    have z3 := KB.out.trans (b.mono KB.out.size)
    clear X1 X2 X3 KB b
    have X1 := Lib.hid z1
    have X2 := Lib.hid z2
    have X3 := Lib.hid z4
    have KB := Lib.hid z3
    clear z1 z2 z3 z4
    have X4 := Lib.hid z7
    clear z7
    generalize grow (redrawn w4 nq) osq = W5 at *
    cases wt
  · have hnw2 : nw = ⟨L, dirty, data⟩ := by
      rw [← hnw]
      unfold newW
      rw [hL, if_pos (by simp at e16; omega)]
    have HNL := Lib.hid (show nw.line = L ∧ nw.dirty = dirty ∧ nw.data = data by rw [hnw2]; exact ⟨rfl, rfl, rfl⟩)
    clear hnw2 hnw hnl
    go_upto_region 19 with fail
    have hlt9 : ¬ ways ≤ (s.length : Int) := of_decide_eq_false hwt
    have HPS2 := Lib.hid (HPS.out.trans (if_pos (by omega)))
    have HN1 := Lib.hid hn
    have S1 := Lib.hid (HS.out.below KB.out).1
    have HDW := Lib.hid HS.out.2
    have HT1 := HSK
    have HTL := Lib.hid (show s.length ≤ 90 by omega)
    have HNT := Lib.hid (show accS nw s s.length = nw :: s by have := HNA.out s.length; rwa [List.take_of_length_le (Nat.le_refl _)] at this)
    have HSS := Lib.hid (fun M : List Wy => (rfl : ss.set k M = ss.set k M))
    have hne1 : w.heap.size + 1 ≠ w.heap.size := by omega
    have hne2 : w.heap.size + 1 ≠ b16 := by omega
    have hne3 : w.heap.size + 2 ≠ w.heap.size := by omega
    have hne4 : w.heap.size + 2 ≠ b16 := by omega
    have hlo5 : w.heap.size + 2 < W5.heap.size := X3.out.1
    have HST := Lib.hid (fun w' (hb : Below W5.heap.size W5 w') => (show w'.cell? ⟨w.heap.size, 0, none⟩ = some (.int .i64 ways) ∧ w'.cell? ⟨w.heap.size, 1, none⟩ = some (.slice (some a) n cap) ∧ w'.cell? ⟨b16, 0, none⟩ = some (.int .u32 0) ∧ w'.cell? ⟨b16, 1, none⟩ = some (.bool false) ∧ w'.cell? ⟨b16, 2, none⟩ = some (.string ByteArray.empty) from
      ⟨(X1.out.below hb X1.out.1).2.1 0 _ rfl, (X1.out.below hb X1.out.1).2.1 1 _ rfl, (X4.out.below hb X4.out.1).2.1 0 _ rfl, (X4.out.below hb X4.out.1).2.1 1 _ rfl, (X4.out.below hb X4.out.1).2.1 2 _ rfl⟩))
    have LD := Lib.hid (show Below W5.heap.size W5 W5.drew from (Below.refl W5.heap.size W5).drew)
    have HFI := Lib.hid (fun W h => first_any ways (some a) n cap (hs) (ss) nw HN1.out (by omega) (by omega) hxr.1 hxr.2 W h k (s) hk' HT1.out HTL.out)
    unfold wyV caV at HFI
    rw [HNT.out, HNL.out.1, HNL.out.2.1, HNL.out.2.2] at HFI
    go_region_held3 (fun w' => w'.cell? ⟨w.heap.size, 0, none⟩ = some (.int .i64 ways) ∧ w'.cell? ⟨w.heap.size, 1, none⟩ = some (.slice (some a) n cap) ∧ w'.cell? ⟨b16, 0, none⟩ = some (.int .u32 0) ∧ w'.cell? ⟨b16, 1, none⟩ = some (.bool false) ∧ w'.cell? ⟨b16, 2, none⟩ = some (.string ByteArray.empty))
      ((first
        | with_reducible exact HST.out _ LD.out
        | with_reducible exact HST.out _ B5.out
        | simp [*, World.cell?_setCell_far]))
      ((first
        | (go_at_call 42
           refine (HFI.out _ ⟨RowsAt.below S1.out LD.out, HDW.out.below (KB.out.trans (LD.out.mono KB.out.size))⟩).mono ?_
           rintro e W6 ⟨A9, c9, q, rfl, q1, q2, q3, q4, q5, q6, q7, q8, b⟩
           have B5 := Lib.hid (LD.out.trans b)
           have OA := Lib.hid (show OwnAt W6 W5.heap.size A9 n 1 _ from q7)
           have YP := Lib.hid (show OwnAt W6 W5.heap.size q.at_ q.n 3 _ from q8)
           have Y2 := Lib.hid (X2.out.below B5.out X2.out.1)
           have Y3 := Lib.hid (show Blk W6 (w.heap.size + 1 + 1) [.int .u32 0, .bool false, .string ByteArray.empty] from X3.out.below B5.out X3.out.1)
           have t0 := Y2.out.2.1 0 _ rfl
           have t1 := Y2.out.2.1 1 _ rfl
           have e0 := Y2.out.2.2 0 (by simp)
           have e1 := Y2.out.2.2 1 (by simp)
           have u0 := Y3.out.2.1 0 _ rfl
           have u1 := Y3.out.2.1 1 _ rfl
           have u2 := Y3.out.2.1 2 _ rfl
           have f0 := Y3.out.2.2 0 (by decide)
           have f1 := Y3.out.2.2 1 (by decide)
           have f2 := Y3.out.2.2 2 (by decide)
           clear b q7 q8)))
    clear t0 t1 e0 e1 u0 u1 u2 f0 f1 f2 HST LD
    have YB := Lib.hid (KB.out.trans (B5.out.mono KB.out.size))
    clear B5 KB X1 X2 X3 X4
    have z2 := Y2.out.set (i := 0) (v := .int .i64 ways) (by simp)
    have z3 := Y3.out.other (p := ⟨w.heap.size + 1, 0, none⟩) (v := .int .i64 ways) (by simp)
    simp only [List.set_cons_succ, List.set_cons_zero] at z2 z3
    have z4 := YB.out.setCell (p := ⟨w.heap.size + 1, 0, none⟩) (by show w.heap.size ≤ _; simp <;> omega) (.int .i64 ways)
    have z5 := OA.out.far (p := ⟨w.heap.size + 1, 0, none⟩) (by show _ < W5.heap.size; simp <;> omega) (.int .i64 ways)
    have z6 := YP.out.far (p := ⟨w.heap.size + 1, 0, none⟩) (by show _ < W5.heap.size; simp <;> omega) (.int .i64 ways)
    clear Y2 Y3 YB OA YP
    generalize World.setCell W6 ⟨w.heap.size + 1, 0, none⟩ (.int .i64 ways) = V1 at *
    have Y2 := Lib.hid z2
    have Y3 := Lib.hid z3
    have YB := Lib.hid z4
    have OA := Lib.hid z5
    have YP := Lib.hid z6
    clear z2 z3 z4 z5 z6
    have z2 := Y2.out.set (i := 1) (v := .slice A9 n c9) (by simp)
    have z3 := Y3.out.other (p := ⟨w.heap.size + 1, 1, none⟩) (v := .slice A9 n c9) (by simp)
    simp only [List.set_cons_succ, List.set_cons_zero] at z2 z3
    have z4 := YB.out.setCell (p := ⟨w.heap.size + 1, 1, none⟩) (by show w.heap.size ≤ _; simp <;> omega) (.slice A9 n c9)
    have z5 := OA.out.far (p := ⟨w.heap.size + 1, 1, none⟩) (by show _ < W5.heap.size; simp <;> omega) (.slice A9 n c9)
    have z6 := YP.out.far (p := ⟨w.heap.size + 1, 1, none⟩) (by show _ < W5.heap.size; simp <;> omega) (.slice A9 n c9)
    clear Y2 Y3 YB OA YP
    generalize World.setCell V1 ⟨w.heap.size + 1, 1, none⟩ (.slice A9 n c9) = V2 at *
    have Y2 := Lib.hid z2
    have Y3 := Lib.hid z3
    have YB := Lib.hid z4
    have OA := Lib.hid z5
    have YP := Lib.hid z6
    clear z2 z3 z4 z5 z6
    have z2 := Y2.out.other (p := ⟨w.heap.size + 1 + 1, 0, none⟩) (v := .int .u32 0) (by simp)
    have z3 := Y3.out.set (i := 0) (v := .int .u32 0) (by simp)
    simp only [List.set_cons_succ, List.set_cons_zero] at z2 z3
    have z4 := YB.out.setCell (p := ⟨w.heap.size + 1 + 1, 0, none⟩) (by show w.heap.size ≤ _; simp <;> omega) (.int .u32 0)
    have z5 := OA.out.far (p := ⟨w.heap.size + 1 + 1, 0, none⟩) (by show _ < W5.heap.size; simp <;> omega) (.int .u32 0)
    have z6 := YP.out.far (p := ⟨w.heap.size + 1 + 1, 0, none⟩) (by show _ < W5.heap.size; simp <;> omega) (.int .u32 0)
    clear Y2 Y3 YB OA YP
    generalize World.setCell V2 ⟨w.heap.size + 1 + 1, 0, none⟩ (.int .u32 0) = V3 at *
    have Y2 := Lib.hid z2
    have Y3 := Lib.hid z3
    have YB := Lib.hid z4
    have OA := Lib.hid z5
    have YP := Lib.hid z6
    clear z2 z3 z4 z5 z6
    have z2 := Y2.out.other (p := ⟨w.heap.size + 1 + 1, 1, none⟩) (v := .bool false) (by simp)
    have z3 := Y3.out.set (i := 1) (v := .bool false) (by simp)
    simp only [List.set_cons_succ, List.set_cons_zero] at z2 z3
    have z4 := YB.out.setCell (p := ⟨w.heap.size + 1 + 1, 1, none⟩) (by show w.heap.size ≤ _; simp <;> omega) (.bool false)
    have z5 := OA.out.far (p := ⟨w.heap.size + 1 + 1, 1, none⟩) (by show _ < W5.heap.size; simp <;> omega) (.bool false)
    have z6 := YP.out.far (p := ⟨w.heap.size + 1 + 1, 1, none⟩) (by show _ < W5.heap.size; simp <;> omega) (.bool false)
    clear Y2 Y3 YB OA YP
    generalize World.setCell V3 ⟨w.heap.size + 1 + 1, 1, none⟩ (.bool false) = V4 at *
    have Y2 := Lib.hid z2
    have Y3 := Lib.hid z3
    have YB := Lib.hid z4
    have OA := Lib.hid z5
    have YP := Lib.hid z6
    clear z2 z3 z4 z5 z6
    have z2 := Y2.out.other (p := ⟨w.heap.size + 1 + 1, 2, none⟩) (v := .string ByteArray.empty) (by simp)
    have z3 := Y3.out.set (i := 2) (v := .string ByteArray.empty) (by simp)
    simp only [List.set_cons_succ, List.set_cons_zero] at z2 z3
    have z4 := YB.out.setCell (p := ⟨w.heap.size + 1 + 1, 2, none⟩) (by show w.heap.size ≤ _; simp <;> omega) (.string ByteArray.empty)
    have z5 := OA.out.far (p := ⟨w.heap.size + 1 + 1, 2, none⟩) (by show _ < W5.heap.size; simp <;> omega) (.string ByteArray.empty)
    have z6 := YP.out.far (p := ⟨w.heap.size + 1 + 1, 2, none⟩) (by show _ < W5.heap.size; simp <;> omega) (.string ByteArray.empty)
    clear Y2 Y3 YB OA YP
    generalize World.setCell V4 ⟨w.heap.size + 1 + 1, 2, none⟩ (.string ByteArray.empty) = V5 at *
    have Y2 := Lib.hid z2
    have Y3 := Lib.hid z3
    have YB := Lib.hid z4
    have OA := Lib.hid z5
    have YP := Lib.hid z6
    clear z2 z3 z4 z5 z6
    go_wp2_with fail
    exact bodyPost_ret (v := .tuple #[.agg #[.int .i64 ways, .slice A9 n c9], .agg #[.int .u32 0, .bool false, .string ByteArray.empty], .bool false]) (results_ccs Try.results22 _ V5 (w.heap.size + 1) (w.heap.size + 1 + 1) [.int .i64 ways, .slice A9 n c9] [.int .u32 0, .bool false, .string ByteArray.empty] (.bool false) _ _ rfl rfl rfl Y2.out Y3.out Try.underlying24 rfl ca_info Try.underlying37 rfl wy_info) rfl
      ⟨A9, c9, (hs).set k q, ret_val (by rw [HPS2.out]; rfl), q1, q2, q3, by
        rw [HPS2.out]
        have := first_sets HDW.out YB.out (by have := OA.out.1; first | exact this | (rw [List.map_set] at this; exact this) | (rw [← List.map_set] at this; exact this)) q4 q5 q6 (by have := YP.out.1; exact this)
        first
          | exact this
          | (rw [List.set_set] at this; exact this)
          | (have e := HSS.out; rw [e] at this; exact this), YB.out⟩
  · have hnw2 : nw = ⟨L, dirty, data⟩ := by
      rw [← hnw]
      unfold newW
      rw [hL, if_pos (by simp at e16; omega)]
    have HNL := Lib.hid (show nw.line = L ∧ nw.dirty = dirty ∧ nw.data = data by rw [hnw2]; exact ⟨rfl, rfl, rfl⟩)
    clear hnw2 hnw hnl
    have hge9 : ways ≤ (s.length : Int) := of_decide_eq_true hwt
    obtain rfl : ways = (s.length : Int) := by omega
    obtain ⟨m0, hm0⟩ : ∃ m, s.length = m + 1 := ⟨s.length - 1, by omega⟩
    have hsub : (s.length : Int) - 1 = (m0 : Int) := by omega
    obtain ⟨gw, hgw⟩ : ∃ r, s[m0]? = some r := ⟨_, List.getElem?_eq_getElem (by omega)⟩
    have HPS2 := Lib.hid (HPS.out.trans (if_neg (by omega)))
    rw [Int.toNat_natCast, show ∀ x : Wy, (x :: s).take s.length = x :: s.take m0 from fun x => by rw [hm0]; rfl, List.getD_eq_getElem?_getD, show ∀ x : Wy, (x :: s)[s.length]? = some gw from fun x => by rw [hm0, List.getElem?_cons_succ]; exact hgw, Option.getD_some] at HPS2
    obtain ⟨gl, gd, gb⟩ := gw
    have HGA := Lib.hid (fun w' (hb : Below w.heap.size w w') => (ZQ.out.below hb).at_ hgw)
    obtain ⟨bq, rfl, -, -, -, -⟩ := ZQ.out.at_ hgw
    obtain ⟨bq', hbq, -, g0, g1, g2⟩ := HGA.out _ KB.out
    cases hbq
    have hms : (m0 : Int) < s.length := by omega
    have hmq : (m0 : Int) ≤ qc := by omega
    have c1 := X1.out.2.1 1 _ rfl
    have cj := (KB.out.cell (p := a.add k) (by rw [block_add]; exact hal)).trans CJ.out
    have HWI := Lib.hid (show (Try.prog.info? 37).map (·.size) = some (#[.int .u32 gl, .bool gd, .string gb] : Array Value).size by kernel_rfl)
    have HWO := Lib.hid (show (#[.int .u32 gl, .bool gd, .string gb] : Array Value).all (·.oneCell') = true by simp [Value.oneCell'])
    go_upto_region 18 with (refine wpList_store_blk3 rfl 37 (.tmp 16) (.tmp 79) rfl b16 _ #[.int .u32 gl, .bool gd, .string gb] X4.out rfl rfl rfl HWI.out HWO.out ?_
                            intro W6 q1 q2 q2f q3 q4
                            have z1 := X1.out.same (by omega) q2 q2f q4
                            have z2 := X2.out.same (by omega) q2 q2f q4
                            have z4 := X3.out.same (by omega) q2 q2f q4
                            have z3 := KB.out.trans (q3 w.heap.size (by omega))
                            clear X1 X2 X3 X4 KB c1 cj g0 g1 g2
                            have X1 := Lib.hid z1
                            have X2 := Lib.hid z2
                            have X3 := Lib.hid z4
                            have KB := Lib.hid z3
                            have X4 := Lib.hid (show Blk W6 b16 [.int .u32 gl, .bool gd, .string gb] from q1)
                            clear z1 z2 z4 z3 q1 q2 q2f q3 q4)
    have c1 := X1.out.2.1 1 _ rfl
    have cj := (KB.out.cell (p := a.add k) (by rw [block_add]; exact hal)).trans CJ.out
    have p1 := fun d os => cell_regrown c1 d os
    have pj := fun d os => cell_regrown cj d os
    try simp only [Act.put]
    refine wp_region_below_tail 9 (by kernel_rfl) (by kernel_rfl) ?_
    simp only [List.take_succ_cons, List.take_zero, List.drop_succ_cons, List.drop_zero]
    repeat (first
      | (go_big_quiet_want; refine quiet_load_mid 24 (.tmp 4) rfl _ rfl _ _ X1.out Try.underlying24 rfl ca_info ?_; simp only [Act.put, List.setIfInBounds_toArray, List.set_cons_succ, List.set_cons_zero]; go_big_quiet_on)
      | (go_big_quiet_step (fail)))
    refine wpQuiet_nil ?_
    intro _ hw'
    obtain ⟨⟨nq2, osq2⟩, hw''⟩ := hw'
    subst hw''
    have b := below_regrown W6 nq2 osq2
    have z7 := X4.out.below b X4.out.1
    clear c1 cj p1 pj X4
    have z1 := X1.out.below b X1.out.1
    have z2 := X2.out.below b X2.out.1
    have z4 := X3.out.below b X3.out.1
    have z3 := KB.out.trans (b.mono KB.out.size)
    clear X1 X2 X3 KB b
    have X1 := Lib.hid z1
    have X2 := Lib.hid z2
    have X3 := Lib.hid z4
    have KB := Lib.hid z3
    clear z1 z2 z3 z4
    have X4 := Lib.hid z7
    clear z7
    generalize grow (redrawn W6 nq2) osq2 = W7 at *
    have hml : m0 ≤ s.length := by omega
    have hmq2 : m0 ≤ qc := by omega
    have hs90 : s.length ≤ 90 := by omega
    clear hm0 hsub hms hmq hsl hw2 hge9 hwt
    go_upto_region 19 with (first
      | (go_at_call 43
         refine (HWS.out ⟨some bq, m0, qc⟩ (s.take m0) _ (HS.out.below KB.out) ⟨hmq2, hqw2, (fun h => by cases h), WaysAt.take (show WaysAt _ _ s.length s from ZQ.out.below KB.out) hml⟩).mono ?_
         rintro e W8 ⟨A1, c1, rfl, n1, n2, n3, n4, -, b⟩
         have O1 := Lib.hid n4
         have z7 := X4.out.below b X4.out.1
         have hlo8 : b16 < W7.heap.size := X4.out.1
         clear X4
         have z1 := X1.out.below b X1.out.1
         have z2 := X2.out.below b X2.out.1
         have z4 := X3.out.below b X3.out.1
         have z3 := KB.out.trans (b.mono KB.out.size)
         clear X1 X2 X3 KB b
         have X1 := Lib.hid z1
         have X2 := Lib.hid z2
         have X3 := Lib.hid z4
         have KB := Lib.hid z3
         clear z1 z2 z3 z4
         have X4 := Lib.hid z7
         have HZI := Lib.hid (show (Try.prog.info? 24).map (·.size) = some (#[.int .i64 (s.length : Int), .slice A1 n c1] : Array Value).size by kernel_rfl)
         have HZO := Lib.hid (show (#[.int .i64 (s.length : Int), .slice A1 n c1] : Array Value).all (·.oneCell') = true by simp [Value.oneCell'])
         clear z7 n4)
      | (refine wpList_store_blk3 rfl 24 (.tmp 4) (.tmp 89) rfl w.heap.size _ #[.int .i64 (s.length : Int), .slice A1 n c1] X1.out rfl rfl rfl HZI.out HZO.out ?_
         intro W5 q1 q2 q2f q3 q4
         have z2 := X2.out.same (by omega) q2 q2f q4
         have z4 := X3.out.same (by omega) q2 q2f q4
         have z7 := X4.out.same (by omega) q2 q2f q4
         have z3 := KB.out.trans (q3 w.heap.size (Nat.le_refl _))
         have S1 := Lib.hid (O1.out.same (b := w.heap.size) (by omega) q2 q2f q4).1
         clear X1 X2 X3 X4 KB O1
         have X1 := Lib.hid (show Blk W5 w.heap.size [.int .i64 (s.length : Int), .slice A1 n c1] from q1)
         have X2 := Lib.hid z2
         have X3 := Lib.hid z4
         have X4 := Lib.hid z7
         have KB := Lib.hid z3
         clear z2 z4 z7 z3 q1 q2 q2f q3 q4))
    have HN1 := Lib.hid n1
    have HDW := Lib.hid (HS.out.2.set k ⟨some bq, m0, qc⟩ (s.take m0) ⟨hmq2, hqw2, (fun h => by cases h), WaysAt.take ZQ.out hml⟩)
    have HT1 := Lib.hid (show (ss.set k (s.take m0))[k]? = some (s.take m0) from List.getElem?_set_self (by omega))
    have HTL := Lib.hid (show (s.take m0).length ≤ 90 by rw [List.length_take]; omega)
    have HNT := Lib.hid (HNA.out m0)
    have HSS := Lib.hid (fun M : List Wy => (show (ss.set k (s.take m0)).set k M = ss.set k M by rw [List.set_set]))
    obtain ⟨hs1, hh1⟩ : ∃ l, hs.set k ⟨some bq, m0, qc⟩ = l := ⟨_, rfl⟩
    obtain ⟨ss1, hh2⟩ : ∃ l, ss.set k (s.take m0) = l := ⟨_, rfl⟩
    obtain ⟨T, hh3⟩ : ∃ l, s.take m0 = l := ⟨_, rfl⟩
    rw [hh1] at HDW S1
    rw [hh2] at HDW HT1 HSS
    rw [hh3] at HT1 HTL HNT HPS2
    clear hh1 hh2 hh3 hgw
    have hne1 : w.heap.size + 1 ≠ w.heap.size := by omega
    have hne2 : w.heap.size + 1 ≠ b16 := by omega
    have hne3 : w.heap.size + 2 ≠ w.heap.size := by omega
    have hne4 : w.heap.size + 2 ≠ b16 := by omega
    have hlo5 : w.heap.size + 2 < W5.heap.size := X3.out.1
    have HST := Lib.hid (fun w' (hb : Below W5.heap.size W5 w') => (show w'.cell? ⟨w.heap.size, 0, none⟩ = some (.int .i64 (s.length : Int)) ∧ w'.cell? ⟨w.heap.size, 1, none⟩ = some (.slice (A1) n c1) ∧ w'.cell? ⟨b16, 0, none⟩ = some (.int .u32 gl) ∧ w'.cell? ⟨b16, 1, none⟩ = some (.bool gd) ∧ w'.cell? ⟨b16, 2, none⟩ = some (.string gb) from
      ⟨(X1.out.below hb X1.out.1).2.1 0 _ rfl, (X1.out.below hb X1.out.1).2.1 1 _ rfl, (X4.out.below hb X4.out.1).2.1 0 _ rfl, (X4.out.below hb X4.out.1).2.1 1 _ rfl, (X4.out.below hb X4.out.1).2.1 2 _ rfl⟩))
    have LD := Lib.hid (show Below W5.heap.size W5 W5.drew from (Below.refl W5.heap.size W5).drew)
    have HFI := Lib.hid (fun W h => first_any (s.length : Int) (A1) n c1 (hs1) (ss1) nw HN1.out (by omega) (by omega) hxr.1 hxr.2 W h k (T) hk' HT1.out HTL.out)
    unfold wyV caV at HFI
    rw [HNT.out, HNL.out.1, HNL.out.2.1, HNL.out.2.2] at HFI
    go_region_held3 (fun w' => w'.cell? ⟨w.heap.size, 0, none⟩ = some (.int .i64 (s.length : Int)) ∧ w'.cell? ⟨w.heap.size, 1, none⟩ = some (.slice (A1) n c1) ∧ w'.cell? ⟨b16, 0, none⟩ = some (.int .u32 gl) ∧ w'.cell? ⟨b16, 1, none⟩ = some (.bool gd) ∧ w'.cell? ⟨b16, 2, none⟩ = some (.string gb))
      ((first
        | with_reducible exact HST.out _ LD.out
        | with_reducible exact HST.out _ B5.out
        | simp [*, World.cell?_setCell_far]))
      ((first
        | (go_at_call 42
           refine (HFI.out _ ⟨RowsAt.below S1.out LD.out, HDW.out.below (KB.out.trans (LD.out.mono KB.out.size))⟩).mono ?_
           rintro e W6 ⟨A9, c9, q, rfl, q1, q2, q3, q4, q5, q6, q7, q8, b⟩
           have B5 := Lib.hid (LD.out.trans b)
           have OA := Lib.hid (show OwnAt W6 W5.heap.size A9 n 1 _ from q7)
           have YP := Lib.hid (show OwnAt W6 W5.heap.size q.at_ q.n 3 _ from q8)
           have Y2 := Lib.hid (X2.out.below B5.out X2.out.1)
           have Y3 := Lib.hid (show Blk W6 (w.heap.size + 1 + 1) [.int .u32 0, .bool false, .string ByteArray.empty] from X3.out.below B5.out X3.out.1)
           have t0 := Y2.out.2.1 0 _ rfl
           have t1 := Y2.out.2.1 1 _ rfl
           have e0 := Y2.out.2.2 0 (by simp)
           have e1 := Y2.out.2.2 1 (by simp)
           have u0 := Y3.out.2.1 0 _ rfl
           have u1 := Y3.out.2.1 1 _ rfl
           have u2 := Y3.out.2.1 2 _ rfl
           have f0 := Y3.out.2.2 0 (by decide)
           have f1 := Y3.out.2.2 1 (by decide)
           have f2 := Y3.out.2.2 2 (by decide)
           clear b q7 q8)))
    clear t0 t1 e0 e1 u0 u1 u2 f0 f1 f2 HST LD
    have YB := Lib.hid (KB.out.trans (B5.out.mono KB.out.size))
    clear B5 KB X1 X2 X3 X4
    have z2 := Y2.out.set (i := 0) (v := .int .i64 (s.length : Int)) (by simp)
    have z3 := Y3.out.other (p := ⟨w.heap.size + 1, 0, none⟩) (v := .int .i64 (s.length : Int)) (by simp)
    simp only [List.set_cons_succ, List.set_cons_zero] at z2 z3
    have z4 := YB.out.setCell (p := ⟨w.heap.size + 1, 0, none⟩) (by show w.heap.size ≤ _; simp <;> omega) (.int .i64 (s.length : Int))
    have z5 := OA.out.far (p := ⟨w.heap.size + 1, 0, none⟩) (by show _ < W5.heap.size; simp <;> omega) (.int .i64 (s.length : Int))
    have z6 := YP.out.far (p := ⟨w.heap.size + 1, 0, none⟩) (by show _ < W5.heap.size; simp <;> omega) (.int .i64 (s.length : Int))
    clear Y2 Y3 YB OA YP
    generalize World.setCell W6 ⟨w.heap.size + 1, 0, none⟩ (.int .i64 (s.length : Int)) = V1 at *
    have Y2 := Lib.hid z2
    have Y3 := Lib.hid z3
    have YB := Lib.hid z4
    have OA := Lib.hid z5
    have YP := Lib.hid z6
    clear z2 z3 z4 z5 z6
    have z2 := Y2.out.set (i := 1) (v := .slice A9 n c9) (by simp)
    have z3 := Y3.out.other (p := ⟨w.heap.size + 1, 1, none⟩) (v := .slice A9 n c9) (by simp)
    simp only [List.set_cons_succ, List.set_cons_zero] at z2 z3
    have z4 := YB.out.setCell (p := ⟨w.heap.size + 1, 1, none⟩) (by show w.heap.size ≤ _; simp <;> omega) (.slice A9 n c9)
    have z5 := OA.out.far (p := ⟨w.heap.size + 1, 1, none⟩) (by show _ < W5.heap.size; simp <;> omega) (.slice A9 n c9)
    have z6 := YP.out.far (p := ⟨w.heap.size + 1, 1, none⟩) (by show _ < W5.heap.size; simp <;> omega) (.slice A9 n c9)
    clear Y2 Y3 YB OA YP
    generalize World.setCell V1 ⟨w.heap.size + 1, 1, none⟩ (.slice A9 n c9) = V2 at *
    have Y2 := Lib.hid z2
    have Y3 := Lib.hid z3
    have YB := Lib.hid z4
    have OA := Lib.hid z5
    have YP := Lib.hid z6
    clear z2 z3 z4 z5 z6
    have z2 := Y2.out.other (p := ⟨w.heap.size + 1 + 1, 0, none⟩) (v := .int .u32 gl) (by simp)
    have z3 := Y3.out.set (i := 0) (v := .int .u32 gl) (by simp)
    simp only [List.set_cons_succ, List.set_cons_zero] at z2 z3
    have z4 := YB.out.setCell (p := ⟨w.heap.size + 1 + 1, 0, none⟩) (by show w.heap.size ≤ _; simp <;> omega) (.int .u32 gl)
    have z5 := OA.out.far (p := ⟨w.heap.size + 1 + 1, 0, none⟩) (by show _ < W5.heap.size; simp <;> omega) (.int .u32 gl)
    have z6 := YP.out.far (p := ⟨w.heap.size + 1 + 1, 0, none⟩) (by show _ < W5.heap.size; simp <;> omega) (.int .u32 gl)
    clear Y2 Y3 YB OA YP
    generalize World.setCell V2 ⟨w.heap.size + 1 + 1, 0, none⟩ (.int .u32 gl) = V3 at *
    have Y2 := Lib.hid z2
    have Y3 := Lib.hid z3
    have YB := Lib.hid z4
    have OA := Lib.hid z5
    have YP := Lib.hid z6
    clear z2 z3 z4 z5 z6
    have z2 := Y2.out.other (p := ⟨w.heap.size + 1 + 1, 1, none⟩) (v := .bool gd) (by simp)
    have z3 := Y3.out.set (i := 1) (v := .bool gd) (by simp)
    simp only [List.set_cons_succ, List.set_cons_zero] at z2 z3
    have z4 := YB.out.setCell (p := ⟨w.heap.size + 1 + 1, 1, none⟩) (by show w.heap.size ≤ _; simp <;> omega) (.bool gd)
    have z5 := OA.out.far (p := ⟨w.heap.size + 1 + 1, 1, none⟩) (by show _ < W5.heap.size; simp <;> omega) (.bool gd)
    have z6 := YP.out.far (p := ⟨w.heap.size + 1 + 1, 1, none⟩) (by show _ < W5.heap.size; simp <;> omega) (.bool gd)
    clear Y2 Y3 YB OA YP
    generalize World.setCell V3 ⟨w.heap.size + 1 + 1, 1, none⟩ (.bool gd) = V4 at *
    have Y2 := Lib.hid z2
    have Y3 := Lib.hid z3
    have YB := Lib.hid z4
    have OA := Lib.hid z5
    have YP := Lib.hid z6
    clear z2 z3 z4 z5 z6
    have z2 := Y2.out.other (p := ⟨w.heap.size + 1 + 1, 2, none⟩) (v := .string gb) (by simp)
    have z3 := Y3.out.set (i := 2) (v := .string gb) (by simp)
    simp only [List.set_cons_succ, List.set_cons_zero] at z2 z3
    have z4 := YB.out.setCell (p := ⟨w.heap.size + 1 + 1, 2, none⟩) (by show w.heap.size ≤ _; simp <;> omega) (.string gb)
    have z5 := OA.out.far (p := ⟨w.heap.size + 1 + 1, 2, none⟩) (by show _ < W5.heap.size; simp <;> omega) (.string gb)
    have z6 := YP.out.far (p := ⟨w.heap.size + 1 + 1, 2, none⟩) (by show _ < W5.heap.size; simp <;> omega) (.string gb)
    clear Y2 Y3 YB OA YP
    generalize World.setCell V4 ⟨w.heap.size + 1 + 1, 2, none⟩ (.string gb) = V5 at *
    have Y2 := Lib.hid z2
    have Y3 := Lib.hid z3
    have YB := Lib.hid z4
    have OA := Lib.hid z5
    have YP := Lib.hid z6
    clear z2 z3 z4 z5 z6
    go_wp2_with fail
    exact bodyPost_ret (v := .tuple #[.agg #[.int .i64 (s.length : Int), .slice A9 n c9], .agg #[.int .u32 gl, .bool gd, .string gb], .bool true]) (results_ccs Try.results22 _ V5 (w.heap.size + 1) (w.heap.size + 1 + 1) [.int .i64 (s.length : Int), .slice A9 n c9] [.int .u32 gl, .bool gd, .string gb] (.bool true) _ _ rfl rfl rfl Y2.out Y3.out Try.underlying24 rfl ca_info Try.underlying37 rfl wy_info) rfl
      ⟨A9, c9, (hs1).set k q, ret_val (by rw [HPS2.out]; rfl), q1, q2, q3, by
        rw [HPS2.out]
        have := first_sets HDW.out YB.out (by have := OA.out.1; first | exact this | (rw [List.map_set] at this; exact this) | (rw [← List.map_set] at this; exact this)) q4 q5 q6 (by have := YP.out.1; exact this)
        first
          | exact this
          | (rw [List.set_set] at this; exact this)
          | (have e := HSS.out; rw [e] at this; exact this), YB.out⟩
  · have hnw2 : nw = ⟨L, dirty, ByteArray.empty⟩ := by
      rw [← hnw]
      unfold newW
      rw [hL, if_neg (by simp at e16; omega)]
    have HNL := Lib.hid (show nw.line = L ∧ nw.dirty = dirty ∧ nw.data = ⟨#[]⟩ by rw [hnw2]; exact ⟨rfl, rfl, rfl⟩)
    clear hnw2 hnw hnl
    go_upto_region 19 with fail
    have hlt9 : ¬ ways ≤ (s.length : Int) := of_decide_eq_false hwt
    have HPS2 := Lib.hid (HPS.out.trans (if_pos (by omega)))
    have HN1 := Lib.hid hn
    have S1 := Lib.hid (HS.out.below KB.out).1
    have HDW := Lib.hid HS.out.2
    have HT1 := HSK
    have HTL := Lib.hid (show s.length ≤ 90 by omega)
    have HNT := Lib.hid (show accS nw s s.length = nw :: s by have := HNA.out s.length; rwa [List.take_of_length_le (Nat.le_refl _)] at this)
    have HSS := Lib.hid (fun M : List Wy => (rfl : ss.set k M = ss.set k M))
    have hne1 : w.heap.size + 1 ≠ w.heap.size := by omega
    have hne2 : w.heap.size + 1 ≠ b16 := by omega
    have hne3 : w.heap.size + 2 ≠ w.heap.size := by omega
    have hne4 : w.heap.size + 2 ≠ b16 := by omega
    have hlo5 : w.heap.size + 2 < W5.heap.size := X3.out.1
    have HST := Lib.hid (fun w' (hb : Below W5.heap.size W5 w') => (show w'.cell? ⟨w.heap.size, 0, none⟩ = some (.int .i64 ways) ∧ w'.cell? ⟨w.heap.size, 1, none⟩ = some (.slice (some a) n cap) ∧ w'.cell? ⟨b16, 0, none⟩ = some (.int .u32 0) ∧ w'.cell? ⟨b16, 1, none⟩ = some (.bool false) ∧ w'.cell? ⟨b16, 2, none⟩ = some (.string ByteArray.empty) from
      ⟨(X1.out.below hb X1.out.1).2.1 0 _ rfl, (X1.out.below hb X1.out.1).2.1 1 _ rfl, (X4.out.below hb X4.out.1).2.1 0 _ rfl, (X4.out.below hb X4.out.1).2.1 1 _ rfl, (X4.out.below hb X4.out.1).2.1 2 _ rfl⟩))
    have LD := Lib.hid (show Below W5.heap.size W5 W5.drew from (Below.refl W5.heap.size W5).drew)
    have HFI := Lib.hid (fun W h => first_any ways (some a) n cap (hs) (ss) nw HN1.out (by omega) (by omega) hxr.1 hxr.2 W h k (s) hk' HT1.out HTL.out)
    unfold wyV caV at HFI
    rw [HNT.out, HNL.out.1, HNL.out.2.1, HNL.out.2.2] at HFI
    go_region_held3 (fun w' => w'.cell? ⟨w.heap.size, 0, none⟩ = some (.int .i64 ways) ∧ w'.cell? ⟨w.heap.size, 1, none⟩ = some (.slice (some a) n cap) ∧ w'.cell? ⟨b16, 0, none⟩ = some (.int .u32 0) ∧ w'.cell? ⟨b16, 1, none⟩ = some (.bool false) ∧ w'.cell? ⟨b16, 2, none⟩ = some (.string ByteArray.empty))
      ((first
        | with_reducible exact HST.out _ LD.out
        | with_reducible exact HST.out _ B5.out
        | simp [*, World.cell?_setCell_far]))
      ((first
        | (go_at_call 42
           refine (HFI.out _ ⟨RowsAt.below S1.out LD.out, HDW.out.below (KB.out.trans (LD.out.mono KB.out.size))⟩).mono ?_
           rintro e W6 ⟨A9, c9, q, rfl, q1, q2, q3, q4, q5, q6, q7, q8, b⟩
           have B5 := Lib.hid (LD.out.trans b)
           have OA := Lib.hid (show OwnAt W6 W5.heap.size A9 n 1 _ from q7)
           have YP := Lib.hid (show OwnAt W6 W5.heap.size q.at_ q.n 3 _ from q8)
           have Y2 := Lib.hid (X2.out.below B5.out X2.out.1)
           have Y3 := Lib.hid (show Blk W6 (w.heap.size + 1 + 1) [.int .u32 0, .bool false, .string ByteArray.empty] from X3.out.below B5.out X3.out.1)
           have t0 := Y2.out.2.1 0 _ rfl
           have t1 := Y2.out.2.1 1 _ rfl
           have e0 := Y2.out.2.2 0 (by simp)
           have e1 := Y2.out.2.2 1 (by simp)
           have u0 := Y3.out.2.1 0 _ rfl
           have u1 := Y3.out.2.1 1 _ rfl
           have u2 := Y3.out.2.1 2 _ rfl
           have f0 := Y3.out.2.2 0 (by decide)
           have f1 := Y3.out.2.2 1 (by decide)
           have f2 := Y3.out.2.2 2 (by decide)
           clear b q7 q8)))
    clear t0 t1 e0 e1 u0 u1 u2 f0 f1 f2 HST LD
    have YB := Lib.hid (KB.out.trans (B5.out.mono KB.out.size))
    clear B5 KB X1 X2 X3 X4
    have z2 := Y2.out.set (i := 0) (v := .int .i64 ways) (by simp)
    have z3 := Y3.out.other (p := ⟨w.heap.size + 1, 0, none⟩) (v := .int .i64 ways) (by simp)
    simp only [List.set_cons_succ, List.set_cons_zero] at z2 z3
    have z4 := YB.out.setCell (p := ⟨w.heap.size + 1, 0, none⟩) (by show w.heap.size ≤ _; simp <;> omega) (.int .i64 ways)
    have z5 := OA.out.far (p := ⟨w.heap.size + 1, 0, none⟩) (by show _ < W5.heap.size; simp <;> omega) (.int .i64 ways)
    have z6 := YP.out.far (p := ⟨w.heap.size + 1, 0, none⟩) (by show _ < W5.heap.size; simp <;> omega) (.int .i64 ways)
    clear Y2 Y3 YB OA YP
    generalize World.setCell W6 ⟨w.heap.size + 1, 0, none⟩ (.int .i64 ways) = V1 at *
    have Y2 := Lib.hid z2
    have Y3 := Lib.hid z3
    have YB := Lib.hid z4
    have OA := Lib.hid z5
    have YP := Lib.hid z6
    clear z2 z3 z4 z5 z6
    have z2 := Y2.out.set (i := 1) (v := .slice A9 n c9) (by simp)
    have z3 := Y3.out.other (p := ⟨w.heap.size + 1, 1, none⟩) (v := .slice A9 n c9) (by simp)
    simp only [List.set_cons_succ, List.set_cons_zero] at z2 z3
    have z4 := YB.out.setCell (p := ⟨w.heap.size + 1, 1, none⟩) (by show w.heap.size ≤ _; simp <;> omega) (.slice A9 n c9)
    have z5 := OA.out.far (p := ⟨w.heap.size + 1, 1, none⟩) (by show _ < W5.heap.size; simp <;> omega) (.slice A9 n c9)
    have z6 := YP.out.far (p := ⟨w.heap.size + 1, 1, none⟩) (by show _ < W5.heap.size; simp <;> omega) (.slice A9 n c9)
    clear Y2 Y3 YB OA YP
    generalize World.setCell V1 ⟨w.heap.size + 1, 1, none⟩ (.slice A9 n c9) = V2 at *
    have Y2 := Lib.hid z2
    have Y3 := Lib.hid z3
    have YB := Lib.hid z4
    have OA := Lib.hid z5
    have YP := Lib.hid z6
    clear z2 z3 z4 z5 z6
    have z2 := Y2.out.other (p := ⟨w.heap.size + 1 + 1, 0, none⟩) (v := .int .u32 0) (by simp)
    have z3 := Y3.out.set (i := 0) (v := .int .u32 0) (by simp)
    simp only [List.set_cons_succ, List.set_cons_zero] at z2 z3
    have z4 := YB.out.setCell (p := ⟨w.heap.size + 1 + 1, 0, none⟩) (by show w.heap.size ≤ _; simp <;> omega) (.int .u32 0)
    have z5 := OA.out.far (p := ⟨w.heap.size + 1 + 1, 0, none⟩) (by show _ < W5.heap.size; simp <;> omega) (.int .u32 0)
    have z6 := YP.out.far (p := ⟨w.heap.size + 1 + 1, 0, none⟩) (by show _ < W5.heap.size; simp <;> omega) (.int .u32 0)
    clear Y2 Y3 YB OA YP
    generalize World.setCell V2 ⟨w.heap.size + 1 + 1, 0, none⟩ (.int .u32 0) = V3 at *
    have Y2 := Lib.hid z2
    have Y3 := Lib.hid z3
    have YB := Lib.hid z4
    have OA := Lib.hid z5
    have YP := Lib.hid z6
    clear z2 z3 z4 z5 z6
    have z2 := Y2.out.other (p := ⟨w.heap.size + 1 + 1, 1, none⟩) (v := .bool false) (by simp)
    have z3 := Y3.out.set (i := 1) (v := .bool false) (by simp)
    simp only [List.set_cons_succ, List.set_cons_zero] at z2 z3
    have z4 := YB.out.setCell (p := ⟨w.heap.size + 1 + 1, 1, none⟩) (by show w.heap.size ≤ _; simp <;> omega) (.bool false)
    have z5 := OA.out.far (p := ⟨w.heap.size + 1 + 1, 1, none⟩) (by show _ < W5.heap.size; simp <;> omega) (.bool false)
    have z6 := YP.out.far (p := ⟨w.heap.size + 1 + 1, 1, none⟩) (by show _ < W5.heap.size; simp <;> omega) (.bool false)
    clear Y2 Y3 YB OA YP
    generalize World.setCell V3 ⟨w.heap.size + 1 + 1, 1, none⟩ (.bool false) = V4 at *
    have Y2 := Lib.hid z2
    have Y3 := Lib.hid z3
    have YB := Lib.hid z4
    have OA := Lib.hid z5
    have YP := Lib.hid z6
    clear z2 z3 z4 z5 z6
    have z2 := Y2.out.other (p := ⟨w.heap.size + 1 + 1, 2, none⟩) (v := .string ByteArray.empty) (by simp)
    have z3 := Y3.out.set (i := 2) (v := .string ByteArray.empty) (by simp)
    simp only [List.set_cons_succ, List.set_cons_zero] at z2 z3
    have z4 := YB.out.setCell (p := ⟨w.heap.size + 1 + 1, 2, none⟩) (by show w.heap.size ≤ _; simp <;> omega) (.string ByteArray.empty)
    have z5 := OA.out.far (p := ⟨w.heap.size + 1 + 1, 2, none⟩) (by show _ < W5.heap.size; simp <;> omega) (.string ByteArray.empty)
    have z6 := YP.out.far (p := ⟨w.heap.size + 1 + 1, 2, none⟩) (by show _ < W5.heap.size; simp <;> omega) (.string ByteArray.empty)
    clear Y2 Y3 YB OA YP
    generalize World.setCell V4 ⟨w.heap.size + 1 + 1, 2, none⟩ (.string ByteArray.empty) = V5 at *
    have Y2 := Lib.hid z2
    have Y3 := Lib.hid z3
    have YB := Lib.hid z4
    have OA := Lib.hid z5
    have YP := Lib.hid z6
    clear z2 z3 z4 z5 z6
    go_wp2_with fail
    exact bodyPost_ret (v := .tuple #[.agg #[.int .i64 ways, .slice A9 n c9], .agg #[.int .u32 0, .bool false, .string ByteArray.empty], .bool false]) (results_ccs Try.results22 _ V5 (w.heap.size + 1) (w.heap.size + 1 + 1) [.int .i64 ways, .slice A9 n c9] [.int .u32 0, .bool false, .string ByteArray.empty] (.bool false) _ _ rfl rfl rfl Y2.out Y3.out Try.underlying24 rfl ca_info Try.underlying37 rfl wy_info) rfl
      ⟨A9, c9, (hs).set k q, ret_val (by rw [HPS2.out]; rfl), q1, q2, q3, by
        rw [HPS2.out]
        have := first_sets HDW.out YB.out (by have := OA.out.1; first | exact this | (rw [List.map_set] at this; exact this) | (rw [← List.map_set] at this; exact this)) q4 q5 q6 (by have := YP.out.1; exact this)
        first
          | exact this
          | (rw [List.set_set] at this; exact this)
          | (have e := HSS.out; rw [e] at this; exact this), YB.out⟩
  · have hnw2 : nw = ⟨L, dirty, ByteArray.empty⟩ := by
      rw [← hnw]
      unfold newW
      rw [hL, if_neg (by simp at e16; omega)]
    have HNL := Lib.hid (show nw.line = L ∧ nw.dirty = dirty ∧ nw.data = ⟨#[]⟩ by rw [hnw2]; exact ⟨rfl, rfl, rfl⟩)
    clear hnw2 hnw hnl
    have hge9 : ways ≤ (s.length : Int) := of_decide_eq_true hwt
    obtain rfl : ways = (s.length : Int) := by omega
    obtain ⟨m0, hm0⟩ : ∃ m, s.length = m + 1 := ⟨s.length - 1, by omega⟩
    have hsub : (s.length : Int) - 1 = (m0 : Int) := by omega
    obtain ⟨gw, hgw⟩ : ∃ r, s[m0]? = some r := ⟨_, List.getElem?_eq_getElem (by omega)⟩
    have HPS2 := Lib.hid (HPS.out.trans (if_neg (by omega)))
    rw [Int.toNat_natCast, show ∀ x : Wy, (x :: s).take s.length = x :: s.take m0 from fun x => by rw [hm0]; rfl, List.getD_eq_getElem?_getD, show ∀ x : Wy, (x :: s)[s.length]? = some gw from fun x => by rw [hm0, List.getElem?_cons_succ]; exact hgw, Option.getD_some] at HPS2
    obtain ⟨gl, gd, gb⟩ := gw
    have HGA := Lib.hid (fun w' (hb : Below w.heap.size w w') => (ZQ.out.below hb).at_ hgw)
    obtain ⟨bq, rfl, -, -, -, -⟩ := ZQ.out.at_ hgw
    obtain ⟨bq', hbq, -, g0, g1, g2⟩ := HGA.out _ KB.out
    cases hbq
    have hms : (m0 : Int) < s.length := by omega
    have hmq : (m0 : Int) ≤ qc := by omega
    have c1 := X1.out.2.1 1 _ rfl
    have cj := (KB.out.cell (p := a.add k) (by rw [block_add]; exact hal)).trans CJ.out
    have HWI := Lib.hid (show (Try.prog.info? 37).map (·.size) = some (#[.int .u32 gl, .bool gd, .string gb] : Array Value).size by kernel_rfl)
    have HWO := Lib.hid (show (#[.int .u32 gl, .bool gd, .string gb] : Array Value).all (·.oneCell') = true by simp [Value.oneCell'])
    go_upto_region 18 with (refine wpList_store_blk3 rfl 37 (.tmp 16) (.tmp 79) rfl b16 _ #[.int .u32 gl, .bool gd, .string gb] X4.out rfl rfl rfl HWI.out HWO.out ?_
                            intro W6 q1 q2 q2f q3 q4
                            have z1 := X1.out.same (by omega) q2 q2f q4
                            have z2 := X2.out.same (by omega) q2 q2f q4
                            have z4 := X3.out.same (by omega) q2 q2f q4
                            have z3 := KB.out.trans (q3 w.heap.size (by omega))
                            clear X1 X2 X3 X4 KB c1 cj g0 g1 g2
                            have X1 := Lib.hid z1
                            have X2 := Lib.hid z2
                            have X3 := Lib.hid z4
                            have KB := Lib.hid z3
                            have X4 := Lib.hid (show Blk W6 b16 [.int .u32 gl, .bool gd, .string gb] from q1)
                            clear z1 z2 z4 z3 q1 q2 q2f q3 q4)
    have c1 := X1.out.2.1 1 _ rfl
    have cj := (KB.out.cell (p := a.add k) (by rw [block_add]; exact hal)).trans CJ.out
    have p1 := fun d os => cell_regrown c1 d os
    have pj := fun d os => cell_regrown cj d os
    try simp only [Act.put]
    refine wp_region_below_tail 9 (by kernel_rfl) (by kernel_rfl) ?_
    simp only [List.take_succ_cons, List.take_zero, List.drop_succ_cons, List.drop_zero]
    repeat (first
      | (go_big_quiet_want; refine quiet_load_mid 24 (.tmp 4) rfl _ rfl _ _ X1.out Try.underlying24 rfl ca_info ?_; simp only [Act.put, List.setIfInBounds_toArray, List.set_cons_succ, List.set_cons_zero]; go_big_quiet_on)
      | (go_big_quiet_step (fail)))
    refine wpQuiet_nil ?_
    intro _ hw'
    obtain ⟨⟨nq2, osq2⟩, hw''⟩ := hw'
    subst hw''
    have b := below_regrown W6 nq2 osq2
    have z7 := X4.out.below b X4.out.1
    clear c1 cj p1 pj X4
    have z1 := X1.out.below b X1.out.1
    have z2 := X2.out.below b X2.out.1
    have z4 := X3.out.below b X3.out.1
    have z3 := KB.out.trans (b.mono KB.out.size)
    clear X1 X2 X3 KB b
    have X1 := Lib.hid z1
    have X2 := Lib.hid z2
    have X3 := Lib.hid z4
    have KB := Lib.hid z3
    clear z1 z2 z3 z4
    have X4 := Lib.hid z7
    clear z7
    generalize grow (redrawn W6 nq2) osq2 = W7 at *
    have hml : m0 ≤ s.length := by omega
    have hmq2 : m0 ≤ qc := by omega
    have hs90 : s.length ≤ 90 := by omega
    clear hm0 hsub hms hmq hsl hw2 hge9 hwt
    go_upto_region 19 with (first
      | (go_at_call 43
         refine (HWS.out ⟨some bq, m0, qc⟩ (s.take m0) _ (HS.out.below KB.out) ⟨hmq2, hqw2, (fun h => by cases h), WaysAt.take (show WaysAt _ _ s.length s from ZQ.out.below KB.out) hml⟩).mono ?_
         rintro e W8 ⟨A1, c1, rfl, n1, n2, n3, n4, -, b⟩
         have O1 := Lib.hid n4
         have z7 := X4.out.below b X4.out.1
         have hlo8 : b16 < W7.heap.size := X4.out.1
         clear X4
         have z1 := X1.out.below b X1.out.1
         have z2 := X2.out.below b X2.out.1
         have z4 := X3.out.below b X3.out.1
         have z3 := KB.out.trans (b.mono KB.out.size)
         clear X1 X2 X3 KB b
         have X1 := Lib.hid z1
         have X2 := Lib.hid z2
         have X3 := Lib.hid z4
         have KB := Lib.hid z3
         clear z1 z2 z3 z4
         have X4 := Lib.hid z7
         have HZI := Lib.hid (show (Try.prog.info? 24).map (·.size) = some (#[.int .i64 (s.length : Int), .slice A1 n c1] : Array Value).size by kernel_rfl)
         have HZO := Lib.hid (show (#[.int .i64 (s.length : Int), .slice A1 n c1] : Array Value).all (·.oneCell') = true by simp [Value.oneCell'])
         clear z7 n4)
      | (refine wpList_store_blk3 rfl 24 (.tmp 4) (.tmp 89) rfl w.heap.size _ #[.int .i64 (s.length : Int), .slice A1 n c1] X1.out rfl rfl rfl HZI.out HZO.out ?_
         intro W5 q1 q2 q2f q3 q4
         have z2 := X2.out.same (by omega) q2 q2f q4
         have z4 := X3.out.same (by omega) q2 q2f q4
         have z7 := X4.out.same (by omega) q2 q2f q4
         have z3 := KB.out.trans (q3 w.heap.size (Nat.le_refl _))
         have S1 := Lib.hid (O1.out.same (b := w.heap.size) (by omega) q2 q2f q4).1
         clear X1 X2 X3 X4 KB O1
         have X1 := Lib.hid (show Blk W5 w.heap.size [.int .i64 (s.length : Int), .slice A1 n c1] from q1)
         have X2 := Lib.hid z2
         have X3 := Lib.hid z4
         have X4 := Lib.hid z7
         have KB := Lib.hid z3
         clear z2 z4 z7 z3 q1 q2 q2f q3 q4))
    have HN1 := Lib.hid n1
    have HDW := Lib.hid (HS.out.2.set k ⟨some bq, m0, qc⟩ (s.take m0) ⟨hmq2, hqw2, (fun h => by cases h), WaysAt.take ZQ.out hml⟩)
    have HT1 := Lib.hid (show (ss.set k (s.take m0))[k]? = some (s.take m0) from List.getElem?_set_self (by omega))
    have HTL := Lib.hid (show (s.take m0).length ≤ 90 by rw [List.length_take]; omega)
    have HNT := Lib.hid (HNA.out m0)
    have HSS := Lib.hid (fun M : List Wy => (show (ss.set k (s.take m0)).set k M = ss.set k M by rw [List.set_set]))
    obtain ⟨hs1, hh1⟩ : ∃ l, hs.set k ⟨some bq, m0, qc⟩ = l := ⟨_, rfl⟩
    obtain ⟨ss1, hh2⟩ : ∃ l, ss.set k (s.take m0) = l := ⟨_, rfl⟩
    obtain ⟨T, hh3⟩ : ∃ l, s.take m0 = l := ⟨_, rfl⟩
    rw [hh1] at HDW S1
    rw [hh2] at HDW HT1 HSS
    rw [hh3] at HT1 HTL HNT HPS2
    clear hh1 hh2 hh3 hgw
    have hne1 : w.heap.size + 1 ≠ w.heap.size := by omega
    have hne2 : w.heap.size + 1 ≠ b16 := by omega
    have hne3 : w.heap.size + 2 ≠ w.heap.size := by omega
    have hne4 : w.heap.size + 2 ≠ b16 := by omega
    have hlo5 : w.heap.size + 2 < W5.heap.size := X3.out.1
    have HST := Lib.hid (fun w' (hb : Below W5.heap.size W5 w') => (show w'.cell? ⟨w.heap.size, 0, none⟩ = some (.int .i64 (s.length : Int)) ∧ w'.cell? ⟨w.heap.size, 1, none⟩ = some (.slice (A1) n c1) ∧ w'.cell? ⟨b16, 0, none⟩ = some (.int .u32 gl) ∧ w'.cell? ⟨b16, 1, none⟩ = some (.bool gd) ∧ w'.cell? ⟨b16, 2, none⟩ = some (.string gb) from
      ⟨(X1.out.below hb X1.out.1).2.1 0 _ rfl, (X1.out.below hb X1.out.1).2.1 1 _ rfl, (X4.out.below hb X4.out.1).2.1 0 _ rfl, (X4.out.below hb X4.out.1).2.1 1 _ rfl, (X4.out.below hb X4.out.1).2.1 2 _ rfl⟩))
    have LD := Lib.hid (show Below W5.heap.size W5 W5.drew from (Below.refl W5.heap.size W5).drew)
    have HFI := Lib.hid (fun W h => first_any (s.length : Int) (A1) n c1 (hs1) (ss1) nw HN1.out (by omega) (by omega) hxr.1 hxr.2 W h k (T) hk' HT1.out HTL.out)
    unfold wyV caV at HFI
    rw [HNT.out, HNL.out.1, HNL.out.2.1, HNL.out.2.2] at HFI
    go_region_held3 (fun w' => w'.cell? ⟨w.heap.size, 0, none⟩ = some (.int .i64 (s.length : Int)) ∧ w'.cell? ⟨w.heap.size, 1, none⟩ = some (.slice (A1) n c1) ∧ w'.cell? ⟨b16, 0, none⟩ = some (.int .u32 gl) ∧ w'.cell? ⟨b16, 1, none⟩ = some (.bool gd) ∧ w'.cell? ⟨b16, 2, none⟩ = some (.string gb))
      ((first
        | with_reducible exact HST.out _ LD.out
        | with_reducible exact HST.out _ B5.out
        | simp [*, World.cell?_setCell_far]))
      ((first
        | (go_at_call 42
           refine (HFI.out _ ⟨RowsAt.below S1.out LD.out, HDW.out.below (KB.out.trans (LD.out.mono KB.out.size))⟩).mono ?_
           rintro e W6 ⟨A9, c9, q, rfl, q1, q2, q3, q4, q5, q6, q7, q8, b⟩
           have B5 := Lib.hid (LD.out.trans b)
           have OA := Lib.hid (show OwnAt W6 W5.heap.size A9 n 1 _ from q7)
           have YP := Lib.hid (show OwnAt W6 W5.heap.size q.at_ q.n 3 _ from q8)
           have Y2 := Lib.hid (X2.out.below B5.out X2.out.1)
           have Y3 := Lib.hid (show Blk W6 (w.heap.size + 1 + 1) [.int .u32 0, .bool false, .string ByteArray.empty] from X3.out.below B5.out X3.out.1)
           have t0 := Y2.out.2.1 0 _ rfl
           have t1 := Y2.out.2.1 1 _ rfl
           have e0 := Y2.out.2.2 0 (by simp)
           have e1 := Y2.out.2.2 1 (by simp)
           have u0 := Y3.out.2.1 0 _ rfl
           have u1 := Y3.out.2.1 1 _ rfl
           have u2 := Y3.out.2.1 2 _ rfl
           have f0 := Y3.out.2.2 0 (by decide)
           have f1 := Y3.out.2.2 1 (by decide)
           have f2 := Y3.out.2.2 2 (by decide)
           clear b q7 q8)))
    clear t0 t1 e0 e1 u0 u1 u2 f0 f1 f2 HST LD
    have YB := Lib.hid (KB.out.trans (B5.out.mono KB.out.size))
    clear B5 KB X1 X2 X3 X4
    have z2 := Y2.out.set (i := 0) (v := .int .i64 (s.length : Int)) (by simp)
    have z3 := Y3.out.other (p := ⟨w.heap.size + 1, 0, none⟩) (v := .int .i64 (s.length : Int)) (by simp)
    simp only [List.set_cons_succ, List.set_cons_zero] at z2 z3
    have z4 := YB.out.setCell (p := ⟨w.heap.size + 1, 0, none⟩) (by show w.heap.size ≤ _; simp <;> omega) (.int .i64 (s.length : Int))
    have z5 := OA.out.far (p := ⟨w.heap.size + 1, 0, none⟩) (by show _ < W5.heap.size; simp <;> omega) (.int .i64 (s.length : Int))
    have z6 := YP.out.far (p := ⟨w.heap.size + 1, 0, none⟩) (by show _ < W5.heap.size; simp <;> omega) (.int .i64 (s.length : Int))
    clear Y2 Y3 YB OA YP
    generalize World.setCell W6 ⟨w.heap.size + 1, 0, none⟩ (.int .i64 (s.length : Int)) = V1 at *
    have Y2 := Lib.hid z2
    have Y3 := Lib.hid z3
    have YB := Lib.hid z4
    have OA := Lib.hid z5
    have YP := Lib.hid z6
    clear z2 z3 z4 z5 z6
    have z2 := Y2.out.set (i := 1) (v := .slice A9 n c9) (by simp)
    have z3 := Y3.out.other (p := ⟨w.heap.size + 1, 1, none⟩) (v := .slice A9 n c9) (by simp)
    simp only [List.set_cons_succ, List.set_cons_zero] at z2 z3
    have z4 := YB.out.setCell (p := ⟨w.heap.size + 1, 1, none⟩) (by show w.heap.size ≤ _; simp <;> omega) (.slice A9 n c9)
    have z5 := OA.out.far (p := ⟨w.heap.size + 1, 1, none⟩) (by show _ < W5.heap.size; simp <;> omega) (.slice A9 n c9)
    have z6 := YP.out.far (p := ⟨w.heap.size + 1, 1, none⟩) (by show _ < W5.heap.size; simp <;> omega) (.slice A9 n c9)
    clear Y2 Y3 YB OA YP
    generalize World.setCell V1 ⟨w.heap.size + 1, 1, none⟩ (.slice A9 n c9) = V2 at *
    have Y2 := Lib.hid z2
    have Y3 := Lib.hid z3
    have YB := Lib.hid z4
    have OA := Lib.hid z5
    have YP := Lib.hid z6
    clear z2 z3 z4 z5 z6
    have z2 := Y2.out.other (p := ⟨w.heap.size + 1 + 1, 0, none⟩) (v := .int .u32 gl) (by simp)
    have z3 := Y3.out.set (i := 0) (v := .int .u32 gl) (by simp)
    simp only [List.set_cons_succ, List.set_cons_zero] at z2 z3
    have z4 := YB.out.setCell (p := ⟨w.heap.size + 1 + 1, 0, none⟩) (by show w.heap.size ≤ _; simp <;> omega) (.int .u32 gl)
    have z5 := OA.out.far (p := ⟨w.heap.size + 1 + 1, 0, none⟩) (by show _ < W5.heap.size; simp <;> omega) (.int .u32 gl)
    have z6 := YP.out.far (p := ⟨w.heap.size + 1 + 1, 0, none⟩) (by show _ < W5.heap.size; simp <;> omega) (.int .u32 gl)
    clear Y2 Y3 YB OA YP
    generalize World.setCell V2 ⟨w.heap.size + 1 + 1, 0, none⟩ (.int .u32 gl) = V3 at *
    have Y2 := Lib.hid z2
    have Y3 := Lib.hid z3
    have YB := Lib.hid z4
    have OA := Lib.hid z5
    have YP := Lib.hid z6
    clear z2 z3 z4 z5 z6
    have z2 := Y2.out.other (p := ⟨w.heap.size + 1 + 1, 1, none⟩) (v := .bool gd) (by simp)
    have z3 := Y3.out.set (i := 1) (v := .bool gd) (by simp)
    simp only [List.set_cons_succ, List.set_cons_zero] at z2 z3
    have z4 := YB.out.setCell (p := ⟨w.heap.size + 1 + 1, 1, none⟩) (by show w.heap.size ≤ _; simp <;> omega) (.bool gd)
    have z5 := OA.out.far (p := ⟨w.heap.size + 1 + 1, 1, none⟩) (by show _ < W5.heap.size; simp <;> omega) (.bool gd)
    have z6 := YP.out.far (p := ⟨w.heap.size + 1 + 1, 1, none⟩) (by show _ < W5.heap.size; simp <;> omega) (.bool gd)
    clear Y2 Y3 YB OA YP
    generalize World.setCell V3 ⟨w.heap.size + 1 + 1, 1, none⟩ (.bool gd) = V4 at *
    have Y2 := Lib.hid z2
    have Y3 := Lib.hid z3
    have YB := Lib.hid z4
    have OA := Lib.hid z5
    have YP := Lib.hid z6
    clear z2 z3 z4 z5 z6
    have z2 := Y2.out.other (p := ⟨w.heap.size + 1 + 1, 2, none⟩) (v := .string gb) (by simp)
    have z3 := Y3.out.set (i := 2) (v := .string gb) (by simp)
    simp only [List.set_cons_succ, List.set_cons_zero] at z2 z3
    have z4 := YB.out.setCell (p := ⟨w.heap.size + 1 + 1, 2, none⟩) (by show w.heap.size ≤ _; simp <;> omega) (.string gb)
    have z5 := OA.out.far (p := ⟨w.heap.size + 1 + 1, 2, none⟩) (by show _ < W5.heap.size; simp <;> omega) (.string gb)
    have z6 := YP.out.far (p := ⟨w.heap.size + 1 + 1, 2, none⟩) (by show _ < W5.heap.size; simp <;> omega) (.string gb)
    clear Y2 Y3 YB OA YP
    generalize World.setCell V4 ⟨w.heap.size + 1 + 1, 2, none⟩ (.string gb) = V5 at *
    have Y2 := Lib.hid z2
    have Y3 := Lib.hid z3
    have YB := Lib.hid z4
    have OA := Lib.hid z5
    have YP := Lib.hid z6
    clear z2 z3 z4 z5 z6
    go_wp2_with fail
    exact bodyPost_ret (v := .tuple #[.agg #[.int .i64 (s.length : Int), .slice A9 n c9], .agg #[.int .u32 gl, .bool gd, .string gb], .bool true]) (results_ccs Try.results22 _ V5 (w.heap.size + 1) (w.heap.size + 1 + 1) [.int .i64 (s.length : Int), .slice A9 n c9] [.int .u32 gl, .bool gd, .string gb] (.bool true) _ _ rfl rfl rfl Y2.out Y3.out Try.underlying24 rfl ca_info Try.underlying37 rfl wy_info) rfl
      ⟨A9, c9, (hs1).set k q, ret_val (by rw [HPS2.out]; rfl), q1, q2, q3, by
        rw [HPS2.out]
        have := first_sets HDW.out YB.out (by have := OA.out.1; first | exact this | (rw [List.map_set] at this; exact this) | (rw [← List.map_set] at this; exact this)) q4 q5 q6 (by have := YP.out.1; exact this)
        first
          | exact this
          | (rw [List.set_set] at this; exact this)
          | (have e := HSS.out; rw [e] at this; exact this), YB.out⟩
end Go.Proofs.Ytcgahdmacngipaa
