/- THE CONTRACTS of auspexref10.Get, First, Touch. -/
import Derived.Test.YtcgahdmacngipaaRef10W
namespace Go.Proofs.Ytcgahdmacngipaa
open Go.ChangeShapes Go.WideShapes Go.ChangeAt Go.RowKit Go.Sort
set_option linter.unusedVariables false
set_option linter.unusedSimpArgs false
set_option maxHeartbeats 4000000
set_option maxRecDepth 100000

theorem get_any (ways : Int) (A : Option Addr) (n cap : Nat) (hs : List Hd) (ss : List (List Wy)) (line : Int) (hn : n ≤ cap) (hc : cap ≤ maxLen) (hss : setsOK ss) (h0 : 0 ≤ line) (h1 : line < 4294967296) (w : World) (hS : SetsAt w A n hs ss)
    (k i : Nat) (s : List Wy) (x : Wy) (hsk : ss[k]? = some s) (hx : s[i]? = some x) (hf : findS ways ss line = ((k : Int), (i : Int), true)) :
    Calls Try.prog 32 #[caV ways A n cap, .int .u32 line] w fun e w' => e = .returned (wyV x) ∧ Below w.heap.size w w' := by
  have HF := Lib.hid (fun w h => refFind_any ways A n cap hs ss line hn hc hss h0 h1 w h)
  have HS := Lib.hid hS
  have hl := hS.len
  have hil := (List.getElem?_eq_some_iff.1 hx).1
  rw [hf] at HF
  unfold findV at HF
  obtain ⟨a, q, rfl, hal, hq, hcj, hqn, hqa⟩ := hS.at_ hsk
  obtain ⟨qa, qn, qc⟩ := q
  have hqw := hqa.2.2.2
  have hqw1 := hqa.1
  have hqw2 := hqa.2.1
  simp only at hcj hqn hqw hqw1 hqw2
  subst hqn
  have hki : (k : Int) < n := by have := (List.getElem?_eq_some_iff.1 hsk).1; omega
  have his : (i : Int) < s.length := by omega
  obtain ⟨b, rfl, hbl, g0, g1, g2⟩ := hqw.at_ hx
  have HW := Lib.hid (fun w' (hb : Below w.heap.size w w') => (hqw.below hb).at_ hx)
  have CJ := Lib.hid hcj
  clear hS hsk hf hq hcj hqa hqw g0 g1 g2 hx
  have HWI := Lib.hid (show (Try.prog.info? 37).map (·.size) = some (#[.int .u32 x.line, .bool x.dirty, .string x.data] : Array Value).size by kernel_rfl)
  have HWO := Lib.hid (show (#[.int .u32 x.line, .bool x.dirty, .string x.data] : Array Value).all (·.oneCell') = true by simp [Value.oneCell'])
  unfold caV at HF ⊢
  go_enter Try.func32, Try.ntmps32
  go_upto_region 1 with fail
  refine wp_allocs [([.int .i64 ways, .slice (some a) n cap], 24), ([.int .u32 0, .bool false, .string ByteArray.empty], 37)] rfl ?_
  intro W0 y1 KB y3
  have x1 := y3 0 _ rfl
  have x2 := y3 1 _ rfl
  rw [Nat.add_zero] at x1
  have X1 := Lib.hid x1
  have X2 := Lib.hid x2
  replace KB := Lib.hid KB
  clear y1 y3 x1 x2
  go_upto_region 2 with (first
    | (refine wpList_load_mid rfl 24 (.tmp 2) rfl w.heap.size 0 rfl [.int .i64 ways, .slice (some a) n cap] _ X1.out.range Try.underlying24 rfl ca_info ?_)
    | (go_at_call 11
       refine (HF.out _ (HS.out.below KB.out)).mono ?_
       rintro e W1 ⟨rfl, b⟩
       have z1 := X1.out.below b X1.out.1
       have z2 := X2.out.below b X2.out.1
       have z3 := KB.out.trans (b.mono KB.out.size)
       clear X1 X2 KB b
       have X1 := Lib.hid z1
       have X2 := Lib.hid z2
       have KB := Lib.hid z3
       clear z1 z2 z3))
  have c1 := X1.out.2.1 1 _ rfl
  have cj := (KB.out.cell (p := a.add k) (by rw [block_add]; exact hal)).trans CJ.out
  obtain ⟨b', hb', -, g0, g1, g2⟩ := HW.out _ KB.out
  cases hb'
  go_wp2_with (refine wpList_store_blk3 rfl 37 (.tmp 4) (.tmp 22) rfl (w.heap.size + 1) _ #[.int .u32 x.line, .bool x.dirty, .string x.data] X2.out rfl rfl rfl HWI.out HWO.out ?_
               intro W4 q1 q2 q2f q3 q4
               have G1 := Lib.hid q1
               have G3 := Lib.hid (KB.out.trans (q3 w.heap.size (by omega)))
               clear q1 q2 q2f q3 q4)
  exact bodyPost_ret (v := .agg #[.int .u32 x.line, .bool x.dirty, .string x.data]) (results_cell_blk Try.results32 _ W4 (w.heap.size + 1) [.int .u32 x.line, .bool x.dirty, .string x.data] _ rfl G1.out Try.underlying37 rfl wy_info) rfl ⟨rfl, G3.out⟩

def accS (r : Wy) (s : List Wy) (j : Nat) : List Wy := r :: (s.take j).filter (fun x => x.line != r.line)
theorem accS_yes {r x : Wy} {s : List Wy} {j : Nat} (hx : s[j]? = some x) (h : (x.line != r.line) = true) : accS r s (j + 1) = accS r s j ++ [x] := by
  unfold accS
  rw [List.take_add_one, hx, List.filter_append]
  simp only [Option.toList_some, List.filter_cons, h, if_true, List.filter_nil, List.cons_append]
theorem accS_no {r x : Wy} {s : List Wy} {j : Nat} (hx : s[j]? = some x) (h : (x.line != r.line) = false) : accS r s (j + 1) = accS r s j := by
  unfold accS
  rw [List.take_add_one, hx, List.filter_append]
  simp only [Option.toList_some, List.filter_cons, h, List.filter_nil, List.append_nil]
  simp
theorem accS_len (r : Wy) (s : List Wy) (j : Nat) : (accS r s j).length ≤ j + 1 := by
  unfold accS
  rw [List.length_cons]
  have := List.length_filter_le (fun x : Wy => x.line != r.line) (s.take j)
  rw [List.length_take] at this
  omega
theorem first_any (ways : Int) (A : Option Addr) (n cap : Nat) (hs : List Hd) (ss : List (List Wy)) (r : Wy) (hn : n ≤ cap) (hn0 : 0 < n) (hn4 : n ≤ 4) (h0 : 0 ≤ r.line) (h1 : r.line < 4294967296) (w : World) (hS : SetsAt w A n hs ss)
    (k : Nat) (s : List Wy) (hk : setI n r.line = k) (hsk : ss[k]? = some s) (hsl : s.length ≤ 90) :
    Calls Try.prog 42 #[caV ways A n cap, wyV r] w fun e w' => ∃ (A' : Option Addr) (c' : Nat) (q : Hd), e = .returned (caV ways A' n c') ∧ n ≤ c' ∧ c' ≤ maxLen ∧ (A' = none → c' = 0) ∧ q.n ≤ q.cap ∧ q.cap ≤ maxLen ∧ (q.at_ = none → q.cap = 0) ∧ OwnAt w' w.heap.size A' n 1 ((hs.set k q).map hdC) ∧ OwnAt w' w.heap.size q.at_ q.n 3 ((accS r s s.length).map wyC) ∧ Below w.heap.size w w' := by
  have HS := Lib.hid hS
  have hl := hS.len
  have HSO := Lib.hid (fun w => refSetOf_any ways A n cap r.line h0 h1 hn0 hn4 w)
  rw [hk] at HSO
  have hkn : k < n := by have := (List.getElem?_eq_some_iff.1 hsk).1; omega
  have HWS := Lib.hid (fun q s' W hS hq => withSet_any ways A n cap hs ss k q s' hkn (by omega) W hS hq)
  obtain ⟨a, q, rfl, hal, hq, hcj, hqn, hqa⟩ := hS.at_ hsk
  obtain ⟨qa, qn, qc⟩ := q
  have hqw := hqa.2.2.2
  simp only at hcj hqn hqw
  subst hqn
  have ZW := Lib.hid hqw
  have CJ := Lib.hid hcj
  have hki : (k : Int) < n := by omega
  clear hS hsk hk hq hcj hqa hqw
  unfold caV at HSO HWS ⊢
  unfold wyV
  go_enter Try.func42, Try.ntmps42
  go_upto_region 1 with fail
  refine wp_allocs [([.int .i64 ways, .slice (some a) n cap], 24), (wyC r, 37), ([.int .i64 0, .slice none 0 0], 24)] rfl ?_
  intro W0 y1 KB y3
  have x1 := y3 0 _ rfl
  have x2 := y3 1 _ rfl
  have x3 := y3 2 _ rfl
  rw [Nat.add_zero] at x1
  have X1 := Lib.hid x1
  have X2 := Lib.hid x2
  have X3 := Lib.hid (show Blk W0 (w.heap.size + 1 + 1) [.int .i64 0, .slice none 0 0] from x3)
  replace KB := Lib.hid KB
  have hx3 := x3.1
  clear y1 y3 x1 x2 x3
  have d0 := X2.out.2.1 0 _ rfl
  go_upto_region 2 with (first
    | (refine wpList_load_mid rfl 24 (.tmp 2) rfl w.heap.size 0 rfl [.int .i64 ways, .slice (some a) n cap] _ X1.out.range Try.underlying24 rfl ca_info ?_)
    | (go_at_call 37
       refine (HSO.out _).mono ?_
       rintro e W1 ⟨rfl, b⟩
       have z1 := X1.out.below b X1.out.1
       have z2 := X2.out.below b X2.out.1
       have z5 := X3.out.below b X3.out.1
       have z3 := KB.out.trans (b.mono KB.out.size)
       have hbs := b.size
       clear X1 X2 X3 KB b d0
       have X1 := Lib.hid z1
       have X2 := Lib.hid z2
       have X3 := Lib.hid z5
       have KB := Lib.hid z3
       clear z1 z2 z3 z5))
  have d0 := X2.out.2.1 0 _ rfl
  have d1 := X2.out.2.1 1 _ rfl
  have d2 := X2.out.2.1 2 _ rfl
  go_upto_region 3 with fail
  have hb0 : Below W1.heap.size W1 (W1.alloc (.cells (wyC r).toArray 37)) := (Below.refl _ _).alloc (Nat.le_refl _) _
  have hov : (W1.alloc (.cells (wyC r).toArray 37)).ownsRow W1.heap.size 37 3 (.slice (some ⟨W1.heap.size, 0, none⟩) 1 1) 1 ((accS r s 0).map wyC).flatten := by
    have := World.ownsRow_lit (base := W1.heap.size) (e := 37) (size := 3) W1 (wyC r).toArray 1 (Nat.le_refl _) (by unfold maxLen; omega) rfl
    simpa [accS] using this
  have z1 := X1.out.below hb0 X1.out.1
  have z2 := X2.out.below hb0 X2.out.1
  have z5 := X3.out.below hb0 X3.out.1
  have z3 := KB.out.trans (hb0.mono KB.out.size)
  have hx3' : w.heap.size + 1 + 1 < W1.heap.size := X3.out.1
  have hsz : W1.heap.size ≤ (W1.alloc (.cells (wyC r).toArray 37)).heap.size := hb0.size
  unfold wyC at hov z1 z2 z5 z3 hsz
  clear X1 X2 X3 KB d0 d1 d2 hb0
  generalize W1.alloc (.cells #[.int .u32 r.line, .bool r.dirty, .string r.data] 37) = W2 at *
  have X1 := Lib.hid z1
  have X2 := Lib.hid (show Blk W2 (w.heap.size + 1) (wyC r) from z2)
  have X3 := Lib.hid z5
  have KB := Lib.hid z3
  have OV := Lib.hid hov
  clear z1 z2 z5 z3 hov
  have c1 := X1.out.2.1 1 _ rfl
  have cj := (KB.out.cell (p := a.add k) (by rw [block_add]; exact hal)).trans CJ.out
  have HB1 := Lib.hid (show W1.heap.size ≤ W2.heap.size from hsz)
  obtain ⟨B, hB⟩ : ∃ B, W1.heap.size = B := ⟨_, rfl⟩
  rw [hB] at OV hx3' HB1 ⊢
  clear hbs hsz hB
  go_wp2
  clear c1 cj
  go_loopw [21, 6] (fun i v wr => ∃ (j : Nat) (A2 : Option Addr) (c2 : Nat), j ≤ s.length ∧ i = .int .i64 j ∧ v = .slice A2 (accS r s j).length c2 ∧ wr.ownsRow B 37 3 (.slice A2 (accS r s j).length c2) (accS r s j).length ((accS r s j).map wyC).flatten ∧ Blk wr w.heap.size [.int .i64 ways, .slice (some a) n cap] ∧ Blk wr (w.heap.size + 1) (wyC r) ∧ Blk wr (w.heap.size + 1 + 1) [.int .i64 0, .slice none 0 0] ∧ Below w.heap.size w wr ∧ B ≤ wr.heap.size) (fun i _ _ => s.length - (intOf i).toNat)
  case atStart => exact ⟨0, _, _, by omega, rfl, rfl, OV.out, X1.out, X2.out, X3.out, KB.out, HB1.out⟩
  case round =>
    obtain ⟨j, A2, c2, hj, rfl, rfl, hov, hx1', hx2', hx3'', hb, hW0⟩ := hrel
    clear X1 X2 X3 KB OV
    have X1 := Lib.hid hx1'
    have X2 := Lib.hid hx2'
    have X3 := Lib.hid hx3''
    have KB := Lib.hid hb
    have OV := Lib.hid hov
    clear hx1' hx2' hx3'' hb hov
    by_cases hlt : j < s.length
    · obtain ⟨x, hx⟩ : ∃ x, s[j]? = some x := ⟨_, List.getElem?_eq_getElem hlt⟩
      obtain ⟨b, rfl, hbl, g0, g1, g2⟩ := (ZW.out.below KB.out).at_ hx
      have hb0 : Below wr.heap.size wr (wr.alloc (.cells (wyC x).toArray 37)) := (Below.refl _ _).alloc (Nat.le_refl _) _
      have hx8 := Blk.new wr 37 (wyC x)
      have z1 := X1.out.below hb0 X1.out.1
      have z2 := X2.out.below hb0 X2.out.1
      have z5 := X3.out.below hb0 X3.out.1
      have z3 := KB.out.trans (hb0.mono KB.out.size)
      have z4 := OV.out.alloc (.cells (wyC x).toArray 37)
      have z6 : B ≤ (wr.alloc (.cells (wyC x).toArray 37)).heap.size := Nat.le_trans hW0 hb0.size
      unfold wyC at hx8 hb0
      simp only [wyC] at z1 z5 z3 z4 z6
      rw [show (wyC x).toArray = #[.int .u32 x.line, .bool x.dirty, .string x.data] from rfl] at z2
      go_upto_region 6 with fail
      generalize wr.alloc (.cells #[.int .u32 x.line, .bool x.dirty, .string x.data] 37) = W5 at *
      clear X1 X2 X3 KB OV hb0 g0 g1 g2 hW0
      have X1 := Lib.hid z1
      have X2 := Lib.hid z2
      have X3 := Lib.hid z5
      have KB := Lib.hid z3
      have OV := Lib.hid z4
      have X8 := Lib.hid hx8
      clear z1 z2 z5 z3 z4 hx8
      have d0 := X8.out.2.1 0 _ rfl
      have d1 := X8.out.2.1 1 _ rfl
      have d2 := X8.out.2.1 2 _ rfl
      have e0 := X2.out.2.1 0 _ rfl
      have hal9 := accS_len r s j
      cases e9 : (x.line != r.line)
      · have HA := Lib.hid (accS_no hx e9)
        clear hx
        go_wp2
        go_roundw
        case rel => exact ⟨j + 1, A2, c2, by omega, by go_num, by rw [HA.out], by rw [HA.out]; exact OV.out, X1.out, X2.out, X3.out, KB.out, z6⟩
        case measure => simp [intOf]; omega
      · have HA := Lib.hid (accS_yes hx e9)
        clear hx
        go_upto_region 8 with (at_builtin
                               refine wpList_append_way rfl (.tmp 30) (.tmp 32) rfl B _ (accS r s j).length _ rfl (OV.out.alloc _) (some ⟨W5.heap.size, 0, none⟩) 1 1 [x] rfl (one_way _ x) (fun h => by cases h) (by omega) (Nat.le_trans z6 (by simp)) ?_
                               intro v2 w2 ho2 hg2
                               have bb := below_app (Below.refl B W5) z6 OV.out hg2
                               rw [show ((accS r s j).map wyC).flatten ++ ([x].map wyC).flatten = ((accS r s (j + 1)).map wyC).flatten by rw [HA.out, List.map_append, List.flatten_append], show (accS r s j).length + 1 = (accS r s (j + 1)).length by rw [HA.out, List.length_append]; rfl] at ho2
                               obtain ⟨A3, c3, rfl, -, -, -, -⟩ := own_way ho2 rfl
                               have Y1 := Lib.hid (X1.out.below bb (by omega))
                               have Y2 := Lib.hid (X2.out.below bb (by omega))
                               have Y3 := Lib.hid (X3.out.below bb (by omega))
                               have YB := Lib.hid (KB.out.trans (bb.mono (by omega)))
                               have YS := Lib.hid (Nat.le_trans z6 bb.size)
                               have YV := Lib.hid ho2
                               clear ho2 hg2 bb)
        go_wp2
        go_roundw
        case rel => exact ⟨j + 1, A3, c3, by omega, by go_num, rfl, YV.out, Y1.out, Y2.out, Y3.out, YB.out, YS.out⟩
        case measure => simp [intOf]; omega
    · obtain rfl : j = s.length := by omega
      obtain ⟨A3, c3, hve, g1, g2, g3, g4⟩ := own_way OV.out rfl
      injection hve with hv1 hv2 hv3
      subst hv1 hv3
      have O4 := Lib.hid g4
      have HX := Lib.hid (show HdAt wr ⟨A2, (accS r s s.length).length, c2⟩ (accS r s s.length) from ⟨g1, g2, g3, g4.1⟩)
      clear g4
      obtain ⟨M, hM⟩ : ∃ M, accS r s s.length = M := ⟨_, rfl⟩
      rw [hM] at HX OV O4 g1 ⊢
      go_wp2_with (first
        | (refine wpList_load_mid rfl 24 (.tmp 2) rfl w.heap.size 0 rfl [.int .i64 ways, .slice (some a) n cap] _ X1.out.range Try.underlying24 rfl ca_info ?_)
        | (go_at_call 43
           refine (HWS.out ⟨A2, M.length, c2⟩ M _ (HS.out.below KB.out) HX.out).mono ?_
           rintro e w4 ⟨A4, c4, rfl, q1, q2, q3, hO4, -, b⟩
           have S4 := Lib.hid hO4
           have M4 := Lib.hid (O4.out.below b)
           have X4 := Lib.hid (X3.out.below b X3.out.1)
           have K4 := Lib.hid (KB.out.trans (b.mono KB.out.size))
           have HZI := Lib.hid (show (Try.prog.info? 24).map (·.size) = some (#[.int .i64 ways, .slice A4 n c4] : Array Value).size by kernel_rfl)
           have HZO := Lib.hid (show (#[.int .i64 ways, .slice A4 n c4] : Array Value).all (·.oneCell') = true by simp [Value.oneCell'])
           clear hO4 b)
        | (refine wpList_store_blk3 rfl 24 (.tmp 4) (.tmp 38) rfl (w.heap.size + 1 + 1) _ #[.int .i64 ways, .slice A4 n c4] X4.out rfl rfl rfl HZI.out HZO.out ?_
           intro W7 r1 r2 r2f r3 r4
           have G1 := Lib.hid r1
           have G3 := Lib.hid (K4.out.trans (r3 w.heap.size (by omega)))
           have O3 := Lib.hid (S4.out.same (b := w.heap.size + 1 + 1) (by omega) r2 r2f r4)
           have M3 := Lib.hid (M4.out.same (b := w.heap.size + 1 + 1) (by omega) r2 r2f r4)
           clear r1 r2 r2f r3 r4))
      exact bodyPost_ret (v := .agg #[.int .i64 ways, .slice A4 n c4]) (results_cell_blk Try.results42 _ W7 (w.heap.size + 1 + 1) [.int .i64 ways, .slice A4 n c4] _ rfl G1.out Try.underlying24 rfl ca_info) rfl
        ⟨A4, c4, rfl, q1, q2, q3, ⟨A2, M.length, c2⟩, g1, g2, g3, by have := OwnAt.lower (B := w.heap.size) (B' := wr.heap.size) O3.out (by omega); first | exact this | (rw [List.map_set] at this; exact this) | (rw [← List.map_set] at this; exact this), OwnAt.lower (B := w.heap.size) (B' := B) M3.out (by omega), G3.out⟩
/-- what First answers, as sets -/
theorem first_sets {w w' : World} {A : Option Addr} {n : Nat} {hs : List Hd} {ss : List (List Wy)} {k : Nat} {q : Hd} {M : List Wy} (hS : HdsAt w hs ss) (hb : Below w.heap.size w w') (hO : RowsAt w' A n 1 ((hs.set k q).map hdC)) (h1 : q.n ≤ q.cap) (h2 : q.cap ≤ maxLen) (h3 : q.at_ = none → q.cap = 0) (hM : RowsAt w' q.at_ q.n 3 (M.map wyC)) :
    SetsAt w' A n (hs.set k q) (ss.set k M) := ⟨hO, (hS.below hb).set k q M ⟨h1, h2, h3, hM⟩⟩
end Go.Proofs.Ytcgahdmacngipaa
