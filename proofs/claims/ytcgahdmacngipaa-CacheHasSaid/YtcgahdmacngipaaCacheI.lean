/- THE CONTRACTS of cache.with, cache.Touch. -/
import Derived.Test.YtcgahdmacngipaaCacheH
namespace Go.Proofs.Ytcgahdmacngipaa
open Go.ChangeShapes Go.WideShapes Go.ChangeAt Go.RowKit Go.Sort
set_option linter.unusedVariables false
set_option linter.unusedSimpArgs false
set_option maxHeartbeats 4000000
set_option maxRecDepth 100000

theorem OwnAt.lower {w : World} {B B' : Nat} {A : Option Addr} {n sz : Nat} {cs : List (List Value)} (h : OwnAt w B' A n sz cs) (hB : B ≤ B') : OwnAt w B A n sz cs :=
  ⟨h.1, fun h0 => by
    obtain ⟨g, hg, h1, h2⟩ := h.2 h0
    exact ⟨g, hg, Nat.le_trans hB h1, h2⟩⟩
/-- a cache with another set in the place of one -/
theorem with_any (ways : Int) (A : Option Addr) (n cap : Nat) (hs : List Hd) (ss : List (List Wy)) (k : Nat) (q : Hd) (s : List Wy) (hk : k < n) (hn : n ≤ 100) (w : World) (hS : SetsAt w A n hs ss) (hq : HdAt w q s) :
    Calls Try.prog 41 #[caV ways A n cap, .int .i64 k, .slice q.at_ q.n q.cap] w fun e w' => ∃ (A' : Option Addr) (c' : Nat), e = .returned (caV ways A' n c') ∧ n ≤ c' ∧ c' ≤ maxLen ∧ (A' = none → c' = 0) ∧ OwnAt w' w.heap.size A' n 1 ((hs.set k q).map hdC) ∧ HdsAt w' (hs.set k q) (ss.set k s) ∧ Below w.heap.size w w' := by
  have HS := Lib.hid hS
  have HQ := Lib.hid hq
  have hhl := hS.hlen
  have HC := Lib.hid (fun w h => clone_hdr A n cap hs (by omega) w h)
  obtain ⟨qa, qn, qc⟩ := q
  clear hS hq
  unfold caV
  go_enter Try.func41, Try.ntmps41
  go_upto_region 1 with fail
  refine wp_allocs [([.int .i64 ways, .slice A n cap], 24), ([.int .i64 0, .slice none 0 0], 24)] rfl ?_
  intro W0 y1 KB y3
  have x1 := y3 0 _ rfl
  have x2 := y3 1 _ rfl
  rw [Nat.add_zero] at x1
  have X1 := Lib.hid x1
  have X2 := Lib.hid x2
  replace KB := Lib.hid KB
  have hb2 := x2.1
  clear y1 y3 x1 x2
  have c1 := X1.out.2.1 1 _ rfl
  have f1 := X1.out.2.2 1 (by simp)
  go_upto_region 2 with (go_at_call 46
                         refine (HC.out _ (HS.out.below KB.out).1).mono ?_
                         rintro e W1 ⟨v, rfl, ho, b⟩
                         obtain ⟨A', c', rfl, g1, g2, g3, g4⟩ := own_hdr ho hhl
                         have O1 := Lib.hid g4
                         have z1 := X1.out.below b X1.out.1
                         have z2 := X2.out.below b X2.out.1
                         have z3 := KB.out.trans (b.mono KB.out.size)
                         clear X1 X2 KB ho b c1 f1 g4
                         have X1 := Lib.hid z1
                         have X2 := Lib.hid z2
                         have KB := Lib.hid z3
                         clear z1 z2 z3
                         have c1 := X1.out.2.1 1 _ rfl
                         have f1 := X1.out.2.2 1 (by simp))
  have z1 := (X1.out).set (i := 1) (v := .slice A' n c') (by simp)
  simp only [List.set_cons_succ, List.set_cons_zero] at z1
  have z2 := (X2.out).other (p := ⟨w.heap.size, 1, none⟩) (v := .slice A' n c') (by simp)
  have z3 := (KB.out).setCell (p := ⟨w.heap.size, 1, none⟩) (Nat.le_refl _) (.slice A' n c')
  have z4 := O1.out.far (p := ⟨w.heap.size, 1, none⟩) (by show w.heap.size < W0.heap.size; omega) (.slice A' n c')
  clear X1 X2 KB O1 c1 f1
  generalize W1.setCell ⟨w.heap.size, 1, none⟩ (.slice A' n c') = W2 at *
  have X1 := Lib.hid z1
  have X2 := Lib.hid z2
  have KB := Lib.hid z3
  have O1 := Lib.hid z4
  clear z1 z2 z3 z4
  have c1 := X1.out.2.1 1 _ rfl
  obtain ⟨p, hp⟩ : ∃ p, hs[k]? = some p := ⟨_, List.getElem?_eq_getElem (by omega)⟩
  have hcp : (hs.map hdC)[k]? = some (hdC p) := by rw [List.getElem?_map, hp]; rfl
  obtain ⟨g, rfl, hg1, hg2, hcell, hfr⟩ := O1.out.at_ hcp
  have d0 := hcell 0 _ rfl
  have d1 := hfr 0 (by omega)
  rw [Nat.mul_one, Nat.add_zero] at d0 d1
  have hkn : (k : Int) < n := by omega
  clear hcell hfr
  go_upto_region 3 with fail
  have z1 := (X1.out).other (p := ⟨g, k, none⟩) (v := .slice qa qn qc) (by simp; omega)
  have z2 := (X2.out).other (p := ⟨g, k, none⟩) (v := .slice qa qn qc) (by simp; omega)
  have z3 := (KB.out).setCell (p := ⟨g, k, none⟩) (by show w.heap.size ≤ g; omega) (.slice qa qn qc)
  have z4 := O1.out.set hcp (i := 0) (by omega) (.slice qa qn qc)
  rw [Nat.mul_one, Nat.add_zero, show (hs.map hdC).set k ((hdC p).set 0 (.slice qa qn qc)) = (hs.set k ⟨qa, qn, qc⟩).map hdC by rw [List.map_set]; rfl] at z4
  clear d0 d1 hcp X1 X2 KB O1 c1
  generalize W2.setCell ⟨g, k, none⟩ (.slice qa qn qc) = W3 at *
  have X1 := Lib.hid z1
  have X2 := Lib.hid z2
  have KB := Lib.hid z3
  have O1 := Lib.hid z4
  clear z1 z2 z3 z4
  have HZI := Lib.hid (show (Try.prog.info? 24).map (·.size) = some (#[.int .i64 ways, .slice (some ⟨g, 0, none⟩) n c'] : Array Value).size by kernel_rfl)
  have HZO := Lib.hid (show (#[.int .i64 ways, .slice (some ⟨g, 0, none⟩) n c'] : Array Value).all (·.oneCell') = true by simp [Value.oneCell'])
  go_wp2_with (first
    | (refine wpList_load_mid rfl 24 (.tmp 3) rfl w.heap.size 0 rfl [.int .i64 ways, .slice (some ⟨g, 0, none⟩) n c'] _ X1.out.range Try.underlying24 rfl ca_info ?_)
    | (refine wpList_store_blk3 rfl 24 (.tmp 6) (.tmp 16) rfl (w.heap.size + 1) _ #[.int .i64 ways, .slice (some ⟨g, 0, none⟩) n c'] X2.out rfl rfl rfl HZI.out HZO.out ?_
       intro W4 q1 q2 q2f q3 q4
       have G1 := Lib.hid q1
       have G3 := Lib.hid (KB.out.trans (q3 w.heap.size (by omega)))
       have O3 := Lib.hid (O1.out.same (b := w.heap.size + 1) (by omega) q2 q2f q4)
       clear q1 q2 q2f q3 q4))
  exact bodyPost_ret (v := .agg #[.int .i64 ways, .slice (some ⟨g, 0, none⟩) n c']) (results_cell_blk Try.results41 _ W4 (w.heap.size + 1) [.int .i64 ways, .slice (some ⟨g, 0, none⟩) n c'] _ rfl G1.out Try.underlying24 rfl ca_info) rfl
    ⟨_, c', rfl, g1, g2, g3, (by rw [← List.map_set]; exact OwnAt.lower (B := w.heap.size) (B' := W0.heap.size) O3.out (by omega)), (HS.out.2.below G3.out).set k _ _ (HQ.out.below G3.out), G3.out⟩
theorem touch_yes (ways : Int) (A : Option Addr) (n cap : Nat) (hs : List Hd) (ss : List (List Wy)) (line : Int) (hn : n ≤ cap) (hc : cap ≤ maxLen) (hss : setsOK ss) (h0 : 0 ≤ line) (h1 : line < 4294967296) (w : World) (hS : SetsAt w A n hs ss)
    (hr : rightC ways ss = true) (k : Nat) (s : List Wy) (i : Nat) (hsk : ss[k]? = some s) (hi : i < s.length) (hf : findS ways ss line = ((k : Int), (i : Int), true)) :
    Calls Try.prog 23 #[caV ways A n cap, .int .u32 line] w fun e w' => ∃ (A' : Option Addr) (c' : Nat) (q : Hd) (B : Nat), e = .returned (caV ways A' n c') ∧ n ≤ c' ∧ c' ≤ maxLen ∧ (A' = none → c' = 0) ∧ q.n = s.length ∧ q.n ≤ q.cap ∧ q.cap ≤ maxLen ∧ (q.at_ = none → q.cap = 0) ∧ w.heap.size ≤ B ∧ (∀ g, q.at_ = some ⟨g, 0, none⟩ → g < B) ∧ OwnAt w' B A' n 1 ((hs.set k q).map hdC) ∧ HdsAt w' (hs.set k q) (ss.set k (toF s i)) ∧ OwnAt w' w.heap.size q.at_ q.n 3 ((toF s i).map wyC) ∧ Below w.heap.size w w' := by
  have HF := Lib.hid (fun w h => find_any ways A n cap hs ss line hn hc hss h0 h1 w h)
  have hl := hS.len
  have hn4 := (right_at hr).1
  have hsl := ((right_at hr).2.2 k s hsk).1
  have hw2 := (right_at hr).2.1
  obtain ⟨a, q, rfl, hal, hq, hcj, hqn, hqa⟩ := hS.at_ hsk
  obtain ⟨qa, qn, qc⟩ := q
  have hqw := hqa.2.2.2
  have hqw1 := hqa.1
  have hqw2 := hqa.2.1
  simp only at hcj hqn hqw hqw1 hqw2
  subst hqn
  have hkn : k < n := by have := (List.getElem?_eq_some_iff.1 hsk).1; omega
  have hki : (k : Int) < n := by omega
  have HT := Lib.hid (fun w h => toFront_any qa s.length qc s i hi (by omega) hqw1 hqw2 w h)
  have HWI := Lib.hid (fun q w hS hq => with_any ways (some a) n cap hs ss k q (toF s i) hkn (by omega) w hS hq)
  have HS := Lib.hid hS
  have ZQ := Lib.hid hqw
  have CJ := Lib.hid hcj
  rw [hf] at HF
  unfold findV at HF
  unfold caV at HF HWI ⊢
  clear hss h0 h1 hS hr hsk hf hn4 hsl hw2 hq hcj hqa hqw
  go_enter Try.func23, Try.ntmps23
  go_upto_region 1 with fail
  refine wp_allocs [([.int .i64 ways, .slice (some a) n cap], 24), ([.int .i64 0, .slice none 0 0], 24)] rfl ?_
  intro W0 y1 KB y3
  have x1 := y3 0 _ rfl
  have x2 := y3 1 _ rfl
  rw [Nat.add_zero] at x1
  have X1 := Lib.hid x1
  have X2 := Lib.hid x2
  replace KB := Lib.hid KB
  have hb2 := x2.1
  clear y1 y3 x1 x2
  go_upto_region 4 with (first
    | (refine wpList_load_mid rfl 24 (.tmp 2) rfl w.heap.size 0 rfl [.int .i64 ways, .slice (some a) n cap] _ X1.out.range Try.underlying24 rfl ca_info ?_)
    | (go_at_call 10
       refine (HF.out _ (HS.out.below KB.out)).mono ?_
       rintro e W1 ⟨rfl, b⟩
       have z1 := X1.out.below b X1.out.1
       have z2 := X2.out.below b X2.out.1
       have z3 := KB.out.trans (b.mono KB.out.size)
       have hb3 := b.size
       clear X1 X2 KB b
       have X1 := Lib.hid z1
       have X2 := Lib.hid z2
       have KB := Lib.hid z3
       clear z1 z2 z3))
  have hd : Below w.heap.size w W1.drew := KB.out.trans (⟨rfl, rfl, rfl, Nat.le_refl _, fun _ _ => rfl⟩)
  have KD := Lib.hid hd
  have X1D := Lib.hid (X1.out.below (below_dr) X1.out.1)
  have X2D := Lib.hid (X2.out.below (below_dr) X2.out.1)
  have hhs : W1.drew.heap.size = W1.heap.size := rfl
  clear hd
  have c0 := X1.out.2.1 0 _ rfl
  have c1 := X1.out.2.1 1 _ rfl
  have d0 := X1D.out.2.1 0 _ rfl
  have d1 := X1D.out.2.1 1 _ rfl
  have cj := (KB.out.cell (p := a.add k) (by rw [block_add]; exact hal)).trans CJ.out
  go_region_law (first
    | (go_simp; go_at_call 39; refine (HT.out _ (ZQ.out.below KD.out)).mono ?_; rintro e W5 ⟨A5, c5, rfl, g1, g2, g3, g4, b⟩
       have B5 := Lib.hid b
       have O5 := Lib.hid g4
       have G5 := Lib.hid (show ∀ g, A5 = some ⟨g, 0, none⟩ → g < W5.heap.size from fun g hg => by
         obtain ⟨g', hg', _, hlt, _⟩ := g4.2 (by omega)
         rw [hg] at hg'
         cases hg'
         exact hlt)
       have K5 := Lib.hid (KD.out.trans (b.mono KD.out.size))
       have y := X1D.out.below b X1D.out.1
       have m0 := y.2.1 0 _ rfl
       have m1 := y.2.1 1 _ rfl
       have hb5 := b.size
       clear b g4 y)
    | (go_simp; go_at_call 41; refine (HWI.out ⟨A5, s.length, c5⟩ _ (HS.out.below K5.out) ⟨g1, g2, g3, O5.out.1⟩).mono ?_; rintro e W6 ⟨A6, c6, rfl, h1, h2, h3, h4, h5, b⟩
       have O6 := Lib.hid h4
       have H6 := Lib.hid h5
       have K6 := Lib.hid (K5.out.trans (b.mono K5.out.size))
       have P6 := Lib.hid (O5.out.below b)
       have X6 := Lib.hid ((X2D.out.below B5.out X2D.out.1).below b (X2D.out.below B5.out X2D.out.1).1)
       have m2 := X6.out.2.1 0 _ rfl
       have m3 := X6.out.2.1 1 _ rfl
       have m4 := X6.out.2.2 0 (by simp)
       have m5 := X6.out.2.2 1 (by simp)
       clear b h4 h5))
  all_goals
    have z2 := (X6.out.set (i := 0) (v := .int .i64 ways) (by simp)).set (i := 1) (v := .slice A6 n c6) (by simp)
    simp only [List.set_cons_succ, List.set_cons_zero] at z2
    have z3 := (K6.out.setCell (p := ⟨w.heap.size + 1, 0, none⟩) (by show w.heap.size ≤ w.heap.size + 1; omega) (.int .i64 ways)).setCell (p := ⟨w.heap.size + 1, 1, none⟩) (by show w.heap.size ≤ w.heap.size + 1; omega) (.slice A6 n c6)
    have z4 := (O6.out.far (p := ⟨w.heap.size + 1, 0, none⟩) (by show w.heap.size + 1 < W5.heap.size; omega) (.int .i64 ways)).far (p := ⟨w.heap.size + 1, 1, none⟩) (by show w.heap.size + 1 < W5.heap.size; omega) (.slice A6 n c6)
    have z5 := (P6.out.far (p := ⟨w.heap.size + 1, 0, none⟩) (by show w.heap.size + 1 < W1.heap.size; omega) (.int .i64 ways)).far (p := ⟨w.heap.size + 1, 1, none⟩) (by show w.heap.size + 1 < W1.heap.size; omega) (.slice A6 n c6)
    have hlo : w.heap.size ≤ W5.heap.size := by omega
    have hlo2 : w.heap.size ≤ W1.heap.size := by omega
    clear X6 K6 O6 P6 m0 m1 m2 m3 m4 m5
    generalize (W6.setCell ⟨w.heap.size + 1, 0, none⟩ (.int .i64 ways)).setCell ⟨w.heap.size + 1, 1, none⟩ (.slice A6 n c6) = W7 at *
    have Z2 := Lib.hid z2
    have Z3 := Lib.hid z3
    have Z4 := Lib.hid z4
    have Z5 := Lib.hid z5
    clear z2 z3 z4 z5
    go_wp2_with fail
    exact bodyPost_ret (v := .agg #[.int .i64 ways, .slice A6 n c6]) (results_cell_blk Try.results23 _ W7 (w.heap.size + 1) [.int .i64 ways, .slice A6 n c6] _ rfl Z2.out Try.underlying24 rfl ca_info) rfl
      ⟨A6, c6, ⟨A5, s.length, c5⟩, W5.heap.size, rfl, h1, h2, h3, rfl, g1, g2, g3, hlo, G5.out, Z4.out, (HS.out.2.below Z3.out).set k ⟨A5, s.length, c5⟩ _ ⟨g1, g2, g3, Z5.out.1⟩, OwnAt.lower (B := w.heap.size) Z5.out hlo2, Z3.out⟩
theorem touch_no (ways : Int) (A : Option Addr) (n cap : Nat) (hs : List Hd) (ss : List (List Wy)) (line : Int) (hn : n ≤ cap) (hc : cap ≤ maxLen) (hss : setsOK ss) (h0 : 0 ≤ line) (h1 : line < 4294967296) (w : World) (hS : SetsAt w A n hs ss)
    (hf : (findS ways ss line).2.2 = false) :
    Calls Try.prog 23 #[caV ways A n cap, .int .u32 line] w fun e w' => e = .returned (caV ways A n cap) ∧ Below w.heap.size w w' := by
  have HF := Lib.hid (fun w h => find_any ways A n cap hs ss line hn hc hss h0 h1 w h)
  have HS := Lib.hid hS
  obtain ⟨f, hff⟩ : ∃ f, findS ways ss line = f := ⟨_, rfl⟩
  rw [hff] at HF hf
  obtain ⟨k, i, b⟩ := f
  simp only at hf
  subst hf
  unfold findV at HF
  simp only at HF
  unfold caV at HF ⊢
  clear hss h0 h1 hS hff
  go_enter Try.func23, Try.ntmps23
  go_upto_region 1 with fail
  refine wp_allocs [([.int .i64 ways, .slice A n cap], 24), ([.int .i64 0, .slice none 0 0], 24)] rfl ?_
  intro W0 y1 KB y3
  have x1 := y3 0 _ rfl
  have x2 := y3 1 _ rfl
  rw [Nat.add_zero] at x1
  have X1 := Lib.hid x1
  have X2 := Lib.hid x2
  replace KB := Lib.hid KB
  clear y1 y3 x1 x2
  have HZI := Lib.hid (show (Try.prog.info? 24).map (·.size) = some (#[.int .i64 ways, .slice A n cap] : Array Value).size by kernel_rfl)
  have HZO := Lib.hid (show (#[.int .i64 ways, .slice A n cap] : Array Value).all (·.oneCell') = true by simp [Value.oneCell'])
  go_wp2_with (first
    | (refine wpList_load_mid rfl 24 (.tmp 2) rfl w.heap.size 0 rfl [.int .i64 ways, .slice A n cap] _ X1.out.range Try.underlying24 rfl ca_info ?_)
    | (go_at_call 10
       refine (HF.out _ (HS.out.below KB.out)).mono ?_
       rintro e W1 ⟨rfl, b⟩
       have z1 := X1.out.below b X1.out.1
       have z2 := X2.out.below b X2.out.1
       have z3 := KB.out.trans (b.mono KB.out.size)
       clear X1 X2 KB b
       have X1 := Lib.hid z1
       have X2 := Lib.hid z2
       have KB := Lib.hid z3
       clear z1 z2 z3)
    | (refine wpList_store_blk3 rfl 24 (.tmp 4) (.tmp 17) rfl (w.heap.size + 1) _ #[.int .i64 ways, .slice A n cap] X2.out rfl rfl rfl HZI.out HZO.out ?_
       intro W4 q1 q2 q2f q3 q4
       have G1 := Lib.hid q1
       have G3 := Lib.hid (KB.out.trans (q3 w.heap.size (by omega)))
       clear q1 q2 q2f q3 q4))
  exact bodyPost_ret (v := .agg #[.int .i64 ways, .slice A n cap]) (results_cell_blk Try.results23 _ W4 (w.heap.size + 1) [.int .i64 ways, .slice A n cap] _ rfl G1.out Try.underlying24 rfl ca_info) rfl ⟨rfl, G3.out⟩
end Go.Proofs.Ytcgahdmacngipaa
