/- THE CONTRACTS of auspexref10.WithSet, Get, First, Touch. -/
import Derived.Test.YtcgahdmacngipaaCacheN
namespace Go.Proofs.Ytcgahdmacngipaa
open Go.ChangeShapes Go.WideShapes Go.ChangeAt Go.RowKit Go.Sort
set_option linter.unusedVariables false
set_option linter.unusedSimpArgs false
set_option maxHeartbeats 4000000
set_option maxRecDepth 100000

theorem one_hdr (w : World) (h : Hd) : RowsAt (w.alloc (.cells #[.slice h.at_ h.n h.cap] 53)) (some ⟨w.heap.size, 0, none⟩) 1 1 ([h].map hdC) :=
  ⟨rfl, fun j c hj => by
    have hj0 : j = 0 := by
      have := (List.getElem?_eq_some_iff.1 hj).1
      simp at this
      exact this
    subst hj0
    have hc : hdC h = c := by simpa using hj
    subst hc
    exact ⟨rfl, _, rfl, by simp, fun i v hi => by rw [Addr.add_lit, World.cell?_alloc_at _ _ _ _ rfl]; simpa [hdC] using hi⟩⟩
theorem withSet_any (ways : Int) (A : Option Addr) (n cap : Nat) (hs : List Hd) (ss : List (List Wy)) (k : Nat) (q : Hd) (s : List Wy) (hk : k < n) (hn : n ≤ 100) (w : World) (hS : SetsAt w A n hs ss) (hq : HdAt w q s) :
    Calls Try.prog 43 #[caV ways A n cap, .int .i64 k, .slice q.at_ q.n q.cap] w fun e w' => ∃ (A' : Option Addr) (c' : Nat), e = .returned (caV ways A' n c') ∧ n ≤ c' ∧ c' ≤ maxLen ∧ (A' = none → c' = 0) ∧ OwnAt w' w.heap.size A' n 1 ((hs.set k q).map hdC) ∧ HdsAt w' (hs.set k q) (ss.set k s) ∧ Below w.heap.size w w' := by
  have HS := Lib.hid hS
  have HQ := Lib.hid hq
  have hhl := hS.hlen
  obtain ⟨L, hL⟩ : ∃ L, hs.set k q = L := ⟨_, rfl⟩
  have hLl : L.length = n := by rw [← hL, List.length_set]; exact hhl
  have HLS := Lib.hid hL
  obtain ⟨qa, qn, qc⟩ := q
  clear hS hq
  rw [hL]
  unfold caV
  go_enter Try.func43, Try.ntmps43
  go_upto_region 2 with fail
  refine wp_allocs [([.int .i64 ways, .slice A n cap], 24), ([.int .i64 0, .slice none 0 0], 24), ([.int .i64 ways, .slice none 0 0], 24)] rfl ?_
  intro W0 y1 KB y3
  have x1 := y3 0 _ rfl
  have x2 := y3 1 _ rfl
  have x3 := y3 2 _ rfl
  rw [Nat.add_zero] at x1
  have X1 := Lib.hid x1
  have X2 := Lib.hid x2
  have X3 := Lib.hid (show Blk W0 (w.heap.size + 1 + 1) [.int .i64 ways, .slice none 0 0] from x3)
  replace KB := Lib.hid KB
  have hx3 := x3.1
  have hx1 := x1.1
  have hx2 := x2.1
  clear y1 y3 x1 x2 x3
  have c1 := X1.out.2.1 1 _ rfl
  go_wp2
  clear c1
  go_loopw [16] (fun i wr => ∃ (j : Nat) (v : Value), j ≤ n ∧ i = .int .i64 j ∧ wr.ownsRow W0.heap.size 53 1 v j ((L.take j).map hdC).flatten ∧ Blk wr w.heap.size [.int .i64 ways, .slice A n cap] ∧ Blk wr (w.heap.size + 1) [.int .i64 0, .slice none 0 0] ∧ Blk wr (w.heap.size + 1 + 1) [.int .i64 ways, v] ∧ Below w.heap.size w wr ∧ W0.heap.size ≤ wr.heap.size) (fun i _ => n - (intOf i).toNat)
  case atStart => exact ⟨0, .slice none 0 0, by omega, rfl, World.ownsRow_nil _ _ _ _, X1.out, X2.out, X3.out, KB.out, Nat.le_refl _⟩
  case round =>
    obtain ⟨j, v, hj, rfl, hov, hx1', hx2', hx3', hb, hW0⟩ := hrel
    clear X1 X2 X3 KB
    have X1 := Lib.hid hx1'
    have X2 := Lib.hid hx2'
    have X3 := Lib.hid hx3'
    have KB := Lib.hid hb
    have OV := Lib.hid hov
    clear hx1' hx2' hx3' hb hov
    by_cases hlt : j < n
    · obtain ⟨h, hh⟩ : ∃ h, hs[j]? = some h := ⟨_, List.getElem?_eq_getElem (by omega)⟩
      obtain ⟨a, rfl, hal, h0, -⟩ := RowsAt.at_ (HS.out.below KB.out).1 (j := j) (c := hdC h) (by rw [List.getElem?_map, hh]; rfl)
      have e1 := h0 _ rfl
      rw [Nat.mul_one] at e1
      have d1 := X3.out.2.1 1 _ rfl
      have c1 := X3.out.2.2 1 (by simp)
      have hjn : (j : Int) < n := by omega
      have f1 := hjn
      clear h0
      by_cases hjk : j = k
      · subst hjk
        have e9 : ((j : Int) == j) = true := by simp
        have HLJ := Lib.hid (show L[j]? = some ⟨qa, qn, qc⟩ by rw [← HLS.out, List.getElem?_set_self (by omega)])
        clear hh
        go_upto_region 8 with ((at_builtin
                                refine wpList_append_hdr rfl (.tmp 25) (.tmp 27) rfl W0.heap.size _ j _ rfl (OV.out.alloc _) (some ⟨wr.heap.size, 0, none⟩) 1 1 [⟨qa, qn, qc⟩] rfl (one_hdr _ _) (fun h => by cases h) (by omega) (Nat.le_trans hW0 (by simp)) ?_
                                intro v2 w2 ho2 hg2
                                have bb := below_app (Below.refl W0.heap.size wr) hW0 OV.out hg2
                                have z1 := X1.out.below bb hx1
                                have z2 := X2.out.below bb hx2
                                have z5 := X3.out.below bb hx3
                                have z3 := KB.out.trans (bb.mono (by omega))
                                have z6 := bb.size
                                clear hg2 bb c1 d1 e1 f1
                                have Y1 := Lib.hid z1
                                have Y2 := Lib.hid z2
                                have Y3 := Lib.hid z5
                                have YB := Lib.hid z3
                                rw [show ((L.take j).map hdC).flatten ++ ([⟨qa, qn, qc⟩].map hdC).flatten = ((L.take (j + 1)).map hdC).flatten by rw [List.take_add_one, HLJ.out, List.map_append, List.flatten_append]; rfl] at ho2
                                obtain ⟨A2, c2, rfl, -, -, -, -⟩ := own_hdr ho2 (by rw [List.length_take]; omega)
                                have YV := Lib.hid ho2
                                clear z1 z2 z3 z5 ho2
                                have t1 := Y3.out.2.1 1 _ rfl
                                have f1 := Y3.out.2.2 1 (by simp)))
        have z1 := Y1.out.other (p := ⟨w.heap.size + 1 + 1, 1, none⟩) (v := .slice A2 (j + 1) c2) (by simp; omega)
        have z2 := Y2.out.other (p := ⟨w.heap.size + 1 + 1, 1, none⟩) (v := .slice A2 (j + 1) c2) (by simp)
        have z5 := Y3.out.set (i := 1) (v := .slice A2 (j + 1) c2) (by simp)
        simp only [List.set_cons_succ, List.set_cons_zero] at z5
        have z3 := YB.out.setCell (p := ⟨w.heap.size + 1 + 1, 1, none⟩) (by show w.heap.size ≤ w.heap.size + 1 + 1; omega) (.slice A2 (j + 1) c2)
        have z4 := ownsRow_setCell_below YV.out (a := ⟨w.heap.size + 1 + 1, 1, none⟩) (by show w.heap.size + 1 + 1 < W0.heap.size; omega) (.slice A2 (j + 1) c2)
        have z7 : (w2.setCell ⟨w.heap.size + 1 + 1, 1, none⟩ (.slice A2 (j + 1) c2)).heap.size = w2.heap.size := by simp
        clear Y1 Y2 Y3 YB YV t1 f1
        generalize World.setCell w2 ⟨w.heap.size + 1 + 1, 1, none⟩ (.slice A2 (j + 1) c2) = w3 at *
        have Z1 := Lib.hid z1
        have Z2 := Lib.hid z2
        have Z3 := Lib.hid z5
        have ZB := Lib.hid z3
        have ZV := Lib.hid z4
        clear z1 z2 z3 z4 z5
        go_wp2
        go_roundw
        case rel => exact ⟨j + 1, _, by omega, by go_num, ZV.out, Z1.out, Z2.out, Z3.out, ZB.out, by omega⟩
        case measure => simp [intOf]; omega
      · have e9 : ((j : Int) == k) = false := by simp; omega
        have HLJ := Lib.hid (show L[j]? = some h by rw [← HLS.out, List.getElem?_set_ne (by omega)]; exact hh)
        clear hh
        go_upto_region 8 with ((at_builtin
                                refine wpList_append_hdr rfl (.tmp 31) (.tmp 33) rfl W0.heap.size _ j _ rfl (OV.out.alloc _) (some ⟨wr.heap.size, 0, none⟩) 1 1 [h] rfl (one_hdr _ _) (fun h => by cases h) (by omega) (Nat.le_trans hW0 (by simp)) ?_
                                intro v2 w2 ho2 hg2
                                have bb := below_app (Below.refl W0.heap.size wr) hW0 OV.out hg2
                                have z1 := X1.out.below bb hx1
                                have z2 := X2.out.below bb hx2
                                have z5 := X3.out.below bb hx3
                                have z3 := KB.out.trans (bb.mono (by omega))
                                have z6 := bb.size
                                clear hg2 bb c1 d1 e1 f1
                                have Y1 := Lib.hid z1
                                have Y2 := Lib.hid z2
                                have Y3 := Lib.hid z5
                                have YB := Lib.hid z3
                                rw [show ((L.take j).map hdC).flatten ++ ([h].map hdC).flatten = ((L.take (j + 1)).map hdC).flatten by rw [List.take_add_one, HLJ.out, List.map_append, List.flatten_append]; rfl] at ho2
                                obtain ⟨A2, c2, rfl, -, -, -, -⟩ := own_hdr ho2 (by rw [List.length_take]; omega)
                                have YV := Lib.hid ho2
                                clear z1 z2 z3 z5 ho2
                                have t1 := Y3.out.2.1 1 _ rfl
                                have f1 := Y3.out.2.2 1 (by simp)))
        have z1 := Y1.out.other (p := ⟨w.heap.size + 1 + 1, 1, none⟩) (v := .slice A2 (j + 1) c2) (by simp; omega)
        have z2 := Y2.out.other (p := ⟨w.heap.size + 1 + 1, 1, none⟩) (v := .slice A2 (j + 1) c2) (by simp)
        have z5 := Y3.out.set (i := 1) (v := .slice A2 (j + 1) c2) (by simp)
        simp only [List.set_cons_succ, List.set_cons_zero] at z5
        have z3 := YB.out.setCell (p := ⟨w.heap.size + 1 + 1, 1, none⟩) (by show w.heap.size ≤ w.heap.size + 1 + 1; omega) (.slice A2 (j + 1) c2)
        have z4 := ownsRow_setCell_below YV.out (a := ⟨w.heap.size + 1 + 1, 1, none⟩) (by show w.heap.size + 1 + 1 < W0.heap.size; omega) (.slice A2 (j + 1) c2)
        have z7 : (w2.setCell ⟨w.heap.size + 1 + 1, 1, none⟩ (.slice A2 (j + 1) c2)).heap.size = w2.heap.size := by simp
        clear Y1 Y2 Y3 YB YV t1 f1
        generalize World.setCell w2 ⟨w.heap.size + 1 + 1, 1, none⟩ (.slice A2 (j + 1) c2) = w3 at *
        have Z1 := Lib.hid z1
        have Z2 := Lib.hid z2
        have Z3 := Lib.hid z5
        have ZB := Lib.hid z3
        have ZV := Lib.hid z4
        clear z1 z2 z3 z4 z5
        go_wp2
        go_roundw
        case rel => exact ⟨j + 1, _, by omega, by go_num, ZV.out, Z1.out, Z2.out, Z3.out, ZB.out, by omega⟩
        case measure => simp [intOf]; omega
    · obtain rfl : j = n := by omega
      have ho := OV.out
      rw [List.take_of_length_le (by omega)] at ho
      obtain ⟨A', c', rfl, g1, g2, g3, g4⟩ := own_hdr ho hLl
      have O1 := Lib.hid g4
      have HZI := Lib.hid (show (Try.prog.info? 24).map (·.size) = some (#[.int .i64 ways, .slice A' j c'] : Array Value).size by kernel_rfl)
      have HZO := Lib.hid (show (#[.int .i64 ways, .slice A' j c'] : Array Value).all (·.oneCell') = true by simp [Value.oneCell'])
      clear ho g4
      go_wp2_with (first
        | (refine wpList_load_mid rfl 24 (.tmp 7) rfl (w.heap.size + 1 + 1) 0 rfl [.int .i64 ways, .slice A' j c'] _ X3.out.range Try.underlying24 rfl ca_info ?_)
        | (refine wpList_store_blk3 rfl 24 (.tmp 6) (.tmp 37) rfl (w.heap.size + 1) _ #[.int .i64 ways, .slice A' j c'] X2.out rfl rfl rfl HZI.out HZO.out ?_
           intro W4 q1 q2 q2f q3 q4
           have G1 := Lib.hid q1
           have G3 := Lib.hid (KB.out.trans (q3 w.heap.size (by omega)))
           have O3 := Lib.hid (O1.out.same (b := w.heap.size + 1) (by omega) q2 q2f q4)
           clear q1 q2 q2f q3 q4))
      exact bodyPost_ret (v := .agg #[.int .i64 ways, .slice A' j c']) (results_cell_blk Try.results43 _ W4 (w.heap.size + 1) [.int .i64 ways, .slice A' j c'] _ rfl G1.out Try.underlying24 rfl ca_info) rfl
        ⟨A', c', rfl, g1, g2, g3, OwnAt.lower (B := w.heap.size) (B' := W0.heap.size) O3.out (by omega), by rw [← HLS.out]; exact (HS.out.2.below G3.out).set k _ _ (HQ.out.below G3.out), G3.out⟩
end Go.Proofs.Ytcgahdmacngipaa
