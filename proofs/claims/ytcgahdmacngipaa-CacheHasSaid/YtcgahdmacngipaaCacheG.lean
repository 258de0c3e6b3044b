/- few of auspexlaw10: a cache of few lines. -/
import Derived.Test.YtcgahdmacngipaaCacheF
namespace Go.Proofs.Ytcgahdmacngipaa
open Go.ChangeShapes Go.WideShapes Go.ChangeAt Go.RowKit Go.Sort
set_option linter.unusedVariables false
set_option linter.unusedSimpArgs false
set_option maxHeartbeats 4000000
set_option maxRecDepth 100000

def fewS (ss : List (List Wy)) : List (List Wy) := (ss.take 6).map (·.take 6)
def mixS (T : List (List Wy)) (k : Nat) : List (List Wy) := (T.take k).map (·.take 6) ++ T.drop k
theorem mixS_get {T : List (List Wy)} {k : Nat} {s : List Wy} (h : T[k]? = some s) : (mixS T k)[k]? = some s := by
  have hk := (List.getElem?_eq_some_iff.1 h).1
  unfold mixS
  rw [List.getElem?_append_right (by simp; omega), List.length_map, List.length_take, Nat.min_eq_left (by omega), Nat.sub_self, List.getElem?_drop, Nat.add_zero]
  exact h
theorem mixS_set {T : List (List Wy)} {k : Nat} {s : List Wy} (h : T[k]? = some s) : (mixS T k).set k (s.take 6) = mixS T (k + 1) := by
  have hk := (List.getElem?_eq_some_iff.1 h).1
  unfold mixS
  have hl : ((T.take k).map (fun x : List Wy => x.take 6)).length = k := by simp; omega
  rw [show T.take (k + 1) = T.take k ++ [s] by rw [List.take_add_one, h]; rfl, List.set_append_right _ _ (by omega), hl, Nat.sub_self, List.map_append, List.append_assoc]
  congr 1
  have : T.drop k = s :: T.drop (k + 1) := by
    rw [List.drop_eq_getElem_cons hk]
    congr 1
    have := List.getElem?_eq_getElem hk
    rw [h] at this
    exact (Option.some.inj this).symm
  rw [this]
  rfl
theorem mixS_len (T : List (List Wy)) (k : Nat) : (mixS T k).length = T.length := by unfold mixS; simp; omega
theorem fewS_ok {ss : List (List Wy)} (h : setsOK ss) : setsOK (fewS ss) := by
  intro s hs r hr
  obtain ⟨t, ht, rfl⟩ := List.mem_map.1 hs
  exact h t (List.mem_of_mem_take ht) r (List.mem_of_mem_take hr)
theorem hd_trim {w : World} {h : Hd} {s : List Wy} (q : HdAt w h s) (m : Nat) (hm : m ≤ h.n) : HdAt w ⟨h.at_, m, h.cap⟩ (s.take m) := ⟨Nat.le_trans hm q.1, q.2.1, q.2.2.1, q.2.2.2.take hm⟩
theorem few10_any (ways : Int) (A : Option Addr) (n cap : Nat) (hs : List Hd) (ss : List (List Wy)) (hn : n ≤ cap) (hc : cap ≤ maxLen) (hz : A = none → cap = 0) (w : World) (hS : SetsAt w A n hs ss) :
    Calls Try.prog 9 #[caV ways A n cap] w fun e w' => ∃ (A' : Option Addr) (n' c' : Nat) (hs' : List Hd), e = .returned (caV ways A' n' c') ∧ n' ≤ 6 ∧ n' ≤ c' ∧ c' ≤ maxLen ∧ (A' = none → c' = 0) ∧ SetsAt w' A' n' hs' (fewS ss) ∧ Below w.heap.size w w' := by
  have hl := hS.len
  obtain ⟨n', hn'⟩ : ∃ k, min n 6 = k := ⟨_, rfl⟩
  have e1 : (if (6 : Int) < (n : Int) then (6 : Int) else (n : Int)) = (n' : Int) := by split <;> omega
  have k1 : (n' : Int) ≤ cap := by omega
  have k2 : n' ≤ 6 := by omega
  have hT := hS.take (show n' ≤ n by omega)
  have hTl : (ss.take n').length = n' := by rw [List.length_take]; omega
  have HFS := Lib.hid (show (ss.take n').map (·.take 6) = fewS ss by
    unfold fewS
    congr 1
    rw [← hn', hl.symm]
    rcases Nat.le_total ss.length 6 with h | h
    · rw [Nat.min_eq_left h, List.take_of_length_le (Nat.le_refl _), List.take_of_length_le h]
    · rw [Nat.min_eq_right h])
  obtain ⟨T, hTe⟩ : ∃ T, ss.take n' = T := ⟨_, rfl⟩
  rw [hTe] at hT hTl HFS
  obtain ⟨gs, hge⟩ : ∃ gs, hs.take n' = gs := ⟨_, rfl⟩
  rw [hge] at hT
  have HT := Lib.hid hT
  unfold maxLen at hc
  clear hS hge hTe hn' hl
  unfold caV
  go_enter Try.func9, Try.ntmps9
  go_upto_region 1 with fail
  refine wp_allocs [([.int .i64 ways, .slice A n cap], 24), ([.int .i64 0, .slice none 0 0], 24)] rfl ?_
  intro W0 y1 KB y3
  have x1 := y3 0 _ rfl
  have x2 := y3 1 _ rfl
  rw [Nat.add_zero] at x1
  have X1 := Lib.hid x1
  have X2 := Lib.hid x2
  replace KB := Lib.hid KB
  clear y1 y3 x1 x2
  have hown := World.ownsRow_made W0 (base := W0.heap.size) (e := 53) (size := 1) #[] 0 (Nat.le_refl _) (Nat.zero_le _) rfl
  have hb0 := (Below.refl W0.heap.size W0).alloc (Nat.le_refl _) (.cells #[] 53)
  have c1 := (X1.out.below hb0 X1.out.1).2.1 1 _ rfl
  have hx2s := X2.out.1
  have HOW := Lib.hid hown
  have HB0 := Lib.hid hb0
  clear hown hb0
  go_upto_region 2 with (at_builtin
                         refine wpList_append_hdr rfl (.tmp 4) (.tmp 11) rfl W0.heap.size _ 0 [] rfl HOW.out A n' cap gs rfl (RowsAt.below (HT.out.below KB.out).1 HB0.out) hz (by omega) HB0.out.size ?_
                         intro v' W1 ho hg
                         rw [List.nil_append, Nat.zero_add] at ho
                         obtain ⟨A', c', rfl, g1, g2, g3, g4⟩ := own_hdr ho (by have := HT.out.hlen; exact this)
                         have b1 := HB0.out.grown hg HB0.out.size (fun j hj => (HOW.out.lt j hj).1)
                         have O1 := Lib.hid g4
                         have z1 := X1.out.below b1 X1.out.1
                         have z2 := X2.out.below b1 X2.out.1
                         have z3 := KB.out.trans (b1.mono KB.out.size)
                         clear X1 X2 KB ho hg b1 c1 g4
                         have X1 := Lib.hid z1
                         have X2 := Lib.hid z2
                         have KB := Lib.hid z3
                         clear z1 z2 z3
                         have c1 := X1.out.2.1 1 _ rfl
                         have f1 := X1.out.2.2 1 (by simp))
  have z1 := (X1.out).set (i := 1) (v := .slice A' n' c') (by simp)
  simp only [List.set_cons_succ, List.set_cons_zero] at z1
  have z2 := (X2.out).other (p := ⟨w.heap.size, 1, none⟩) (v := .slice A' n' c') (by simp)
  have z3 := (KB.out).setCell (p := ⟨w.heap.size, 1, none⟩) (Nat.le_refl _) (.slice A' n' c')
  have z4 : OwnAt (W1.setCell ⟨w.heap.size, 1, none⟩ (.slice A' n' c')) W0.heap.size A' n' 1 (gs.map hdC) := O1.out.far (by show w.heap.size < W0.heap.size; omega) _
  clear X1 X2 KB O1 c1 f1
  generalize W1.setCell ⟨w.heap.size, 1, none⟩ (.slice A' n' c') = W2 at *
  have X1 := Lib.hid z1
  have X2 := Lib.hid z2
  have KB := Lib.hid z3
  have O1 := Lib.hid z4
  clear z1 z2 z3 z4
  have c1 := X1.out.2.1 1 _ rfl
  go_wp2_with fail
  clear c1
  go_loopw [17] (fun v wr => ∃ (k : Nat) (hk : List Hd), k ≤ n' ∧ v = .int .i64 k ∧ OwnAt wr W0.heap.size A' n' 1 (hk.map hdC) ∧ HdsAt w hk (mixS T k) ∧ Blk wr w.heap.size [.int .i64 ways, .slice A' n' c'] ∧ Blk wr (w.heap.size + 1) [.int .i64 0, .slice none 0 0] ∧ Below w.heap.size w wr) (fun v _ => n' - (intOf v).toNat)
  case atStart => exact ⟨0, gs, by omega, rfl, O1.out, HT.out.2, X1.out, X2.out, KB.out⟩
  case round =>
    obtain ⟨k, hk, hkn, rfl, ho, hh, hx1, hx2, hb⟩ := hrel
    clear X1 X2 KB O1
    have X1 := Lib.hid hx1
    have X2 := Lib.hid hx2
    have KB := Lib.hid hb
    have O1 := Lib.hid ho
    have HH := Lib.hid hh
    clear hx1 hx2 hb ho hh
    by_cases hlt : k < n'
    · obtain ⟨s, hs⟩ : ∃ s, T[k]? = some s := ⟨_, List.getElem?_eq_getElem (by omega)⟩
      obtain ⟨q, hq, hqa⟩ := HH.out.get (mixS_get hs)
      have MS := Lib.hid (mixS_set hs)
      obtain ⟨g, rfl, hg1, hg2, hcell, hfr⟩ := O1.out.at_ (j := k) (c := hdC q) (by rw [List.getElem?_map, hq]; rfl)
      have hqn := hqa.2.2.2.len
      obtain ⟨qa, qn, qc⟩ := q
      simp only at hqn
      subst hqn
      have hq1 := hqa.1
      have hq2 := hqa.2.1
      simp only at hq1 hq2
      unfold maxLen at hq2
      have d0 := hcell 0 _ rfl
      have d1 := hfr 0 (by omega)
      rw [Nat.mul_one, Nat.add_zero] at d0 d1
      obtain ⟨m, hm⟩ : ∃ m, min s.length 6 = m := ⟨_, rfl⟩
      have e2 : (if (6 : Int) < (s.length : Int) then (6 : Int) else (s.length : Int)) = (m : Int) := by split <;> omega
      have hmc : (m : Int) ≤ qc := by omega
      have hkn' : (k : Int) < n' := by omega
      have c1 := X1.out.2.1 1 _ rfl
      have p1 := fun d os => cell_regrown c1 d os
      have p0 := fun d os => cell_regrown d0 d os
      have HQ := Lib.hid hq
      have HQA := Lib.hid (show HdAt w ⟨qa, m, qc⟩ (s.take 6) by
        have := hd_trim hqa m (show m ≤ s.length by omega)
        rwa [show s.take m = s.take 6 by rw [← hm]; rcases Nat.le_total s.length 6 with h | h
                                         · rw [Nat.min_eq_left h, List.take_of_length_le (Nat.le_refl _), List.take_of_length_le h]
                                         · rw [Nat.min_eq_right h]] at this)
      clear hs hq hqa hcell hfr hm
      go_upto_region 5 with fail
      refine wp_region_below_tail 17 (by kernel_rfl) (by kernel_rfl) ?_
      simp only [List.take_succ_cons, List.take_zero, List.drop_succ_cons, List.drop_zero]
      repeat (go_big_quiet_step (fail))
      refine wpQuiet_nil ?_
      intro _ hw'
      obtain ⟨⟨nq, osq⟩, hw''⟩ := hw'
      subst hw''
      have bq := below_regrown wr nq osq
      clear p0 p1 d0 d1 c1
      have z1 := X1.out.below bq X1.out.1
      have z2 := X2.out.below bq X2.out.1
      have z3 := KB.out.trans (bq.mono KB.out.size)
      have z4 := O1.out.below bq
      clear X1 X2 KB O1 bq
      have X1 := Lib.hid z1
      have X2 := Lib.hid z2
      have KB := Lib.hid z3
      have O1 := Lib.hid z4
      clear z1 z2 z3 z4
      generalize grow (redrawn wr nq) osq = V5 at *
      have hcq : (hk.map hdC)[k]? = some (hdC ⟨qa, s.length, qc⟩) := by rw [List.getElem?_map, HQ.out]; rfl
      obtain ⟨g', hg', -, hg3, hcell, hfr⟩ := O1.out.at_ hcq
      cases hg'
      have d0 := hcell 0 _ rfl
      have d1 := hfr 0 (by omega)
      rw [Nat.mul_one, Nat.add_zero] at d0 d1
      clear hcell hfr
      go_upto_region 6 with fail
      have z1 := (X1.out).other (p := ⟨g, k, none⟩) (v := .slice qa m qc) (by simp; omega)
      have z2 := (X2.out).other (p := ⟨g, k, none⟩) (v := .slice qa m qc) (by simp; omega)
      have z3 := (KB.out).setCell (p := ⟨g, k, none⟩) (by show w.heap.size ≤ g; omega) (.slice qa m qc)
      have z4 := O1.out.set hcq (i := 0) (by omega) (.slice qa m qc)
      rw [Nat.mul_one, Nat.add_zero, show (hk.map hdC).set k ((hdC ⟨qa, s.length, qc⟩).set 0 (.slice qa m qc)) = (hk.set k ⟨qa, m, qc⟩).map hdC by rw [List.map_set]; rfl] at z4
      have z5 := HH.out.set k ⟨qa, m, qc⟩ (s.take 6) HQA.out
      rw [MS.out] at z5
      clear d0 d1 hcq X1 X2 KB O1
      generalize V5.setCell ⟨g, k, none⟩ (.slice qa m qc) = V6 at *
      have Z1 := Lib.hid z1
      have Z2 := Lib.hid z2
      have Z3 := Lib.hid z3
      have Z4 := Lib.hid z4
      have Z5 := Lib.hid z5
      clear z1 z2 z3 z4 z5
      go_wp2
      go_roundw
      case rel => exact ⟨k + 1, _, by omega, by go_num, Z4.out, Z5.out, Z1.out, Z2.out, Z3.out⟩
      case measure => simp [intOf]; omega
    · obtain rfl : k = n' := by omega
      have HZI := Lib.hid (show (Try.prog.info? 24).map (·.size) = some (#[.int .i64 ways, .slice A' k c'] : Array Value).size by kernel_rfl)
      have HZO := Lib.hid (show (#[.int .i64 ways, .slice A' k c'] : Array Value).all (·.oneCell') = true by simp [Value.oneCell'])
      have HFIN := Lib.hid (show mixS T k = fewS ss by
        unfold mixS
        rw [List.take_of_length_le (by omega), List.drop_of_length_le (by omega), List.append_nil]
        exact HFS.out)
      go_wp2_with (first
        | (refine wpList_load_mid rfl 24 (.tmp 1) rfl w.heap.size 0 rfl [.int .i64 ways, .slice A' k c'] _ X1.out.range Try.underlying24 rfl ca_info ?_)
        | (refine wpList_store_blk3 rfl 24 (.tmp 2) (.tmp 38) rfl (w.heap.size + 1) _ #[.int .i64 ways, .slice A' k c'] X2.out rfl rfl rfl HZI.out HZO.out ?_
           intro W3 q1 q2 q2f q3 q4
           have G1 := Lib.hid q1
           have G3 := Lib.hid (KB.out.trans (q3 w.heap.size (by omega)))
           have O3 := Lib.hid (O1.out.same (b := w.heap.size + 1) (by omega) q2 q2f q4)
           clear q1 q2 q2f q3 q4))
      exact bodyPost_ret (v := .agg #[.int .i64 ways, .slice A' k c']) (results_cell_blk Try.results9 _ W3 (w.heap.size + 1) [.int .i64 ways, .slice A' k c'] _ rfl G1.out Try.underlying24 rfl ca_info) rfl
        ⟨A', k, c', rfl, k2, g1, g2, g3, ⟨hk, O3.out.1, by have := HH.out.below G3.out; rwa [HFIN.out] at this⟩, G3.out⟩
end Go.Proofs.Ytcgahdmacngipaa
