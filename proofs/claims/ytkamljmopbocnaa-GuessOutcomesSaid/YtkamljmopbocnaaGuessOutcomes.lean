/- Proved: the statement of GuessOutcomes (auspexlaw12): the last outcomes are three bits, the last one lowest; for every input; no condition. -/
import Derived.Test.YtkamljmopbocnaaRows
import Derived.Test.YtkamljmopbocnaaGuessF
import Derived.OpenShut
import Derived.ChangeMaps5
namespace Go.Proofs.Ytkamljmopbocnaa.guessOutcomes
open Go.ChangeShapes Go.WideShapes Go.ChangeAt Go.RowKit Go.Sort
set_option linter.unusedVariables false
set_option linter.unusedSimpArgs false
set_option maxHeartbeats 8000000
set_option maxRecDepth 100000

theorem guess_info : (Try.prog.info? 27).map (·.size) = some 3 := by kernel_rfl
theorem below_drG (B : Nat) (w : World) (q : Nat) : Below B w (w.drewN q) := ⟨rfl, rfl, rfl, Nat.le_refl _, fun _ _ => rfl⟩
theorem histI_range {h next pc : Int} (h0 : 0 ≤ h) : 0 ≤ histI h next pc ∧ histI h next pc < 8 := by unfold histI; split <;> omega
theorem walk (A : Option Addr) (na ca : Nat) (q : Int) (B : Option Addr) (nb cb : Nat) (L : List (Int × Int)) (R : List Int) (X : Option Addr) (nx cx : Nat) (xs : List Int) (Y : Option Addr) (ny cy : Nat) (ys : List Int)
    (wA : na ≤ ca ∧ ca ≤ maxLen) (wB : nb ≤ cb ∧ cb ≤ maxLen) (wz : B = none → cb = 0) (wh : (Lit.int .u32 q).wf = true) (wX : nx ≤ cx) (wX' : cx ≤ maxLen) (wx : ∀ z ∈ xs, (Lit.int .u32 z).wf = true) (wY : ny ≤ cy) (wY' : cy ≤ maxLen) (wy : ∀ z ∈ ys, (Lit.int .u32 z).wf = true)
    (w : World) (hA : RowsAt w A na 2 (L.map slC)) (hB : IntsAt w B nb .u32 R) (hX : IntsAt w X nx .u32 xs) (hY : IntsAt w Y ny .u32 ys) :
    Calls Try.prog 4 #[gV A na ca q B nb cb, .slice X nx cx, .slice Y ny cy] w fun e w' => e = .returned (.bool true) ∧ Below w.heap.size w w' := by
  have HF := Lib.hid (fun w => few12_any A na ca q B nb cb wA.1 wA.2 wB.1 wB.2 w)
  obtain ⟨na', hna⟩ : ∃ k, min na 20 = k := ⟨_, rfl⟩
  obtain ⟨nb', hnb⟩ : ∃ k, min nb 20 = k := ⟨_, rfl⟩
  rw [hna, hnb] at HF
  have HR := Lib.hid (fun w => guessRefRight_any A na' ca q B nb' cb w)
  have hh := bounds_u32 wh
  have f1 := Blk.new w 27 [.slice A na ca, .int .u32 q, .slice B nb cb]
  have f3 : Below w.heap.size w (w.alloc (.cells #[.slice A na ca, .int .u32 q, .slice B nb cb] 27)) := (Below.refl _ _).alloc (Nat.le_refl _) _
  have HI := Lib.hid (show (Try.prog.info? 27).map (·.size) = some (#[.slice A na' ca, .int .u32 q, .slice B nb' cb] : Array Value).size from guess_info)
  have HO := Lib.hid (show (#[.slice A na' ca, .int .u32 q, .slice B nb' cb] : Array Value).all (·.oneCell') = true by simp [Value.oneCell'])
  have hRA := RowsAt.take hA (Nat.min_le_left na 20)
  have hRB := hB.take (Nat.min_le_left nb 20)
  rw [hna, ← List.map_take] at hRA
  rw [hnb] at hRB
  unfold gV at HF HR ⊢
  by_cases hr : rightB na' q nb' = true
  · rw [hr] at HR
    have hrr : na' = 8 ∧ q < 8 ∧ nb' ≤ 4 := by simpa [rightB] using hr
    obtain ⟨rfl, h8, hb4⟩ := hrr
    have hxb : ∀ z ∈ xs, 0 ≤ z ∧ z < 4294967296 := fun z hz => by have := bounds_u32 (wx z hz); omega
    have hyb : ∀ z ∈ ys, 0 ≤ z ∧ z < 4294967296 := fun z hz => by have := bounds_u32 (wy z hz); omega
    obtain ⟨N, hN⟩ : ∃ N, min (min nx ny) 20 = N := ⟨_, rfl⟩
    obtain ⟨mm, hmm⟩ : ∃ m, min nx ny = m := ⟨_, rfl⟩
    have e1 : (if ny < nx then (ny : Int) else (nx : Int)) = (mm : Int) := by split <;> omega
    have e1' : (if (ny : Int) < (nx : Int) then (ny : Int) else (nx : Int)) = (mm : Int) := by split <;> omega
    have e3 : min (mm : Int) 20 = (N : Int) := by omega
    have e4 : min (nx : Int) (ny : Int) = (mm : Int) := by omega
    have e2 : (if (20 : Int) < (mm : Int) then (20 : Int) else (mm : Int)) = (N : Int) := by split <;> omega
    have k1 : N ≤ nx := by omega
    have k2 : N ≤ ny := by omega
    have k3 : N ≤ 20 := by omega
    have HX := Lib.hid hX
    have HY := Lib.hid hY
    have HXB := Lib.hid hxb
    have HYB := Lib.hid hyb
    have HRA := Lib.hid hRA
    have HRB := Lib.hid hRB
    have HWZ := Lib.hid wz
    have HDA := Lib.hid (show ∀ a, A = some a → a.block < w.heap.size from fun a ha => by
      obtain ⟨_, a', ha', hl, _⟩ := hRA.2 0 _ (List.getElem?_eq_getElem (by rw [hRA.1]; decide))
      rw [ha] at ha'; cases ha'; exact hl)
    clear hr hna hnb hRA hRB hA hB hX hY wx wy hxb hyb hN hmm wz
    go_enter Try.func4, Try.ntmps4
    go_upto_region 1 with fail
    generalize w.alloc (.cells #[.slice A na ca, .int .u32 q, .slice B nb cb] 27) = W0 at *
    have X1 := Lib.hid f1
    have KB := Lib.hid f3
    clear f1 f3
    go_upto_region 2 with (first
      | (refine wpList_load_mid rfl 27 (.tmp 3) rfl w.heap.size 0 rfl [.slice A na ca, .int .u32 q, .slice B nb cb] _ X1.out.range Try.underlying27 rfl guess_info ?_)
      | (go_at_call 11
         refine (HF.out _).mono ?_
         rintro e w1 ⟨rfl, b⟩
         have X2 := Lib.hid (X1.out.below b X1.out.1)
         have K2 := Lib.hid (KB.out.trans (b.mono KB.out.size))
         clear b)
      | (refine wpList_store_blk rfl 27 (.tmp 3) (.tmp 10) rfl w.heap.size _ #[.slice A 8 ca, .int .u32 q, .slice B nb' cb] X2.out rfl rfl rfl HI.out HO.out ?_
         intro W3 g1 g2 g3 g4
         have X3 := Lib.hid g1
         have K3 := Lib.hid (K2.out.trans (g3 w.heap.size (Nat.le_refl _)))
         clear g1 g2 g3 g4))
    go_upto_region 4 with (first
      | (refine wpList_load_mid rfl 27 (.tmp 3) rfl w.heap.size 0 rfl [.slice A 8 ca, .int .u32 q, .slice B nb' cb] _ X3.out.range Try.underlying27 rfl guess_info ?_)
      | (go_at_call 7
         refine (HR.out _).mono ?_
         rintro e w4 ⟨rfl, b⟩
         have K4 := Lib.hid (K3.out.trans (b.mono K3.out.size))
         have X4 := Lib.hid (X3.out.below b X3.out.1)
         clear b))
    have c1 := X4.out.2.1 1 _ rfl
    go_wp2_with fail
    go_loopw [22, 7] (fun i hv wr => ∃ (k : Nat) (Ak : Option Addr) (ck : Nat) (qk : Int) (Bk : Option Addr) (nk cbk : Nat) (Lk : List (Int × Int)) (Rk : List Int), k ≤ N ∧ i = .int .i64 k ∧ hv = .int .u32 qk ∧ (0 ≤ qk ∧ qk < 8) ∧ nk ≤ 4 ∧ (Bk = none → cbk = 0) ∧ Blk wr w.heap.size [.slice Ak 8 ck, .int .u32 qk, .slice Bk nk cbk] ∧ RowsAt wr Ak 8 2 (Lk.map slC) ∧ IntsAt wr Bk nk .u32 Rk ∧ RowKit.Below w.heap.size w wr ∧ (∀ a, Ak = some a → a.block ≠ w.heap.size) ∧ (∀ a, Bk = some a → 0 < nk → a.block ≠ w.heap.size)) (fun i _ _ => N - (intOf i).toNat)
    case atStart =>
      refine ⟨0, A, ca, q, B, nb', cb, _, _, Nat.zero_le _, rfl, rfl, ⟨hh.1, h8⟩, hb4, HWZ.out, X4.out, HRA.out.below K4.out, HRB.out.below K4.out, K4.out, fun a ha => by have := HDA.out a ha; omega, fun a ha hn => ?_⟩
      obtain ⟨a', ha', _⟩ := HRB.out.at_ hn
      obtain ⟨a2, h2, hl, _⟩ := HRB.out.2 0 _ (List.getElem?_eq_getElem (by rw [HRB.out.1]; exact hn))
      rw [ha] at h2
      cases h2
      omega
    case round =>
      obtain ⟨k, Ak, ck, qk, Bk, nk, cbk, Lk, Rk, hk, rfl, rfl, hq, hn4, hz, hblk, hra, hrb, hbel, hda, hdb⟩ := hrel
      have XB := Lib.hid hblk
      have RA := Lib.hid hra
      have RB := Lib.hid hrb
      have KB := Lib.hid hbel
      have DA := Lib.hid hda
      have DB := Lib.hid hdb
      have HZ := Lib.hid hz
      by_cases hlt : k < N
      · obtain ⟨x, hx⟩ : ∃ r, xs[k]? = some r := ⟨_, List.getElem?_eq_getElem (by rw [HX.out.1]; omega)⟩
        obtain ⟨y, hy⟩ : ∃ r, ys[k]? = some r := ⟨_, List.getElem?_eq_getElem (by rw [HY.out.1]; omega)⟩
        obtain ⟨px, rfl, hpx, hcx⟩ := (HX.out.below hbel).2 k x hx
        obtain ⟨py, rfl, hpy, hcy⟩ := (HY.out.below hbel).2 k y hy
        have HPW := Lib.hid (show px.block < w.heap.size ∧ py.block < w.heap.size from ⟨by
          obtain ⟨a, ha, hl, _⟩ := HX.out.2 k x hx
          cases ha
          exact hl, by
          obtain ⟨a, ha, hl, _⟩ := HY.out.2 k y hy
          cases ha
          exact hl⟩)
        have hxr := HXB.out x (List.mem_of_getElem? hx)
        have hyr := HYB.out y (List.mem_of_getElem? hy)
        have HTR := Lib.hid (fun w' ha hb => train_any Ak ck qk Bk nk cbk Lk Rk x y 6 0 0 0 0 hq.1 hq.2 hn4 hz hxr.1 hxr.2 (by simp [kindI]) w' ha hb)
        have hret : retL Rk x 6 0 0 = Rk := by simp [retL, callB, backB]
        rw [hret] at HTR
        have hgr := histI_range (next := y) (pc := x) hq.1
        have hgi : histI qk y x = qk * 2 % 8 + (if y = (x + 4) % 4294967296 then 0 else 1) := rfl
        obtain ⟨g, hg⟩ : ∃ g, histI qk y x = g := ⟨_, rfl⟩
        rw [hg] at HTR hgr hgi
        have HR2 := Lib.hid (fun (A' : Option Addr) (B' : Option Addr) (c' : Nat) W => guessRefRight_any A' 8 8 g B' nk c' W)
        rw [show rightB 8 g nk = true from decide_eq_true ⟨rfl, hgr.2, hn4⟩] at HR2
        have c0 := hblk.2.1 0 _ rfl
        have c1' := hblk.2.1 1 _ rfl
        have c2 := hblk.2.1 2 _ rfl
        have q0 := fun d os => cell_regrown c0 d os
        have q1 := fun d os => cell_regrown c1' d os
        have q2 := fun d os => cell_regrown c2 d os
        have qx := fun d os => cell_regrown hcx d os
        have qy := fun d os => cell_regrown hcy d os
        have HCX := Lib.hid hcx
        have HCY := Lib.hid hcy
        have HPX := Lib.hid (show (px.add k).block < wr.heap.size by rw [block_add]; exact hpx)
        have HPY := Lib.hid (show (py.add k).block < wr.heap.size by rw [block_add]; exact hpy)
        have HLT := Lib.hid hblk.1
        unfold gV at HTR HR2
        clear hblk hra hrb hbel hda hdb hz hx hy hret hg c0 c1' c2 hcx hcy hpx hpy
        have z1 : (k : Int) < nx := by omega
        have z2 : (k : Int) < ny := by omega
        go_upto_region 8 with fail
        refine wp_region_below_tail 10 (by kernel_rfl) (by kernel_rfl) ?_
        simp only [List.take_succ_cons, List.take_zero, List.drop_succ_cons, List.drop_zero]
        repeat (go_big_quiet_step (fail))
        refine wpQuiet_nil ?_
        intro _ hw'
        obtain ⟨⟨nq, osq⟩, hw''⟩ := hw'
        subst hw''
        have bq := below_regrown wr nq osq
        have XA := Lib.hid (XB.out.below bq XB.out.1)
        have RA1 := Lib.hid (RowsAt.below RA.out bq)
        have RB1 := Lib.hid (RB.out.below bq)
        have K1 := Lib.hid (KB.out.trans (bq.mono KB.out.size))
        have CX1 := Lib.hid ((bq.cell (p := px.add k) HPX.out).trans HCX.out)
        have CY1 := Lib.hid ((bq.cell (p := py.add k) HPY.out).trans HCY.out)
        have S1 := Lib.hid bq.size
        generalize grow (redrawn wr nq) osq = w5 at *
        clear q0 q1 q2 qx qy bq c1
        have HGI := Lib.hid (fun (A' B' : Option Addr) (n' c' : Nat) => show (Try.prog.info? 27).map (·.size) = some (#[.slice A' 8 8, .int .u32 g, .slice B' n' c'] : Array Value).size from guess_info)
        have HGO := Lib.hid (fun (A' B' : Option Addr) (n' c' : Nat) => show (#[.slice A' 8 8, .int .u32 g, .slice B' n' c'] : Array Value).all (·.oneCell') = true by simp [Value.oneCell'])
        by_cases hj : y = (x + 4) % 4294967296
        · have hjb : (y != (x + 4) % 4294967296) = false := by simp [hj]
          rw [if_pos hj] at hgi
          have hgi' : qk * 2 % 8 = g := by omega
          clear hj hgi
          go_wp2_with (first
            | (go_at_call 6
               refine (HTR.out _ RA1.out RB1.out).mono ?_
               rintro e w6 ⟨A', L', B', n', c', rfl, t1, t2, t3, t4, t5, t6, t7, t8⟩
               obtain rfl : n' = nk := by have := t5.1; have := RB1.out.1; omega
               have XA6 := Lib.hid (XA.out.below t8 XA.out.1)
               have RA6 := Lib.hid t4
               have RB6 := Lib.hid t5
               have K6 := Lib.hid (K1.out.trans (t8.mono K1.out.size))
               have CX6 := Lib.hid ((t8.cell (p := px.add k) (Nat.lt_of_lt_of_le HPX.out S1.out)).trans CX1.out)
               have CY6 := Lib.hid ((t8.cell (p := py.add k) (Nat.lt_of_lt_of_le HPY.out S1.out)).trans CY1.out)
               have DA6 := Lib.hid (show ∀ a, A' = some a → a.block ≠ w.heap.size from fun a ha => by have := t6 a ha; have := HLT.out; have := S1.out; omega)
               have DB6 := Lib.hid (show ∀ a, B' = some a → a.block ≠ w.heap.size from fun a ha => by have := t7 a ha; have := HLT.out; have := S1.out; omega)
               have Z6 := Lib.hid t3
               have S6 := Lib.hid (Nat.le_trans S1.out t8.size)
               clear t1 t2 t3 t4 t5 t6 t7 t8)
            | (refine wpList_store_blk2 rfl 27 (.tmp 3) (.tmp 35) rfl w.heap.size _ #[.slice A' 8 8, .int .u32 g, .slice B' n' c'] XA6.out rfl rfl rfl (HGI.out A' B' n' c') (HGO.out A' B' n' c') ?_
               intro W7 g1 g2 g3 g4
               have XA7 := Lib.hid g1
               have RA7 := Lib.hid (show RowsAt W7 A' 8 2 (L'.map slC) from ⟨RA6.out.1, fun j c hj => by
                 obtain ⟨h1, a, ha, hl, hv⟩ := RA6.out.2 j c hj
                 exact ⟨h1, a, ha, by rw [g4]; exact hl, fun i u hu => by rw [g2 _ (by rw [block_add]; exact DA6.out a ha)]; exact hv i u hu⟩⟩)
               have RB7 := Lib.hid (ints_far RB6.out g2 g4 DB6.out)
               have K7 := Lib.hid (K6.out.trans (g3 _ (Nat.le_refl _)))
               have CX7 := Lib.hid ((g2 (px.add k) (by rw [block_add]; have := HPW.out.1; omega)).trans CX6.out)
               have CY7 := Lib.hid ((g2 (py.add k) (by rw [block_add]; have := HPW.out.2; omega)).trans CY6.out)
               clear g1 g2 g3 g4))
          have cx7 := CX7.out
          have cy7 := CY7.out
          go_quiet (fail)
          have bd := below_drG W7.heap.size W7 nq
          have XA8 := Lib.hid (XA7.out.below bd XA7.out.1)
          have RA8 := Lib.hid (RowsAt.below RA7.out bd)
          have RB8 := Lib.hid (RB7.out.below bd)
          have K8 := Lib.hid (K7.out.trans (bd.mono K7.out.size))
          generalize W7.drewN nq = W8 at *
          clear cx7 cy7 bd
          have c8 := XA8.out.2.1 1 _ rfl
          go_wp2_with (first
            | (refine wpList_load_want 27 (.tmp 3) rfl rfl w.heap.size 0 rfl [.slice A' 8 8, .int .u32 g, .slice B' n' c'] _ XA8.out.range Try.underlying27 rfl (by kernel_rfl) ?_)
            | (go_at_call 7
               refine (HR2.out A' B' c' _).mono ?_
               rintro e w9 ⟨rfl, b⟩
               have XA9 := Lib.hid (XA8.out.below b XA8.out.1)
               have RA9 := Lib.hid (RowsAt.below RA8.out b)
               have RB9 := Lib.hid (RB8.out.below b)
               have K9 := Lib.hid (K8.out.trans (b.mono K8.out.size))
               clear b))
          go_roundw
          case rel => exact ⟨k + 1, A', 8, g, B', n', c', L', Rk, by omega, by go_num, rfl, hgr, hn4, Z6.out, XA9.out, RA9.out, RB9.out, K9.out, DA6.out, fun a ha _ => DB6.out a ha⟩
          case measure => simp [intOf]; omega
        · have hjb : (y != (x + 4) % 4294967296) = true := by simpa using hj
          rw [if_neg hj] at hgi
          have hgi' : qk * 2 % 8 + 1 = g := by omega
          clear hj hgi
          go_wp2_with (first
            | (go_at_call 6
               refine (HTR.out _ RA1.out RB1.out).mono ?_
               rintro e w6 ⟨A', L', B', n', c', rfl, t1, t2, t3, t4, t5, t6, t7, t8⟩
               obtain rfl : n' = nk := by have := t5.1; have := RB1.out.1; omega
               have XA6 := Lib.hid (XA.out.below t8 XA.out.1)
               have RA6 := Lib.hid t4
               have RB6 := Lib.hid t5
               have K6 := Lib.hid (K1.out.trans (t8.mono K1.out.size))
               have CX6 := Lib.hid ((t8.cell (p := px.add k) (Nat.lt_of_lt_of_le HPX.out S1.out)).trans CX1.out)
               have CY6 := Lib.hid ((t8.cell (p := py.add k) (Nat.lt_of_lt_of_le HPY.out S1.out)).trans CY1.out)
               have DA6 := Lib.hid (show ∀ a, A' = some a → a.block ≠ w.heap.size from fun a ha => by have := t6 a ha; have := HLT.out; have := S1.out; omega)
               have DB6 := Lib.hid (show ∀ a, B' = some a → a.block ≠ w.heap.size from fun a ha => by have := t7 a ha; have := HLT.out; have := S1.out; omega)
               have Z6 := Lib.hid t3
               have S6 := Lib.hid (Nat.le_trans S1.out t8.size)
               clear t1 t2 t3 t4 t5 t6 t7 t8)
            | (refine wpList_store_blk2 rfl 27 (.tmp 3) (.tmp 35) rfl w.heap.size _ #[.slice A' 8 8, .int .u32 g, .slice B' n' c'] XA6.out rfl rfl rfl (HGI.out A' B' n' c') (HGO.out A' B' n' c') ?_
               intro W7 g1 g2 g3 g4
               have XA7 := Lib.hid g1
               have RA7 := Lib.hid (show RowsAt W7 A' 8 2 (L'.map slC) from ⟨RA6.out.1, fun j c hj => by
                 obtain ⟨h1, a, ha, hl, hv⟩ := RA6.out.2 j c hj
                 exact ⟨h1, a, ha, by rw [g4]; exact hl, fun i u hu => by rw [g2 _ (by rw [block_add]; exact DA6.out a ha)]; exact hv i u hu⟩⟩)
               have RB7 := Lib.hid (ints_far RB6.out g2 g4 DB6.out)
               have K7 := Lib.hid (K6.out.trans (g3 _ (Nat.le_refl _)))
               have CX7 := Lib.hid ((g2 (px.add k) (by rw [block_add]; have := HPW.out.1; omega)).trans CX6.out)
               have CY7 := Lib.hid ((g2 (py.add k) (by rw [block_add]; have := HPW.out.2; omega)).trans CY6.out)
               clear g1 g2 g3 g4))
          have cx7 := CX7.out
          have cy7 := CY7.out
          go_quiet (fail)
          have bd := below_drG W7.heap.size W7 nq
          have XA8 := Lib.hid (XA7.out.below bd XA7.out.1)
          have RA8 := Lib.hid (RowsAt.below RA7.out bd)
          have RB8 := Lib.hid (RB7.out.below bd)
          have K8 := Lib.hid (K7.out.trans (bd.mono K7.out.size))
          generalize W7.drewN nq = W8 at *
          clear cx7 cy7 bd
          have c8 := XA8.out.2.1 1 _ rfl
          go_wp2_with (first
            | (refine wpList_load_want 27 (.tmp 3) rfl rfl w.heap.size 0 rfl [.slice A' 8 8, .int .u32 g, .slice B' n' c'] _ XA8.out.range Try.underlying27 rfl (by kernel_rfl) ?_)
            | (go_at_call 7
               refine (HR2.out A' B' c' _).mono ?_
               rintro e w9 ⟨rfl, b⟩
               have XA9 := Lib.hid (XA8.out.below b XA8.out.1)
               have RA9 := Lib.hid (RowsAt.below RA8.out b)
               have RB9 := Lib.hid (RB8.out.below b)
               have K9 := Lib.hid (K8.out.trans (b.mono K8.out.size))
               clear b))
          go_roundw
          case rel => exact ⟨k + 1, A', 8, g, B', n', c', L', Rk, by omega, by go_num, rfl, hgr, hn4, Z6.out, XA9.out, RA9.out, RB9.out, K9.out, DA6.out, fun a ha _ => DB6.out a ha⟩
          case measure => simp [intOf]; omega
      · obtain rfl : k = N := by omega
        clear hblk hra hrb hbel hda hdb hz
        go_wp2_with (go_at_call 10; refine (alive12_any _).mono ?_; rintro e w5 ⟨rfl, b⟩; have K5 := Lib.hid (KB.out.trans (b.mono KB.out.size)); clear b)
        go_ret
        exact ⟨rfl, K5.out⟩
  · have hr' : rightB na' q nb' = false := by simpa using hr
    rw [hr'] at HR
    clear hr hr' hna hnb hRA hRB hA hB hX hY wx wy
    go_enter Try.func4, Try.ntmps4
    go_upto_region 1 with fail
    generalize w.alloc (.cells #[.slice A na ca, .int .u32 q, .slice B nb cb] 27) = W0 at *
    have X1 := Lib.hid f1
    have KB := Lib.hid f3
    clear f1 f3
    go_upto_region 2 with (first
      | (refine wpList_load_mid rfl 27 (.tmp 3) rfl w.heap.size 0 rfl [.slice A na ca, .int .u32 q, .slice B nb cb] _ X1.out.range Try.underlying27 rfl guess_info ?_)
      | (go_at_call 11
         refine (HF.out _).mono ?_
         rintro e w1 ⟨rfl, b⟩
         have X2 := Lib.hid (X1.out.below b X1.out.1)
         have K2 := Lib.hid (KB.out.trans (b.mono KB.out.size))
         clear b)
      | (refine wpList_store_blk rfl 27 (.tmp 3) (.tmp 10) rfl w.heap.size _ #[.slice A na' ca, .int .u32 q, .slice B nb' cb] X2.out rfl rfl rfl HI.out HO.out ?_
         intro W3 g1 g2 g3 g4
         have X3 := Lib.hid g1
         have K3 := Lib.hid (K2.out.trans (g3 w.heap.size (Nat.le_refl _)))
         clear g1 g2 g3 g4))
    go_wp2_with (first
      | (refine wpList_load_mid rfl 27 (.tmp 3) rfl w.heap.size 0 rfl [.slice A na' ca, .int .u32 q, .slice B nb' cb] _ X3.out.range Try.underlying27 rfl guess_info ?_)
      | (go_at_call 7
         refine (HR.out _).mono ?_
         rintro e w4 ⟨rfl, b⟩
         have K4 := Lib.hid (K3.out.trans (b.mono K3.out.size))
         clear b)
      | (go_at_call 10
         refine (alive12_any _).mono ?_
         rintro e w5 ⟨rfl, b⟩
         have K5 := Lib.hid (K4.out.trans (b.mono K4.out.size))
         clear b))
    go_ret
    exact ⟨rfl, K5.out⟩
theorem own : ownKnob Try.prog.godebug = none := by kernel_rfl
theorem laidOut : laidOutB Try.prog = true := by kernel_rfl

set_option maxRecDepth 100000 in
theorem lifted (os : Os) (started : os.Started) (H : Type) (enc : TypeId × Value → H) :
    ReturnsInHanded {} Try.checked os 4 .any (Rows.guessOutcomesSpec.pre6 enc Try.prog Try.f4 Rows.guessOutcomesRow.domain false) (Rows.guessOutcomesSpec.post enc Try.prog Try.f4 false true false false) := by
  refine returnsInHanded_of_change (C := Try.checked) own started (by kernel_rfl) Try.func4
    (ChangeSpec.witness6 (enc := enc) (C := Try.checked) false ⟨#[], #[Value.agg #[.slice none 0 0, .int .u32 0, .slice none 0 0], Value.slice none 0 0, Value.slice none 0 0], []⟩ 8 (by kernel_rfl) (by kernel_rfl) (by kernel_rfl) (by kernel_rfl)) ?_
  intro W base args ds gs before hval0 hW hcnd _
  have hval : ∀ (j : Nat) t v, Try.f4.params[j]? = some t → args[j]? = some v → Value.okWide Try.prog W .any base t v := hval0
  have hW' := hW
  obtain ⟨p, q, hA0, hV, rfl, hfz, hnd⟩ := hW
  have hA : DataW.TrodAll enc Try.prog W 0 (fun _ => true) true Try.f4.params.toList args.toList ds p := hA0
  rw [Try.params4] at hA hval
  obtain ⟨v0, vs0, d0, ds0, p0, q0, hargs, rfl, rfl, h0, r0⟩ := trodAll_cons hA
  obtain ⟨v1, vs1, d1, ds1, p1, q1, rfl, rfl, rfl, h1, r1⟩ := trodAll_cons r0
  obtain ⟨v2, vs2, d2, ds2, p2, q2, rfl, rfl, rfl, h2, r2⟩ := trodAll_cons r1
  obtain ⟨rfl, rfl, rfl⟩ := trodAll_nil r2
  obtain rfl : args = #[v0, v1, v2] := by cases args; simp_all
  obtain ⟨rfl, rfl⟩ := trodVars_none hV
  have hlt := hW'.lt
  have k0 := h0
  obtain ⟨g_a, g_n, g_c, g_h, g_b, g_m, g_d, g_l, g_r, rfl, w_g_n, w_g_m, w_g_z, w_g_h, w_g, w_g_q⟩ := arg_guess (hval 0 27 v0 rfl rfl) h0
  have k1 := h1
  obtain ⟨pcs_a, pcs_n, pcs_c, pcs, rfl, w_pcs_n, w_pcs_c, w_pcs, w_pcs_wf⟩ := arg_ints (k := .u32) Try.underlying22 Try.underlying24 (by kernel_rfl) (hval 1 22 v1 rfl rfl) h1
  have k2 := h2
  obtain ⟨nexts_a, nexts_n, nexts_c, nexts, rfl, w_nexts_n, w_nexts_c, w_nexts, w_nexts_wf⟩ := arg_ints (k := .u32) Try.underlying22 Try.underlying24 (by kernel_rfl) (hval 2 22 v2 rfl rfl) h2
  clear hA0 hval0
  simp only [List.append_nil] at hW'
  refine (walk g_a g_n g_c g_h g_b g_m g_d g_l g_r pcs_a pcs_n pcs_c pcs nexts_a nexts_n nexts_c nexts w_g_n w_g_m w_g_z w_g_h w_pcs_n w_pcs_c w_pcs_wf w_nexts_n w_nexts_c w_nexts_wf W w_g w_g_q w_pcs w_nexts).mono fun e W' ⟨he, bel⟩ => ?_
  subst he
  exact ⟨_, rfl, _, _, _, [], _, [], hW', trodAll_mk1 (shut_bool Try.underlying4 _), (trodAll_cons_mk (Below.trod laidOut (by kernel_rfl) (of_decide_eq_true (by kernel_rfl)) k0 bel (fun x hx => hlt x (by simp [hx]))) (trodAll_cons_mk (Below.trod laidOut (by kernel_rfl) (of_decide_eq_true (by kernel_rfl)) k1 bel (fun x hx => hlt x (by simp [hx]))) (trodAll_cons_mk (Below.trod laidOut (by kernel_rfl) (of_decide_eq_true (by kernel_rfl)) k2 bel (fun x hx => hlt x (by simp [hx]))) trodAll_mk0))), rfl, bel.frame _, fun h => by cases h⟩

/-- THE STATEMENT -/
theorem proved : Rows.GuessOutcomesSaid :=
  OpenClaim.holds_of_wide 4 Try.f4 rfl rfl rfl rfl rfl rfl rfl ⟨rfl, rfl, rfl, rfl, rfl⟩ rfl rfl rfl rfl rfl (by kernel_rfl) Try.func4 (by kernel_rfl)
    (of_decide_eq_true (by kernel_rfl)) (by unfold Func.isWrapper; first | (rw [if_pos (by decide +kernel)]; kernel_rfl) | (rw [if_neg (by decide +kernel)]; exact ⟨rfl, rfl⟩))
    (fun os started H enc _ => lifted os started H enc)
#print axioms proved
end Go.Proofs.Ytkamljmopbocnaa.guessOutcomes
