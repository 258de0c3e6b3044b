/- THE CONTRACT of cache.Put: of a line that doesn't stand there. -/
import Derived.Test.YtcgahdmacngipaaCachePut
import Derived.Deep.RegionHeld3
namespace Go.Proofs.Ytcgahdmacngipaa
open Go.ChangeShapes Go.WideShapes Go.ChangeAt Go.RowKit Go.Sort
set_option linter.unusedVariables false
set_option linter.unusedSimpArgs false
set_option maxHeartbeats 8000000
set_option maxRecDepth 100000

theorem toF_last (s : List Wy) (r : Wy) : toF (s ++ [r]) s.length = r :: s := by
  unfold toF
  rw [List.getElem?_append_right (Nat.le_refl _), Nat.sub_self]
  simp
theorem put_new (ways : Int) (A : Option Addr) (n cap : Nat) (hs : List Hd) (ss : List (List Wy)) (line : Int) (data : ByteArray) (dirty : Bool) (hn : n ≤ cap) (hc : cap ≤ maxLen) (hss : setsOK ss) (h0 : 0 ≤ line) (h1 : line < 4294967296) (w : World) (hS : SetsAt w A n hs ss)
    (hr : rightC ways ss = true) (k : Nat) (s : List Wy) (hsk : ss[k]? = some s) (hf : findS ways ss line = ((k : Int), 0, false)) :
    Calls Try.prog 21 #[caV ways A n cap, .int .u32 line, .string data, .bool dirty] w fun e w' => ∃ (A' : Option Addr) (c' : Nat) (hs' : List Hd), e = .returned (putV ways A' n c' (putS ways ss line data dirty)) ∧ n ≤ c' ∧ c' ≤ maxLen ∧ (A' = none → c' = 0) ∧ SetsAt w' A' n hs' (putS ways ss line data dirty).1 ∧ Below w.heap.size w w' := by
  have hl := hS.len
  have hhl := hS.hlen
  have hkn : k < n := by have := (List.getElem?_eq_some_iff.1 hsk).1; omega
  have HR := Lib.hid (fun w h => right_anyC ways A n cap hs ss hn hc hss w h)
  have HF := Lib.hid (fun w h => find_any ways A n cap hs ss line hn hc hss h0 h1 w h)
  have HLO := Lib.hid (fun w => cLineOf_any line h0 h1 w)
  have hw2 := (right_at hr).2.1
  have hsl := ((right_at hr).2.2 k s hsk).1
  have hn4 := (right_at hr).1
  have HPS := Lib.hid (show putS ways ss line data dirty = (if (s.length : Int) + 1 ≤ ways then (ss.set k (newW line data dirty :: s), zeroW, false) else (ss.set k ((newW line data dirty :: s).take ways.toNat), (newW line data dirty :: s).getD ways.toNat zeroW, true)) by
    unfold putS
    rw [if_pos hr, hf, if_neg (by simp)]
    simp only [Int.toNat_natCast]
    unfold setAt
    rw [Int.toNat_natCast, List.getD_eq_getElem?_getD, hsk, Option.getD_some])
  rw [hr] at HR
  rw [hf] at HF
  unfold findV at HF
  obtain ⟨L, hL⟩ : ∃ L, line - line % 16 = L := ⟨_, rfl⟩
  rw [hL] at HLO
  obtain ⟨nw, hnw⟩ : ∃ r, newW line data dirty = r := ⟨_, rfl⟩
  rw [hnw] at HPS
  obtain ⟨m, hm⟩ : ∃ m, s.length + 1 = m := ⟨_, rfl⟩
  have HM := Lib.hid hm
  obtain ⟨a, q, rfl, hal, hq, hcj, hqn, hqa⟩ := hS.at_ hsk
  obtain ⟨qa, qn, qc⟩ := q
  have hqw := hqa.2.2.2
  have hqw1 := hqa.1
  have hqw2 := hqa.2.1
  simp only at hcj hqn hqw hqw1 hqw2
  subst hqn
  have ZQ := Lib.hid hqw
  have CJ := Lib.hid hcj
  have HS := Lib.hid hS
  have HCL := Lib.hid (fun w h => clone_way qa s.length qc s (by omega) w h)
  have HWI := Lib.hid (show (Try.prog.info? 37).map (·.size) = some zW.toArray.size by kernel_rfl)
  have HWO := Lib.hid (show zW.toArray.all (·.oneCell') = true by simp [zW, Value.oneCell'])
  have hki : (k : Int) < n := by omega
  clear hS hr hsk hf hq hcj hqa hqw hm
  unfold caV at HF
  unfold putV
  unfold caV at HR ⊢
  go_enter Try.func21, Try.ntmps21
  go_upto_region 1 with fail
  refine wp_allocs [([.int .i64 ways, .slice (some a) n cap], 24), ([.int .i64 0, .slice none 0 0], 24), (zW, 37)] rfl ?_
  intro W0 y1 KB y3
  have x1 := y3 0 _ rfl
  have x2 := y3 1 _ rfl
  have x3 := y3 2 _ rfl
  rw [Nat.add_zero] at x1
  have X1 := Lib.hid x1
  have X2 := Lib.hid x2
  have X3 := Lib.hid x3
  replace KB := Lib.hid KB
  have hb3 := x3.1
  clear y1 y3 x1 x2 x3
  cases e16 : ((data.size : Int) == 16)
  all_goals
    go_upto_region 13 with (first
      | (refine wpList_load_mid rfl 24 (.tmp 4) rfl w.heap.size 0 rfl [.int .i64 ways, .slice (some a) n cap] _ X1.out.range Try.underlying24 rfl ca_info ?_)
      | (go_at_call 13
         refine (HR.out _ (HS.out.below KB.out)).mono ?_
         rintro e W1 ⟨rfl, b⟩
         have z1 := X1.out.below b X1.out.1
         have z2 := X2.out.below b X2.out.1
         have z4 := X3.out.below b X3.out.1
         have z3 := KB.out.trans (b.mono KB.out.size)
         clear X1 X2 X3 KB b
         have X1 := Lib.hid z1
         have X2 := Lib.hid z2
         have X3 := Lib.hid z4
         have KB := Lib.hid z3
         clear z1 z2 z3 z4)
      | (go_at_call 10
         refine (HF.out _ (HS.out.below KB.out)).mono ?_
         rintro e W2 ⟨rfl, b⟩
         have z1 := X1.out.below b X1.out.1
         have z2 := X2.out.below b X2.out.1
         have z4 := X3.out.below b X3.out.1
         have z3 := KB.out.trans (b.mono KB.out.size)
         clear X1 X2 X3 KB b
         have X1 := Lib.hid z1
         have X2 := Lib.hid z2
         have X3 := Lib.hid z4
         have KB := Lib.hid z3
         clear z1 z2 z3 z4)
      | (go_at_call 33
         refine (HLO.out _).mono ?_
         rintro e W3 ⟨rfl, h⟩
         subst h)
      | (refine wpList_store_new rfl 37 (.tmp 16) (.tmp 64) rfl W2.heap.size rfl _ (wyC ⟨L, dirty, ByteArray.empty⟩) _ rfl rfl rfl wy_info (wyC_one _) ?_
         intro w3a b4 k4 s4
         have z1 := X1.out.below b4 X1.out.1
         have z2 := X2.out.below b4 X2.out.1
         have z4 := X3.out.below b4 X3.out.1
         have z3 := KB.out.trans (b4.mono KB.out.size)
         have hb16 : w.heap.size + 2 < W2.heap.size := X3.out.1
         clear X1 X2 X3 KB b4 s4
         have X1 := Lib.hid z1
         have X2 := Lib.hid z2
         have X3 := Lib.hid z4
         have KB := Lib.hid z3
         have X4 := Lib.hid k4
         clear z1 z2 z3 z4 k4))
    generalize W2.heap.size = b16 at *
  · obtain rfl : nw = ⟨L, dirty, ByteArray.empty⟩ := by
      rw [← hnw]
      unfold newW
      rw [hL, if_neg (by simp at e16; omega)]
    obtain ⟨nw, hnw2⟩ : ∃ r : Wy, r = ⟨L, dirty, ByteArray.empty⟩ := ⟨_, rfl⟩
    rw [← hnw2] at hnw HPS X4
    clear hnw2
    rename World => w3
    have ZQ3 := Lib.hid (ZQ.out.below KB.out)
    have hlo3 : w.heap.size + 2 < w3.heap.size := X3.out.1
    have c1 := X1.out.2.1 1 _ rfl
    have cj := (KB.out.cell (p := a.add k) (by rw [block_add]; exact hal)).trans CJ.out
    go_upto_region 16 with fail
    clear c1 cj
    go_cut [18] from 73 to 80 (fun v wx => ∃ (A8 : Option Addr) (c8 : Nat), v = .slice A8 m c8 ∧ m ≤ c8 ∧ c8 ≤ maxLen ∧ (A8 = none → c8 = 0) ∧ OwnAt wx w3.heap.size A8 m 3 ((nw :: s).map wyC) ∧ Below w3.heap.size w3 wx)
    case first =>
      have hk0 : Below w3.heap.size w3 w3.drew := below_dr
      refine wp_region_any (by kernel_rfl) ?_
      try (change wpAny _ _ _ _ _ _ _ (World.drew _))
      refine wpAny_take (i := 0) (v := .slice qa s.length qc) rfl (by kernel_rfl) (by kernel_rfl) (by kernel_rfl) (fun _ _ _ h => h) (Or.inl ⟨by rfl, fun w => by go_simp⟩) ?_
      simp only [Act.put, List.setIfInBounds_toArray, List.set_cons_succ, List.set_cons_zero]
      refine wpAny_take (i := 5) (v := .slice qa s.length qc) rfl (by kernel_rfl) (by kernel_rfl) (by kernel_rfl) (fun _ _ _ h => h) (Or.inl ⟨by rfl, fun w => by go_simp⟩) ?_
      simp only [Act.put, List.setIfInBounds_toArray, List.set_cons_succ, List.set_cons_zero]
      refine wpAny_take (i := 6) (v := .int .i64 (s.length : Int)) rfl (by kernel_rfl) (by kernel_rfl) (by kernel_rfl) (fun _ _ _ h => h) (Or.inl ⟨by rfl, fun w => by go_simp⟩) ?_
      simp only [Act.put, List.setIfInBounds_toArray, List.set_cons_succ, List.set_cons_zero]
      refine wpAny_ready (rs := [1, 2]) (by kernel_rfl) (by simp) ?_
      refine AllReady.cons rfl (fun K hK => ?_) ?_
      · go_simp
        go_at_call 40
        refine (HCL.out _ (ZQ3.out.below hk0)).mono ?_
        rintro e w5 ⟨v, rfl, ho5, b5⟩
        have hk5 := (hk0).trans (b5.mono (hk0).size)
        have ho5' := own_lower ho5 (hk0).size
        (try go_simp)
        refine hK _ _ ?_
        clear hK K
        refine wpAny_ready (rs := [2]) (by kernel_rfl) (by simp) ?_
        refine AllReady.cons rfl (fun K hK => ?_) AllReady.nil
        refine step_load_row (by rfl) 37 (.tmp 16) (by rfl) ⟨b16, 0, none⟩ (by rfl) (wyC nw) _ (fun j v hv => by rw [Addr.add_lit, Nat.zero_add]; exact (X4.out.below hk5 X4.out.1).2.1 j v hv) Try.underlying37 rfl wy_info ?_
        (try go_simp)
        refine hK _ _ ?_
        clear hK K
        refine wpAny_ready (rs := [3]) (by kernel_rfl) (by simp) ?_
        refine AllReady.cons rfl (fun K hK => ?_) AllReady.nil
        refine step_build_way (by rfl) _ nw (by rfl) (by simp [Act.eval, wyC]) ?_
        intro W6 hE6 hb6 hs6
        have hk6 := (hk5).trans (hb6.mono (hk5).size)
        (try go_simp)
        refine hK _ _ ?_
        clear hK K
        refine wpAny_ready (rs := [4]) (by kernel_rfl) (by simp) ?_
        refine AllReady.cons rfl (fun K hK => ?_) AllReady.nil
        refine step_append_way (by rfl) (.tmp 74) (.tmp 76) (by rfl) w3.heap.size _ s.length _ (by rfl) (own_below ho5' hb6) ⟨w5.heap.size, 0, none⟩ 1 1 [nw] (by rfl) hE6 (by omega) (hk6).size ?_
        intro v7 W7 ho7 hg7
        have hk7 := (hk6).grown hg7 (hk6).size (fun j hj => (((own_below ho5' hb6)).lt j hj).1)
        rw [show (s.map wyC).flatten ++ ([nw].map wyC).flatten = ((s ++ [nw]).map wyC).flatten by simp, HM.out] at ho7
        obtain ⟨A7, c7, rfl, n1, n2, n3, n4⟩ := own_way ho7 (by rw [List.length_append, ← HM.out]; rfl)
        have HTF := toFront_any A7 m c7 (s ++ [nw]) s.length (by have := HM.out; omega) (by have := HM.out; omega) n1 n2 W7 n4.1
        clear ho7 hg7
        (try go_simp)
        refine hK _ _ ?_
        clear hK K
        refine wpAny_ready (rs := [7]) (by kernel_rfl) (by simp) ?_
        refine AllReady.cons rfl (fun K hK => ?_) AllReady.nil
        go_simp
        go_at_call 39
        refine HTF.mono ?_
        rintro e W8 ⟨A8, c8, rfl, p1, p2, p3, p4, b8⟩
        rw [toF_last] at p4
        have hk8 := hk7.trans (b8.mono hk7.size)
        (try go_simp)
        refine hK _ _ ?_
        clear hK K
        refine wpAny_ready (rs := [8]) (by kernel_rfl) (by simp) ?_
        refine AllReady.cons rfl (fun K hK => ?_) AllReady.nil
        go_simp
        refine hK _ _ ?_
        clear hK K
        refine wpAny_done (by kernel_rfl) ?_ _
        go_wp2_with fail
        go_meet
        exact ⟨A8, c8, rfl, p1, p2, p3, OwnAt.lower (B := w3.heap.size) (B' := W7.heap.size) p4 hk7.size, hk8⟩
      · refine AllReady.cons rfl (fun K hK => ?_) AllReady.nil
        refine step_load_row (by rfl) 37 (.tmp 16) (by rfl) ⟨b16, 0, none⟩ (by rfl) (wyC nw) _ (fun j v hv => by rw [Addr.add_lit, Nat.zero_add]; exact (X4.out.below hk0 X4.out.1).2.1 j v hv) Try.underlying37 rfl wy_info ?_
        (try go_simp)
        refine hK _ _ ?_
        clear hK K
        refine wpAny_ready (rs := [1, 3]) (by kernel_rfl) (by simp) ?_
        refine AllReady.cons rfl (fun K hK => ?_) ?_
        · go_simp
          go_at_call 40
          refine (HCL.out _ (ZQ3.out.below hk0)).mono ?_
          rintro e w5 ⟨v, rfl, ho5, b5⟩
          have hk5 := (hk0).trans (b5.mono (hk0).size)
          have ho5' := own_lower ho5 (hk0).size
          (try go_simp)
          refine hK _ _ ?_
          clear hK K
          refine wpAny_ready (rs := [3]) (by kernel_rfl) (by simp) ?_
          refine AllReady.cons rfl (fun K hK => ?_) AllReady.nil
          refine step_build_way (by rfl) _ nw (by rfl) (by simp [Act.eval, wyC]) ?_
          intro W6 hE6 hb6 hs6
          have hk6 := (hk5).trans (hb6.mono (hk5).size)
          (try go_simp)
          refine hK _ _ ?_
          clear hK K
          refine wpAny_ready (rs := [4]) (by kernel_rfl) (by simp) ?_
          refine AllReady.cons rfl (fun K hK => ?_) AllReady.nil
          refine step_append_way (by rfl) (.tmp 74) (.tmp 76) (by rfl) w3.heap.size _ s.length _ (by rfl) (own_below ho5' hb6) ⟨w5.heap.size, 0, none⟩ 1 1 [nw] (by rfl) hE6 (by omega) (hk6).size ?_
          intro v7 W7 ho7 hg7
          have hk7 := (hk6).grown hg7 (hk6).size (fun j hj => (((own_below ho5' hb6)).lt j hj).1)
          rw [show (s.map wyC).flatten ++ ([nw].map wyC).flatten = ((s ++ [nw]).map wyC).flatten by simp, HM.out] at ho7
          obtain ⟨A7, c7, rfl, n1, n2, n3, n4⟩ := own_way ho7 (by rw [List.length_append, ← HM.out]; rfl)
          have HTF := toFront_any A7 m c7 (s ++ [nw]) s.length (by have := HM.out; omega) (by have := HM.out; omega) n1 n2 W7 n4.1
          clear ho7 hg7
          (try go_simp)
          refine hK _ _ ?_
          clear hK K
          refine wpAny_ready (rs := [7]) (by kernel_rfl) (by simp) ?_
          refine AllReady.cons rfl (fun K hK => ?_) AllReady.nil
          go_simp
          go_at_call 39
          refine HTF.mono ?_
          rintro e W8 ⟨A8, c8, rfl, p1, p2, p3, p4, b8⟩
          rw [toF_last] at p4
          have hk8 := hk7.trans (b8.mono hk7.size)
          (try go_simp)
          refine hK _ _ ?_
          clear hK K
          refine wpAny_ready (rs := [8]) (by kernel_rfl) (by simp) ?_
          refine AllReady.cons rfl (fun K hK => ?_) AllReady.nil
          go_simp
          refine hK _ _ ?_
          clear hK K
          refine wpAny_done (by kernel_rfl) ?_ _
          go_wp2_with fail
          go_meet
          exact ⟨A8, c8, rfl, p1, p2, p3, OwnAt.lower (B := w3.heap.size) (B' := W7.heap.size) p4 hk7.size, hk8⟩
        · refine AllReady.cons rfl (fun K hK => ?_) AllReady.nil
          refine step_build_way (by rfl) _ nw (by rfl) (by simp [Act.eval, wyC]) ?_
          intro W6 hE6 hb6 hs6
          have hk6 := (hk0).trans (hb6.mono (hk0).size)
          (try go_simp)
          refine hK _ _ ?_
          clear hK K
          refine wpAny_ready (rs := [1]) (by kernel_rfl) (by simp) ?_
          refine AllReady.cons rfl (fun K hK => ?_) AllReady.nil
          go_simp
          go_at_call 40
          refine (HCL.out _ (ZQ3.out.below hk6)).mono ?_
          rintro e w5 ⟨v, rfl, ho5, b5⟩
          have hk5 := (hk6).trans (b5.mono (hk6).size)
          have ho5' := own_lower ho5 (hk6).size
          (try go_simp)
          refine hK _ _ ?_
          clear hK K
          refine wpAny_ready (rs := [4]) (by kernel_rfl) (by simp) ?_
          refine AllReady.cons rfl (fun K hK => ?_) AllReady.nil
          refine step_append_way (by rfl) (.tmp 74) (.tmp 76) (by rfl) w3.heap.size _ s.length _ (by rfl) ho5' ⟨w3.heap.size, 0, none⟩ 1 1 [nw] (by rfl) (WaysAt.below hE6 b5) (by omega) (hk5).size ?_
          intro v7 W7 ho7 hg7
          have hk7 := (hk5).grown hg7 (hk5).size (fun j hj => ((ho5').lt j hj).1)
          rw [show (s.map wyC).flatten ++ ([nw].map wyC).flatten = ((s ++ [nw]).map wyC).flatten by simp, HM.out] at ho7
          obtain ⟨A7, c7, rfl, n1, n2, n3, n4⟩ := own_way ho7 (by rw [List.length_append, ← HM.out]; rfl)
          have HTF := toFront_any A7 m c7 (s ++ [nw]) s.length (by have := HM.out; omega) (by have := HM.out; omega) n1 n2 W7 n4.1
          clear ho7 hg7
          (try go_simp)
          refine hK _ _ ?_
          clear hK K
          refine wpAny_ready (rs := [7]) (by kernel_rfl) (by simp) ?_
          refine AllReady.cons rfl (fun K hK => ?_) AllReady.nil
          go_simp
          go_at_call 39
          refine HTF.mono ?_
          rintro e W8 ⟨A8, c8, rfl, p1, p2, p3, p4, b8⟩
          rw [toF_last] at p4
          have hk8 := hk7.trans (b8.mono hk7.size)
          (try go_simp)
          refine hK _ _ ?_
          clear hK K
          refine wpAny_ready (rs := [8]) (by kernel_rfl) (by simp) ?_
          refine AllReady.cons rfl (fun K hK => ?_) AllReady.nil
          go_simp
          refine hK _ _ ?_
          clear hK K
          refine wpAny_done (by kernel_rfl) ?_ _
          go_wp2_with fail
          go_meet
          exact ⟨A8, c8, rfl, p1, p2, p3, OwnAt.lower (B := w3.heap.size) (B' := W7.heap.size) p4 hk7.size, hk8⟩
    case rest =>
      obtain ⟨A8, c8, rfl, p1, p2, p3, p4, hk8⟩ := hcut
      have P4 := Lib.hid p4
      have z1 := X1.out.below hk8 X1.out.1
      have z2 := X2.out.below hk8 X2.out.1
      have z4 := X3.out.below hk8 X3.out.1
      have z3 := KB.out.trans (hk8.mono KB.out.size)
      have hlo4 := hk8.size
      clear X1 X2 X3 X4 KB hk8 p4 ZQ3
      have X1 := Lib.hid z1
      have X2 := Lib.hid z2
      have X3 := Lib.hid z4
      have KB := Lib.hid z3
      clear z1 z2 z3 z4
      have c0 := X1.out.2.1 0 _ rfl
      generalize wc = W5 at *
      have hlo5 : w.heap.size + 2 < W5.heap.size := by omega
      by_cases hle : (m : Int) ≤ ways
      · have d : decide ((m : Int) ≤ ways) = true := decide_eq_true hle
        have HPS2 := Lib.hid (HPS.out.trans (if_pos (by have := HM.out; omega)))
        have HWT := Lib.hid (fun W hS hq => with_any ways (some a) n cap hs ss k ⟨A8, m, c8⟩ (nw :: s) hkn (by omega) W hS hq)
        unfold caV at HWT
        clear hle
        go_wp2_with (first
          | (refine wpList_load_mid rfl 24 (.tmp 4) rfl w.heap.size 0 rfl [.int .i64 ways, .slice (some a) n cap] _ X1.out.range Try.underlying24 rfl ca_info ?_)
          | (go_at_call 41
             refine (HWT.out _ (HS.out.below KB.out) ⟨p1, p2, p3, P4.out.1⟩).mono ?_
             rintro e W6 ⟨A9, c9, rfl, q1, q2, q3, q4, q5, b⟩
             have OA := Lib.hid q4
             have HH := Lib.hid q5
             have Y2 := Lib.hid (X2.out.below b X2.out.1)
             have Y3 := Lib.hid (X3.out.below b X3.out.1)
             have YP := Lib.hid (P4.out.below b)
             have YB := Lib.hid (KB.out.trans (b.mono KB.out.size))
             have hbs := b.size
             have HZI := Lib.hid (show (Try.prog.info? 24).map (·.size) = some (#[.int .i64 ways, .slice A9 n c9] : Array Value).size by kernel_rfl)
             have HZO := Lib.hid (show (#[.int .i64 ways, .slice A9 n c9] : Array Value).all (·.oneCell') = true by simp [Value.oneCell'])
             clear b q4 q5)
          | (refine wpList_store_blk3 rfl 24 (.tmp 8) (.tmp 89) rfl (w.heap.size + 1) _ #[.int .i64 ways, .slice A9 n c9] Y2.out rfl rfl rfl HZI.out HZO.out ?_
             intro W7 q1' q2' q2f q3' q4'
             have U2 := Lib.hid q1'
             have U3 := Lib.hid (Y3.out.same (by omega) q2' q2f q4')
             have UB := Lib.hid (YB.out.trans (q3' w.heap.size (by omega)))
             have UA := Lib.hid (OA.out.same (b := w.heap.size + 1) (by omega) q2' q2f q4')
             have UP := Lib.hid (YP.out.same (b := w.heap.size + 1) (by omega) q2' q2f q4')
             clear q1' q2' q2f q3' q4')
          | (refine wpList_store_blk3 rfl 37 (.tmp 9) (.tmp 90) rfl (w.heap.size + 2) _ zW.toArray U3.out rfl rfl rfl HWI.out HWO.out ?_
             intro W8 q1' q2' q2f q3' q4'
             have R3 := Lib.hid q1'
             have R2 := Lib.hid (U2.out.same (by omega) q2' q2f q4')
             have RB := Lib.hid (UB.out.trans (q3' w.heap.size (by omega)))
             have RA := Lib.hid (UA.out.same (b := w.heap.size + 2) (by omega) q2' q2f q4')
             have RP := Lib.hid (UP.out.same (b := w.heap.size + 2) (by omega) q2' q2f q4')
             clear q1' q2' q2f q3' q4'))
        exact bodyPost_ret (v := .tuple #[.agg #[.int .i64 ways, .slice A9 n c9], .agg zW.toArray, .bool false]) (results_ccs Try.results21 _ W8 (w.heap.size + 1) (w.heap.size + 2) [.int .i64 ways, .slice A9 n c9] zW (.bool false) _ _ rfl rfl rfl R2.out R3.out Try.underlying24 rfl ca_info Try.underlying37 rfl wy_info) rfl
          ⟨A9, c9, ret_val (by rw [HPS2.out]; rfl), q1, q2, q3, ⟨hs.set k ⟨A8, m, c8⟩, ⟨by have := RA.out.1; first | exact this | (rw [List.map_set] at this; exact this) | (rw [← List.map_set] at this; exact this), by
            rw [HPS2.out]
            exact (HS.out.2.below RB.out).set k ⟨A8, m, c8⟩ (nw :: s) ⟨p1, p2, p3, RP.out.1⟩⟩⟩, RB.out⟩
      · obtain rfl : ways = (s.length : Int) := by have := HM.out; omega
        have d : decide ((m : Int) ≤ (s.length : Int)) = false := decide_eq_false (by have := HM.out; omega)
        obtain ⟨gw, hgw⟩ : ∃ r, (nw :: s)[s.length]? = some r := ⟨_, List.getElem?_eq_getElem (by simp)⟩
        have HPS2 := Lib.hid (show putS (s.length : Int) ss line data dirty = (ss.set k ((nw :: s).take s.length), gw, true) by
          rw [HPS.out, if_neg (by omega), Int.toNat_natCast, List.getD_eq_getElem?_getD, hgw]
          rfl)
        have hgm : ((nw :: s).map wyC)[s.length]? = some (wyC gw) := by rw [List.getElem?_map, hgw]; rfl
        obtain ⟨gl, gd, gb⟩ := gw
        obtain ⟨g8, rfl, hg81, hg82, hc8, -⟩ := P4.out.at_ hgm
        have w0 := hc8 0 _ rfl
        have w1 := hc8 1 _ rfl
        have w2 := hc8 2 _ rfl
        rw [Nat.add_zero] at w0
        have hsm : (s.length : Int) < m := by have := HM.out; omega
        have hsc : (s.length : Int) ≤ c8 := by omega
        have HWT := Lib.hid (fun W hS hq => with_any (s.length : Int) (some a) n cap hs ss k ⟨some ⟨g8, 0, none⟩, s.length, c8⟩ ((nw :: s).take s.length) hkn (by omega) W hS hq)
        unfold caV at HWT
        clear hle hc8 hgm
        go_upto_region 19 with fail
        clear c0 w0 w1 w2
        have hne1 : w.heap.size + 1 ≠ w.heap.size := by omega
        have hne2 : w.heap.size + 1 ≠ g8 := by omega
        have hne3 : w.heap.size + 2 ≠ w.heap.size := by omega
        have hne4 : w.heap.size + 2 ≠ g8 := by omega
        have HST := Lib.hid (fun w' (hb : Below W5.heap.size W5 w') => (show w'.cell? ⟨w.heap.size, 0, none⟩ = some (.int .i64 (s.length : Int)) ∧ w'.cell? ⟨w.heap.size, 1, none⟩ = some (.slice (some a) n cap) ∧ w'.cell? ⟨g8, s.length * 3, none⟩ = some (.int .u32 gl) ∧ w'.cell? ⟨g8, s.length * 3 + 1, none⟩ = some (.bool gd) ∧ w'.cell? ⟨g8, s.length * 3 + 2, none⟩ = some (.string gb) from
          ⟨(X1.out.below hb X1.out.1).2.1 0 _ rfl, (X1.out.below hb X1.out.1).2.1 1 _ rfl, by
            obtain ⟨g', hg', -, -, hc', -⟩ := (P4.out.below hb).at_ (j := s.length) (c := wyC ⟨gl, gd, gb⟩) (by rw [List.getElem?_map, hgw]; rfl)
            cases hg'
            exact hc' 0 _ rfl, by
            obtain ⟨g', hg', -, -, hc', -⟩ := (P4.out.below hb).at_ (j := s.length) (c := wyC ⟨gl, gd, gb⟩) (by rw [List.getElem?_map, hgw]; rfl)
            cases hg'
            exact hc' 1 _ rfl, by
            obtain ⟨g', hg', -, -, hc', -⟩ := (P4.out.below hb).at_ (j := s.length) (c := wyC ⟨gl, gd, gb⟩) (by rw [List.getElem?_map, hgw]; rfl)
            cases hg'
            exact hc' 2 _ rfl⟩))
        have LD := Lib.hid (show Below W5.heap.size W5 W5.drew from (Below.refl W5.heap.size W5).drew)
        have HGW := Lib.hid hgw
        clear hgw
        go_region_held3 (fun w' => w'.cell? ⟨w.heap.size, 0, none⟩ = some (.int .i64 (s.length : Int)) ∧ w'.cell? ⟨w.heap.size, 1, none⟩ = some (.slice (some a) n cap) ∧ w'.cell? ⟨g8, s.length * 3, none⟩ = some (.int .u32 gl) ∧ w'.cell? ⟨g8, s.length * 3 + 1, none⟩ = some (.bool gd) ∧ w'.cell? ⟨g8, s.length * 3 + 2, none⟩ = some (.string gb))
          ((first
            | with_reducible exact HST.out _ LD.out
            | with_reducible exact HST.out _ B5.out
            | simp [*, World.cell?_setCell_far]))
          ((first
            | (go_at_call 41
               refine (HWT.out _ (HS.out.below (KB.out.trans (LD.out.mono KB.out.size))) ⟨(show s.length ≤ c8 by omega), p2, (fun h => by cases h), WaysAt.take (show WaysAt _ _ m (nw :: s) from (P4.out.below LD.out).1) (show s.length ≤ m by omega)⟩).mono ?_
               rintro e W6 ⟨A9, c9, rfl, q1, q2, q3, q4, q5, b⟩
               have B5 := Lib.hid (LD.out.trans b)
               have OA := Lib.hid (show OwnAt W6 W5.heap.size A9 n 1 _ from q4)
               have Y2 := Lib.hid (X2.out.below B5.out X2.out.1)
               have Y3 := Lib.hid (show Blk W6 (w.heap.size + 1 + 1) [.int .u32 0, .bool false, .string ByteArray.empty] from X3.out.below B5.out X3.out.1)
               have t0 := Y2.out.2.1 0 _ rfl
               have t1 := Y2.out.2.1 1 _ rfl
               have e0 := Y2.out.2.2 0 (by simp)
               have e1 := Y2.out.2.2 1 (by simp)
               have u0 := Y3.out.2.1 0 _ rfl
               have u1 := Y3.out.2.1 1 _ rfl
               have u2 := Y3.out.2.1 2 _ rfl
               have f0 := Y3.out.2.2 0 (by decide)
               have f1 := Y3.out.2.2 1 (by decide)
               have f2 := Y3.out.2.2 2 (by decide)
               clear b q4 q5)))
        clear t0 t1 e0 e1 u0 u1 u2 f0 f1 f2 HST LD
        have YB := Lib.hid (KB.out.trans (B5.out.mono KB.out.size))
        have YP := Lib.hid (P4.out.below B5.out)
        clear B5 KB P4 X1 X2 X3
        have z2 := Y2.out.set (i := 0) (v := .int .i64 (s.length : Int)) (by simp)
        have z3 := Y3.out.other (p := ⟨w.heap.size + 1, 0, none⟩) (v := .int .i64 (s.length : Int)) (by simp)
        simp only [List.set_cons_succ, List.set_cons_zero] at z2 z3
        have z4 := YB.out.setCell (p := ⟨w.heap.size + 1, 0, none⟩) (by show w.heap.size ≤ _; simp <;> omega) (.int .i64 (s.length : Int))
        have z5 := OA.out.far (p := ⟨w.heap.size + 1, 0, none⟩) (by show _ < W5.heap.size; simp <;> omega) (.int .i64 (s.length : Int))
        have z6 := YP.out.far (p := ⟨w.heap.size + 1, 0, none⟩) (by show _ < w3.heap.size; simp <;> omega) (.int .i64 (s.length : Int))
        clear Y2 Y3 YB OA YP
        generalize World.setCell W6 ⟨w.heap.size + 1, 0, none⟩ (.int .i64 (s.length : Int)) = V1 at *
        have Y2 := Lib.hid z2
        have Y3 := Lib.hid z3
        have YB := Lib.hid z4
        have OA := Lib.hid z5
        have YP := Lib.hid z6
        clear z2 z3 z4 z5 z6
        have z2 := Y2.out.set (i := 1) (v := .slice A9 n c9) (by simp)
        have z3 := Y3.out.other (p := ⟨w.heap.size + 1, 1, none⟩) (v := .slice A9 n c9) (by simp)
        simp only [List.set_cons_succ, List.set_cons_zero] at z2 z3
        have z4 := YB.out.setCell (p := ⟨w.heap.size + 1, 1, none⟩) (by show w.heap.size ≤ _; simp <;> omega) (.slice A9 n c9)
        have z5 := OA.out.far (p := ⟨w.heap.size + 1, 1, none⟩) (by show _ < W5.heap.size; simp <;> omega) (.slice A9 n c9)
        have z6 := YP.out.far (p := ⟨w.heap.size + 1, 1, none⟩) (by show _ < w3.heap.size; simp <;> omega) (.slice A9 n c9)
        clear Y2 Y3 YB OA YP
        generalize World.setCell V1 ⟨w.heap.size + 1, 1, none⟩ (.slice A9 n c9) = V2 at *
        have Y2 := Lib.hid z2
        have Y3 := Lib.hid z3
        have YB := Lib.hid z4
        have OA := Lib.hid z5
        have YP := Lib.hid z6
        clear z2 z3 z4 z5 z6
        have z2 := Y2.out.other (p := ⟨w.heap.size + 1 + 1, 0, none⟩) (v := .int .u32 gl) (by simp)
        have z3 := Y3.out.set (i := 0) (v := .int .u32 gl) (by simp)
        simp only [List.set_cons_succ, List.set_cons_zero] at z2 z3
        have z4 := YB.out.setCell (p := ⟨w.heap.size + 1 + 1, 0, none⟩) (by show w.heap.size ≤ _; simp <;> omega) (.int .u32 gl)
        have z5 := OA.out.far (p := ⟨w.heap.size + 1 + 1, 0, none⟩) (by show _ < W5.heap.size; simp <;> omega) (.int .u32 gl)
        have z6 := YP.out.far (p := ⟨w.heap.size + 1 + 1, 0, none⟩) (by show _ < w3.heap.size; simp <;> omega) (.int .u32 gl)
        clear Y2 Y3 YB OA YP
        generalize World.setCell V2 ⟨w.heap.size + 1 + 1, 0, none⟩ (.int .u32 gl) = V3 at *
        have Y2 := Lib.hid z2
        have Y3 := Lib.hid z3
        have YB := Lib.hid z4
        have OA := Lib.hid z5
        have YP := Lib.hid z6
        clear z2 z3 z4 z5 z6
        have z2 := Y2.out.other (p := ⟨w.heap.size + 1 + 1, 1, none⟩) (v := .bool gd) (by simp)
        have z3 := Y3.out.set (i := 1) (v := .bool gd) (by simp)
        simp only [List.set_cons_succ, List.set_cons_zero] at z2 z3
        have z4 := YB.out.setCell (p := ⟨w.heap.size + 1 + 1, 1, none⟩) (by show w.heap.size ≤ _; simp <;> omega) (.bool gd)
        have z5 := OA.out.far (p := ⟨w.heap.size + 1 + 1, 1, none⟩) (by show _ < W5.heap.size; simp <;> omega) (.bool gd)
        have z6 := YP.out.far (p := ⟨w.heap.size + 1 + 1, 1, none⟩) (by show _ < w3.heap.size; simp <;> omega) (.bool gd)
        clear Y2 Y3 YB OA YP
        generalize World.setCell V3 ⟨w.heap.size + 1 + 1, 1, none⟩ (.bool gd) = V4 at *
        have Y2 := Lib.hid z2
        have Y3 := Lib.hid z3
        have YB := Lib.hid z4
        have OA := Lib.hid z5
        have YP := Lib.hid z6
        clear z2 z3 z4 z5 z6
        have z2 := Y2.out.other (p := ⟨w.heap.size + 1 + 1, 2, none⟩) (v := .string gb) (by simp)
        have z3 := Y3.out.set (i := 2) (v := .string gb) (by simp)
        simp only [List.set_cons_succ, List.set_cons_zero] at z2 z3
        have z4 := YB.out.setCell (p := ⟨w.heap.size + 1 + 1, 2, none⟩) (by show w.heap.size ≤ _; simp <;> omega) (.string gb)
        have z5 := OA.out.far (p := ⟨w.heap.size + 1 + 1, 2, none⟩) (by show _ < W5.heap.size; simp <;> omega) (.string gb)
        have z6 := YP.out.far (p := ⟨w.heap.size + 1 + 1, 2, none⟩) (by show _ < w3.heap.size; simp <;> omega) (.string gb)
        clear Y2 Y3 YB OA YP
        generalize World.setCell V4 ⟨w.heap.size + 1 + 1, 2, none⟩ (.string gb) = V5 at *
        have Y2 := Lib.hid z2
        have Y3 := Lib.hid z3
        have YB := Lib.hid z4
        have OA := Lib.hid z5
        have YP := Lib.hid z6
        clear z2 z3 z4 z5 z6
        go_wp2_with fail
        exact bodyPost_ret (v := .tuple #[.agg #[.int .i64 (s.length : Int), .slice A9 n c9], .agg #[.int .u32 gl, .bool gd, .string gb], .bool true]) (results_ccs Try.results21 _ V5 (w.heap.size + 1) (w.heap.size + 1 + 1) [.int .i64 (s.length : Int), .slice A9 n c9] [.int .u32 gl, .bool gd, .string gb] (.bool true) _ _ rfl rfl rfl Y2.out Y3.out Try.underlying24 rfl ca_info Try.underlying37 rfl wy_info) rfl
          ⟨A9, c9, hs.set k ⟨some ⟨g8, 0, none⟩, s.length, c8⟩, ret_val (by rw [HPS2.out]; rfl), q1, q2, q3, ⟨by have := OA.out.1; first | exact this | (rw [List.map_set] at this; exact this) | (rw [← List.map_set] at this; exact this), by
            rw [HPS2.out]
            exact (HS.out.2.below YB.out).set k ⟨some ⟨g8, 0, none⟩, s.length, c8⟩ ((nw :: s).take s.length) ⟨(show s.length ≤ c8 by omega), p2, (fun h => by cases h), WaysAt.take (show WaysAt _ _ m (nw :: s) from YP.out.1) (show s.length ≤ m by omega)⟩⟩, YB.out⟩
  · obtain rfl : nw = ⟨L, dirty, data⟩ := by
      rw [← hnw]
      unfold newW
      rw [hL, if_pos (by simp at e16; omega)]
    have t2 := X4.out.2.1 2 _ rfl
    have f2 := X4.out.2.2 2 (by simp [wyC])
    go_upto_region 15 with fail
    have z1 := X1.out.other (p := ⟨b16, 2, none⟩) (v := .string data) (by simp; omega)
    have z2 := X2.out.other (p := ⟨b16, 2, none⟩) (v := .string data) (by simp; omega)
    have z3 := X3.out.other (p := ⟨b16, 2, none⟩) (v := .string data) (by simp; omega)
    have z5 := KB.out.setCell (p := ⟨b16, 2, none⟩) (by show w.heap.size ≤ b16; omega) (.string data)
    have z4 : Blk (World.setCell w3a ⟨b16, 2, none⟩ (.string data)) b16 (wyC ⟨L, dirty, data⟩) := X4.out.set (i := 2) (v := .string data) (by simp [wyC])
    clear X1 X2 X3 X4 KB t2 f2
    generalize World.setCell w3a ⟨b16, 2, none⟩ (.string data) = w3b at *
    have X1 := Lib.hid z1
    have X2 := Lib.hid z2
    have X3 := Lib.hid z3
    have KB := Lib.hid z5
    have X4 := Lib.hid z4
    clear z1 z2 z3 z4 z5
    obtain ⟨nw, hnw2⟩ : ∃ r : Wy, r = ⟨L, dirty, data⟩ := ⟨_, rfl⟩
    rw [← hnw2] at hnw HPS X4
    clear hnw2
    rename World => w3
    have ZQ3 := Lib.hid (ZQ.out.below KB.out)
    have hlo3 : w.heap.size + 2 < w3.heap.size := X3.out.1
    have c1 := X1.out.2.1 1 _ rfl
    have cj := (KB.out.cell (p := a.add k) (by rw [block_add]; exact hal)).trans CJ.out
    go_upto_region 16 with fail
    clear c1 cj
    go_cut [18] from 73 to 80 (fun v wx => ∃ (A8 : Option Addr) (c8 : Nat), v = .slice A8 m c8 ∧ m ≤ c8 ∧ c8 ≤ maxLen ∧ (A8 = none → c8 = 0) ∧ OwnAt wx w3.heap.size A8 m 3 ((nw :: s).map wyC) ∧ Below w3.heap.size w3 wx)
    case first =>
      have hk0 : Below w3.heap.size w3 w3.drew := below_dr
      refine wp_region_any (by kernel_rfl) ?_
      try (change wpAny _ _ _ _ _ _ _ (World.drew _))
      refine wpAny_take (i := 0) (v := .slice qa s.length qc) rfl (by kernel_rfl) (by kernel_rfl) (by kernel_rfl) (fun _ _ _ h => h) (Or.inl ⟨by rfl, fun w => by go_simp⟩) ?_
      simp only [Act.put, List.setIfInBounds_toArray, List.set_cons_succ, List.set_cons_zero]
      refine wpAny_take (i := 5) (v := .slice qa s.length qc) rfl (by kernel_rfl) (by kernel_rfl) (by kernel_rfl) (fun _ _ _ h => h) (Or.inl ⟨by rfl, fun w => by go_simp⟩) ?_
      simp only [Act.put, List.setIfInBounds_toArray, List.set_cons_succ, List.set_cons_zero]
      refine wpAny_take (i := 6) (v := .int .i64 (s.length : Int)) rfl (by kernel_rfl) (by kernel_rfl) (by kernel_rfl) (fun _ _ _ h => h) (Or.inl ⟨by rfl, fun w => by go_simp⟩) ?_
      simp only [Act.put, List.setIfInBounds_toArray, List.set_cons_succ, List.set_cons_zero]
      refine wpAny_ready (rs := [1, 2]) (by kernel_rfl) (by simp) ?_
      refine AllReady.cons rfl (fun K hK => ?_) ?_
      · go_simp
        go_at_call 40
        refine (HCL.out _ (ZQ3.out.below hk0)).mono ?_
        rintro e w5 ⟨v, rfl, ho5, b5⟩
        have hk5 := (hk0).trans (b5.mono (hk0).size)
        have ho5' := own_lower ho5 (hk0).size
        (try go_simp)
        refine hK _ _ ?_
        clear hK K
        refine wpAny_ready (rs := [2]) (by kernel_rfl) (by simp) ?_
        refine AllReady.cons rfl (fun K hK => ?_) AllReady.nil
        refine step_load_row (by rfl) 37 (.tmp 16) (by rfl) ⟨b16, 0, none⟩ (by rfl) (wyC nw) _ (fun j v hv => by rw [Addr.add_lit, Nat.zero_add]; exact (X4.out.below hk5 X4.out.1).2.1 j v hv) Try.underlying37 rfl wy_info ?_
        (try go_simp)
        refine hK _ _ ?_
        clear hK K
        refine wpAny_ready (rs := [3]) (by kernel_rfl) (by simp) ?_
        refine AllReady.cons rfl (fun K hK => ?_) AllReady.nil
        refine step_build_way (by rfl) _ nw (by rfl) (by simp [Act.eval, wyC]) ?_
        intro W6 hE6 hb6 hs6
        have hk6 := (hk5).trans (hb6.mono (hk5).size)
        (try go_simp)
        refine hK _ _ ?_
        clear hK K
        refine wpAny_ready (rs := [4]) (by kernel_rfl) (by simp) ?_
        refine AllReady.cons rfl (fun K hK => ?_) AllReady.nil
        refine step_append_way (by rfl) (.tmp 74) (.tmp 76) (by rfl) w3.heap.size _ s.length _ (by rfl) (own_below ho5' hb6) ⟨w5.heap.size, 0, none⟩ 1 1 [nw] (by rfl) hE6 (by omega) (hk6).size ?_
        intro v7 W7 ho7 hg7
        have hk7 := (hk6).grown hg7 (hk6).size (fun j hj => (((own_below ho5' hb6)).lt j hj).1)
        rw [show (s.map wyC).flatten ++ ([nw].map wyC).flatten = ((s ++ [nw]).map wyC).flatten by simp, HM.out] at ho7
        obtain ⟨A7, c7, rfl, n1, n2, n3, n4⟩ := own_way ho7 (by rw [List.length_append, ← HM.out]; rfl)
        have HTF := toFront_any A7 m c7 (s ++ [nw]) s.length (by have := HM.out; omega) (by have := HM.out; omega) n1 n2 W7 n4.1
        clear ho7 hg7
        (try go_simp)
        refine hK _ _ ?_
        clear hK K
        refine wpAny_ready (rs := [7]) (by kernel_rfl) (by simp) ?_
        refine AllReady.cons rfl (fun K hK => ?_) AllReady.nil
        go_simp
        go_at_call 39
        refine HTF.mono ?_
        rintro e W8 ⟨A8, c8, rfl, p1, p2, p3, p4, b8⟩
        rw [toF_last] at p4
        have hk8 := hk7.trans (b8.mono hk7.size)
        (try go_simp)
        refine hK _ _ ?_
        clear hK K
        refine wpAny_ready (rs := [8]) (by kernel_rfl) (by simp) ?_
        refine AllReady.cons rfl (fun K hK => ?_) AllReady.nil
        go_simp
        refine hK _ _ ?_
        clear hK K
        refine wpAny_done (by kernel_rfl) ?_ _
        go_wp2_with fail
        go_meet
        exact ⟨A8, c8, rfl, p1, p2, p3, OwnAt.lower (B := w3.heap.size) (B' := W7.heap.size) p4 hk7.size, hk8⟩
      · refine AllReady.cons rfl (fun K hK => ?_) AllReady.nil
        refine step_load_row (by rfl) 37 (.tmp 16) (by rfl) ⟨b16, 0, none⟩ (by rfl) (wyC nw) _ (fun j v hv => by rw [Addr.add_lit, Nat.zero_add]; exact (X4.out.below hk0 X4.out.1).2.1 j v hv) Try.underlying37 rfl wy_info ?_
        (try go_simp)
        refine hK _ _ ?_
        clear hK K
        refine wpAny_ready (rs := [1, 3]) (by kernel_rfl) (by simp) ?_
        refine AllReady.cons rfl (fun K hK => ?_) ?_
        · go_simp
          go_at_call 40
          refine (HCL.out _ (ZQ3.out.below hk0)).mono ?_
          rintro e w5 ⟨v, rfl, ho5, b5⟩
          have hk5 := (hk0).trans (b5.mono (hk0).size)
          have ho5' := own_lower ho5 (hk0).size
          (try go_simp)
          refine hK _ _ ?_
          clear hK K
          refine wpAny_ready (rs := [3]) (by kernel_rfl) (by simp) ?_
          refine AllReady.cons rfl (fun K hK => ?_) AllReady.nil
          refine step_build_way (by rfl) _ nw (by rfl) (by simp [Act.eval, wyC]) ?_
          intro W6 hE6 hb6 hs6
          have hk6 := (hk5).trans (hb6.mono (hk5).size)
          (try go_simp)
          refine hK _ _ ?_
          clear hK K
          refine wpAny_ready (rs := [4]) (by kernel_rfl) (by simp) ?_
          refine AllReady.cons rfl (fun K hK => ?_) AllReady.nil
          refine step_append_way (by rfl) (.tmp 74) (.tmp 76) (by rfl) w3.heap.size _ s.length _ (by rfl) (own_below ho5' hb6) ⟨w5.heap.size, 0, none⟩ 1 1 [nw] (by rfl) hE6 (by omega) (hk6).size ?_
          intro v7 W7 ho7 hg7
          have hk7 := (hk6).grown hg7 (hk6).size (fun j hj => (((own_below ho5' hb6)).lt j hj).1)
          rw [show (s.map wyC).flatten ++ ([nw].map wyC).flatten = ((s ++ [nw]).map wyC).flatten by simp, HM.out] at ho7
          obtain ⟨A7, c7, rfl, n1, n2, n3, n4⟩ := own_way ho7 (by rw [List.length_append, ← HM.out]; rfl)
          have HTF := toFront_any A7 m c7 (s ++ [nw]) s.length (by have := HM.out; omega) (by have := HM.out; omega) n1 n2 W7 n4.1
          clear ho7 hg7
          (try go_simp)
          refine hK _ _ ?_
          clear hK K
          refine wpAny_ready (rs := [7]) (by kernel_rfl) (by simp) ?_
          refine AllReady.cons rfl (fun K hK => ?_) AllReady.nil
          go_simp
          go_at_call 39
          refine HTF.mono ?_
          rintro e W8 ⟨A8, c8, rfl, p1, p2, p3, p4, b8⟩
          rw [toF_last] at p4
          have hk8 := hk7.trans (b8.mono hk7.size)
          (try go_simp)
          refine hK _ _ ?_
          clear hK K
          refine wpAny_ready (rs := [8]) (by kernel_rfl) (by simp) ?_
          refine AllReady.cons rfl (fun K hK => ?_) AllReady.nil
          go_simp
          refine hK _ _ ?_
          clear hK K
          refine wpAny_done (by kernel_rfl) ?_ _
          go_wp2_with fail
          go_meet
          exact ⟨A8, c8, rfl, p1, p2, p3, OwnAt.lower (B := w3.heap.size) (B' := W7.heap.size) p4 hk7.size, hk8⟩
        · refine AllReady.cons rfl (fun K hK => ?_) AllReady.nil
          refine step_build_way (by rfl) _ nw (by rfl) (by simp [Act.eval, wyC]) ?_
          intro W6 hE6 hb6 hs6
          have hk6 := (hk0).trans (hb6.mono (hk0).size)
          (try go_simp)
          refine hK _ _ ?_
          clear hK K
          refine wpAny_ready (rs := [1]) (by kernel_rfl) (by simp) ?_
          refine AllReady.cons rfl (fun K hK => ?_) AllReady.nil
          go_simp
          go_at_call 40
          refine (HCL.out _ (ZQ3.out.below hk6)).mono ?_
          rintro e w5 ⟨v, rfl, ho5, b5⟩
          have hk5 := (hk6).trans (b5.mono (hk6).size)
          have ho5' := own_lower ho5 (hk6).size
          (try go_simp)
          refine hK _ _ ?_
          clear hK K
          refine wpAny_ready (rs := [4]) (by kernel_rfl) (by simp) ?_
          refine AllReady.cons rfl (fun K hK => ?_) AllReady.nil
          refine step_append_way (by rfl) (.tmp 74) (.tmp 76) (by rfl) w3.heap.size _ s.length _ (by rfl) ho5' ⟨w3.heap.size, 0, none⟩ 1 1 [nw] (by rfl) (WaysAt.below hE6 b5) (by omega) (hk5).size ?_
          intro v7 W7 ho7 hg7
          have hk7 := (hk5).grown hg7 (hk5).size (fun j hj => ((ho5').lt j hj).1)
          rw [show (s.map wyC).flatten ++ ([nw].map wyC).flatten = ((s ++ [nw]).map wyC).flatten by simp, HM.out] at ho7
          obtain ⟨A7, c7, rfl, n1, n2, n3, n4⟩ := own_way ho7 (by rw [List.length_append, ← HM.out]; rfl)
          have HTF := toFront_any A7 m c7 (s ++ [nw]) s.length (by have := HM.out; omega) (by have := HM.out; omega) n1 n2 W7 n4.1
          clear ho7 hg7
          (try go_simp)
          refine hK _ _ ?_
          clear hK K
          refine wpAny_ready (rs := [7]) (by kernel_rfl) (by simp) ?_
          refine AllReady.cons rfl (fun K hK => ?_) AllReady.nil
          go_simp
          go_at_call 39
          refine HTF.mono ?_
          rintro e W8 ⟨A8, c8, rfl, p1, p2, p3, p4, b8⟩
          rw [toF_last] at p4
          have hk8 := hk7.trans (b8.mono hk7.size)
          (try go_simp)
          refine hK _ _ ?_
          clear hK K
          refine wpAny_ready (rs := [8]) (by kernel_rfl) (by simp) ?_
          refine AllReady.cons rfl (fun K hK => ?_) AllReady.nil
          go_simp
          refine hK _ _ ?_
          clear hK K
          refine wpAny_done (by kernel_rfl) ?_ _
          go_wp2_with fail
          go_meet
          exact ⟨A8, c8, rfl, p1, p2, p3, OwnAt.lower (B := w3.heap.size) (B' := W7.heap.size) p4 hk7.size, hk8⟩
    case rest =>
      obtain ⟨A8, c8, rfl, p1, p2, p3, p4, hk8⟩ := hcut
      have P4 := Lib.hid p4
      have z1 := X1.out.below hk8 X1.out.1
      have z2 := X2.out.below hk8 X2.out.1
      have z4 := X3.out.below hk8 X3.out.1
      have z3 := KB.out.trans (hk8.mono KB.out.size)
      have hlo4 := hk8.size
      clear X1 X2 X3 X4 KB hk8 p4 ZQ3
      have X1 := Lib.hid z1
      have X2 := Lib.hid z2
      have X3 := Lib.hid z4
      have KB := Lib.hid z3
      clear z1 z2 z3 z4
      have c0 := X1.out.2.1 0 _ rfl
      generalize wc = W5 at *
      have hlo5 : w.heap.size + 2 < W5.heap.size := by omega
      by_cases hle : (m : Int) ≤ ways
      · have d : decide ((m : Int) ≤ ways) = true := decide_eq_true hle
        have HPS2 := Lib.hid (HPS.out.trans (if_pos (by have := HM.out; omega)))
        have HWT := Lib.hid (fun W hS hq => with_any ways (some a) n cap hs ss k ⟨A8, m, c8⟩ (nw :: s) hkn (by omega) W hS hq)
        unfold caV at HWT
        clear hle
        go_wp2_with (first
          | (refine wpList_load_mid rfl 24 (.tmp 4) rfl w.heap.size 0 rfl [.int .i64 ways, .slice (some a) n cap] _ X1.out.range Try.underlying24 rfl ca_info ?_)
          | (go_at_call 41
             refine (HWT.out _ (HS.out.below KB.out) ⟨p1, p2, p3, P4.out.1⟩).mono ?_
             rintro e W6 ⟨A9, c9, rfl, q1, q2, q3, q4, q5, b⟩
             have OA := Lib.hid q4
             have HH := Lib.hid q5
             have Y2 := Lib.hid (X2.out.below b X2.out.1)
             have Y3 := Lib.hid (X3.out.below b X3.out.1)
             have YP := Lib.hid (P4.out.below b)
             have YB := Lib.hid (KB.out.trans (b.mono KB.out.size))
             have hbs := b.size
             have HZI := Lib.hid (show (Try.prog.info? 24).map (·.size) = some (#[.int .i64 ways, .slice A9 n c9] : Array Value).size by kernel_rfl)
             have HZO := Lib.hid (show (#[.int .i64 ways, .slice A9 n c9] : Array Value).all (·.oneCell') = true by simp [Value.oneCell'])
             clear b q4 q5)
          | (refine wpList_store_blk3 rfl 24 (.tmp 8) (.tmp 89) rfl (w.heap.size + 1) _ #[.int .i64 ways, .slice A9 n c9] Y2.out rfl rfl rfl HZI.out HZO.out ?_
             intro W7 q1' q2' q2f q3' q4'
             have U2 := Lib.hid q1'
             have U3 := Lib.hid (Y3.out.same (by omega) q2' q2f q4')
             have UB := Lib.hid (YB.out.trans (q3' w.heap.size (by omega)))
             have UA := Lib.hid (OA.out.same (b := w.heap.size + 1) (by omega) q2' q2f q4')
             have UP := Lib.hid (YP.out.same (b := w.heap.size + 1) (by omega) q2' q2f q4')
             clear q1' q2' q2f q3' q4')
          | (refine wpList_store_blk3 rfl 37 (.tmp 9) (.tmp 90) rfl (w.heap.size + 2) _ zW.toArray U3.out rfl rfl rfl HWI.out HWO.out ?_
             intro W8 q1' q2' q2f q3' q4'
             have R3 := Lib.hid q1'
             have R2 := Lib.hid (U2.out.same (by omega) q2' q2f q4')
             have RB := Lib.hid (UB.out.trans (q3' w.heap.size (by omega)))
             have RA := Lib.hid (UA.out.same (b := w.heap.size + 2) (by omega) q2' q2f q4')
             have RP := Lib.hid (UP.out.same (b := w.heap.size + 2) (by omega) q2' q2f q4')
             clear q1' q2' q2f q3' q4'))
        exact bodyPost_ret (v := .tuple #[.agg #[.int .i64 ways, .slice A9 n c9], .agg zW.toArray, .bool false]) (results_ccs Try.results21 _ W8 (w.heap.size + 1) (w.heap.size + 2) [.int .i64 ways, .slice A9 n c9] zW (.bool false) _ _ rfl rfl rfl R2.out R3.out Try.underlying24 rfl ca_info Try.underlying37 rfl wy_info) rfl
          ⟨A9, c9, ret_val (by rw [HPS2.out]; rfl), q1, q2, q3, ⟨hs.set k ⟨A8, m, c8⟩, ⟨by have := RA.out.1; first | exact this | (rw [List.map_set] at this; exact this) | (rw [← List.map_set] at this; exact this), by
            rw [HPS2.out]
            exact (HS.out.2.below RB.out).set k ⟨A8, m, c8⟩ (nw :: s) ⟨p1, p2, p3, RP.out.1⟩⟩⟩, RB.out⟩
      · obtain rfl : ways = (s.length : Int) := by have := HM.out; omega
        have d : decide ((m : Int) ≤ (s.length : Int)) = false := decide_eq_false (by have := HM.out; omega)
        obtain ⟨gw, hgw⟩ : ∃ r, (nw :: s)[s.length]? = some r := ⟨_, List.getElem?_eq_getElem (by simp)⟩
        have HPS2 := Lib.hid (show putS (s.length : Int) ss line data dirty = (ss.set k ((nw :: s).take s.length), gw, true) by
          rw [HPS.out, if_neg (by omega), Int.toNat_natCast, List.getD_eq_getElem?_getD, hgw]
          rfl)
        have hgm : ((nw :: s).map wyC)[s.length]? = some (wyC gw) := by rw [List.getElem?_map, hgw]; rfl
        obtain ⟨gl, gd, gb⟩ := gw
        obtain ⟨g8, rfl, hg81, hg82, hc8, -⟩ := P4.out.at_ hgm
        have w0 := hc8 0 _ rfl
        have w1 := hc8 1 _ rfl
        have w2 := hc8 2 _ rfl
        rw [Nat.add_zero] at w0
        have hsm : (s.length : Int) < m := by have := HM.out; omega
        have hsc : (s.length : Int) ≤ c8 := by omega
        have HWT := Lib.hid (fun W hS hq => with_any (s.length : Int) (some a) n cap hs ss k ⟨some ⟨g8, 0, none⟩, s.length, c8⟩ ((nw :: s).take s.length) hkn (by omega) W hS hq)
        unfold caV at HWT
        clear hle hc8 hgm
        go_upto_region 19 with fail
        clear c0 w0 w1 w2
        have hne1 : w.heap.size + 1 ≠ w.heap.size := by omega
        have hne2 : w.heap.size + 1 ≠ g8 := by omega
        have hne3 : w.heap.size + 2 ≠ w.heap.size := by omega
        have hne4 : w.heap.size + 2 ≠ g8 := by omega
        have HST := Lib.hid (fun w' (hb : Below W5.heap.size W5 w') => (show w'.cell? ⟨w.heap.size, 0, none⟩ = some (.int .i64 (s.length : Int)) ∧ w'.cell? ⟨w.heap.size, 1, none⟩ = some (.slice (some a) n cap) ∧ w'.cell? ⟨g8, s.length * 3, none⟩ = some (.int .u32 gl) ∧ w'.cell? ⟨g8, s.length * 3 + 1, none⟩ = some (.bool gd) ∧ w'.cell? ⟨g8, s.length * 3 + 2, none⟩ = some (.string gb) from
          ⟨(X1.out.below hb X1.out.1).2.1 0 _ rfl, (X1.out.below hb X1.out.1).2.1 1 _ rfl, by
            obtain ⟨g', hg', -, -, hc', -⟩ := (P4.out.below hb).at_ (j := s.length) (c := wyC ⟨gl, gd, gb⟩) (by rw [List.getElem?_map, hgw]; rfl)
            cases hg'
            exact hc' 0 _ rfl, by
            obtain ⟨g', hg', -, -, hc', -⟩ := (P4.out.below hb).at_ (j := s.length) (c := wyC ⟨gl, gd, gb⟩) (by rw [List.getElem?_map, hgw]; rfl)
            cases hg'
            exact hc' 1 _ rfl, by
            obtain ⟨g', hg', -, -, hc', -⟩ := (P4.out.below hb).at_ (j := s.length) (c := wyC ⟨gl, gd, gb⟩) (by rw [List.getElem?_map, hgw]; rfl)
            cases hg'
            exact hc' 2 _ rfl⟩))
        have LD := Lib.hid (show Below W5.heap.size W5 W5.drew from (Below.refl W5.heap.size W5).drew)
        have HGW := Lib.hid hgw
        clear hgw
        go_region_held3 (fun w' => w'.cell? ⟨w.heap.size, 0, none⟩ = some (.int .i64 (s.length : Int)) ∧ w'.cell? ⟨w.heap.size, 1, none⟩ = some (.slice (some a) n cap) ∧ w'.cell? ⟨g8, s.length * 3, none⟩ = some (.int .u32 gl) ∧ w'.cell? ⟨g8, s.length * 3 + 1, none⟩ = some (.bool gd) ∧ w'.cell? ⟨g8, s.length * 3 + 2, none⟩ = some (.string gb))
          ((first
            | with_reducible exact HST.out _ LD.out
            | with_reducible exact HST.out _ B5.out
            | simp [*, World.cell?_setCell_far]))
          ((first
            | (go_at_call 41
               refine (HWT.out _ (HS.out.below (KB.out.trans (LD.out.mono KB.out.size))) ⟨(show s.length ≤ c8 by omega), p2, (fun h => by cases h), WaysAt.take (show WaysAt _ _ m (nw :: s) from (P4.out.below LD.out).1) (show s.length ≤ m by omega)⟩).mono ?_
               rintro e W6 ⟨A9, c9, rfl, q1, q2, q3, q4, q5, b⟩
               have B5 := Lib.hid (LD.out.trans b)
               have OA := Lib.hid (show OwnAt W6 W5.heap.size A9 n 1 _ from q4)
               have Y2 := Lib.hid (X2.out.below B5.out X2.out.1)
               have Y3 := Lib.hid (show Blk W6 (w.heap.size + 1 + 1) [.int .u32 0, .bool false, .string ByteArray.empty] from X3.out.below B5.out X3.out.1)
               have t0 := Y2.out.2.1 0 _ rfl
               have t1 := Y2.out.2.1 1 _ rfl
               have e0 := Y2.out.2.2 0 (by simp)
               have e1 := Y2.out.2.2 1 (by simp)
               have u0 := Y3.out.2.1 0 _ rfl
               have u1 := Y3.out.2.1 1 _ rfl
               have u2 := Y3.out.2.1 2 _ rfl
               have f0 := Y3.out.2.2 0 (by decide)
               have f1 := Y3.out.2.2 1 (by decide)
               have f2 := Y3.out.2.2 2 (by decide)
               clear b q4 q5)))
        clear t0 t1 e0 e1 u0 u1 u2 f0 f1 f2 HST LD
        have YB := Lib.hid (KB.out.trans (B5.out.mono KB.out.size))
        have YP := Lib.hid (P4.out.below B5.out)
        clear B5 KB P4 X1 X2 X3
        have z2 := Y2.out.set (i := 0) (v := .int .i64 (s.length : Int)) (by simp)
        have z3 := Y3.out.other (p := ⟨w.heap.size + 1, 0, none⟩) (v := .int .i64 (s.length : Int)) (by simp)
        simp only [List.set_cons_succ, List.set_cons_zero] at z2 z3
        have z4 := YB.out.setCell (p := ⟨w.heap.size + 1, 0, none⟩) (by show w.heap.size ≤ _; simp <;> omega) (.int .i64 (s.length : Int))
        have z5 := OA.out.far (p := ⟨w.heap.size + 1, 0, none⟩) (by show _ < W5.heap.size; simp <;> omega) (.int .i64 (s.length : Int))
        have z6 := YP.out.far (p := ⟨w.heap.size + 1, 0, none⟩) (by show _ < w3.heap.size; simp <;> omega) (.int .i64 (s.length : Int))
        clear Y2 Y3 YB OA YP
        generalize World.setCell W6 ⟨w.heap.size + 1, 0, none⟩ (.int .i64 (s.length : Int)) = V1 at *
        have Y2 := Lib.hid z2
        have Y3 := Lib.hid z3
        have YB := Lib.hid z4
        have OA := Lib.hid z5
        have YP := Lib.hid z6
        clear z2 z3 z4 z5 z6
        have z2 := Y2.out.set (i := 1) (v := .slice A9 n c9) (by simp)
        have z3 := Y3.out.other (p := ⟨w.heap.size + 1, 1, none⟩) (v := .slice A9 n c9) (by simp)
        simp only [List.set_cons_succ, List.set_cons_zero] at z2 z3
        have z4 := YB.out.setCell (p := ⟨w.heap.size + 1, 1, none⟩) (by show w.heap.size ≤ _; simp <;> omega) (.slice A9 n c9)
        have z5 := OA.out.far (p := ⟨w.heap.size + 1, 1, none⟩) (by show _ < W5.heap.size; simp <;> omega) (.slice A9 n c9)
        have z6 := YP.out.far (p := ⟨w.heap.size + 1, 1, none⟩) (by show _ < w3.heap.size; simp <;> omega) (.slice A9 n c9)
        clear Y2 Y3 YB OA YP
        generalize World.setCell V1 ⟨w.heap.size + 1, 1, none⟩ (.slice A9 n c9) = V2 at *
        have Y2 := Lib.hid z2
        have Y3 := Lib.hid z3
        have YB := Lib.hid z4
        have OA := Lib.hid z5
        have YP := Lib.hid z6
        clear z2 z3 z4 z5 z6
        have z2 := Y2.out.other (p := ⟨w.heap.size + 1 + 1, 0, none⟩) (v := .int .u32 gl) (by simp)
        have z3 := Y3.out.set (i := 0) (v := .int .u32 gl) (by simp)
        simp only [List.set_cons_succ, List.set_cons_zero] at z2 z3
        have z4 := YB.out.setCell (p := ⟨w.heap.size + 1 + 1, 0, none⟩) (by show w.heap.size ≤ _; simp <;> omega) (.int .u32 gl)
        have z5 := OA.out.far (p := ⟨w.heap.size + 1 + 1, 0, none⟩) (by show _ < W5.heap.size; simp <;> omega) (.int .u32 gl)
        have z6 := YP.out.far (p := ⟨w.heap.size + 1 + 1, 0, none⟩) (by show _ < w3.heap.size; simp <;> omega) (.int .u32 gl)
        clear Y2 Y3 YB OA YP
        generalize World.setCell V2 ⟨w.heap.size + 1 + 1, 0, none⟩ (.int .u32 gl) = V3 at *
        have Y2 := Lib.hid z2
        have Y3 := Lib.hid z3
        have YB := Lib.hid z4
        have OA := Lib.hid z5
        have YP := Lib.hid z6
        clear z2 z3 z4 z5 z6
        have z2 := Y2.out.other (p := ⟨w.heap.size + 1 + 1, 1, none⟩) (v := .bool gd) (by simp)
        have z3 := Y3.out.set (i := 1) (v := .bool gd) (by simp)
        simp only [List.set_cons_succ, List.set_cons_zero] at z2 z3
        have z4 := YB.out.setCell (p := ⟨w.heap.size + 1 + 1, 1, none⟩) (by show w.heap.size ≤ _; simp <;> omega) (.bool gd)
        have z5 := OA.out.far (p := ⟨w.heap.size + 1 + 1, 1, none⟩) (by show _ < W5.heap.size; simp <;> omega) (.bool gd)
        have z6 := YP.out.far (p := ⟨w.heap.size + 1 + 1, 1, none⟩) (by show _ < w3.heap.size; simp <;> omega) (.bool gd)
        clear Y2 Y3 YB OA YP
        generalize World.setCell V3 ⟨w.heap.size + 1 + 1, 1, none⟩ (.bool gd) = V4 at *
        have Y2 := Lib.hid z2
        have Y3 := Lib.hid z3
        have YB := Lib.hid z4
        have OA := Lib.hid z5
        have YP := Lib.hid z6
        clear z2 z3 z4 z5 z6
        have z2 := Y2.out.other (p := ⟨w.heap.size + 1 + 1, 2, none⟩) (v := .string gb) (by simp)
        have z3 := Y3.out.set (i := 2) (v := .string gb) (by simp)
        simp only [List.set_cons_succ, List.set_cons_zero] at z2 z3
        have z4 := YB.out.setCell (p := ⟨w.heap.size + 1 + 1, 2, none⟩) (by show w.heap.size ≤ _; simp <;> omega) (.string gb)
        have z5 := OA.out.far (p := ⟨w.heap.size + 1 + 1, 2, none⟩) (by show _ < W5.heap.size; simp <;> omega) (.string gb)
        have z6 := YP.out.far (p := ⟨w.heap.size + 1 + 1, 2, none⟩) (by show _ < w3.heap.size; simp <;> omega) (.string gb)
        clear Y2 Y3 YB OA YP
        generalize World.setCell V4 ⟨w.heap.size + 1 + 1, 2, none⟩ (.string gb) = V5 at *
        have Y2 := Lib.hid z2
        have Y3 := Lib.hid z3
        have YB := Lib.hid z4
        have OA := Lib.hid z5
        have YP := Lib.hid z6
        clear z2 z3 z4 z5 z6
        go_wp2_with fail
        exact bodyPost_ret (v := .tuple #[.agg #[.int .i64 (s.length : Int), .slice A9 n c9], .agg #[.int .u32 gl, .bool gd, .string gb], .bool true]) (results_ccs Try.results21 _ V5 (w.heap.size + 1) (w.heap.size + 1 + 1) [.int .i64 (s.length : Int), .slice A9 n c9] [.int .u32 gl, .bool gd, .string gb] (.bool true) _ _ rfl rfl rfl Y2.out Y3.out Try.underlying24 rfl ca_info Try.underlying37 rfl wy_info) rfl
          ⟨A9, c9, hs.set k ⟨some ⟨g8, 0, none⟩, s.length, c8⟩, ret_val (by rw [HPS2.out]; rfl), q1, q2, q3, ⟨by have := OA.out.1; first | exact this | (rw [List.map_set] at this; exact this) | (rw [← List.map_set] at this; exact this), by
            rw [HPS2.out]
            exact (HS.out.2.below YB.out).set k ⟨some ⟨g8, 0, none⟩, s.length, c8⟩ ((nw :: s).take s.length) ⟨(show s.length ≤ c8 by omega), p2, (fun h => by cases h), WaysAt.take (show WaysAt _ _ m (nw :: s) from YP.out.1) (show s.length ≤ m by omega)⟩⟩, YB.out⟩
end Go.Proofs.Ytcgahdmacngipaa
