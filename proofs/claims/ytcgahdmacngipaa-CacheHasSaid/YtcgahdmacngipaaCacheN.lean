/- THE CONTRACT of cache.New; alive of auspexlaw10; Put of any line. -/
import Derived.Test.YtcgahdmacngipaaCachePutN
namespace Go.Proofs.Ytcgahdmacngipaa
open Go.ChangeShapes Go.WideShapes Go.ChangeAt Go.RowKit Go.Sort
set_option linter.unusedVariables false
set_option linter.unusedSimpArgs false
set_option maxHeartbeats 4000000
set_option maxRecDepth 100000

def newNum (sets : Int) : Nat := if 4 ≤ sets then 4 else if 2 ≤ sets then 2 else 1
def newWays (ways : Int) : Int := if 2 ≤ ways then 2 else 1
def nilHd : Hd := ⟨none, 0, 0⟩
theorem nil_sets (w : World) (N : Nat) : HdsAt w (List.replicate N nilHd) (List.replicate N []) :=
  ⟨by simp, fun k h s h1 h2 => by
    have e1 := List.mem_replicate.1 (List.mem_of_getElem? h1)
    have e2 := List.mem_replicate.1 (List.mem_of_getElem? h2)
    rw [e1.2, e2.2]
    exact ⟨Nat.le_refl _, Nat.zero_le _, fun _ => rfl, RowsAt.nil _ _ _⟩⟩
theorem nil_rows (N : Nat) : ((List.replicate N nilHd).map hdC).flatten = List.replicate N (.slice none 0 0) := by
  induction N with
  | zero => rfl
  | succ n ih => rw [List.replicate_succ, List.map_cons, List.flatten_cons, ih]; rfl
theorem new_any (sets ways : Int) (w : World) :
    Calls Try.prog 16 #[.int .i64 sets, .int .i64 ways] w fun e w' => ∃ (A : Option Addr) (c : Nat), e = .returned (caV (newWays ways) A (newNum sets) c) ∧ newNum sets ≤ c ∧ c ≤ maxLen ∧ (A = none → c = 0) ∧ SetsAt w' A (newNum sets) (List.replicate (newNum sets) nilHd) (List.replicate (newNum sets) []) ∧ Below w.heap.size w w' := by
  obtain ⟨i0, hi, hz0, hz1, hz2⟩ := info_parts info_hdr
  obtain ⟨a1, ha1⟩ : ∃ y, (if sets < 1 then 1 else sets) = y := ⟨_, rfl⟩
  obtain ⟨a2, ha2⟩ : ∃ y, (if 4 < a1 then 4 else a1) = y := ⟨_, rfl⟩
  obtain ⟨b1, hb1⟩ : ∃ y, (if ways < 1 then 1 else ways) = y := ⟨_, rfl⟩
  obtain ⟨b2, hb2⟩ : ∃ y, (if 2 < b1 then 2 else b1) = y := ⟨_, rfl⟩
  have j1 : 1 ≤ a2 ∧ a2 ≤ 4 := by
    rw [← ha2, ← ha1]
    repeat' split
    all_goals omega
  have HWY := Lib.hid (show b2 = newWays ways by
    unfold newWays
    rw [← hb2, ← hb1]
    repeat' split
    all_goals omega)
  have f1 := Blk.new w 24 [.int .i64 0, .slice none 0 0]
  have f3 : Below w.heap.size w (w.alloc (.cells #[.int .i64 0, .slice none 0 0] 24)) := (Below.refl _ _).alloc (Nat.le_refl _) _
  by_cases h3 : a2 = 3
  · have e3 : (a2 == 3) = true := by simp [h3]
    obtain ⟨N, hN⟩ : ∃ N : Nat, N = 2 := ⟨2, rfl⟩
    have HN := Lib.hid (show newNum sets = 2 by
      unfold newNum
      have : sets = 3 := by
        rw [← ha2, ← ha1] at h3
        revert h3
        repeat' split
        all_goals omega
      rw [if_neg (by omega), if_pos (by omega)])
    clear h3 hN N
    go_enter Try.func16, Try.ntmps16
    go_upto_region 1 with fail
    generalize w.alloc (.cells #[.int .i64 0, .slice none 0 0] 24) = W0 at *
    have X1 := Lib.hid f1
    have KB := Lib.hid f3
    clear f1 f3
    go_wp2_with (first
      | (at_make
         refine wpList_make_full _ rfl _ _ 22 rfl W0.heap.size 53 i0 (.slice none 0 0) 1 Try.underlying22 hi hz0 hz1 .i64 .i64 _ _ 2 rfl rfl rfl rfl (by rw [hz2]; omega) (by unfold maxLen; omega) (Nat.le_refl _) ?_
         intro w1 hown1 hgrow1
         have bb := (Below.refl W0.heap.size W0).grown hgrow1 (Nat.le_refl _) (fun k hk => by cases hk)
         rw [show (madeCells (Value.slice none 0 0).cells (2 * 1)).toList = ((List.replicate 2 nilHd).map hdC).flatten by rw [Nat.mul_one, nil_rows]; simp [Value.cells, toList_madeCells_one]] at hown1
         obtain ⟨A', c', hve, g1, g2, g3, g4⟩ := own_hdr hown1 (by simp)
         injection hve with hv1 hv2 hv3
         subst hv1 hv3
         have X2 := Lib.hid (X1.out.below bb X1.out.1)
         have KB2 := Lib.hid (KB.out.trans (bb.mono KB.out.size))
         have hlo := X1.out.1
         have O1 := Lib.hid g4
         have HZI := Lib.hid (show (Try.prog.info? 24).map (·.size) = some (#[.int .i64 b2, .slice (some ⟨W0.heap.size, 0, none⟩) 2 2] : Array Value).size by kernel_rfl)
         have HZO := Lib.hid (show (#[.int .i64 b2, .slice (some ⟨W0.heap.size, 0, none⟩) 2 2] : Array Value).all (·.oneCell') = true by simp [Value.oneCell'])
         clear hown1 hgrow1 bb g4)
      | (refine wpList_store_blk3 rfl 24 (.tmp 4) (.tmp 15) rfl w.heap.size _ #[.int .i64 b2, .slice (some ⟨W0.heap.size, 0, none⟩) 2 2] X2.out rfl rfl rfl HZI.out HZO.out ?_
         intro W7 q1 q2 q2f q3 q4
         have R2 := Lib.hid q1
         have RB := Lib.hid (KB2.out.trans (q3 w.heap.size (Nat.le_refl _)))
         have RA := Lib.hid (O1.out.same (b := w.heap.size) (by omega) q2 q2f q4)
         clear q1 q2 q2f q3 q4))
    exact bodyPost_ret (v := .agg #[.int .i64 b2, .slice (some ⟨W0.heap.size, 0, none⟩) 2 2]) (results_cell_blk Try.results16 _ W7 w.heap.size [.int .i64 b2, .slice (some ⟨W0.heap.size, 0, none⟩) 2 2] _ rfl R2.out Try.underlying24 rfl ca_info) rfl
      (by
        rw [HN.out, ← HWY.out]
        exact ⟨_, 2, rfl, g1, g2, (fun h => by cases h), ⟨RA.out.1, nil_sets _ _⟩, RB.out⟩)
  · have e3 : (a2 == 3) = false := by simpa using h3
    obtain ⟨N, hN⟩ : ∃ N : Nat, a2 = N := ⟨a2.toNat, by omega⟩
    have HN := Lib.hid (show newNum sets = N by
      unfold newNum
      have h3' := h3
      rw [← ha2, ← ha1] at h3' hN
      revert h3' hN
      repeat' split
      all_goals omega)
    subst hN
    have hN4 : N ≤ 4 := by omega
    clear h3
    go_enter Try.func16, Try.ntmps16
    go_upto_region 1 with fail
    generalize w.alloc (.cells #[.int .i64 0, .slice none 0 0] 24) = W0 at *
    have X1 := Lib.hid f1
    have KB := Lib.hid f3
    clear f1 f3
    go_wp2_with (first
      | (at_make
         refine wpList_make_full _ rfl _ _ 22 rfl W0.heap.size 53 i0 (.slice none 0 0) 1 Try.underlying22 hi hz0 hz1 .i64 .i64 _ _ N rfl rfl rfl rfl (by rw [hz2]; omega) (by unfold maxLen; omega) (Nat.le_refl _) ?_
         intro w1 hown1 hgrow1
         have bb := (Below.refl W0.heap.size W0).grown hgrow1 (Nat.le_refl _) (fun k hk => by cases hk)
         rw [show (madeCells (Value.slice none 0 0).cells (N * 1)).toList = ((List.replicate N nilHd).map hdC).flatten by rw [Nat.mul_one, nil_rows]; simp [Value.cells, toList_madeCells_one]] at hown1
         obtain ⟨A', c', hve, g1, g2, g3, g4⟩ := own_hdr hown1 (by simp)
         injection hve with hv1 hv2 hv3
         subst hv1 hv3
         have X2 := Lib.hid (X1.out.below bb X1.out.1)
         have KB2 := Lib.hid (KB.out.trans (bb.mono KB.out.size))
         have hlo := X1.out.1
         have O1 := Lib.hid g4
         have HZI := Lib.hid (show (Try.prog.info? 24).map (·.size) = some (#[.int .i64 b2, .slice (some ⟨W0.heap.size, 0, none⟩) N N] : Array Value).size by kernel_rfl)
         have HZO := Lib.hid (show (#[.int .i64 b2, .slice (some ⟨W0.heap.size, 0, none⟩) N N] : Array Value).all (·.oneCell') = true by simp [Value.oneCell'])
         clear hown1 hgrow1 bb g4)
      | (refine wpList_store_blk3 rfl 24 (.tmp 4) (.tmp 15) rfl w.heap.size _ #[.int .i64 b2, .slice (some ⟨W0.heap.size, 0, none⟩) N N] X2.out rfl rfl rfl HZI.out HZO.out ?_
         intro W7 q1 q2 q2f q3 q4
         have R2 := Lib.hid q1
         have RB := Lib.hid (KB2.out.trans (q3 w.heap.size (Nat.le_refl _)))
         have RA := Lib.hid (O1.out.same (b := w.heap.size) (by omega) q2 q2f q4)
         clear q1 q2 q2f q3 q4))
    exact bodyPost_ret (v := .agg #[.int .i64 b2, .slice (some ⟨W0.heap.size, 0, none⟩) N N]) (results_cell_blk Try.results16 _ W7 w.heap.size [.int .i64 b2, .slice (some ⟨W0.heap.size, 0, none⟩) N N] _ rfl R2.out Try.underlying24 rfl ca_info) rfl
      (by
        rw [HN.out, ← HWY.out]
        exact ⟨_, N, rfl, g1, g2, (fun h => by cases h), ⟨RA.out.1, nil_sets _ _⟩, RB.out⟩)
theorem findS_cases {ways : Int} {ss : List (List Wy)} (line : Int) (hr : rightC ways ss = true) :
    ∃ (k : Nat) (s : List Wy), setI ss.length (line - line % 16) = k ∧ ss[k]? = some s ∧ ((placeI s (line - line % 16) < 0 ∧ findS ways ss line = ((k : Int), 0, false)) ∨
      ∃ (i : Nat) (x : Wy), s[i]? = some x ∧ x.line = line - line % 16 ∧ findS ways ss line = ((k : Int), (i : Int), true)) := by
  obtain ⟨k, s, hk, hsk, hf⟩ := findS_yes line hr
  refine ⟨k, s, hk, hsk, ?_⟩
  by_cases hp : placeI s (line - line % 16) < 0
  · rw [if_pos hp] at hf
    exact Or.inl ⟨hp, hf⟩
  · rw [if_neg hp] at hf
    obtain ⟨i, x, hi, hil, hx, hxl, -⟩ := place_pos hp
    rw [hi] at hf
    exact Or.inr ⟨i, x, hx, hxl, hf⟩
theorem put_anyC (ways : Int) (A : Option Addr) (n cap : Nat) (hs : List Hd) (ss : List (List Wy)) (line : Int) (data : ByteArray) (dirty : Bool) (hn : n ≤ cap) (hc : cap ≤ maxLen) (hz : A = none → cap = 0) (hss : setsOK ss) (h0 : 0 ≤ line) (h1 : line < 4294967296) (w : World) (hS : SetsAt w A n hs ss) :
    Calls Try.prog 21 #[caV ways A n cap, .int .u32 line, .string data, .bool dirty] w fun e w' => ∃ (A' : Option Addr) (c' : Nat) (hs' : List Hd), e = .returned (putV ways A' n c' (putS ways ss line data dirty)) ∧ n ≤ c' ∧ c' ≤ maxLen ∧ (A' = none → c' = 0) ∧ SetsAt w' A' n hs' (putS ways ss line data dirty).1 ∧ Below w.heap.size w w' := by
  cases hr : rightC ways ss
  · refine (put_bad ways A n cap hs ss line data dirty hn hc hss w hS hr).mono ?_
    rintro e w' ⟨he, b⟩
    have hp : putS ways ss line data dirty = (ss, zeroW, false) := by unfold putS; rw [if_neg (by simp [hr])]
    rw [hp]
    exact ⟨A, cap, hs, he, hn, hc, hz, hS.below b, b⟩
  · obtain ⟨k, s, hk, hsk, ⟨hp, hf⟩ | ⟨i, x, hx, hxl, hf⟩⟩ := findS_cases line hr
    · exact put_new ways A n cap hs ss line data dirty hn hc hss h0 h1 w hS hr k s hsk hf
    · exact put_found ways A n cap hs ss line data dirty hn hc hss h0 h1 w hS hr k i s x hsk hx hf
theorem touchS_no {ways : Int} {ss : List (List Wy)} {line : Int} (h : (findS ways ss line).2.2 = false) : touchS ways ss line = ss := by unfold touchS; rw [if_neg (by simp [h])]
theorem touchS_yes {ways : Int} {ss : List (List Wy)} {line : Int} {k i : Nat} {s : List Wy} (hsk : ss[k]? = some s) (hf : findS ways ss line = ((k : Int), (i : Int), true)) : touchS ways ss line = ss.set k (toF s i) := by
  unfold touchS
  rw [hf, if_pos rfl]
  simp only [Int.toNat_natCast]
  unfold setAt
  rw [Int.toNat_natCast, List.getD_eq_getElem?_getD, hsk]
  rfl
theorem touch_anyC (ways : Int) (A : Option Addr) (n cap : Nat) (hs : List Hd) (ss : List (List Wy)) (line : Int) (hn : n ≤ cap) (hc : cap ≤ maxLen) (hz : A = none → cap = 0) (hss : setsOK ss) (h0 : 0 ≤ line) (h1 : line < 4294967296) (w : World) (hS : SetsAt w A n hs ss) :
    Calls Try.prog 23 #[caV ways A n cap, .int .u32 line] w fun e w' => ∃ (A' : Option Addr) (c' : Nat) (hs' : List Hd), e = .returned (caV ways A' n c') ∧ n ≤ c' ∧ c' ≤ maxLen ∧ (A' = none → c' = 0) ∧ SetsAt w' A' n hs' (touchS ways ss line) ∧ Below w.heap.size w w' := by
  cases hff : (findS ways ss line).2.2
  · rw [touchS_no hff]
    refine (touch_no ways A n cap hs ss line hn hc hss h0 h1 w hS hff).mono ?_
    rintro e w' ⟨he, b⟩
    exact ⟨A, cap, hs, he, hn, hc, hz, hS.below b, b⟩
  · have hr : rightC ways ss = true := by
      cases hr : rightC ways ss
      · rw [findS_no line hr] at hff
        cases hff
      · rfl
    obtain ⟨k, s, hk, hsk, ⟨hp, hf⟩ | ⟨i, x, hx, hxl, hf⟩⟩ := findS_cases line hr
    · rw [hf] at hff
      cases hff
    · rw [touchS_yes hsk hf]
      refine (touch_yes ways A n cap hs ss line hn hc hss h0 h1 w hS hr k s i hsk (List.getElem?_eq_some_iff.1 hx).1 hf).mono ?_
      rintro e w' ⟨A', c', q, B, he, g1, g2, g3, -, -, -, -, -, -, hA, hH, -, b⟩
      exact ⟨A', c', hs.set k q, he, g1, g2, g3, ⟨hA.1, hH⟩, b⟩
theorem alive_put : putS 1 [[]] 16 ⟨#[]⟩ false = ([[⟨16, false, ByteArray.empty⟩]], zeroW, false) := by rfl
theorem alive_find : findS 1 [[⟨16, false, ByteArray.empty⟩]] 16 = (0, 0, true) := by rfl
theorem alive_right : rightC 1 [[⟨16, false, ByteArray.empty⟩]] = true := by rfl
theorem alive10_any (w : World) : Calls Try.prog 12 #[] w fun e w' => e = .returned (.bool true) ∧ Below w.heap.size w w' := by
  have HN := Lib.hid (fun w => new_any 1 1 w)
  have HP := Lib.hid (fun A c hs w h1 h2 h3 h4 => put_anyC 1 A 1 c hs [[]] 16 ⟨#[]⟩ false h1 h2 h3 (by intro s hs r hr; simp at hs; subst hs; cases hr) (by decide) (by decide) w h4)
  have hok : setsOK [[⟨16, false, ByteArray.empty⟩]] := by intro s hs r hr; simp at hs; subst hs; simp at hr; subst hr; exact ⟨by decide, by decide⟩
  have HF := Lib.hid (fun A c hs w h1 h2 h4 => find_any 1 A 1 c hs [[⟨16, false, ByteArray.empty⟩]] 16 h1 h2 hok (by decide) (by decide) w h4)
  have HR := Lib.hid (fun A c hs w h1 h2 h4 => right_anyC 1 A 1 c hs [[⟨16, false, ByteArray.empty⟩]] h1 h2 hok w h4)
  rw [show newNum 1 = 1 from rfl, show newWays 1 = 1 from rfl] at HN
  rw [alive_put] at HP
  rw [alive_find] at HF
  rw [alive_right] at HR
  unfold findV at HF
  unfold putV at HP
  simp only [show wyV zeroW = .agg #[.int .u32 0, .bool false, .string ByteArray.empty] from rfl] at HP
  unfold caV at HN HP HF HR
  clear hok
  go_enter Try.func12, Try.ntmps12
  go_wp2_with (first
    | (go_at_call 16
       refine (HN.out _).mono ?_
       rintro e w1 ⟨A, c, rfl, g1, g2, g3, hS, b⟩
       have S1 := Lib.hid hS
       have K1 := Lib.hid b
       clear hS b)
    | (go_at_call 21
       refine (HP.out A c _ _ g1 g2 g3 S1.out).mono ?_
       rintro e w2 ⟨A2, c2, hs2, rfl, k1, k2, k3, hS, b⟩
       have S2 := Lib.hid hS
       have K2 := Lib.hid (K1.out.trans (b.mono K1.out.size))
       have BB := Lib.hid (show Below w2.heap.size w2 ((w2.alloc (.cells #[.int .i64 1, .slice A2 1 c2] 24)).alloc (.cells #[.int .u32 0, .bool false, .string ByteArray.empty] 37)) from ((Below.refl _ _).alloc (Nat.le_refl _) _).alloc (by simp) _)
       have X1 := Lib.hid (show Blk ((w2.alloc (.cells #[.int .i64 1, .slice A2 1 c2] 24)).alloc (.cells #[.int .u32 0, .bool false, .string ByteArray.empty] 37)) w2.heap.size [.int .i64 1, .slice A2 1 c2] from (Blk.new w2 24 [.int .i64 1, .slice A2 1 c2]).below (w' := _) ((Below.refl _ _).alloc (Nat.le_refl _) _) (by simp))
       clear hS b)
    | (go_at_call 10
       refine (HF.out A2 c2 hs2 _ k1 k2 (S2.out.below BB.out)).mono ?_
       rintro e w3 ⟨rfl, b⟩
       have S3 := Lib.hid ((S2.out.below BB.out).below b)
       have K3 := Lib.hid ((K2.out.trans (BB.out.mono K2.out.size)).trans (b.mono (K2.out.trans (BB.out.mono K2.out.size)).size))
       have y := X1.out.below b X1.out.1
       have c0 := y.2.1 0 _ rfl
       have c1 := y.2.1 1 _ rfl
       clear b y)
    | (go_at_call 13
       refine (HR.out A2 c2 hs2 _ k1 k2 S3.out).mono ?_
       rintro e w4 ⟨rfl, b⟩
       have K4 := Lib.hid (K3.out.trans (b.mono K3.out.size))
       clear b))
  go_ret
  exact ⟨rfl, K4.out⟩
end Go.Proofs.Ytcgahdmacngipaa
