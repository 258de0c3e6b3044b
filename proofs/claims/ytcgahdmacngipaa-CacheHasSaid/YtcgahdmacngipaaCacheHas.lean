/- Proved: the statement of CacheHas (auspexlaw10): a line that was put is found, first in its set; touched twice is touched once; a line that was not there is not there behind a touch; for every input. -/
import Derived.Test.YtcgahdmacngipaaRows
import Derived.Test.YtcgahdmacngipaaCacheQ
import Derived.Test.YtcgahdmacngipaaCacheT
import Derived.Deep.RegionHeld3
import Derived.OpenShut
import Derived.WalkKit
import Derived.ProofKit
import Derived.ChangeMaps5
namespace Go.Proofs.Ytcgahdmacngipaa.cacheHas
open Go.ChangeShapes Go.WideShapes Go.ChangeAt Go.RowKit Go.Sort
open Go.ChangeMaps (open_string shut_string)
set_option linter.unusedVariables false
set_option linter.unusedSimpArgs false
set_option maxHeartbeats 8000000
set_option maxRecDepth 100000

theorem ok_sets {ss : List (List Wy)} (h : ∀ s ∈ ss, ∀ r ∈ s, wyOK r) : setsOK ss := fun s hs r hr => by
  have := bounds_u32 (h s hs r hr).1
  omega
theorem ok_set {ss : List (List Wy)} (h : setsOK ss) {k : Nat} {s : List Wy} (hsk : ss[k]? = some s) {y : Wy} {t : List Wy} (hy : 0 ≤ y.line ∧ y.line < 4294967296) (ht : t.Sublist s) : setsOK (ss.set k (y :: t)) := by
  intro s' hs' r hr
  rcases List.mem_or_eq_of_mem_set hs' with h1 | rfl
  · exact h s' h1 r hr
  · rcases List.mem_cons.1 hr with rfl | hr
    · exact hy
    · exact h s (List.mem_of_getElem? hsk) r (ht.subset hr)
theorem others {s : List Wy} {i : Nat} {x : Wy} (hx : s[i]? = some x) (hnd : nd s) : ∀ y ∈ s.take i ++ s.drop (i + 1), y.line ≠ x.line := by
  intro y hy he
  rw [← filter_others hx (fun j r hj => of_nd hnd hj)] at hy
  have := (List.mem_filter.1 hy).2
  simp [he] at this
theorem touch_math {ways : Int} {ss : List (List Wy)} (line : Int) (hr : rightC ways ss = true) (hss : setsOK ss) :
    setsOK (touchS ways ss line) ∧ rightC ways (touchS ways ss line) = true ∧ (findS ways (touchS ways ss line) line).2.2 = (findS ways ss line).2.2 ∧ touchS ways (touchS ways ss line) line = touchS ways ss line := by
  obtain ⟨k, s, hk, hsk, ⟨hp, hf⟩ | ⟨i, x, hx, hxl, hf⟩⟩ := findS_cases line hr
  · have h1 : touchS ways ss line = ss := touchS_no (by rw [hf])
    rw [h1]
    exact ⟨hss, hr, rfl, h1⟩
  · have hE : touchS ways ss line = ss.set k (x :: (s.take i ++ s.drop (i + 1))) := by
      rw [touchS_yes hsk hf]
      unfold toF
      rw [hx]
    obtain ⟨a, b⟩ := (right_at hr).2.2 k s hsk
    have hnd : nd s := nd_of fun j r hj => (b j r hj).2.2.1
    have hil := (List.getElem?_eq_some_iff.1 hx).1
    obtain ⟨b1, b2, _, b4⟩ := b i x hx
    have hr2 := right_set hr hsk x _ (erase_sub s i) (by rw [List.length_append, List.length_take, List.length_drop]; omega) ⟨b1, b2, b4⟩ (others hx hnd)
    rw [hE]
    have h := find_first (line := line) hr2 (k := k) (y := x) (t := s.take i ++ s.drop (i + 1)) (by rw [List.length_set]; exact hk) (List.getElem?_set_self (List.getElem?_eq_some_iff.1 hsk).1) hxl
    refine ⟨ok_set hss hsk (hss s (List.mem_of_getElem? hsk) x (List.mem_of_getElem? hx)) (erase_sub s i), hr2, ?_, h.2⟩
    rw [h.1, hf]
theorem put_math {ways : Int} {ss : List (List Wy)} (line : Int) (data : ByteArray) (dirty : Bool) (hr : rightC ways ss = true) (hss : setsOK ss) (h0 : 0 ≤ line) (h1 : line < 4294967296) :
    setsOK (putS ways ss line data dirty).1 ∧ rightC ways (putS ways ss line data dirty).1 = true ∧ (∃ k : Nat, findS ways (putS ways ss line data dirty).1 line = ((k : Int), 0, true)) ∧ touchS ways (putS ways ss line data dirty).1 line = (putS ways ss line data dirty).1 := by
  have key : ∃ (k : Nat) (s : List Wy) (y : Wy) (t : List Wy), setI ss.length (line - line % 16) = k ∧ ss[k]? = some s ∧ (putS ways ss line data dirty).1 = ss.set k (y :: t) ∧ y.line = line - line % 16 ∧ t.Sublist s ∧ rightC ways (ss.set k (y :: t)) = true := by
    obtain ⟨k, s, hk, hsk, ⟨hp, hf⟩ | ⟨i, x, hx, hxl, hf⟩⟩ := findS_cases line hr
    · have hPS : putS ways ss line data dirty = (if (s.length : Int) + 1 ≤ ways then (ss.set k (newW line data dirty :: s), zeroW, false) else (ss.set k ((newW line data dirty :: s).take ways.toNat), (newW line data dirty :: s).getD ways.toNat zeroW, true)) := by
        unfold putS
        rw [if_pos hr, hf, if_neg (by simp)]
        simp only [Int.toNat_natCast]
        unfold setAt
        rw [Int.toNat_natCast, List.getD_eq_getElem?_getD, hsk, Option.getD_some]
      obtain ⟨a, b⟩ := (right_at hr).2.2 k s hsk
      have hw2 := (right_at hr).2.1
      have hno : ∀ x ∈ s, x.line ≠ (newW line data dirty).line := fun x hx he => by
        have := place_neg hp x hx
        have e : (newW line data dirty).line = line - line % 16 := rfl
        rw [e] at he
        simp [he] at this
      have hyy : (newW line data dirty).line % 16 = 0 ∧ setI ss.length (newW line data dirty).line = k ∧ ((newW line data dirty).data.size = 16 ∨ (newW line data dirty).data.size = 0) := by
        refine ⟨by show (line - line % 16) % 16 = 0; omega, hk, ?_⟩
        unfold newW
        simp only
        split
        · left; assumption
        · right; rfl
      by_cases hle : (s.length : Int) + 1 ≤ ways
      · refine ⟨k, s, _, s, hk, hsk, by rw [hPS, if_pos hle], rfl, List.Sublist.refl _, right_set hr hsk _ s (List.Sublist.refl _) hle hyy hno⟩
      · obtain ⟨m, hm⟩ : ∃ m : Nat, ways.toNat = m + 1 := ⟨ways.toNat - 1, by omega⟩
        refine ⟨k, s, _, s.take m, hk, hsk, by rw [hPS, if_neg hle, hm]; rfl, rfl, List.take_sublist .., right_set hr hsk _ (s.take m) (List.take_sublist ..) (by rw [List.length_take]; omega) hyy (fun x hx => hno x (List.mem_of_mem_take hx))⟩
    · obtain ⟨a, b⟩ := (right_at hr).2.2 k s hsk
      have hnd : nd s := nd_of fun j r hj => (b j r hj).2.2.1
      have hil := (List.getElem?_eq_some_iff.1 hx).1
      obtain ⟨b1, b2, _, b4⟩ := b i x hx
      refine ⟨k, s, putOn x data dirty, _, hk, hsk, by rw [putS_found hr hsk hx hf], hxl, erase_sub s i, right_set hr hsk _ _ (erase_sub s i) (by rw [List.length_append, List.length_take, List.length_drop]; omega) ⟨b1, b2, ?_⟩ (others (x := x) hx hnd)⟩
      unfold putOn
      simp only
      split
      · left; assumption
      · exact b4
  obtain ⟨k, s, y, t, hk, hsk, hD, hyl, hts, hr2⟩ := key
  rw [hD]
  have h := find_first (line := line) hr2 (k := k) (y := y) (t := t) (by rw [List.length_set]; exact hk) (List.getElem?_set_self (List.getElem?_eq_some_iff.1 hsk).1) hyl
  exact ⟨ok_set hss hsk (by omega) hts, hr2, ⟨k, h.1⟩, h.2⟩
theorem walk (ways : Int) (A : Option Addr) (n cap : Nat) (hs : List Hd) (ss : List (List Wy)) (line : Int) (data : ByteArray) (dirty : Bool) (ww : (Lit.int .i64 ways).wf = true) (hn : n ≤ cap) (hc : cap ≤ maxLen) (hz : A = none → cap = 0) (wl : (Lit.int .u32 line).wf = true) (wd : data.size ≤ maxLen) (w : World) (hS : SetsAt w A n hs ss) (hok : ∀ s ∈ ss, ∀ r ∈ s, wyOK r) :
    Calls Try.prog 7 #[caV ways A n cap, .int .u32 line, .string data, .bool dirty] w fun e w' => e = .returned (.bool true) ∧ Below w.heap.size w w' := by
  have hl := bounds_u32 wl
  have hss := fewS_ok (ok_sets hok)
  have HFW := Lib.hid (fun W h => few10_all w ways A n cap hs ss hn hc hz W h hS)
  have HS := Lib.hid hS
  obtain ⟨S1, hS1⟩ : ∃ x, fewS ss = x := ⟨_, rfl⟩
  rw [hS1] at hss HFW
  have HRR := Lib.hid (fun A n cap hs hn hc w h => refRight_anyC ways A n cap hs S1 hn hc hss w h)
  have HAL := Lib.hid (fun w => alive10_any w)
  cases hr : rightC ways S1
  · rw [hr] at HRR
    unfold caV at HFW HRR ⊢
    clear hS hok hss hS1 wl ww hr
    go_enter Try.func7, Try.ntmps7
    go_upto_region 1 with fail
    refine wp_allocs [([.int .i64 ways, .slice A n cap], 24)] rfl ?_
    intro W0 y1 KB y3
    have x1 := y3 0 _ rfl
    rw [Nat.add_zero] at x1
    have X1 := Lib.hid x1
    replace KB := Lib.hid KB
    clear y1 y3 x1
    go_upto_region 2 with (first | (refine wpList_load_mid rfl 24 (.tmp 4) rfl w.heap.size 0 rfl [.int .i64 ways, .slice A n cap] _ X1.out.range Try.underlying24 rfl ca_info ?_)
                                   | (go_at_call 9
                                      refine (HFW.out _ KB.out).mono ?_
                                      rintro e w1 ⟨A', n', c', hs', rfl, g0, g1, g2, g3, hO', hH', b⟩
                                      have O1 := Lib.hid hO'
                                      have H1 := Lib.hid hH'
                                      have hlt := X1.out.1
                                      have Y1 := Lib.hid (X1.out.below b X1.out.1)
                                      have YB := Lib.hid (KB.out.trans (b.mono KB.out.size))
                                      have HZI := Lib.hid (show (Try.prog.info? 24).map (·.size) = some (#[.int .i64 ways, .slice A' n' c'] : Array Value).size by kernel_rfl)
                                      have HZO := Lib.hid (show (#[.int .i64 ways, .slice A' n' c'] : Array Value).all (·.oneCell') = true by simp [Value.oneCell'])
                                      clear hO' hH' b)
                                   | (refine wpList_store_blk3 rfl 24 (.tmp 4) (.tmp 23) rfl w.heap.size _ #[.int .i64 ways, .slice A' n' c'] Y1.out rfl rfl rfl HZI.out HZO.out ?_
                                      intro w2 q1 q2 q2f q3 q4
                                      have Z1 := Lib.hid (show Blk w2 w.heap.size [.int .i64 ways, .slice A' n' c'] from q1)
                                      have ZB := Lib.hid (YB.out.trans (q3 w.heap.size (Nat.le_refl _)))
                                      have SA := Lib.hid (show SetsAt w2 A' n' hs' S1 from ⟨(O1.out.same (b := w.heap.size) hlt q2 q2f q4).1, H1.out.below (YB.out.trans (q3 w.heap.size (Nat.le_refl _)))⟩)
                                      clear q1 q2 q2f q3 q4))
    clear X1 KB
    go_wp2_with (first
      | (refine wpList_load_mid rfl 24 (.tmp 4) rfl w.heap.size 0 rfl [.int .i64 ways, .slice A' n' c'] _ Z1.out.range Try.underlying24 rfl ca_info ?_)
      | (go_at_call 14
         refine (HRR.out A' n' c' hs' g1 g2 _ SA.out).mono ?_
         rintro e w3 ⟨rfl, b⟩
         have Z3 := Lib.hid (ZB.out.trans (b.mono ZB.out.size))
         clear b)
      | (go_at_call 12
         refine (HAL.out _).mono ?_
         rintro e w4 ⟨rfl, b⟩
         have Z4 := Lib.hid (Z3.out.trans (b.mono Z3.out.size))
         clear b))
    go_ret
    exact ⟨rfl, Z4.out⟩
  · have HP := Lib.hid (fun A n cap hs hn hc hz w h => put_anyC ways A n cap hs S1 line data dirty hn hc hz hss (by omega) (by omega) w h)
    have HT := Lib.hid (fun A n cap hs hn hc hz w h => touch_anyC ways A n cap hs S1 line hn hc hz hss (by omega) (by omega) w h)
    have HF := Lib.hid (fun A n cap hs hn hc w h => find_any ways A n cap hs S1 line hn hc hss (by omega) (by omega) w h)
    obtain ⟨p1, p2, ⟨k, p3⟩, p4⟩ := put_math line data dirty hr hss (by omega) (by omega)
    obtain ⟨t1, t2, t3, t4⟩ := touch_math line hr hss
    obtain ⟨p, hp⟩ : ∃ p, putS ways S1 line data dirty = p := ⟨_, rfl⟩
    rw [hp] at HP p1 p2 p3 p4
    obtain ⟨S2, ⟨gl, gd, gb⟩, gt⟩ := p
    simp only at p1 p2 p3 p4
    obtain ⟨S3, hS3⟩ : ∃ x, touchS ways S1 line = x := ⟨_, rfl⟩
    rw [hS3] at HT t1 t2 t3 t4
    have HFD := Lib.hid (fun A n cap hs hn hc w h => find_any ways A n cap hs S2 line hn hc p1 (by omega) (by omega) w h)
    have HFE := Lib.hid (fun A n cap hs hn hc w h => find_any ways A n cap hs S3 line hn hc t1 (by omega) (by omega) w h)
    have HTD := Lib.hid (fun A n cap hs hn hc hz w h => touch_anyC ways A n cap hs S2 line hn hc hz p1 (by omega) (by omega) w h)
    have HTE := Lib.hid (fun A n cap hs hn hc hz w h => touch_anyC ways A n cap hs S3 line hn hc hz t1 (by omega) (by omega) w h)
    have HRD := Lib.hid (fun A n cap hs hn hc w h => refRight_anyC ways A n cap hs S2 hn hc p1 w h)
    have HRE := Lib.hid (fun A n cap hs hn hc w h => refRight_anyC ways A n cap hs S3 hn hc t1 w h)
    rw [p3] at HFD
    rw [p4] at HTD
    rw [t4] at HTE
    rw [p2] at HRD
    rw [t2] at HRE
    rw [hr] at HRR
    obtain ⟨f1, hf1⟩ : ∃ f, findS ways S1 line = f := ⟨_, rfl⟩
    obtain ⟨f2, hf2⟩ : ∃ f, findS ways S3 line = f := ⟨_, rfl⟩
    rw [hf1] at HF t3
    rw [hf2] at HFE t3
    obtain ⟨k1, i1, b1⟩ := f1
    obtain ⟨k2, i2, b2⟩ := f2
    simp only at t3
    subst t3
    have HLK := Lib.hid (fun A B n c1 c2 hs gs ss hc w h1 h2 => like10_same ways A B n c1 c2 hs gs ss hc w h1 h2)
    unfold putV wyV at HP
    unfold findV at HF HFD HFE
    simp only at HP HF HFD HFE
    unfold caV at HFW HP HT HF HFD HFE HTD HTE HRD HRE HRR HLK ⊢
    clear hS hok hss hp hS3 hS1 wl ww hf1 hf2 p1 p2 p3 p4 t1 t2 t4 hr
    go_enter Try.func7, Try.ntmps7
    go_upto_region 1 with fail
    refine wp_allocs [([.int .i64 ways, .slice A n cap], 24)] rfl ?_
    intro W0 y1 KB y3
    have x1 := y3 0 _ rfl
    rw [Nat.add_zero] at x1
    have X1 := Lib.hid x1
    replace KB := Lib.hid KB
    clear y1 y3 x1
    go_upto_region 2 with (first | (refine wpList_load_mid rfl 24 (.tmp 4) rfl w.heap.size 0 rfl [.int .i64 ways, .slice A n cap] _ X1.out.range Try.underlying24 rfl ca_info ?_)
                                   | (go_at_call 9
                                      refine (HFW.out _ KB.out).mono ?_
                                      rintro e w1 ⟨A', n', c', hs', rfl, g0, g1, g2, g3, hO', hH', b⟩
                                      have O1 := Lib.hid hO'
                                      have H1 := Lib.hid hH'
                                      have hlt := X1.out.1
                                      have Y1 := Lib.hid (X1.out.below b X1.out.1)
                                      have YB := Lib.hid (KB.out.trans (b.mono KB.out.size))
                                      have HZI := Lib.hid (show (Try.prog.info? 24).map (·.size) = some (#[.int .i64 ways, .slice A' n' c'] : Array Value).size by kernel_rfl)
                                      have HZO := Lib.hid (show (#[.int .i64 ways, .slice A' n' c'] : Array Value).all (·.oneCell') = true by simp [Value.oneCell'])
                                      clear hO' hH' b)
                                   | (refine wpList_store_blk3 rfl 24 (.tmp 4) (.tmp 23) rfl w.heap.size _ #[.int .i64 ways, .slice A' n' c'] Y1.out rfl rfl rfl HZI.out HZO.out ?_
                                      intro w2 q1 q2 q2f q3 q4
                                      have Z1 := Lib.hid (show Blk w2 w.heap.size [.int .i64 ways, .slice A' n' c'] from q1)
                                      have ZB := Lib.hid (YB.out.trans (q3 w.heap.size (Nat.le_refl _)))
                                      have SA := Lib.hid (show SetsAt w2 A' n' hs' S1 from ⟨(O1.out.same (b := w.heap.size) hlt q2 q2f q4).1, H1.out.below (YB.out.trans (q3 w.heap.size (Nat.le_refl _)))⟩)
                                      clear q1 q2 q2f q3 q4))
    clear X1 KB
    go_upto_region 5 with (first
      | (refine wpList_load_mid rfl 24 (.tmp 4) rfl w.heap.size 0 rfl [.int .i64 ways, .slice A' n' c'] _ Z1.out.range Try.underlying24 rfl ca_info ?_)
      | (go_at_call 14
         refine (HRR.out A' n' c' hs' g1 g2 _ SA.out).mono ?_
         rintro e w3a ⟨rfl, b⟩
         have z1 := Z1.out.below b Z1.out.1
         have z2 := SA.out.below b
         have z3 := ZB.out.trans (b.mono ZB.out.size)
         clear Z1 SA ZB b
         have Z1 := Lib.hid z1
         have SA := Lib.hid z2
         have ZB := Lib.hid z3
         clear z1 z2 z3)
      | (go_at_call 21
         refine (HP.out A' n' c' hs' g1 g2 g3 _ SA.out).mono ?_
         rintro e w3 ⟨A2, c2, hs2, rfl, j1, j2, j3, hS2, b⟩
         have SB := Lib.hid hS2
         have z1 := Z1.out.below b Z1.out.1
         have z2 := SA.out.below b
         have z3 := ZB.out.trans (b.mono ZB.out.size)
         clear Z1 SA ZB b hS2
         have Z1 := Lib.hid z1
         have SA := Lib.hid z2
         have ZB := Lib.hid z3
         clear z1 z2 z3))
    obtain ⟨f1, -, f3, f4⟩ := two_new w3 [.int .i64 ways, .slice A2 n' c2] [.int .u32 gl, .bool gd, .string gb] 24 37
    have z1 := Z1.out.below f3 Z1.out.1
    have z2 := SA.out.below f3
    have z5 := SB.out.below f3
    have z3 := ZB.out.trans (f3.mono ZB.out.size)
    clear Z1 SA SB ZB f3 f4
    generalize (w3.alloc (.cells #[.int .i64 ways, .slice A2 n' c2] 24)).alloc (.cells #[.int .u32 gl, .bool gd, .string gb] 37) = W4 at *
    generalize w3.heap.size = b9 at *
    have Z1 := Lib.hid z1
    have SA := Lib.hid z2
    have SB := Lib.hid z5
    have ZB := Lib.hid z3
    have F1 := Lib.hid f1
    clear z1 z2 z5 z3 f1
    go_upto_region 7 with (first
      | (refine wpList_load_mid rfl 24 (.tmp 4) rfl w.heap.size 0 rfl [.int .i64 ways, .slice A' n' c'] _ Z1.out.range Try.underlying24 rfl ca_info ?_)
      | (refine wpList_load_mid rfl 24 (.tmp 9) rfl b9 0 rfl [.int .i64 ways, .slice A2 n' c2] _ F1.out.range Try.underlying24 rfl ca_info ?_)
      | (go_at_call 10
         refine (HFD.out A2 n' c2 hs2 j1 j2 _ SB.out).mono ?_
         rintro e w5a ⟨rfl, b⟩
         have z1 := Z1.out.below b Z1.out.1
         have z2 := SA.out.below b
         have z5 := SB.out.below b
         have z3 := ZB.out.trans (b.mono ZB.out.size)
         have z6 := F1.out.below b F1.out.1
         clear Z1 SA SB ZB F1 b
         have Z1 := Lib.hid z1
         have SA := Lib.hid z2
         have SB := Lib.hid z5
         have ZB := Lib.hid z3
         have F1 := Lib.hid z6
         clear z1 z2 z5 z3 z6)
      | (go_at_call 23
         refine (HT.out A' n' c' hs' g1 g2 g3 _ SA.out).mono ?_
         rintro e w5 ⟨A3, c3, hs3, rfl, m1, m2, m3, hS3, b⟩
         have SC := Lib.hid hS3
         clear hS3
         have z1 := Z1.out.below b Z1.out.1
         have z2 := SA.out.below b
         have z5 := SB.out.below b
         have z3 := ZB.out.trans (b.mono ZB.out.size)
         have z6 := F1.out.below b F1.out.1
         clear Z1 SA SB ZB F1 b
         have Z1 := Lib.hid z1
         have SA := Lib.hid z2
         have SB := Lib.hid z5
         have ZB := Lib.hid z3
         have F1 := Lib.hid z6
         clear z1 z2 z5 z3 z6))
    have f3 : Below w5.heap.size w5 (w5.alloc (.cells #[.int .i64 ways, .slice A3 n' c3] 24)) := (Below.refl _ _).alloc (Nat.le_refl _) _
    have f1 := Blk.new w5 24 [.int .i64 ways, .slice A3 n' c3]
    have z8 := SC.out.below f3
    have b := f3
    clear SC f3
    have z1 := Z1.out.below b Z1.out.1
    have z2 := SA.out.below b
    have z5 := SB.out.below b
    have z3 := ZB.out.trans (b.mono ZB.out.size)
    have z6 := F1.out.below b F1.out.1
    clear Z1 SA SB ZB F1 b
    have Z1 := Lib.hid z1
    have SA := Lib.hid z2
    have SB := Lib.hid z5
    have ZB := Lib.hid z3
    have F1 := Lib.hid z6
    clear z1 z2 z5 z3 z6
    generalize w5.alloc (.cells #[.int .i64 ways, .slice A3 n' c3] 24) = W6 at *
    generalize w5.heap.size = b15 at *
    have SC := Lib.hid z8
    have F3 := Lib.hid f1
    clear z8 f1
    go_upto_region 9 with (first
      | (refine wpList_load_mid rfl 24 (.tmp 4) rfl w.heap.size 0 rfl [.int .i64 ways, .slice A' n' c'] _ Z1.out.range Try.underlying24 rfl ca_info ?_)
      | (refine wpList_load_mid rfl 24 (.tmp 15) rfl b15 0 rfl [.int .i64 ways, .slice A3 n' c3] _ F3.out.range Try.underlying24 rfl ca_info ?_)
      | (go_at_call 10
         with_reducible refine (HFE.out A3 n' c3 hs3 m1 m2 _ SCC.out).mono ?_
         rintro e w8 ⟨rfl, b⟩
         have z8 := SC.out.below b
         have z9 := F3.out.below b F3.out.1
         clear SC F3 SCC
         have z1 := Z1.out.below b Z1.out.1
         have z2 := SA.out.below b
         have z5 := SB.out.below b
         have z3 := ZB.out.trans (b.mono ZB.out.size)
         have z6 := F1.out.below b F1.out.1
         clear Z1 SA SB ZB F1 b
         have Z1 := Lib.hid z1
         have SA := Lib.hid z2
         have SB := Lib.hid z5
         have ZB := Lib.hid z3
         have F1 := Lib.hid z6
         clear z1 z2 z5 z3 z6
         have SC := Lib.hid z8
         have F3 := Lib.hid z9
         clear z8 z9)
      | (go_at_call 10
         with_reducible refine (HF.out A' n' c' hs' g1 g2 _ SA.out).mono ?_
         rintro e w7 ⟨rfl, b⟩
         have z8 := SC.out.below b
         have z9 := F3.out.below b F3.out.1
         clear SC F3
         have z1 := Z1.out.below b Z1.out.1
         have z2 := SA.out.below b
         have z5 := SB.out.below b
         have z3 := ZB.out.trans (b.mono ZB.out.size)
         have z6 := F1.out.below b F1.out.1
         clear Z1 SA SB ZB F1 b
         have Z1 := Lib.hid z1
         have SA := Lib.hid z2
         have SB := Lib.hid z5
         have ZB := Lib.hid z3
         have F1 := Lib.hid z6
         clear z1 z2 z5 z3 z6
         have SC := Lib.hid z8
         have SCC := Lib.hid z8
         have F3 := Lib.hid z9
         clear z8 z9))
    have hn' : n' ≤ maxLen := by unfold maxLen; omega
    rename World => wz
    have HST := Lib.hid (fun w' (hb : Below wz.heap.size wz w') => (show w'.cell? ⟨b9, 0, none⟩ = some (.int .i64 ways) ∧ w'.cell? ⟨b9, 1, none⟩ = some (.slice A2 n' c2) ∧ w'.cell? ⟨b15, 0, none⟩ = some (.int .i64 ways) ∧ w'.cell? ⟨b15, 1, none⟩ = some (.slice A3 n' c3) from
      ⟨(F1.out.below hb F1.out.1).2.1 0 _ rfl, (F1.out.below hb F1.out.1).2.1 1 _ rfl, (F3.out.below hb F3.out.1).2.1 0 _ rfl, (F3.out.below hb F3.out.1).2.1 1 _ rfl⟩))
    have LD := Lib.hid (show Below wz.heap.size wz wz.drew from (Below.refl wz.heap.size wz).drew)
    cases b2
    all_goals
      go_region_held3 (fun w' => w'.cell? ⟨b9, 0, none⟩ = some (.int .i64 ways) ∧ w'.cell? ⟨b9, 1, none⟩ = some (.slice A2 n' c2) ∧ w'.cell? ⟨b15, 0, none⟩ = some (.int .i64 ways) ∧ w'.cell? ⟨b15, 1, none⟩ = some (.slice A3 n' c3))
        ((first
          | with_reducible exact HST.out _ LD.out
          | with_reducible exact HST.out _ B1.out
          | with_reducible exact HST.out _ B2.out
          | with_reducible exact HST.out _ B3.out
          | with_reducible exact HST.out _ B4.out
          | with_reducible exact HST.out _ B5.out
          | with_reducible exact HST.out _ B6.out
          | with_reducible exact HST.out _ B7.out))
        ((first
          | (go_at_call 14
             refine (HRE.out A3 n' c3 hs3 m1 m2 _ (SC.out.below B6.out)).mono ?_
             rintro e v7 ⟨rfl, b⟩
             have B7 := Lib.hid (B6.out.trans (b.mono B6.out.size))
             clear b)
          | (go_at_call 14
             refine (HRD.out A2 n' c2 hs2 j1 j2 _ (SB.out.below B5.out)).mono ?_
             rintro e v6 ⟨rfl, b⟩
             have B6 := Lib.hid (B5.out.trans (b.mono B5.out.size))
             clear b)
          | (go_at_call 15
             refine (HLK.out A8 A2 n' c8 c2 hs8 hs2 S2 hn' _ S8.out (SB.out.below B4.out)).mono ?_
             rintro e v5 ⟨rfl, b⟩
             have B5 := Lib.hid (B4.out.trans (b.mono B4.out.size))
             clear b)
          | (go_at_call 23
             refine (HTD.out A2 n' c2 hs2 j1 j2 j3 _ (SB.out.below B3.out)).mono ?_
             rintro e v4 ⟨A8, c8, hs8, rfl, -, -, -, hS8, b⟩
             have B4 := Lib.hid (B3.out.trans (b.mono B3.out.size))
             have S8 := Lib.hid hS8
             clear b hS8)
          | (go_at_call 15
             refine (HLK.out A7 A3 n' c7 c3 hs7 hs3 S3 hn' _ S7.out (SC.out.below B2.out)).mono ?_
             rintro e v3 ⟨rfl, b⟩
             have B3 := Lib.hid (B2.out.trans (b.mono B2.out.size))
             clear b)
          | (go_at_call 23
             refine (HTE.out A3 n' c3 hs3 m1 m2 m3 _ (SC.out.below B1.out)).mono ?_
             rintro e v2 ⟨A7, c7, hs7, rfl, -, -, -, hS7, b⟩
             have B2 := Lib.hid (B1.out.trans (b.mono B1.out.size))
             have S7 := Lib.hid hS7
             clear b hS7)
          | (go_at_call 12
             refine (HAL.out _).mono ?_
             rintro e v1 ⟨rfl, b⟩
             have B1 := Lib.hid (LD.out.trans b)
             clear b)))
    all_goals
      go_wp2_with fail
      go_ret
      exact ⟨rfl, ZB.out.trans (B7.out.mono ZB.out.size)⟩
theorem own : ownKnob Try.prog.godebug = none := by kernel_rfl
theorem laidOut : laidOutB Try.prog = true := by kernel_rfl

set_option maxRecDepth 100000 in
theorem lifted (os : Os) (started : os.Started) (H : Type) (enc : TypeId × Value → H) :
    ReturnsInHanded {} Try.checked os 7 .any (Rows.cacheHasSpec.pre6 enc Try.prog Try.f7 Rows.cacheHasRow.domain false) (Rows.cacheHasSpec.post enc Try.prog Try.f7 false true false false) := by
  refine returnsInHanded_of_change (C := Try.checked) own started (by kernel_rfl) Try.func7
    (ChangeSpec.witness6 (enc := enc) (C := Try.checked) false ⟨#[], #[Value.agg #[.int .i64 0, .slice none 0 0], Value.int .u32 0, Value.string ByteArray.empty, Value.bool false], []⟩ 8 (by kernel_rfl) (by kernel_rfl) (by kernel_rfl) (by kernel_rfl)) ?_
  intro W base args ds gs before hval0 hW hcnd _
  have hval : ∀ (j : Nat) t v, Try.f7.params[j]? = some t → args[j]? = some v → Value.okWide Try.prog W .any base t v := hval0
  have hW' := hW
  obtain ⟨p, q, hA0, hV, rfl, hfz, hnd⟩ := hW
  have hA : DataW.TrodAll enc Try.prog W 0 (fun _ => true) true Try.f7.params.toList args.toList ds p := hA0
  rw [Try.params7] at hA hval
  obtain ⟨v0, vs0, d0, ds0, p0, q0, hargs, rfl, rfl, h0, r0⟩ := trodAll_cons hA
  obtain ⟨v1, vs1, d1, ds1, p1, q1, rfl, rfl, rfl, h1, r1⟩ := trodAll_cons r0
  obtain ⟨v2, vs2, d2, ds2, p2, q2, rfl, rfl, rfl, h2, r2⟩ := trodAll_cons r1
  obtain ⟨v3, vs3, d3, ds3, p3, q3, rfl, rfl, rfl, h3, r3⟩ := trodAll_cons r2
  obtain ⟨rfl, rfl, rfl⟩ := trodAll_nil r3
  obtain rfl : args = #[v0, v1, v2, v3] := by cases args; simp_all
  obtain ⟨rfl, rfl⟩ := trodVars_none hV
  have hlt := hW'.lt
  have k0 := h0
  obtain ⟨c_w, c_a, c_n, c_c, c_h, c_s, rfl, w_c_w, w_c_n, w_c_m, w_c_z, w_c, w_c_q⟩ := arg_cache (hval 0 24 v0 rfl rfl) h0
  have k1 := h1
  obtain ⟨line, rfl, -, -, w_line⟩ := open_int Try.underlying25 (hval 1 25 v1 rfl rfl) h1
  have k2 := h2
  obtain ⟨data, rfl, -, -, w_data⟩ := open_string Try.underlying9 (hval 2 9 v2 rfl rfl) h2
  have k3 := h3
  obtain ⟨dirty, rfl, -, -⟩ := open_bool Try.underlying4 (hval 3 4 v3 rfl rfl) h3
  clear hA0 hval0
  simp only [List.append_nil] at hW'
  refine (walk c_w c_a c_n c_c c_h c_s line data dirty w_c_w w_c_n w_c_m w_c_z w_line w_data W w_c w_c_q).mono fun e W' ⟨he, bel⟩ => ?_
  subst he
  exact ⟨_, rfl, _, _, _, [], _, [], hW', trodAll_mk1 (shut_bool Try.underlying4 _), (trodAll_cons_mk (Below.trod laidOut (by kernel_rfl) (of_decide_eq_true (by kernel_rfl)) k0 bel (fun x hx => hlt x (by simp [hx]))) (trodAll_cons_mk (Below.trod laidOut (by kernel_rfl) (of_decide_eq_true (by kernel_rfl)) k1 bel (fun x hx => hlt x (by simp [hx]))) (trodAll_cons_mk (Below.trod laidOut (by kernel_rfl) (of_decide_eq_true (by kernel_rfl)) k2 bel (fun x hx => hlt x (by simp [hx]))) (trodAll_cons_mk (Below.trod laidOut (by kernel_rfl) (of_decide_eq_true (by kernel_rfl)) k3 bel (fun x hx => hlt x (by simp [hx]))) trodAll_mk0)))), rfl, bel.frame _, fun h => by cases h⟩

/-- THE STATEMENT -/
theorem proved : Rows.CacheHasSaid :=
  OpenClaim.holds_of_wide 7 Try.f7 rfl rfl rfl rfl rfl rfl rfl ⟨rfl, rfl, rfl, rfl, rfl⟩ rfl rfl rfl rfl rfl (by kernel_rfl) Try.func7 (by kernel_rfl)
    (of_decide_eq_true (by kernel_rfl)) (by unfold Func.isWrapper; first | (rw [if_pos (by decide +kernel)]; kernel_rfl) | (rw [if_neg (by decide +kernel)]; exact ⟨rfl, rfl⟩))
    (fun os started H enc _ => lifted os started H enc)
#print axioms proved
end Go.Proofs.Ytcgahdmacngipaa.cacheHas
