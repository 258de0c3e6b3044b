/- Proved: the statement of BusKeeps (auspexlaw09): a push leaves all others as they are, and a cycle changes the first one alone; an address's line is at most 15 ahead of it, and its own line; for every input; no condition. -/
import Derived.Test.YtebeelphilfjhaaRows
import Derived.Test.YtebeelphilfjhaaBusL
import Derived.OpenShut
import Derived.Lib.QuietBelow
namespace Go.Proofs.Ytebeelphilfjhaa.busKeeps
open Go.ChangeShapes Go.WideShapes Go.ChangeAt Go.RowKit
set_option linter.unusedVariables false
set_option linter.unusedSimpArgs false

set_option maxHeartbeats 2000000
set_option maxRecDepth 100000
theorem walk (kind line left : Int) (A : Option Addr) (n c : Nat) (p : List Req) (h1 : n ≤ c) (h2 : c ≤ maxLen) (hA : A = none → c = 0) (hpw : ∀ r ∈ p, reqOK r) (wl : (Lit.int .u32 line).wf = true) (W : World) (hp0 : ReqsAt W A n p) :
    Calls Try.prog 9 #[.slice A n c, .int .i64 kind, .int .u32 line, .int .i64 left] W fun e W' => e = .returned (.bool true) ∧ Below W.heap.size W W' := by
  have hl := bounds_u32 wl
  have HFp := Lib.hid (few09_any A n c h1 h2 W)
  have hp := hp0.take (Nat.min_le_left n 40)
  have m1 : min n 40 ≤ 40 := Nat.min_le_right _ _
  have m2 : min n 40 ≤ c := by omega
  clear hp0 h1 hpw hA wl
  generalize p.take (min n 40) = p at *
  generalize min n 40 = n at *
  have hp0 := hp
  go_enter Try.func9, Try.ntmps9
  go_wp2_with fail
  refine (HFp.out).mono ?_
  rintro e w0 ⟨rfl, rfl⟩
  go_wp2_with fail
  refine (push_any A n c p kind line left (ByteArray.mk #[]) (by omega) _ hp).mono ?_
  rintro e w1 ⟨A2, c2, rfl, g1, g2, hpu, hb⟩
  replace hp := hp.below hb
  have hlen := Lib.hid hp.len
  obtain ⟨new, hnew, hnf⟩ : ∃ x : Req, (⟨kind, line, if left < 1 then 1 else left, ByteArray.mk #[]⟩ : Req) = x ∧ 1 ≤ x.left ∧ x.kind = kind := ⟨_, rfl, by show 1 ≤ (if left < 1 then (1 : Int) else left); split <;> omega, rfl⟩
  rw [hnew] at hpu
  clear hnew
  obtain ⟨hnl, hnk⟩ := hnf
  have hd1 : decide (new.left < 1) = false := by simp; omega
  have hk1 : (new.kind != kind) = false := by simp [hnk]
  have HNk := Lib.hid hnk
  clear hnk
  have hfirst := hpu.take (m := n) (by omega)
  rw [List.take_left' hlen.out] at hfirst
  obtain ⟨a2, rfl, _, e0, e1, e2, e3⟩ := hpu.at_ (j := n) (r := new) (by rw [List.getElem?_append_right (by rw [hlen.out]; exact Nat.le_refl _), hlen.out, Nat.sub_self]; rfl)
  go_wp2_with fail
  refine (like_same _ _ _ _ _ p (by omega) _ hfirst hp).mono ?_
  rintro e w2 ⟨rfl, b⟩
  replace hp := hp.below b
  replace hpu := hpu.below b
  replace hb := hb.trans (b.mono hb.size)
  clear b e0 e1 e2 e3 hfirst
  obtain ⟨a2', ha2, _, e0, e1, e2, e3⟩ := hpu.at_ (j := n) (r := new) (by rw [List.getElem?_append_right (by rw [hlen.out]; exact Nat.le_refl _), hlen.out, Nat.sub_self]; rfl)
  obtain rfl : a2 = a2' := by injection ha2
  clear ha2
  obtain ⟨ln, hln, k1, k2, k3, k4⟩ : ∃ ln, line - line % 16 = ln ∧ 0 ≤ ln ∧ ln ≤ line ∧ line - ln < 16 ∧ ln - ln % 16 = ln := ⟨_, rfl, by omega, by omega, by omega, by omega⟩
  have Hln := Lib.hid hln
  have Hln2 := Lib.hid k4
  obtain ⟨rp, hrp⟩ : ∃ x, readsN p = x := ⟨_, rfl⟩
  obtain ⟨rn, hrn⟩ : ∃ x, readsN (p ++ [new]) = x := ⟨_, rfl⟩
  have hr1 : rn ≤ rp + 1 := by rw [← hrp, ← hrn, reads_app]; have := reads_le [new]; simp at this; omega
  have hr2 : rp ≤ 40 := by have := reads_le p; have := hlen.out; omega
  have HR1 := Lib.hid hrn
  have HR2 := Lib.hid hrp
  clear hrp hrn hln k4
  go_wp2_with fail
  refine (tick_any A n c p (by omega) _ hp (by omega) h2).mono ?_
  rintro e w3 ⟨A3, c3, rfl, t1, t2, ht, b⟩
  replace hp := hp.below b
  replace hpu := hpu.below b
  replace hb := hb.trans (b.mono hb.size)
  clear b e0 e1 e2 e3
  obtain ⟨t, ht'⟩ : ∃ t, tickR p = t := ⟨_, rfl⟩
  obtain ⟨p', x, is⟩ := t
  have HT1 := fun h => tick_no (p := p) h
  have HT2 := fun h => tick_yes (p := p) h
  rw [ht'] at ht t1 HT1 HT2
  rw [ht']
  simp only at ht t1 HT1 HT2
  clear ht'
  have hlp := ht.len
  cases is with
  | false =>
    obtain ⟨l1, l2⟩ := HT1 rfl
    clear HT1 HT2
    rw [l1, hlen.out] at ht t1 hlp
    rw [l1, hlen.out]
    clear l1
    by_cases hn0 : n = 0
    · subst hn0
      simp only [reqV]
      have hf := four_new w3 39 (.int .i64 0) (.int .u32 0) (.int .i64 0) (.string (ByteArray.mk #[]))
      go_wp2_with fail
      go_quiet (fail)
      have hB := below_drewN (alloc_below w3 (.cells #[.int .i64 x.kind, .int .u32 x.line, .int .i64 x.left, .string x.data] 39)) nq
      replace hp := hp.below hB
      replace hpu := hpu.below hB
      replace hb := hb.trans (hB.mono hb.size)
      clear hB
      go_wp2_with fail
      refine (lineOf_any line (by omega) (by omega) _).mono ?_
      rintro e w' ⟨rfl, rfl⟩
      rw [Hln.out]
      go_wp2_with fail
      refine (alive09_any _).mono ?_
      rintro e w' ⟨rfl, b⟩
      replace hp := hp.below b
      replace hpu := hpu.below b
      replace hb := hb.trans (b.mono hb.size)
      clear b
      go_wp2_with fail
      refine (lineOf_any ln (by omega) (by omega) _).mono ?_
      rintro e w' ⟨rfl, rfl⟩
      rw [Hln2.out]
      go_wp2_with fail
      refine (reads_any _ _ c2 _ (by omega) _ hpu).mono ?_
      rintro e w' ⟨rfl, b⟩
      replace hp := hp.below b
      replace hb := hb.trans (b.mono hb.size)
      clear b hpu
      rw [HR1.out]
      go_wp2_with fail
      refine (reads_any _ _ _ _ (by omega) _ hp).mono ?_
      rintro e w' ⟨rfl, b⟩
      replace hb := hb.trans (b.mono hb.size)
      clear b hp
      rw [HR2.out]
      go_wp2
      go_ret
      exact ⟨ret_bool (by simp; omega), hb⟩
    · have hn1 : 1 ≤ n := by omega
      clear hn0
      obtain ⟨a, rfl⟩ : ∃ a, A = some a := by
        obtain ⟨r, hr⟩ : ∃ r, p[0]? = some r := ⟨_, List.getElem?_eq_getElem (by rw [hlen.out]; omega)⟩
        obtain ⟨a, ha, _⟩ := hp.at_ hr
        exact ⟨a, ha⟩
      obtain ⟨a3, rfl⟩ : ∃ a, A3 = some a := by
        obtain ⟨r, hr⟩ : ∃ r, p'[0]? = some r := ⟨_, List.getElem?_eq_getElem (by rw [ht.len]; omega)⟩
        obtain ⟨a, ha, _⟩ := ht.at_ hr
        exact ⟨a, ha⟩
      simp only [reqV]
      have hf := four_new w3 39 (.int .i64 0) (.int .u32 0) (.int .i64 0) (.string (ByteArray.mk #[]))
      by_cases hc1 : c = 1
      · subst hc1
        by_cases hc3 : c3 = 1
        · subst hc3
          have hs1 : ReqsAt w3 (some a) (n - 1) (p.drop 1) := ReqsAt.drop (k := 1) hp hn1 (fun h => by first | rfl | omega)
          have hs2 : ReqsAt w3 (some a3) (n - 1) (p.drop 1) := by rw [← l2]; exact ReqsAt.drop (k := 1) ht hn1 (fun h => by first | rfl | omega)
          have HS := Lib.hid (And.intro hs1 hs2)
          clear hs1 hs2
          have hd0 : decide (0 < n) = true := by simp; omega
          have Hlp := Lib.hid hlp
          clear hlp
          go_wp2_with fail
          have hbb := alloc_below w3 (.cells #[.int .i64 x.kind, .int .u32 x.line, .int .i64 x.left, .string x.data] 39)
          have h41 := HS.out.1.below hbb
          have h42 := HS.out.2.below hbb
          have en : n - 1 = 0 := by omega
          rw [en] at h41 h42
          clear en
          replace hp := hp.below hbb
          replace hpu := hpu.below hbb
          replace hb := hb.trans (hbb.mono hb.size)
          clear HS hbb hf ht
          generalize w3.alloc (.cells #[.int .i64 x.kind, .int .u32 x.line, .int .i64 x.left, .string x.data] 39) = w4 at *
          have HL1 := Lib.hid (fun d os => like_same (some a3) (some a) 0 0 0 (p.drop 1) (by omega) _ (h42.below (below_regrown w4 d os)) (h41.below (below_regrown w4 d os)))
          clear h41 h42
          refine wp_region_quiet_below (by kernel_rfl) (by kernel_rfl) ?_
          repeat (go_big_quiet_step (first
            | (go_at_call 40; exact Calls.regrown_of (HL1.out _ _))))
          refine wpQuiet_nil ?_
          intro _ hw'
          obtain ⟨⟨nq, osq⟩, hw''⟩ := hw'
          subst hw''
          have hB := below_regrown w4 nq osq
          replace hp := hp.below hB
          replace hpu := hpu.below hB
          replace hb := hb.trans (hB.mono hb.size)
          clear hB
          go_wp2_with fail
          refine (lineOf_any line (by omega) (by omega) _).mono ?_
          rintro e w' ⟨rfl, rfl⟩
          rw [Hln.out]
          go_wp2_with fail
          refine (alive09_any _).mono ?_
          rintro e w' ⟨rfl, b⟩
          replace hp := hp.below b
          replace hpu := hpu.below b
          replace hb := hb.trans (b.mono hb.size)
          clear b
          go_wp2_with fail
          refine (lineOf_any ln (by omega) (by omega) _).mono ?_
          rintro e w' ⟨rfl, rfl⟩
          rw [Hln2.out]
          go_wp2_with fail
          refine (reads_any _ _ c2 _ (by omega) _ hpu).mono ?_
          rintro e w' ⟨rfl, b⟩
          replace hp := hp.below b
          replace hb := hb.trans (b.mono hb.size)
          clear b hpu
          rw [HR1.out]
          go_wp2_with fail
          refine (reads_any _ _ _ _ (by omega) _ hp).mono ?_
          rintro e w' ⟨rfl, b⟩
          replace hb := hb.trans (b.mono hb.size)
          clear b hp
          rw [HR2.out]
          go_wp2
          go_ret
          exact ⟨ret_bool (by simp; omega), hb⟩
        · have hs1 : ReqsAt w3 (some a) (n - 1) (p.drop 1) := ReqsAt.drop (k := 1) hp hn1 (fun h => by first | rfl | omega)
          have hs2 : ReqsAt w3 (some (a3.add 4)) (n - 1) (p.drop 1) := by rw [← l2]; exact ReqsAt.drop (k := 1) ht hn1 (fun h => by first | rfl | omega)
          have HS := Lib.hid (And.intro hs1 hs2)
          clear hs1 hs2
          have hd0 : decide (0 < n) = true := by simp; omega
          have Hlp := Lib.hid hlp
          clear hlp
          go_wp2_with fail
          have hbb := alloc_below w3 (.cells #[.int .i64 x.kind, .int .u32 x.line, .int .i64 x.left, .string x.data] 39)
          have h41 := HS.out.1.below hbb
          have h42 := HS.out.2.below hbb
          have en : n - 1 = 0 := by omega
          rw [en] at h41 h42
          clear en
          replace hp := hp.below hbb
          replace hpu := hpu.below hbb
          replace hb := hb.trans (hbb.mono hb.size)
          clear HS hbb hf ht
          generalize w3.alloc (.cells #[.int .i64 x.kind, .int .u32 x.line, .int .i64 x.left, .string x.data] 39) = w4 at *
          have HL1 := Lib.hid (fun d os => like_same (some (a3.add 4)) (some a) 0 (c3 - 1) 0 (p.drop 1) (by omega) _ (h42.below (below_regrown w4 d os)) (h41.below (below_regrown w4 d os)))
          clear h41 h42
          refine wp_region_quiet_below (by kernel_rfl) (by kernel_rfl) ?_
          repeat (go_big_quiet_step (first
            | (go_at_call 40; exact Calls.regrown_of (HL1.out _ _))))
          refine wpQuiet_nil ?_
          intro _ hw'
          obtain ⟨⟨nq, osq⟩, hw''⟩ := hw'
          subst hw''
          have hB := below_regrown w4 nq osq
          replace hp := hp.below hB
          replace hpu := hpu.below hB
          replace hb := hb.trans (hB.mono hb.size)
          clear hB
          go_wp2_with fail
          refine (lineOf_any line (by omega) (by omega) _).mono ?_
          rintro e w' ⟨rfl, rfl⟩
          rw [Hln.out]
          go_wp2_with fail
          refine (alive09_any _).mono ?_
          rintro e w' ⟨rfl, b⟩
          replace hp := hp.below b
          replace hpu := hpu.below b
          replace hb := hb.trans (b.mono hb.size)
          clear b
          go_wp2_with fail
          refine (lineOf_any ln (by omega) (by omega) _).mono ?_
          rintro e w' ⟨rfl, rfl⟩
          rw [Hln2.out]
          go_wp2_with fail
          refine (reads_any _ _ c2 _ (by omega) _ hpu).mono ?_
          rintro e w' ⟨rfl, b⟩
          replace hp := hp.below b
          replace hb := hb.trans (b.mono hb.size)
          clear b hpu
          rw [HR1.out]
          go_wp2_with fail
          refine (reads_any _ _ _ _ (by omega) _ hp).mono ?_
          rintro e w' ⟨rfl, b⟩
          replace hb := hb.trans (b.mono hb.size)
          clear b hp
          rw [HR2.out]
          go_wp2
          go_ret
          exact ⟨ret_bool (by simp; omega), hb⟩
      · by_cases hc3 : c3 = 1
        · subst hc3
          have hs1 : ReqsAt w3 (some (a.add 4)) (n - 1) (p.drop 1) := ReqsAt.drop (k := 1) hp hn1 (fun h => by first | rfl | omega)
          have hs2 : ReqsAt w3 (some a3) (n - 1) (p.drop 1) := by rw [← l2]; exact ReqsAt.drop (k := 1) ht hn1 (fun h => by first | rfl | omega)
          have HS := Lib.hid (And.intro hs1 hs2)
          clear hs1 hs2
          have hd0 : decide (0 < n) = true := by simp; omega
          have Hlp := Lib.hid hlp
          clear hlp
          go_wp2_with fail
          have hbb := alloc_below w3 (.cells #[.int .i64 x.kind, .int .u32 x.line, .int .i64 x.left, .string x.data] 39)
          have h41 := HS.out.1.below hbb
          have h42 := HS.out.2.below hbb
          have en : n - 1 = 0 := by omega
          rw [en] at h41 h42
          clear en
          replace hp := hp.below hbb
          replace hpu := hpu.below hbb
          replace hb := hb.trans (hbb.mono hb.size)
          clear HS hbb hf ht
          generalize w3.alloc (.cells #[.int .i64 x.kind, .int .u32 x.line, .int .i64 x.left, .string x.data] 39) = w4 at *
          have HL1 := Lib.hid (fun d os => like_same (some a3) (some (a.add 4)) 0 0 (c - 1) (p.drop 1) (by omega) _ (h42.below (below_regrown w4 d os)) (h41.below (below_regrown w4 d os)))
          clear h41 h42
          refine wp_region_quiet_below (by kernel_rfl) (by kernel_rfl) ?_
          repeat (go_big_quiet_step (first
            | (go_at_call 40; exact Calls.regrown_of (HL1.out _ _))))
          refine wpQuiet_nil ?_
          intro _ hw'
          obtain ⟨⟨nq, osq⟩, hw''⟩ := hw'
          subst hw''
          have hB := below_regrown w4 nq osq
          replace hp := hp.below hB
          replace hpu := hpu.below hB
          replace hb := hb.trans (hB.mono hb.size)
          clear hB
          go_wp2_with fail
          refine (lineOf_any line (by omega) (by omega) _).mono ?_
          rintro e w' ⟨rfl, rfl⟩
          rw [Hln.out]
          go_wp2_with fail
          refine (alive09_any _).mono ?_
          rintro e w' ⟨rfl, b⟩
          replace hp := hp.below b
          replace hpu := hpu.below b
          replace hb := hb.trans (b.mono hb.size)
          clear b
          go_wp2_with fail
          refine (lineOf_any ln (by omega) (by omega) _).mono ?_
          rintro e w' ⟨rfl, rfl⟩
          rw [Hln2.out]
          go_wp2_with fail
          refine (reads_any _ _ c2 _ (by omega) _ hpu).mono ?_
          rintro e w' ⟨rfl, b⟩
          replace hp := hp.below b
          replace hb := hb.trans (b.mono hb.size)
          clear b hpu
          rw [HR1.out]
          go_wp2_with fail
          refine (reads_any _ _ _ _ (by omega) _ hp).mono ?_
          rintro e w' ⟨rfl, b⟩
          replace hb := hb.trans (b.mono hb.size)
          clear b hp
          rw [HR2.out]
          go_wp2
          go_ret
          exact ⟨ret_bool (by simp; omega), hb⟩
        · have hs1 : ReqsAt w3 (some (a.add 4)) (n - 1) (p.drop 1) := ReqsAt.drop (k := 1) hp hn1 (fun h => by first | rfl | omega)
          have hs2 : ReqsAt w3 (some (a3.add 4)) (n - 1) (p.drop 1) := by rw [← l2]; exact ReqsAt.drop (k := 1) ht hn1 (fun h => by first | rfl | omega)
          have HS := Lib.hid (And.intro hs1 hs2)
          clear hs1 hs2
          have hd0 : decide (0 < n) = true := by simp; omega
          have Hlp := Lib.hid hlp
          clear hlp
          go_wp2_with fail
          have hbb := alloc_below w3 (.cells #[.int .i64 x.kind, .int .u32 x.line, .int .i64 x.left, .string x.data] 39)
          have h41 := HS.out.1.below hbb
          have h42 := HS.out.2.below hbb
          have en : n - 1 = (n - 1) := by omega
          rw [en] at h41 h42
          clear en
          replace hp := hp.below hbb
          replace hpu := hpu.below hbb
          replace hb := hb.trans (hbb.mono hb.size)
          clear HS hbb hf ht
          generalize w3.alloc (.cells #[.int .i64 x.kind, .int .u32 x.line, .int .i64 x.left, .string x.data] 39) = w4 at *
          have HL1 := Lib.hid (fun d os => like_same (some (a3.add 4)) (some (a.add 4)) (n - 1) (c3 - 1) (c - 1) (p.drop 1) (by omega) _ (h42.below (below_regrown w4 d os)) (h41.below (below_regrown w4 d os)))
          clear h41 h42
          refine wp_region_quiet_below (by kernel_rfl) (by kernel_rfl) ?_
          repeat (go_big_quiet_step (first
            | (go_at_call 40; exact Calls.regrown_of (HL1.out _ _))))
          refine wpQuiet_nil ?_
          intro _ hw'
          obtain ⟨⟨nq, osq⟩, hw''⟩ := hw'
          subst hw''
          have hB := below_regrown w4 nq osq
          replace hp := hp.below hB
          replace hpu := hpu.below hB
          replace hb := hb.trans (hB.mono hb.size)
          clear hB
          go_wp2_with fail
          refine (lineOf_any line (by omega) (by omega) _).mono ?_
          rintro e w' ⟨rfl, rfl⟩
          rw [Hln.out]
          go_wp2_with fail
          refine (alive09_any _).mono ?_
          rintro e w' ⟨rfl, b⟩
          replace hp := hp.below b
          replace hpu := hpu.below b
          replace hb := hb.trans (b.mono hb.size)
          clear b
          go_wp2_with fail
          refine (lineOf_any ln (by omega) (by omega) _).mono ?_
          rintro e w' ⟨rfl, rfl⟩
          rw [Hln2.out]
          go_wp2_with fail
          refine (reads_any _ _ c2 _ (by omega) _ hpu).mono ?_
          rintro e w' ⟨rfl, b⟩
          replace hp := hp.below b
          replace hb := hb.trans (b.mono hb.size)
          clear b hpu
          rw [HR1.out]
          go_wp2_with fail
          refine (reads_any _ _ _ _ (by omega) _ hp).mono ?_
          rintro e w' ⟨rfl, b⟩
          replace hb := hb.trans (b.mono hb.size)
          clear b hp
          rw [HR2.out]
          go_wp2
          go_ret
          exact ⟨ret_bool (by simp; omega), hb⟩
  | true =>
    obtain ⟨l1, l2, l3⟩ := HT2 rfl
    clear HT1 HT2
    rw [hlen.out] at l1
    have hn1 : 1 ≤ n := l1
    have hlp' : p'.length = n - 1 := by rw [l2, List.length_drop, hlen.out]
    rw [hlp'] at ht t1 hlp
    rw [hlp']
    subst l2
    clear l1 hlp'
    obtain ⟨a, rfl⟩ : ∃ a, A = some a := by
      obtain ⟨r, hr⟩ : ∃ r, p[0]? = some r := ⟨_, List.getElem?_eq_getElem (by rw [hlen.out]; omega)⟩
      obtain ⟨a, ha, _⟩ := hp.at_ hr
      exact ⟨a, ha⟩
    have hlx : decide (x.left > 0) = false := by simp; omega
    simp only [reqV]
    have hf := four_new w3 39 (.int .i64 0) (.int .u32 0) (.int .i64 0) (.string (ByteArray.mk #[]))
    by_cases hc1 : c = 1
    · subst hc1
      have hs1 : ReqsAt w3 (some a) (n - 1) (p.drop 1) := ReqsAt.drop (k := 1) hp hn1 (fun h => by first | rfl | omega)
      have en : n - 1 = 0 := by omega
      rw [en] at hs1 ht
      have HT3 := Lib.hid ht
      rw [en] 
      have HS := Lib.hid hs1
      have Hlp := Lib.hid hlp
      have HF := Lib.hid hf
      have HEN := Lib.hid en
      clear hs1 hlp ht en
      go_wp2_with fail
      refine (like_same _ _ 0 _ _ (p.drop 1) (by omega) _ (HT3.out.below (alloc_below _ _)) (HS.out.below (alloc_below _ _))).mono ?_
      rintro e w4 ⟨rfl, b⟩
      obtain ⟨⟨u0, u1, u2, u3⟩, _⟩ := (four_new w3 39 (.int .i64 x.kind) (.int .u32 x.line) (.int .i64 x.left) (.string x.data)).below b (by simp)
      replace b := alloc_then b
      replace hp := hp.below b
      replace hpu := hpu.below b
      replace hb := hb.trans (b.mono hb.size)
      clear b
      go_wp2_with fail
      go_quiet (fail)
      have hB := below_drewN (Below.refl w4.heap.size w4) nq
      replace hp := hp.below hB
      replace hpu := hpu.below hB
      replace hb := hb.trans (hB.mono hb.size)
      clear hB u0 u1 u2 u3
      go_wp2_with fail
      refine (lineOf_any line (by omega) (by omega) _).mono ?_
      rintro e w' ⟨rfl, rfl⟩
      rw [Hln.out]
      go_wp2_with fail
      refine (alive09_any _).mono ?_
      rintro e w' ⟨rfl, b⟩
      replace hp := hp.below b
      replace hpu := hpu.below b
      replace hb := hb.trans (b.mono hb.size)
      clear b
      go_wp2_with fail
      refine (lineOf_any ln (by omega) (by omega) _).mono ?_
      rintro e w' ⟨rfl, rfl⟩
      rw [Hln2.out]
      go_wp2_with fail
      refine (reads_any _ _ c2 _ (by omega) _ hpu).mono ?_
      rintro e w' ⟨rfl, b⟩
      replace hp := hp.below b
      replace hb := hb.trans (b.mono hb.size)
      clear b hpu
      rw [HR1.out]
      go_wp2_with fail
      refine (reads_any _ _ _ _ (by omega) _ hp).mono ?_
      rintro e w' ⟨rfl, b⟩
      replace hb := hb.trans (b.mono hb.size)
      clear b hp
      rw [HR2.out]
      go_wp2
      go_ret
      exact ⟨ret_bool (by simp; omega), hb⟩
    · have hs1 : ReqsAt w3 (some ⟨a.block, a.off + 4, none⟩) (n - 1) (p.drop 1) := ReqsAt.drop (k := 1) hp hn1 (fun h => by first | rfl | omega)
      have en : n - 1 = (n - 1) := by omega
      rw [en] at hs1 ht
      have HT3 := Lib.hid ht
      rw [en] 
      have HS := Lib.hid hs1
      have Hlp := Lib.hid hlp
      have HF := Lib.hid hf
      have HEN := Lib.hid en
      clear hs1 hlp ht en
      go_wp2_with fail
      refine (like_same _ _ (n - 1) _ _ (p.drop 1) (by omega) _ (HT3.out.below (alloc_below _ _)) (HS.out.below (alloc_below _ _))).mono ?_
      rintro e w4 ⟨rfl, b⟩
      obtain ⟨⟨u0, u1, u2, u3⟩, _⟩ := (four_new w3 39 (.int .i64 x.kind) (.int .u32 x.line) (.int .i64 x.left) (.string x.data)).below b (by simp)
      replace b := alloc_then b
      replace hp := hp.below b
      replace hpu := hpu.below b
      replace hb := hb.trans (b.mono hb.size)
      clear b
      go_wp2_with fail
      go_quiet (fail)
      have hB := below_drewN (Below.refl w4.heap.size w4) nq
      replace hp := hp.below hB
      replace hpu := hpu.below hB
      replace hb := hb.trans (hB.mono hb.size)
      clear hB u0 u1 u2 u3
      go_wp2_with fail
      refine (lineOf_any line (by omega) (by omega) _).mono ?_
      rintro e w' ⟨rfl, rfl⟩
      rw [Hln.out]
      go_wp2_with fail
      refine (alive09_any _).mono ?_
      rintro e w' ⟨rfl, b⟩
      replace hp := hp.below b
      replace hpu := hpu.below b
      replace hb := hb.trans (b.mono hb.size)
      clear b
      go_wp2_with fail
      refine (lineOf_any ln (by omega) (by omega) _).mono ?_
      rintro e w' ⟨rfl, rfl⟩
      rw [Hln2.out]
      go_wp2_with fail
      refine (reads_any _ _ c2 _ (by omega) _ hpu).mono ?_
      rintro e w' ⟨rfl, b⟩
      replace hp := hp.below b
      replace hb := hb.trans (b.mono hb.size)
      clear b hpu
      rw [HR1.out]
      go_wp2_with fail
      refine (reads_any _ _ _ _ (by omega) _ hp).mono ?_
      rintro e w' ⟨rfl, b⟩
      replace hb := hb.trans (b.mono hb.size)
      clear b hp
      rw [HR2.out]
      go_wp2
      go_ret
      exact ⟨ret_bool (by simp; omega), hb⟩

theorem own : ownKnob Try.prog.godebug = none := by kernel_rfl
theorem laidOut : laidOutB Try.prog = true := by kernel_rfl

set_option maxRecDepth 100000 in
theorem lifted (os : Os) (started : os.Started) (H : Type) (enc : TypeId × Value → H) :
    ReturnsInHanded {} Try.checked os 9 .any (Rows.busKeepsSpec.pre6 enc Try.prog Try.f9 Rows.busKeepsRow.domain false) (Rows.busKeepsSpec.post enc Try.prog Try.f9 false true false false) := by
  refine returnsInHanded_of_change (C := Try.checked) own started (by kernel_rfl) Try.func9
    (ChangeSpec.witness6 (enc := enc) (C := Try.checked) false ⟨#[], #[.slice none 0 0, .int .i64 0, .int .u32 0, .int .i64 0], []⟩ 8 (by kernel_rfl) (by kernel_rfl) (by kernel_rfl) (by kernel_rfl)) ?_
  intro W base args ds gs before hval0 hW hcnd _
  have hval : ∀ (j : Nat) t v, Try.f9.params[j]? = some t → args[j]? = some v → Value.okWide Try.prog W .any base t v := hval0
  have hW' := hW
  obtain ⟨p, q, hA0, hV, rfl, hfz, hnd⟩ := hW
  have hA : DataW.TrodAll enc Try.prog W 0 (fun _ => true) true Try.f9.params.toList args.toList ds p := hA0
  rw [Try.params9] at hA hval
  obtain ⟨v0, vs0, d0, ds0, p0, q0, hargs, rfl, rfl, h0, r0⟩ := trodAll_cons hA
  obtain ⟨v1, vs1, d1, ds1, p1, q1, rfl, rfl, rfl, h1, r1⟩ := trodAll_cons r0
  obtain ⟨v2, vs2, d2, ds2, p2, q2, rfl, rfl, rfl, h2, r2⟩ := trodAll_cons r1
  obtain ⟨v3, vs3, d3, ds3, p3, q3, rfl, rfl, rfl, h3, r3⟩ := trodAll_cons r2
  obtain ⟨rfl, rfl, rfl⟩ := trodAll_nil r3
  obtain rfl : args = #[v0, v1, v2, v3] := by cases args; simp_all
  obtain ⟨rfl, rfl⟩ := trodVars_none hV
  have hlt := hW'.lt
  have k0 := h0
  obtain ⟨q_a, q_n, q_c, q, rfl, w_q_n, w_q_c, w_q, w_q_z, w_q_wf⟩ := arg_reqs (hval 0 36 v0 rfl rfl) h0
  have k1 := h1
  obtain ⟨kind, rfl, -, -, w_kind⟩ := open_int Try.underlying3 (hval 1 3 v1 rfl rfl) h1
  have k2 := h2
  obtain ⟨line, rfl, -, -, w_line⟩ := open_int Try.underlying30 (hval 2 30 v2 rfl rfl) h2
  have k3 := h3
  obtain ⟨left, rfl, -, -, w_left⟩ := open_int Try.underlying3 (hval 3 3 v3 rfl rfl) h3
  clear hA0 hval0
  simp only [List.append_nil] at hW'
  refine (walk kind line left q_a q_n q_c q w_q_n w_q_c w_q_z w_q_wf w_line W w_q).mono fun e W' ⟨he, bel⟩ => ?_
  subst he
  exact ⟨_, rfl, _, _, _, [], _, [], hW', trodAll_mk1 (shut_bool Try.underlying4 _), (trodAll_cons_mk (Below.trod laidOut (by kernel_rfl) (of_decide_eq_true (by kernel_rfl)) k0 bel (fun x hx => hlt x (by simp [hx]))) (trodAll_cons_mk (Below.trod laidOut (by kernel_rfl) (of_decide_eq_true (by kernel_rfl)) k1 bel (fun x hx => hlt x (by simp [hx]))) (trodAll_cons_mk (Below.trod laidOut (by kernel_rfl) (of_decide_eq_true (by kernel_rfl)) k2 bel (fun x hx => hlt x (by simp [hx]))) (trodAll_cons_mk (Below.trod laidOut (by kernel_rfl) (of_decide_eq_true (by kernel_rfl)) k3 bel (fun x hx => hlt x (by simp [hx]))) trodAll_mk0)))), rfl, bel.frame _, fun h => by cases h⟩

/-- THE STATEMENT -/
theorem proved : Rows.BusKeepsSaid :=
  OpenClaim.holds_of_wide 9 Try.f9 rfl rfl rfl rfl rfl rfl rfl ⟨rfl, rfl, rfl, rfl, rfl⟩ rfl rfl rfl rfl rfl (by kernel_rfl) Try.func9 (by kernel_rfl)
    (of_decide_eq_true (by kernel_rfl)) (by unfold Func.isWrapper; first | (rw [if_pos (by decide +kernel)]; kernel_rfl) | (rw [if_neg (by decide +kernel)]; exact ⟨rfl, rfl⟩))
    (fun os started H enc _ => lifted os started H enc)
#print axioms proved
end Go.Proofs.Ytebeelphilfjhaa.busKeeps
