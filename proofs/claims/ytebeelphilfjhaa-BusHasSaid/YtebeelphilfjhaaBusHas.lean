/- Proved: the statement of BusHas (auspexlaw09): what is pushed waits, by its kind and its line; what two rows have, one of them has; reading requests of both are counted together; for every input; no condition. -/
import Derived.Test.YtebeelphilfjhaaRows
import Derived.Test.YtebeelphilfjhaaBusL
import Derived.OpenShut
namespace Go.Proofs.Ytebeelphilfjhaa.busHas
open Go.ChangeShapes Go.WideShapes Go.ChangeAt Go.RowKit
set_option linter.unusedVariables false
set_option linter.unusedSimpArgs false

set_option maxHeartbeats 2000000
set_option maxRecDepth 100000
theorem walk (kind line : Int) (A B : Option Addr) (n c m d : Nat) (p q : List Req) (h1 : n ≤ c) (h2 : c ≤ maxLen) (hA : A = none → c = 0) (hpw : ∀ r ∈ p, reqOK r) (h3 : m ≤ d) (h4 : d ≤ maxLen) (hB : B = none → d = 0) (hqw : ∀ r ∈ q, reqOK r) (W : World) (hp0 : ReqsAt W A n p) (hq0 : ReqsAt W B m q) :
    Calls Try.prog 10 #[.slice A n c, .slice B m d, .int .i64 kind, .int .u32 line] W fun e W' => e = .returned (.bool true) ∧ Below W.heap.size W W' := by
  have HFp := Lib.hid (few09_any A n c h1 h2 W)
  have HFq := Lib.hid (few09_any B m d h3 h4 W)
  have hp := hp0.take (Nat.min_le_left n 40)
  have hq := hq0.take (Nat.min_le_left m 40)
  have m1 : min n 40 ≤ 40 := Nat.min_le_right _ _
  have m2 : min m 40 ≤ 40 := Nat.min_le_right _ _
  have HA := Lib.hid hA
  have HBn := Lib.hid hB
  clear hp0 hq0 h1 h2 h3 h4 hpw hqw hA hB
  generalize p.take (min n 40) = p at *
  generalize q.take (min m 40) = q at *
  generalize min n 40 = n at *
  generalize min m 40 = m at *
  have HLp := Lib.hid hp.len
  have HLq := Lib.hid hq.len
  obtain ⟨x, hx⟩ : ∃ x, readsN p = x := ⟨_, rfl⟩
  obtain ⟨y, hy⟩ : ∃ y, readsN q = y := ⟨_, rfl⟩
  have hxl : x ≤ 40 := by have := reads_le p; have := hp.len; omega
  have hyl : y ≤ 40 := by have := reads_le q; have := hq.len; omega
  have HRp := Lib.hid hx
  have HRq := Lib.hid hy
  have HRb := Lib.hid (show readsN (p ++ q) = x + y by rw [reads_app, hx, hy])
  clear hx hy
  have hp0 := hp
  have hq0 := hq
  go_enter Try.func10, Try.ntmps10
  go_wp2_with fail
  refine (HFp.out).mono ?_
  rintro e w0 ⟨rfl, rfl⟩
  go_wp2_with fail
  refine (HFq.out).mono ?_
  rintro e w0 ⟨rfl, rfl⟩
  have hbel := (Below.refl W.heap.size W).alloc (Nat.le_refl _) (.cells #[] 39)
  have hown := World.ownsRow_made W (base := W.heap.size) (e := 39) (size := 4) #[] 0 (Nat.le_refl _) (Nat.zero_le _) rfl
  have hp1 := hp.below hbel
  go_wp2_with (first | (at_builtin; refine wpList_append_reqs rfl (.tmp 14) (.tmp 15) rfl W.heap.size _ _ _ rfl hown A n c p rfl hp1 HA.out (by omega) (by simp) ?_; intro v1 w1 hown1 hgrow1; have hb1 := hbel.grown hgrow1 (by simp) (fun k hk => (hown.lt k hk).1)) | (at_builtin; refine wpList_append_reqs rfl (.tmp 16) (.tmp 17) rfl W.heap.size _ _ _ rfl hown1 B m d q rfl (hq.below hb1) HBn.out (by omega) (hb1.size) ?_; intro v2 w2 hown2 hgrow2))
  have hb := hb1.grown hgrow2 hb1.size (fun k hk => (hown1.lt k hk).1)
  have b2 := hbel.grown hgrow1 (by simp) (fun k hk => (hown.lt k hk).1)
  rw [List.nil_append, ← List.flatten_append, ← List.map_append, Nat.zero_add] at hown2
  obtain ⟨A2, c2, rfl, -, -, hbo⟩ := ReqsAt.own hown2 (by rw [List.length_append, HLp.out, HLq.out])
  replace hp := hp0.below hb
  replace hq := hq0.below hb
  clear b2 hbel hown hown1 hown2 hgrow1 hgrow2 hp1 hb1 hp0 hq0
  cases e1 : hasB p line [kind]
  · cases e2 : hasB q line [kind]
    · have H1 := Lib.hid e1
      have H2 := Lib.hid e2
      have HB := Lib.hid (show hasB (p ++ q) line [kind] = false by rw [has_app, e1, e2]; rfl)
      clear e1 e2
      refine (has_any A2 _ (n + m) c2 1 1 (p ++ q) line [kind] (by omega) (by omega) _ (hbo.below (alloc_below _ _)) (one_ints _ kind)).mono ?_
      rintro e w' ⟨rfl, b⟩
      rw [HB.out]
      replace b := alloc_then b
      replace hp := hp.below b
      replace hq := hq.below b
      replace hbo := hbo.below b
      replace hb := hb.trans (b.mono hb.size)
      clear b
      go_wp2_with fail
      refine (has_any A _ n c 1 1 p line [kind] (by omega) (by omega) _ (hp.below (alloc_below _ _)) (one_ints _ kind)).mono ?_
      rintro e w' ⟨rfl, b⟩
      rw [H1.out]
      replace b := alloc_then b
      replace hp := hp.below b
      replace hq := hq.below b
      replace hbo := hbo.below b
      replace hb := hb.trans (b.mono hb.size)
      clear b
      go_wp2_with fail
      refine (has_any B _ m d 1 1 q line [kind] (by omega) (by omega) _ (hq.below (alloc_below _ _)) (one_ints _ kind)).mono ?_
      rintro e w' ⟨rfl, b⟩
      rw [H2.out]
      replace b := alloc_then b
      replace hp := hp.below b
      replace hq := hq.below b
      replace hbo := hbo.below b
      replace hb := hb.trans (b.mono hb.size)
      clear b
      go_wp2_with fail
      refine (reads_any A2 (n + m) c2 (p ++ q) (by omega) _ hbo).mono ?_
      rintro e w' ⟨rfl, b⟩
      rw [HRb.out]
      replace hp := hp.below b
      replace hq := hq.below b
      replace hbo := hbo.below b
      replace hb := hb.trans (b.mono hb.size)
      clear b
      go_wp2_with fail
      refine (reads_any A n c p (by omega) _ hp).mono ?_
      rintro e w' ⟨rfl, b⟩
      rw [HRp.out]
      replace hp := hp.below b
      replace hq := hq.below b
      replace hbo := hbo.below b
      replace hb := hb.trans (b.mono hb.size)
      clear b
      go_wp2_with fail
      refine (reads_any B m d q (by omega) _ hq).mono ?_
      rintro e w' ⟨rfl, b⟩
      rw [HRq.out]
      replace hp := hp.below b
      replace hq := hq.below b
      replace hbo := hbo.below b
      replace hb := hb.trans (b.mono hb.size)
      clear b
      go_wp2_with fail
      refine (alive09_any _).mono ?_
      rintro e w' ⟨rfl, b⟩
      replace hp := hp.below b
      replace hq := hq.below b
      replace hbo := hbo.below b
      replace hb := hb.trans (b.mono hb.size)
      clear b
      go_wp2_with fail
      refine (push_any A n c p kind line 1 (ByteArray.mk #[]) (by omega) _ hp).mono ?_
      rintro e w' ⟨A3, c3, rfl, g1, g2, hpu, b⟩
      replace hbo := hbo.below b
      replace hb := hb.trans (b.mono hb.size)
      clear b g1 g2 hp hq
      go_wp2_with fail
      refine (has_any A3 _ (n + 1) c3 1 1 _ line [kind] (by omega) (by omega) _ (hpu.below (alloc_below _ _)) (one_ints _ kind)).mono ?_
      rintro e w' ⟨rfl, b⟩
      rw [has_push]
      replace b := alloc_then b
      replace hbo := hbo.below b
      replace hb := hb.trans (b.mono hb.size)
      clear b hpu
      go_wp2_with fail
      refine (has_any A2 _ (n + m) c2 0 0 (p ++ q) line [] (by omega) (by omega) _ hbo (nil_ints _ _ _)).mono ?_
      rintro e w' ⟨rfl, b⟩
      rw [has_none]
      replace hbo := hbo.below b
      replace hb := hb.trans (b.mono hb.size)
      clear b
      go_wp2_with fail
      refine (has_any A2 _ (n + m) c2 2 2 (p ++ q) line [kind, kind] (by omega) (by omega) _ (hbo.below (alloc_below _ _)) (two_ints _ kind kind)).mono ?_
      rintro e w' ⟨rfl, b⟩
      rw [has_two, HB.out]
      replace b := alloc_then b
      replace hbo := hbo.below b
      replace hb := hb.trans (b.mono hb.size)
      clear b
      go_wp2_with fail
      refine (has_any A2 _ (n + m) c2 1 1 (p ++ q) line [kind] (by omega) (by omega) _ (hbo.below (alloc_below _ _)) (one_ints _ kind)).mono ?_
      rintro e w' ⟨rfl, b⟩
      rw [HB.out]
      replace b := alloc_then b
      replace hb := hb.trans (b.mono hb.size)
      clear b hbo
      go_wp2
      go_ret
      exact ⟨rfl, hb⟩
    · have H1 := Lib.hid e1
      have H2 := Lib.hid e2
      have HB := Lib.hid (show hasB (p ++ q) line [kind] = true by rw [has_app, e1, e2]; rfl)
      clear e1 e2
      refine (has_any A2 _ (n + m) c2 1 1 (p ++ q) line [kind] (by omega) (by omega) _ (hbo.below (alloc_below _ _)) (one_ints _ kind)).mono ?_
      rintro e w' ⟨rfl, b⟩
      rw [HB.out]
      replace b := alloc_then b
      replace hp := hp.below b
      replace hq := hq.below b
      replace hbo := hbo.below b
      replace hb := hb.trans (b.mono hb.size)
      clear b
      go_wp2_with fail
      refine (has_any A _ n c 1 1 p line [kind] (by omega) (by omega) _ (hp.below (alloc_below _ _)) (one_ints _ kind)).mono ?_
      rintro e w' ⟨rfl, b⟩
      rw [H1.out]
      replace b := alloc_then b
      replace hp := hp.below b
      replace hq := hq.below b
      replace hbo := hbo.below b
      replace hb := hb.trans (b.mono hb.size)
      clear b
      go_wp2_with fail
      refine (has_any B _ m d 1 1 q line [kind] (by omega) (by omega) _ (hq.below (alloc_below _ _)) (one_ints _ kind)).mono ?_
      rintro e w' ⟨rfl, b⟩
      rw [H2.out]
      replace b := alloc_then b
      replace hp := hp.below b
      replace hq := hq.below b
      replace hbo := hbo.below b
      replace hb := hb.trans (b.mono hb.size)
      clear b
      go_wp2_with fail
      refine (reads_any A2 (n + m) c2 (p ++ q) (by omega) _ hbo).mono ?_
      rintro e w' ⟨rfl, b⟩
      rw [HRb.out]
      replace hp := hp.below b
      replace hq := hq.below b
      replace hbo := hbo.below b
      replace hb := hb.trans (b.mono hb.size)
      clear b
      go_wp2_with fail
      refine (reads_any A n c p (by omega) _ hp).mono ?_
      rintro e w' ⟨rfl, b⟩
      rw [HRp.out]
      replace hp := hp.below b
      replace hq := hq.below b
      replace hbo := hbo.below b
      replace hb := hb.trans (b.mono hb.size)
      clear b
      go_wp2_with fail
      refine (reads_any B m d q (by omega) _ hq).mono ?_
      rintro e w' ⟨rfl, b⟩
      rw [HRq.out]
      replace hp := hp.below b
      replace hq := hq.below b
      replace hbo := hbo.below b
      replace hb := hb.trans (b.mono hb.size)
      clear b
      go_wp2_with fail
      refine (alive09_any _).mono ?_
      rintro e w' ⟨rfl, b⟩
      replace hp := hp.below b
      replace hq := hq.below b
      replace hbo := hbo.below b
      replace hb := hb.trans (b.mono hb.size)
      clear b
      go_wp2_with fail
      refine (push_any A n c p kind line 1 (ByteArray.mk #[]) (by omega) _ hp).mono ?_
      rintro e w' ⟨A3, c3, rfl, g1, g2, hpu, b⟩
      replace hbo := hbo.below b
      replace hb := hb.trans (b.mono hb.size)
      clear b g1 g2 hp hq
      go_wp2_with fail
      refine (has_any A3 _ (n + 1) c3 1 1 _ line [kind] (by omega) (by omega) _ (hpu.below (alloc_below _ _)) (one_ints _ kind)).mono ?_
      rintro e w' ⟨rfl, b⟩
      rw [has_push]
      replace b := alloc_then b
      replace hbo := hbo.below b
      replace hb := hb.trans (b.mono hb.size)
      clear b hpu
      go_wp2_with fail
      refine (has_any A2 _ (n + m) c2 0 0 (p ++ q) line [] (by omega) (by omega) _ hbo (nil_ints _ _ _)).mono ?_
      rintro e w' ⟨rfl, b⟩
      rw [has_none]
      replace hbo := hbo.below b
      replace hb := hb.trans (b.mono hb.size)
      clear b
      go_wp2_with fail
      refine (has_any A2 _ (n + m) c2 2 2 (p ++ q) line [kind, kind] (by omega) (by omega) _ (hbo.below (alloc_below _ _)) (two_ints _ kind kind)).mono ?_
      rintro e w' ⟨rfl, b⟩
      rw [has_two, HB.out]
      replace b := alloc_then b
      replace hbo := hbo.below b
      replace hb := hb.trans (b.mono hb.size)
      clear b
      go_wp2_with fail
      refine (has_any A2 _ (n + m) c2 1 1 (p ++ q) line [kind] (by omega) (by omega) _ (hbo.below (alloc_below _ _)) (one_ints _ kind)).mono ?_
      rintro e w' ⟨rfl, b⟩
      rw [HB.out]
      replace b := alloc_then b
      replace hb := hb.trans (b.mono hb.size)
      clear b hbo
      go_wp2
      go_ret
      exact ⟨rfl, hb⟩
  · have H1 := Lib.hid e1
    have HB := Lib.hid (show hasB (p ++ q) line [kind] = true by rw [has_app, e1]; rfl)
    clear e1
    refine (has_any A2 _ (n + m) c2 1 1 (p ++ q) line [kind] (by omega) (by omega) _ (hbo.below (alloc_below _ _)) (one_ints _ kind)).mono ?_
    rintro e w' ⟨rfl, b⟩
    rw [HB.out]
    replace b := alloc_then b
    replace hp := hp.below b
    replace hq := hq.below b
    replace hbo := hbo.below b
    replace hb := hb.trans (b.mono hb.size)
    clear b
    go_wp2_with fail
    refine (has_any A _ n c 1 1 p line [kind] (by omega) (by omega) _ (hp.below (alloc_below _ _)) (one_ints _ kind)).mono ?_
    rintro e w' ⟨rfl, b⟩
    rw [H1.out]
    replace b := alloc_then b
    replace hp := hp.below b
    replace hq := hq.below b
    replace hbo := hbo.below b
    replace hb := hb.trans (b.mono hb.size)
    clear b
    go_wp2_with fail
    refine (reads_any A2 (n + m) c2 (p ++ q) (by omega) _ hbo).mono ?_
    rintro e w' ⟨rfl, b⟩
    rw [HRb.out]
    replace hp := hp.below b
    replace hq := hq.below b
    replace hbo := hbo.below b
    replace hb := hb.trans (b.mono hb.size)
    clear b
    go_wp2_with fail
    refine (reads_any A n c p (by omega) _ hp).mono ?_
    rintro e w' ⟨rfl, b⟩
    rw [HRp.out]
    replace hp := hp.below b
    replace hq := hq.below b
    replace hbo := hbo.below b
    replace hb := hb.trans (b.mono hb.size)
    clear b
    go_wp2_with fail
    refine (reads_any B m d q (by omega) _ hq).mono ?_
    rintro e w' ⟨rfl, b⟩
    rw [HRq.out]
    replace hp := hp.below b
    replace hq := hq.below b
    replace hbo := hbo.below b
    replace hb := hb.trans (b.mono hb.size)
    clear b
    go_wp2_with fail
    refine (alive09_any _).mono ?_
    rintro e w' ⟨rfl, b⟩
    replace hp := hp.below b
    replace hq := hq.below b
    replace hbo := hbo.below b
    replace hb := hb.trans (b.mono hb.size)
    clear b
    go_wp2_with fail
    refine (push_any A n c p kind line 1 (ByteArray.mk #[]) (by omega) _ hp).mono ?_
    rintro e w' ⟨A3, c3, rfl, g1, g2, hpu, b⟩
    replace hbo := hbo.below b
    replace hb := hb.trans (b.mono hb.size)
    clear b g1 g2 hp hq
    go_wp2_with fail
    refine (has_any A3 _ (n + 1) c3 1 1 _ line [kind] (by omega) (by omega) _ (hpu.below (alloc_below _ _)) (one_ints _ kind)).mono ?_
    rintro e w' ⟨rfl, b⟩
    rw [has_push]
    replace b := alloc_then b
    replace hbo := hbo.below b
    replace hb := hb.trans (b.mono hb.size)
    clear b hpu
    go_wp2_with fail
    refine (has_any A2 _ (n + m) c2 0 0 (p ++ q) line [] (by omega) (by omega) _ hbo (nil_ints _ _ _)).mono ?_
    rintro e w' ⟨rfl, b⟩
    rw [has_none]
    replace hbo := hbo.below b
    replace hb := hb.trans (b.mono hb.size)
    clear b
    go_wp2_with fail
    refine (has_any A2 _ (n + m) c2 2 2 (p ++ q) line [kind, kind] (by omega) (by omega) _ (hbo.below (alloc_below _ _)) (two_ints _ kind kind)).mono ?_
    rintro e w' ⟨rfl, b⟩
    rw [has_two, HB.out]
    replace b := alloc_then b
    replace hbo := hbo.below b
    replace hb := hb.trans (b.mono hb.size)
    clear b
    go_wp2_with fail
    refine (has_any A2 _ (n + m) c2 1 1 (p ++ q) line [kind] (by omega) (by omega) _ (hbo.below (alloc_below _ _)) (one_ints _ kind)).mono ?_
    rintro e w' ⟨rfl, b⟩
    rw [HB.out]
    replace b := alloc_then b
    replace hb := hb.trans (b.mono hb.size)
    clear b hbo
    go_wp2
    go_ret
    exact ⟨rfl, hb⟩

theorem own : ownKnob Try.prog.godebug = none := by kernel_rfl
theorem laidOut : laidOutB Try.prog = true := by kernel_rfl

set_option maxRecDepth 100000 in
theorem lifted (os : Os) (started : os.Started) (H : Type) (enc : TypeId × Value → H) :
    ReturnsInHanded {} Try.checked os 10 .any (Rows.busHasSpec.pre6 enc Try.prog Try.f10 Rows.busHasRow.domain false) (Rows.busHasSpec.post enc Try.prog Try.f10 false true false false) := by
  refine returnsInHanded_of_change (C := Try.checked) own started (by kernel_rfl) Try.func10
    (ChangeSpec.witness6 (enc := enc) (C := Try.checked) false ⟨#[], #[.slice none 0 0, .slice none 0 0, .int .i64 0, .int .u32 0], []⟩ 8 (by kernel_rfl) (by kernel_rfl) (by kernel_rfl) (by kernel_rfl)) ?_
  intro W base args ds gs before hval0 hW hcnd _
  have hval : ∀ (j : Nat) t v, Try.f10.params[j]? = some t → args[j]? = some v → Value.okWide Try.prog W .any base t v := hval0
  have hW' := hW
  obtain ⟨p, q, hA0, hV, rfl, hfz, hnd⟩ := hW
  have hA : DataW.TrodAll enc Try.prog W 0 (fun _ => true) true Try.f10.params.toList args.toList ds p := hA0
  rw [Try.params10] at hA hval
  obtain ⟨v0, vs0, d0, ds0, p0, q0, hargs, rfl, rfl, h0, r0⟩ := trodAll_cons hA
  obtain ⟨v1, vs1, d1, ds1, p1, q1, rfl, rfl, rfl, h1, r1⟩ := trodAll_cons r0
  obtain ⟨v2, vs2, d2, ds2, p2, q2, rfl, rfl, rfl, h2, r2⟩ := trodAll_cons r1
  obtain ⟨v3, vs3, d3, ds3, p3, q3, rfl, rfl, rfl, h3, r3⟩ := trodAll_cons r2
  obtain ⟨rfl, rfl, rfl⟩ := trodAll_nil r3
  obtain rfl : args = #[v0, v1, v2, v3] := by cases args; simp_all
  obtain ⟨rfl, rfl⟩ := trodVars_none hV
  have hlt := hW'.lt
  have k0 := h0
  obtain ⟨p_a, p_n, p_c, p, rfl, w_p_n, w_p_c, w_p, w_p_z, w_p_wf⟩ := arg_reqs (hval 0 36 v0 rfl rfl) h0
  have k1 := h1
  obtain ⟨q_a, q_n, q_c, q, rfl, w_q_n, w_q_c, w_q, w_q_z, w_q_wf⟩ := arg_reqs (hval 1 36 v1 rfl rfl) h1
  have k2 := h2
  obtain ⟨kind, rfl, -, -, w_kind⟩ := open_int Try.underlying3 (hval 2 3 v2 rfl rfl) h2
  have k3 := h3
  obtain ⟨line, rfl, -, -, w_line⟩ := open_int Try.underlying30 (hval 3 30 v3 rfl rfl) h3
  clear hA0 hval0
  simp only [List.append_nil] at hW'
  refine (walk kind line p_a q_a p_n p_c q_n q_c p q w_p_n w_p_c w_p_z w_p_wf w_q_n w_q_c w_q_z w_q_wf W w_p w_q).mono fun e W' ⟨he, bel⟩ => ?_
  subst he
  exact ⟨_, rfl, _, _, _, [], _, [], hW', trodAll_mk1 (shut_bool Try.underlying4 _), (trodAll_cons_mk (Below.trod laidOut (by kernel_rfl) (of_decide_eq_true (by kernel_rfl)) k0 bel (fun x hx => hlt x (by simp [hx]))) (trodAll_cons_mk (Below.trod laidOut (by kernel_rfl) (of_decide_eq_true (by kernel_rfl)) k1 bel (fun x hx => hlt x (by simp [hx]))) (trodAll_cons_mk (Below.trod laidOut (by kernel_rfl) (of_decide_eq_true (by kernel_rfl)) k2 bel (fun x hx => hlt x (by simp [hx]))) (trodAll_cons_mk (Below.trod laidOut (by kernel_rfl) (of_decide_eq_true (by kernel_rfl)) k3 bel (fun x hx => hlt x (by simp [hx]))) trodAll_mk0)))), rfl, bel.frame _, fun h => by cases h⟩

/-- THE STATEMENT -/
theorem proved : Rows.BusHasSaid :=
  OpenClaim.holds_of_wide 10 Try.f10 rfl rfl rfl rfl rfl rfl rfl ⟨rfl, rfl, rfl, rfl, rfl⟩ rfl rfl rfl rfl rfl (by kernel_rfl) Try.func10 (by kernel_rfl)
    (of_decide_eq_true (by kernel_rfl)) (by unfold Func.isWrapper; first | (rw [if_pos (by decide +kernel)]; kernel_rfl) | (rw [if_neg (by decide +kernel)]; exact ⟨rfl, rfl⟩))
    (fun os started H enc _ => lifted os started H enc)
#print axioms proved
end Go.Proofs.Ytebeelphilfjhaa.busHas
