/- Proved: the statement of PickAll (auspexlaw17): with room for all of them each one that can starts, but divisions and what goes to memory behind the first one; with room for fewer the first ones of these; for every input; no condition. -/
import Derived.Test.YtebeelphilfjhaaRows
import Derived.Test.YtebeelphilfjhaaPickG
import Derived.OpenShut
namespace Go.Proofs.Ytebeelphilfjhaa.pickAll
open Go.ChangeShapes Go.WideShapes Go.ChangeAt Go.RowKit Go.Maps
set_option linter.unusedVariables false

set_option linter.unusedSimpArgs false
set_option maxHeartbeats 8000000
set_option maxRecDepth 100000 in
theorem walk (width : Int) (busy : Bool) (A B : Option Addr) (nk ck n cc : Nat) (ks : List Int) (cs : List Bool) (h1 : nk ≤ ck) (h2 : ck ≤ maxLen) (h3 : n ≤ cc) (h4 : cc ≤ maxLen) (W : World) (hk0 : IntsAt W A nk .i64 ks) (hc0 : BoolsAt W B n cs) :
    Calls Try.prog 19 #[.int .i64 width, .bool busy, .slice A nk ck, .slice B n cc] W fun e w' => e = .returned (.bool true) ∧ Below W.heap.size W w' := by
  have HF := Lib.hid (few_any A B nk ck n cc h1 h2 h3 h4)
  have hk := hk0.take (Nat.min_le_left nk 40)
  have hc := hc0.take (Nat.min_le_left n 40)
  have m1 : min nk 40 ≤ 40 := Nat.min_le_right _ _
  have m2 : min n 40 ≤ 40 := Nat.min_le_right _ _
  clear h1 h2 h3 h4 hk0 hc0
  generalize ks.take (min nk 40) = ks' at *
  generalize cs.take (min n 40) = cs' at *
  generalize min nk 40 = nk' at *
  generalize min n 40 = n' at *
  have hmm := @run_makeMap Try.prog
  go_enter Try.func19, Try.ntmps19
  go_wp2_with fail
  go_at_call 68
  refine (HF.out _).mono ?_
  rintro e w0 ⟨rfl, q, rfl⟩
  clear HF
  have hb : Below W.heap.size W (W.drewN q) := Go.Joins.below_draws _ _ _
  replace hk := hk.below hb
  replace hc := hc.below hb
  generalize W.drewN q = w0 at *
  go_wp2_with fail
  go_at_call 71
  refine (pick_ints n' busy A B nk' ck n' cc ks' cs' m1 m2 _ hk hc).mono ?_
  rintro e w1 ⟨Av, cv, rfl, hcv, hx, b⟩
  replace hk := hk.below b
  replace hc := hc.below b
  replace hb := hb.trans (b.mono hb.size)
  clear b
  go_wp2_with fail
  go_at_call 71
  refine (pick_ints width busy A B nk' ck n' cc ks' cs' m1 m2 _ hk hc).mono ?_
  rintro e w2 ⟨Aw, cw, rfl, hcw, hy, b⟩
  replace hk := hk.below b
  replace hc := hc.below b
  replace hx := hx.below b
  replace hb := hb.trans (b.mono hb.size)
  clear b
  have P7 := outP_len (width := n') (busy := busy) (ks := ks') (cs := cs') n'
  have P8 := outP_lt (width := n') (busy := busy) (ks := ks') (cs := cs') n'
  have HM := Lib.hid (fun i hi => all_mem (busy := busy) (ks := ks') (cs := cs') (n := n') (i := i) hi)
  have HT := Lib.hid (some_take (width := width) (busy := busy) (ks := ks') (cs := cs') (n := n') n' (Nat.le_refl _))
  generalize outP n' busy ks' cs' n' = all at *
  generalize outP width busy ks' cs' n' = few at *
  replace P8 := Lib.hid P8
  go_wp2
  have hm0 : MB (w2.alloc (.map #[] 0)) w2.heap.size 0 (.map []) := World.ownsMap_made _ _ _ _
  have hb2 : Below w2.heap.size w2 (w2.alloc (.map #[] 0)) := (Below.refl _ _).alloc (Nat.le_refl _) _
  generalize hw3 : w2.alloc (.map #[] 0) = w3 at *
  clear hw3
  go_loopw [42] (fun i wr => ∃ (j : Nat) (D : DataW Unit), j ≤ all.length ∧ i = .int .i64 j ∧ MB wr w2.heap.size j D ∧ Ins D (all.take j) ∧ Below w2.heap.size w2 wr) (fun i _ => all.length - (intOf i).toNat)
  case atStart => exact ⟨0, .map [], Nat.zero_le _, rfl, hm0, ins_start, hb2⟩
  case round =>
    obtain ⟨j, D, hj, rfl, hm, hins, hbr⟩ := hrel
    by_cases hjl : j < all.length
    · obtain ⟨ad, rfl, hcq⟩ := (hx.below hbr).at_ (j := j) (by omega)
      have hqe : (outI all).getD j 0 = ((all[j] : Nat) : Int) := by simp [outI, List.getD, hjl]
      rw [hqe] at hcq
      have hqn := P8.out _ (List.getElem_mem hjl)
      have hstep := ins_step hins all[j]
      rw [← List.take_succ_eq_append_getElem hjl] at hstep
      clear hqe hm0 hb2
      generalize all[j] = q at *
      replace hstep := Lib.hid hstep
      go_wp2_with (at_mapUpdate; refine wpList_mapUpdate_own _ rfl _ _ _ 88 rfl 3 4 lawI Try.underlying88 _ w2.heap.size j D rfl hm (by unfold maxLen; omega) _ _ (.int .i64 (q : Int)) rfl rfl (keyN q (by omega)) (.lit (.bool true)) [] (plainElem_bool Try.underlying4 true) ?_; intro w4 hm4 hgrow4)
      go_roundw
      case rel => exact ⟨j + 1, _, by omega, by go_num, hm4, hstep.out, hbr.grown hgrow4 hbr.size (fun k hk => by cases hk; exact Nat.le_refl _)⟩
      case measure => simp [intOf]; omega
    · have hjn : j = all.length := by omega
      subst hjn
      rw [List.take_length] at hins
      replace hk := hk.below hbr
      replace hc := hc.below hbr
      replace hx := hx.below hbr
      replace hy := hy.below hbr
      replace hb := hb.trans (hbr.mono hb.size)
      clear hj hjl hm0 hb2 hbr
      replace hb := Lib.hid hb
      go_wp2
      go_loop [12, 13, 51] (fun mv dv iv => ∃ i : Nat, i ≤ n' ∧ iv = .int .i64 i ∧ mv = .bool (anyU ks' cs' 1 i) ∧ dv = .bool (busy || anyU ks' cs' 0 i)) (fun _ _ i => n' - (intOf i).toNat)
      case atStart => exact ⟨0, Nat.zero_le _, rfl, rfl, by simp [anyU]⟩
      case round =>
        obtain ⟨i, hi, rfl, rfl, rfl⟩ := hrel
        by_cases hin : i < n'
        · obtain ⟨bd, rfl, hcb⟩ := hc.at_ hin
          have hlook := look_in hm hins i (by omega)
          have hmem := HM.out i hin
          unfold okA at hmem
          obtain ⟨is, his⟩ : ∃ b, cs'.getD i false = b := ⟨_, rfl⟩
          have e1 : anyU ks' cs' 1 (i + 1) = (anyU ks' cs' 1 i || (is && unitN ks' i == 1)) := by rw [← his]; rfl
          have e0 : (busy || anyU ks' cs' 0 (i + 1)) = ((busy || anyU ks' cs' 0 i) || (is && unitN ks' i == 0)) := by rw [← his, anyU, Bool.or_assoc]
          rw [his] at hcb hmem
          rw [hmem] at hlook
          clear hmem his
          generalize anyU ks' cs' 1 i = M at *
          generalize (busy || anyU ks' cs' 0 i) = Dv at *
          replace e1 := Lib.hid e1
          replace e0 := Lib.hid e0
          by_cases hik : i < nk'
          · obtain ⟨ak, rfl, hca⟩ := hk.at_ hik
            have hu : unitN ks' i = if ks'.getD i 0 = 2 then 0 else if ks'.getD i 0 = 3 ∨ ks'.getD i 0 = 4 then 1 else 2 := by unfold unitN; rw [if_pos (by rw [hk.1]; exact hik)]
            generalize ks'.getD i 0 = v at *
            by_cases v2 : v = 2
            · subst v2
              rw [if_pos rfl] at hu
              rw [hu] at hlook
              replace hu := Lib.hid hu
              cases is <;> cases M <;> cases Dv
              all_goals
                simp only [Bool.and_false, Bool.false_and, Bool.and_true, Bool.true_and, Bool.not_false, Bool.not_true, beq_self_eq_true, Nat.reduceBEq] at hlook
                go_wp2
                go_round
                case rel => exact ⟨i + 1, by omega, by go_num, by rw [e1.out, hu.out]; rfl, by rw [e0.out, hu.out]; rfl⟩
                case measure => simp [intOf]; omega
            · rw [if_neg v2] at hu
              have n2 : (v == 2) = false := by simpa using v2
              by_cases v3 : v = 3
              · subst v3
                rw [if_pos (Or.inl rfl)] at hu
                clear v2 n2
                rw [hu] at hlook
                replace hu := Lib.hid hu
                cases is <;> cases M <;> cases Dv
                all_goals
                  simp only [Bool.and_false, Bool.false_and, Bool.and_true, Bool.true_and, Bool.not_false, Bool.not_true, beq_self_eq_true, Nat.reduceBEq] at hlook
                  go_wp2
                  go_round
                  case rel => exact ⟨i + 1, by omega, by go_num, by rw [e1.out, hu.out]; rfl, by rw [e0.out, hu.out]; rfl⟩
                  case measure => simp [intOf]; omega
              · by_cases v4 : v = 4
                · subst v4
                  rw [if_pos (Or.inr rfl)] at hu
                  clear v2 n2 v3
                  rw [hu] at hlook
                  replace hu := Lib.hid hu
                  cases is <;> cases M <;> cases Dv
                  all_goals
                    simp only [Bool.and_false, Bool.false_and, Bool.and_true, Bool.true_and, Bool.not_false, Bool.not_true, beq_self_eq_true, Nat.reduceBEq] at hlook
                    go_wp2
                    go_round
                    case rel => exact ⟨i + 1, by omega, by go_num, by rw [e1.out, hu.out]; rfl, by rw [e0.out, hu.out]; rfl⟩
                    case measure => simp [intOf]; omega
                · rw [if_neg (by omega)] at hu
                  have n3 : (v == 3) = false := by simpa using v3
                  have n4 : (v == 4) = false := by simpa using v4
                  clear v2 v3 v4
                  rw [hu] at hlook
                  replace hu := Lib.hid hu
                  cases is <;> cases M <;> cases Dv
                  all_goals
                    simp only [Bool.and_false, Bool.false_and, Bool.and_true, Bool.true_and, Bool.not_false, Bool.not_true, beq_self_eq_true, Nat.reduceBEq] at hlook
                    go_wp2
                    go_round
                    case rel => exact ⟨i + 1, by omega, by go_num, by rw [e1.out, hu.out]; rfl, by rw [e0.out, hu.out]; rfl⟩
                    case measure => simp [intOf]; omega
          · have hu : unitN ks' i = 2 := by unfold unitN; rw [if_neg (by rw [hk.1]; exact hik)]
            rw [hu] at hlook
            replace hu := Lib.hid hu
            cases is <;> cases M <;> cases Dv
            all_goals
              simp only [Bool.and_false, Bool.false_and, Bool.and_true, Bool.true_and, Bool.not_false, Bool.not_true, beq_self_eq_true, Nat.reduceBEq] at hlook
              go_wp2
              go_round
              case rel => exact ⟨i + 1, by omega, by go_num, by rw [e1.out, hu.out]; rfl, by rw [e0.out, hu.out]; rfl⟩
              case measure => simp [intOf]; omega
        · have hin' : i = n' := by omega
          subst hin'
          have hte := HT.out
          have hfl : few.length ≤ 40 := by rw [hte, List.length_take]; omega
          clear HT HM hins hm
          by_cases c1 : width < 0
          · obtain rfl : few = [] := by rw [hte, show width.toNat = 0 by omega]; rfl
            have hz : IntsAt wr Av 0 .i64 (outI []) := by simpa [outI] using hx.take (Nat.zero_le _)
            clear hte
            go_wp2_with fail
            go_at_call 69
            refine (alive17_any _).mono ?_
            rintro e w5 ⟨rfl, b⟩
            replace hy := hy.below b
            replace hz := hz.below b
            replace hb := Lib.hid (hb.out.trans (b.mono hb.out.size))
            clear b
            go_wp2_with fail
            go_at_call 70
            refine (same_any hy hz hfl).mono ?_
            rintro e w6 ⟨rfl, q6, rfl⟩
            go_wp2
            go_ret
            exact ⟨rfl, hb.out.trans (Go.Joins.below_draws _ _ _)⟩
          · by_cases c2 : width ≤ (all.length : Int)
            · obtain ⟨wn, rfl⟩ := Int.eq_ofNat_of_zero_le (show 0 ≤ width by omega)
              have hwn : wn ≤ all.length := by omega
              have hfe : outI few = (outI all).take wn := by rw [hte]; simp [outI, List.map_take]
              have hz : IntsAt wr Av wn .i64 (outI few) := by rw [hfe]; exact hx.take hwn
              clear hte c1 c2 hfe
              go_wp2_with fail
              go_at_call 69
              refine (alive17_any _).mono ?_
              rintro e w5 ⟨rfl, b⟩
              replace hy := hy.below b
              replace hz := hz.below b
              replace hb := Lib.hid (hb.out.trans (b.mono hb.out.size))
              clear b
              go_wp2_with fail
              go_at_call 70
              refine (same_any hy hz hfl).mono ?_
              rintro e w6 ⟨rfl, q6, rfl⟩
              go_wp2
              go_ret
              exact ⟨rfl, hb.out.trans (Go.Joins.below_draws _ _ _)⟩
            · have c3 : (all.length : Int) < width := by omega
              obtain rfl : few = all := by rw [hte, List.take_of_length_le (by omega)]
              have hz := hx
              clear hte c1 c2
              go_wp2_with fail
              go_at_call 69
              refine (alive17_any _).mono ?_
              rintro e w5 ⟨rfl, b⟩
              replace hy := hy.below b
              replace hz := hz.below b
              replace hb := Lib.hid (hb.out.trans (b.mono hb.out.size))
              clear b
              go_wp2_with fail
              go_at_call 70
              refine (same_any hy hz hfl).mono ?_
              rintro e w6 ⟨rfl, q6, rfl⟩
              go_wp2
              go_ret
              exact ⟨rfl, hb.out.trans (Go.Joins.below_draws _ _ _)⟩

theorem own : ownKnob Try.prog.godebug = none := by kernel_rfl
theorem laidOut : laidOutB Try.prog = true := by kernel_rfl

set_option maxRecDepth 100000 in
theorem lifted (os : Os) (started : os.Started) (H : Type) (enc : TypeId × Value → H) :
    ReturnsInHanded {} Try.checked os 19 .any (Rows.pickAllSpec.pre6 enc Try.prog Try.f19 Rows.pickAllRow.domain false) (Rows.pickAllSpec.post enc Try.prog Try.f19 false true false false) := by
  refine returnsInHanded_of_change (C := Try.checked) own started (by kernel_rfl) Try.func19
    (ChangeSpec.witness6 (enc := enc) (C := Try.checked) false ⟨#[], #[.int .i64 0, .bool false, .slice none 0 0, .slice none 0 0], []⟩ 8 (by kernel_rfl) (by kernel_rfl) (by kernel_rfl) (by kernel_rfl)) ?_
  intro W base args ds gs before hval0 hW hcnd _
  have hval : ∀ (j : Nat) t v, Try.f19.params[j]? = some t → args[j]? = some v → Value.okWide Try.prog W .any base t v := hval0
  have hW' := hW
  obtain ⟨p, q, hA0, hV, rfl, hfz, hnd⟩ := hW
  have hA : DataW.TrodAll enc Try.prog W 0 (fun _ => true) true Try.f19.params.toList args.toList ds p := hA0
  rw [Try.params19] at hA hval
  obtain ⟨v0, vs0, d0, ds0, p0, q0, hargs, rfl, rfl, h0, r0⟩ := trodAll_cons hA
  obtain ⟨v1, vs1, d1, ds1, p1, q1, rfl, rfl, rfl, h1, r1⟩ := trodAll_cons r0
  obtain ⟨v2, vs2, d2, ds2, p2, q2, rfl, rfl, rfl, h2, r2⟩ := trodAll_cons r1
  obtain ⟨v3, vs3, d3, ds3, p3, q3, rfl, rfl, rfl, h3, r3⟩ := trodAll_cons r2
  obtain ⟨rfl, rfl, rfl⟩ := trodAll_nil r3
  obtain rfl : args = #[v0, v1, v2, v3] := by cases args; simp_all
  obtain ⟨rfl, rfl⟩ := trodVars_none hV
  have hlt := hW'.lt
  have k0 := h0
  obtain ⟨width, rfl, -, -, w_width⟩ := open_int Try.underlying3 (hval 0 3 v0 rfl rfl) h0
  have k1 := h1
  obtain ⟨busy, rfl, -, -⟩ := open_bool Try.underlying4 (hval 1 4 v1 rfl rfl) h1
  have k2 := h2
  obtain ⟨kinds_a, kinds_n, kinds_c, kinds, rfl, w_kinds_n, w_kinds_c, w_kinds, w_kinds_wf⟩ := arg_ints (k := .i64) Try.underlying22 Try.underlying3 (by kernel_rfl) (hval 2 22 v2 rfl rfl) h2
  have k3 := h3
  obtain ⟨can_a, can_n, can_c, can, rfl, w_can_n, w_can_c, w_can⟩ := arg_bools Try.underlying80 Try.underlying4 (by kernel_rfl) (hval 3 80 v3 rfl rfl) h3
  clear hA0 hval0
  simp only [List.append_nil] at hW'
  refine (walk width busy kinds_a can_a kinds_n kinds_c can_n can_c kinds can w_kinds_n w_kinds_c w_can_n w_can_c W w_kinds w_can).mono fun e W' ⟨he, bel⟩ => ?_
  subst he
  exact ⟨_, rfl, _, _, _, [], _, [], hW', trodAll_mk1 (shut_bool Try.underlying4 _), (trodAll_cons_mk (Below.trod laidOut (by kernel_rfl) (of_decide_eq_true (by kernel_rfl)) k0 bel (fun x hx => hlt x (by simp [hx]))) (trodAll_cons_mk (Below.trod laidOut (by kernel_rfl) (of_decide_eq_true (by kernel_rfl)) k1 bel (fun x hx => hlt x (by simp [hx]))) (trodAll_cons_mk (Below.trod laidOut (by kernel_rfl) (of_decide_eq_true (by kernel_rfl)) k2 bel (fun x hx => hlt x (by simp [hx]))) (trodAll_cons_mk (Below.trod laidOut (by kernel_rfl) (of_decide_eq_true (by kernel_rfl)) k3 bel (fun x hx => hlt x (by simp [hx]))) trodAll_mk0)))), rfl, bel.frame _, fun h => by cases h⟩

/-- THE STATEMENT -/
theorem proved : Rows.PickAllSaid :=
  OpenClaim.holds_of_wide 19 Try.f19 rfl rfl rfl rfl rfl rfl rfl ⟨rfl, rfl, rfl, rfl, rfl⟩ rfl rfl rfl rfl rfl (by kernel_rfl) Try.func19 (by kernel_rfl)
    (of_decide_eq_true (by kernel_rfl)) (by unfold Func.isWrapper; first | (rw [if_pos (by decide +kernel)]; kernel_rfl) | (rw [if_neg (by decide +kernel)]; exact ⟨rfl, rfl⟩))
    (fun os started H enc _ => lifted os started H enc)
#print axioms proved
end Go.Proofs.Ytebeelphilfjhaa.pickAll
