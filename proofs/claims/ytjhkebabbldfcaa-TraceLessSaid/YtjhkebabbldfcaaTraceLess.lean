/- Proved: the statement of TraceLess (auspexlaw07): without what was loaded the one contract tells what the other one does; rows agree as far one way as the other way round; for every input; no condition. -/
import Derived.Test.YtjhkebabbldfcaaRows
import Derived.Test.YtjhkebabbldfcaaTrace
import Derived.OpenShut
import Derived.Deep.QuietTactic
import Derived.BigQuiet
namespace Go.Proofs.Ytjhkebabbldfcaa.traceLess
open Go.ChangeShapes Go.WideShapes Go.ChangeAt Go.RowKit
set_option linter.unusedVariables false
set_option maxHeartbeats 4000000
set_option maxRecDepth 100000

theorem Six.fresh {w : World} {A : Option Addr} {n : Nat} {es : List Ev} (h : EvsAt w A n es) {j : Nat} {x : Ev} (hj : es[j]? = some x) : ∃ a, A = some a ∧ ∀ o, Six (w.alloc o) (a.add (j * 6)) x := by
  obtain ⟨a, ha, _⟩ := h.at_ hj
  refine ⟨a, ha, fun o => ?_⟩
  obtain ⟨a', ha', _, h6⟩ := (h.below ((Below.refl _ _).alloc (Nat.le_refl _) o)).at_ hj
  rw [ha] at ha'
  injection ha' with ha'
  subst ha'
  exact h6

theorem walk (A : Option Addr) (n c : Nat) (ss : List St) (B : Option Addr) (m d : Nat) (ts : List St) (hn : n ≤ c) (hc : c ≤ maxLen) (hz : A = none → c = 0) (wf : ∀ s ∈ ss, stOK s) (hm : m ≤ d) (hd : d ≤ maxLen) (hz2 : B = none → d = 0) (wf2 : ∀ s ∈ ts, stOK s) (w : World) (hs : StepsAt w A n ss) (ht : StepsAt w B m ts) :
    Calls Try.prog 4 #[.slice A n c, .slice B m d] w fun e w' => e = .returned (.bool true) ∧ Below w.heap.size w w' := by
  unfold maxLen at hc hd
  have hs' := hs.take (Nat.min_le_left n 100)
  have ht' := ht.take (Nat.min_le_left m 100)
  obtain ⟨n', hn'⟩ : ∃ k, min n 100 = k := ⟨_, rfl⟩
  obtain ⟨m', hm'⟩ : ∃ k, min m 100 = k := ⟨_, rfl⟩
  rw [hn'] at hs'
  rw [hm'] at ht'
  have e1 : (if (100 : Int) < (n : Int) then (100 : Int) else (n : Int)) = (n' : Int) := by split <;> omega
  have e2 : (if (100 : Int) < (m : Int) then (100 : Int) else (m : Int)) = (m' : Int) := by split <;> omega
  have k1 : n' ≤ 100 := by omega
  have k2 : m' ≤ 100 := by omega
  have k3 : n' ≤ n := by omega
  have k4 : m' ≤ m := by omega
  have k5 : (n' : Int) ≤ c := by omega
  have k6 : (m' : Int) ≤ d := by omega
  have HS := Lib.hid hs'
  have HT := Lib.hid ht'
  clear hs ht hs' ht' hz hz2 wf wf2 hn' hm'
  generalize ss.take n' = ss at *
  generalize ts.take m' = ts at *
  go_enter Try.func4, Try.ntmps4
  go_wp2
  go_quiet (fail)
  have b0 := below_dr w.heap.size w nq
  have HS0 := Lib.hid (HS.out.below b0)
  have HT0 := Lib.hid (HT.out.below b0)
  have B0 := Lib.hid b0
  clear b0
  generalize w.drewN nq = w0 at *
  go_wp2_with fail
  go_at_call 8
  refine (of_any _ _ _ _ true (by omega) _ HS0.out).mono ?_
  rintro e w1 ⟨X, cx, rfl, -, -, h1, b1⟩
  have HS1 := Lib.hid (HS0.out.below b1)
  have HT1 := Lib.hid (HT0.out.below b1)
  have HX1 := Lib.hid h1
  have B1 := Lib.hid (B0.out.trans (b1.mono B0.out.size))
  clear h1 b1
  go_wp2_with fail
  go_at_call 8
  refine (of_any _ _ _ _ false (by omega) _ HS1.out).mono ?_
  rintro e w2 ⟨Y, cy, rfl, -, -, h2, b2⟩
  have HT2 := Lib.hid (HT1.out.below b2)
  have HX2 := Lib.hid (HX1.out.below b2)
  have HY2 := Lib.hid h2
  have B2 := Lib.hid (B1.out.trans (b2.mono B1.out.size))
  have hls := Lib.hid (show ss.length = n' from HS.out.len)
  clear h2 b2
  go_wp2
  go_loopw [39] (fun i wr => ∃ k : Nat, k ≤ n' ∧ i = .int .i64 k ∧ Below w2.heap.size w2 wr) (fun i _ => n' - (intOf i).toNat)
  case atStart => exact ⟨0, Nat.zero_le _, rfl, Below.refl _ _⟩
  case round =>
    obtain ⟨k, hk, rfl, hb⟩ := hrel
    have HB := Lib.hid hb
    clear hb
    by_cases hlt : k < n'
    · obtain ⟨s, hsk⟩ : ∃ s, ss[k]? = some s := ⟨_, List.getElem?_eq_getElem (by rw [hls.out]; exact hlt)⟩
      have hx : (ss.map (evOf true))[k]? = some (evOf true s) := by rw [List.getElem?_map, hsk]; rfl
      have hy : (ss.map (evOf false))[k]? = some (evOf false s) := by rw [List.getElem?_map, hsk]; rfl
      obtain ⟨pa, hpa, _, a0, a1, a2, a3, a4, a5⟩ := (HX2.out.below HB.out).at_ hx
      obtain ⟨pb, hpb, hbo⟩ := Six.fresh (HY2.out.below HB.out) hy
      have b0 := fun o => (hbo o).1
      have b1 := fun o => (hbo o).2.1
      have b2 := fun o => (hbo o).2.2.1
      have b3 := fun o => (hbo o).2.2.2.1
      have b4 := fun o => (hbo o).2.2.2.2.1
      have b5 := fun o => (hbo o).2.2.2.2.2
      have e1 : (evOf false s).pc = (evOf true s).pc := rfl
      have e2 : (evOf false s).addr = (evOf true s).addr := rfl
      have e3 : (evOf false s).size = (evOf true s).size := rfl
      have e4 : (evOf false s).took = (evOf true s).took := rfl
      have e5 : (evOf false s).loaded = 0 := rfl
      have e6 : (evOf false s).halt = (evOf true s).halt := rfl
      rw [e1] at b0
      rw [e2] at b1
      rw [e3] at b2
      rw [e4] at b3
      rw [e5] at b4
      rw [e6] at b5
      subst hpa hpb
      obtain ⟨x, hxE⟩ : ∃ x, evOf true s = x := ⟨_, rfl⟩
      rw [hxE] at a0 a1 a2 a3 a4 a5 b0 b1 b2 b3 b5
      obtain ⟨xpc, xaddr, xsize, xtook, xloaded, xhalt⟩ := x
      simp only at a0 a1 a2 a3 a4 a5 b0 b1 b2 b3 b5
      have hq := fun wx => run_neq_ev ⟨xpc, xaddr, xsize, xtook, 0, xhalt⟩ ⟨xpc, xaddr, xsize, xtook, 0, xhalt⟩ true (by simp) wx
      simp only [Bool.not_true] at hq
      clear hbo hx hy hxE e1 e2 e3 e4 e5 e6 hsk
      go_wp2
      go_quiet (fail)
      go_wp2
      go_roundw
      case rel => exact ⟨k + 1, by omega, by go_num, (HB.out.alloc (by exact HB.out.size) _).trans (below_dr _ _ _)⟩
      case measure => simp [intOf]; omega
    · obtain rfl : k = n' := by omega
      have HT3 := Lib.hid (HT2.out.below HB.out)
      have HX3 := Lib.hid (HX2.out.below HB.out)
      have B3 := Lib.hid (B2.out.trans (HB.out.mono B2.out.size))
      have hsl := sameL_le (ss.map (evOf true)) (ts.map (evOf true))
      have htl : (ts.map (evOf true)).length = m' := by rw [List.length_map]; exact HT.out.len
      have hxl : (ss.map (evOf true)).length = k := by rw [List.length_map]; exact hls.out
      rw [htl, hxl] at hsl
      have hcm := sameL_comm (ts.map (evOf true)) (ss.map (evOf true))
      have hsf := sameL_self (ss.map (evOf true))
      rw [hxl] at hsf
      obtain ⟨z, hzE⟩ : ∃ z, sameL (ss.map (evOf true)) (ts.map (evOf true)) = z := ⟨_, rfl⟩
      rw [hzE] at hsl hcm
      have hzm : (z : Int) ≤ min (k : Int) (m' : Int) := by omega
      have hz1 : (z : Int) ≤ (k : Int) := by omega
      have hz2 : (z : Int) ≤ (m' : Int) := by omega
      have hzi : (z : Int) ≤ (if (m' : Int) < (k : Int) then (m' : Int) else (k : Int)) := by split <;> omega
      have hzi2 : (z : Int) ≤ (if (k : Int) < (m' : Int) then (k : Int) else (m' : Int)) := by split <;> omega
      have HZ := Lib.hid (And.intro hzE (And.intro hcm hsf))
      clear hzE hcm hsf htl hxl hsl HX2 HT2 HB
      go_wp2_with fail
      go_at_call 8
      refine (of_any _ _ _ _ true (by omega) _ HT3.out).mono ?_
      rintro e w4 ⟨Z, cz, rfl, -, -, h4, b4⟩
      have HX4 := Lib.hid (HX3.out.below b4)
      have HZ4 := Lib.hid h4
      have B4 := Lib.hid (B3.out.trans (b4.mono B3.out.size))
      clear h4 b4
      go_wp2_with fail
      go_at_call 12
      refine (same_any _ _ _ _ _ _ _ _ (by omega) (by omega) _ HX4.out HZ4.out).mono ?_
      rintro e w5 ⟨q5, rfl, rfl⟩
      rw [HZ.out.1]
      have b5 := below_dr w4.heap.size w4 q5
      have HX5 := Lib.hid (HX4.out.below b5)
      have HZ5 := Lib.hid (HZ4.out.below b5)
      have B5 := Lib.hid (B4.out.trans (b5.mono B4.out.size))
      clear b5
      generalize w4.drewN q5 = w5 at *
      go_wp2_with fail
      go_at_call 9
      refine (alive07_any _).mono ?_
      rintro e w6 ⟨rfl, b6⟩
      have HX6 := Lib.hid (HX5.out.below b6)
      have HZ6 := Lib.hid (HZ5.out.below b6)
      have B6 := Lib.hid (B5.out.trans (b6.mono B5.out.size))
      clear b6
      go_wp2_with fail
      go_at_call 12
      refine (same_any _ _ _ _ _ _ _ _ (by omega) (by omega) _ HZ6.out HX6.out).mono ?_
      rintro e w7 ⟨q7, rfl, rfl⟩
      rw [HZ.out.2.1]
      have b7 := below_dr w6.heap.size w6 q7
      have HX7 := Lib.hid (HX6.out.below b7)
      have B7 := Lib.hid (B6.out.trans (b7.mono B6.out.size))
      clear b7
      generalize w6.drewN q7 = w7 at *
      go_wp2_with fail
      all_goals
        go_at_call 12
        refine (same_any _ _ _ _ _ _ _ _ (by omega) (by omega) _ HX7.out HX7.out).mono ?_
        rintro e w8 ⟨q8, rfl, rfl⟩
        rw [HZ.out.2.2]
        have B8 := Lib.hid (B7.out.trans (below_dr _ w7 q8))
        go_wp2
        go_ret
        exact ⟨rfl, B8.out⟩

theorem own : ownKnob Try.prog.godebug = none := by kernel_rfl
theorem laidOut : laidOutB Try.prog = true := by kernel_rfl

set_option maxRecDepth 100000 in
theorem lifted (os : Os) (started : os.Started) (H : Type) (enc : TypeId × Value → H) :
    ReturnsInHanded {} Try.checked os 4 .any (Rows.traceLessSpec.pre6 enc Try.prog Try.f4 Rows.traceLessRow.domain false) (Rows.traceLessSpec.post enc Try.prog Try.f4 false true false false) := by
  refine returnsInHanded_of_change (C := Try.checked) own started (by kernel_rfl) Try.func4
    (ChangeSpec.witness6 (enc := enc) (C := Try.checked) false ⟨#[], #[Value.slice none 0 0, Value.slice none 0 0], []⟩ 8 (by kernel_rfl) (by kernel_rfl) (by kernel_rfl) (by kernel_rfl)) ?_
  intro W base args ds gs before hval0 hW hcnd _
  have hval : ∀ (j : Nat) t v, Try.f4.params[j]? = some t → args[j]? = some v → Value.okWide Try.prog W .any base t v := hval0
  have hW' := hW
  obtain ⟨p, q, hA0, hV, rfl, hfz, hnd⟩ := hW
  have hA : DataW.TrodAll enc Try.prog W 0 (fun _ => true) true Try.f4.params.toList args.toList ds p := hA0
  rw [Try.params4] at hA hval
  obtain ⟨v0, vs0, d0, ds0, p0, q0, hargs, rfl, rfl, h0, r0⟩ := trodAll_cons hA
  obtain ⟨v1, vs1, d1, ds1, p1, q1, rfl, rfl, rfl, h1, r1⟩ := trodAll_cons r0
  obtain ⟨rfl, rfl, rfl⟩ := trodAll_nil r1
  obtain rfl : args = #[v0, v1] := by cases args; simp_all
  obtain ⟨rfl, rfl⟩ := trodVars_none hV
  have hlt := hW'.lt
  have k0 := h0
  obtain ⟨a_a, a_n, a_c, a, rfl, w_a_n, w_a_c, w_a_z, w_a, w_a_wf⟩ := arg_steps (hval 0 22 v0 rfl rfl) h0
  have k1 := h1
  obtain ⟨b_a, b_n, b_c, b, rfl, w_b_n, w_b_c, w_b_z, w_b, w_b_wf⟩ := arg_steps (hval 1 22 v1 rfl rfl) h1
  clear hA0 hval0
  simp only [List.append_nil] at hW'
  refine (walk a_a a_n a_c a b_a b_n b_c b w_a_n w_a_c w_a_z w_a_wf w_b_n w_b_c w_b_z w_b_wf W w_a w_b).mono fun e W' ⟨he, bel⟩ => ?_
  subst he
  exact ⟨_, rfl, _, _, _, [], _, [], hW', trodAll_mk1 (shut_bool Try.underlying4 _), (trodAll_cons_mk (Below.trod laidOut (by kernel_rfl) (of_decide_eq_true (by kernel_rfl)) k0 bel (fun x hx => hlt x (by simp [hx]))) (trodAll_cons_mk (Below.trod laidOut (by kernel_rfl) (of_decide_eq_true (by kernel_rfl)) k1 bel (fun x hx => hlt x (by simp [hx]))) trodAll_mk0)), rfl, bel.frame _, fun h => by cases h⟩

/-- THE STATEMENT -/
theorem proved : Rows.TraceLessSaid :=
  OpenClaim.holds_of_wide 4 Try.f4 rfl rfl rfl rfl rfl rfl rfl ⟨rfl, rfl, rfl, rfl, rfl⟩ rfl rfl rfl rfl rfl (by kernel_rfl) Try.func4 (by kernel_rfl)
    (of_decide_eq_true (by kernel_rfl)) (by unfold Func.isWrapper; first | (rw [if_pos (by decide +kernel)]; kernel_rfl) | (rw [if_neg (by decide +kernel)]; exact ⟨rfl, rfl⟩))
    (fun os started H enc _ => lifted os started H enc)
#print axioms proved
end Go.Proofs.Ytjhkebabbldfcaa.traceLess
