/- Proved: the statement of MemTwo (auspexlaw05): two writes that have no place in common are done in either order; a write done twice is the write; for every input; no condition. -/
import Derived.Test.YtlfdhdioaglieaaRows
import Derived.Test.YtlfdhdioaglieaaMemM
import Derived.OpenShut
import Derived.ShutString
namespace Go.Proofs.Ytlfdhdioaglieaa.memTwo
open Go.ChangeShapes Go.WideShapes Go.ChangeAt Go.RowKit
open Go.ChangeMaps (open_string shut_string)
set_option linter.unusedVariables false

set_option maxHeartbeats 2000000
theorem walk (m : ByteArray) (a b : Int) (x y : ByteArray) (wm : m.size ≤ maxLen) (wa : (Lit.int .u32 a).wf = true) (wb : (Lit.int .u32 b).wf = true) (wx : x.size ≤ maxLen) (wy : y.size ≤ maxLen) (W : World) :
    Calls Try.prog 5 #[.string m, .int .u32 a, .int .u32 b, .string x, .string y] W fun e W' => e = .returned (.bool true) ∧ Below W.heap.size W W' := by
  have ha := bounds_u32 wa
  have hb := bounds_u32 wb
  clear wa wb
  have HM := Lib.hid (short_any m wm W)
  have HX := Lib.hid (short_any x wx W)
  have HY := Lib.hid (short_any y wy W)
  clear wm wx wy
  go_enter Try.func5, Try.ntmps5
  go_wp2_with fail
  refine HM.out.mono ?_
  rintro e w0 ⟨m, sm, rfl, rfl⟩
  go_wp2_with fail
  refine HX.out.mono ?_
  rintro e w0 ⟨x, sx, rfl, rfl⟩
  go_wp2_with fail
  refine HY.out.mono ?_
  rintro e w0 ⟨y, sy, rfl, rfl⟩
  clear HM HX HY
  go_wp2_with fail
  refine (write_any m a x (by omega) (by omega) (by omega) (by omega) _).mono ?_
  rintro e w1 ⟨rfl, hb1⟩
  cases hx : rtB m.size a x.size
  · clear hx
    go_wp2_with fail
    refine (alive05_any _).mono ?_
    rintro e w2 ⟨rfl, b2⟩
    have hb2 := hb1.trans (b2.mono hb1.size)
    clear b2 hb1
    go_wp2
    go_ret
    exact ⟨rfl, hb2⟩
  · obtain ⟨f1, f2, f3⟩ := rtB_facts hx
    have n1 : a.toNat + x.size ≤ m.size := by omega
    have E1 := Lib.hid (wr_size m x a.toNat n1)
    have E2 := Lib.hid (wr_twice m x a.toNat n1)
    have E3 := Lib.hid (fun (hy : b.toNat + y.size ≤ m.size) (hd : a.toNat + x.size ≤ b.toNat ∨ b.toNat + y.size ≤ a.toNat) => wr_comm m x y a.toNat b.toNat n1 hy hd)
    have hx' := Lib.hid hx
    clear f1 f2 hx
    simp only [if_true]
    generalize hone : wrS m x a.toNat = one at *
    have Hone := Lib.hid hone
    clear hone
    have so : one.size ≤ 600 := by rw [E1.out]; omega
    go_wp2_with fail
    refine (write_any one a x (by omega) (by omega) (by omega) (by omega) _).mono ?_
    rintro e w2 ⟨rfl, b2⟩
    have hb2 := hb1.trans (b2.mono hb1.size)
    clear b2 hb1
    rw [E1.out, hx'.out, E2.out]
    simp only [if_true]
    go_wp2_with fail
    refine (alive05_any _).mono ?_
    rintro e w3 ⟨rfl, b3⟩
    have hb3 := hb2.trans (b3.mono hb2.size)
    clear b3 hb2
    go_wp2_with fail
    refine (write_any m b y (by omega) (by omega) (by omega) (by omega) _).mono ?_
    rintro e w4 ⟨rfl, b4⟩
    have hb4 := hb3.trans (b4.mono hb3.size)
    clear b4 hb3
    cases hy : rtB m.size b y.size
    · clear hy
      go_wp2
      go_ret
      exact ⟨rfl, hb4⟩
    · obtain ⟨f1, f2, f4⟩ := rtB_facts hy
      have n2 : b.toNat + y.size ≤ m.size := by omega
      have E4 := Lib.hid (wr_size m y b.toNat n2)
      have hy' := Lib.hid hy
      clear f1 f2 hy
      simp only [if_true]
      replace E3 := Lib.hid (E3.out n2)
      generalize hoth : wrS m y b.toNat = other at *
      have so : other.size ≤ 600 := by rw [E4.out]; omega
      have Hoth := Lib.hid hoth
      clear hoth
      by_cases c1 : a < b + y.size
      · by_cases c2 : b < a + x.size
        · have d1 : decide (a < b + y.size) = true := by simp [c1]
          have d2 : decide (b < a + x.size) = true := by simp [c2]
          clear c1 c2
          go_wp2
          go_ret
          exact ⟨rfl, hb4⟩
        · have d1 : decide (a < b + y.size) = true := by simp [c1]
          have d2 : decide (b < a + x.size) = false := by simp [c2]
          have E := Lib.hid (E3.out (by omega))
          clear c1 c2 E3
          go_wp2_with fail
          refine (write_any one b y (by omega) (by omega) (by omega) (by omega) _).mono ?_
          rintro e w5 ⟨rfl, b5⟩
          have hb5 := hb4.trans (b5.mono hb4.size)
          clear b5 hb4
          rw [E1.out, hy'.out, E.out]
          simp only [if_true]
          go_wp2_with fail
          refine (write_any other a x (by omega) (by omega) (by omega) (by omega) _).mono ?_
          rintro e w6 ⟨rfl, b6⟩
          have hb6 := hb5.trans (b6.mono hb5.size)
          clear b6 hb5
          rw [E4.out, hx'.out]
          simp only [if_true]
          go_wp2
          go_ret
          exact ⟨rfl, hb6⟩
      · have d1 : decide (a < b + y.size) = false := by simp [c1]
        have E := Lib.hid (E3.out (by omega))
        clear c1 E3
        go_wp2_with fail
        refine (write_any one b y (by omega) (by omega) (by omega) (by omega) _).mono ?_
        rintro e w5 ⟨rfl, b5⟩
        have hb5 := hb4.trans (b5.mono hb4.size)
        clear b5 hb4
        rw [E1.out, hy'.out, E.out]
        simp only [if_true]
        go_wp2_with fail
        refine (write_any other a x (by omega) (by omega) (by omega) (by omega) _).mono ?_
        rintro e w6 ⟨rfl, b6⟩
        have hb6 := hb5.trans (b6.mono hb5.size)
        clear b6 hb5
        rw [E4.out, hx'.out]
        simp only [if_true]
        go_wp2
        go_ret
        exact ⟨rfl, hb6⟩

theorem own : ownKnob Try.prog.godebug = none := by kernel_rfl

set_option maxRecDepth 100000 in
theorem lifted (os : Os) (started : os.Started) (H : Type) (enc : TypeId × Value → H) :
    ReturnsInHanded {} Try.checked os 5 .any (Rows.memTwoSpec.pre6 enc Try.prog Try.f5 Rows.memTwoRow.domain false) (Rows.memTwoSpec.post enc Try.prog Try.f5 false true false false) := by
  refine returnsInHanded_of_change (C := Try.checked) own started (by kernel_rfl) Try.func5
    (ChangeSpec.witness6 (enc := enc) (C := Try.checked) false ⟨#[], #[.string ByteArray.empty, .int .u32 0, .int .u32 0, .string ByteArray.empty, .string ByteArray.empty], []⟩ 8 (by kernel_rfl) (by kernel_rfl) (by kernel_rfl) (by kernel_rfl)) ?_
  intro W base args ds gs before hval0 hW hcnd _
  have hval : ∀ (j : Nat) t v, Try.f5.params[j]? = some t → args[j]? = some v → Value.okWide Try.prog W .any base t v := hval0
  have hW' := hW
  obtain ⟨p, q, hA0, hV, rfl, hfz, hnd⟩ := hW
  have hA : DataW.TrodAll enc Try.prog W 0 (fun _ => true) true Try.f5.params.toList args.toList ds p := hA0
  rw [Try.params5] at hA hval
  obtain ⟨v0, vs0, d0, ds0, p0, q0, hargs, rfl, rfl, h0, r0⟩ := trodAll_cons hA
  obtain ⟨v1, vs1, d1, ds1, p1, q1, rfl, rfl, rfl, h1, r1⟩ := trodAll_cons r0
  obtain ⟨v2, vs2, d2, ds2, p2, q2, rfl, rfl, rfl, h2, r2⟩ := trodAll_cons r1
  obtain ⟨v3, vs3, d3, ds3, p3, q3, rfl, rfl, rfl, h3, r3⟩ := trodAll_cons r2
  obtain ⟨v4, vs4, d4, ds4, p4, q4, rfl, rfl, rfl, h4, r4⟩ := trodAll_cons r3
  obtain ⟨rfl, rfl, rfl⟩ := trodAll_nil r4
  obtain rfl : args = #[v0, v1, v2, v3, v4] := by cases args; simp_all
  obtain ⟨rfl, rfl⟩ := trodVars_none hV
  obtain ⟨m, rfl, rfl, rfl, w_m⟩ := open_string Try.underlying9 (hval 0 9 v0 rfl rfl) h0
  obtain ⟨a, rfl, rfl, rfl, w_a⟩ := open_int Try.underlying22 (hval 1 22 v1 rfl rfl) h1
  obtain ⟨b, rfl, rfl, rfl, w_b⟩ := open_int Try.underlying22 (hval 2 22 v2 rfl rfl) h2
  obtain ⟨x, rfl, rfl, rfl, w_x⟩ := open_string Try.underlying9 (hval 3 9 v3 rfl rfl) h3
  obtain ⟨y, rfl, rfl, rfl, w_y⟩ := open_string Try.underlying9 (hval 4 9 v4 rfl rfl) h4
  clear hA0 hval0
  simp only [List.append_nil] at hW'
  refine (walk m a b x y w_m w_a w_b w_x w_y W).mono fun e W' ⟨he, bel⟩ => ?_
  subst he
  exact ⟨_, rfl, _, _, _, [], _, [], hW', trodAll_mk1 (shut_bool Try.underlying4 _), (trodAll_cons_mk (shut_string Try.underlying9 w_m) (trodAll_cons_mk (shut_int Try.underlying22 w_a) (trodAll_cons_mk (shut_int Try.underlying22 w_b) (trodAll_cons_mk (shut_string Try.underlying9 w_x) (trodAll_cons_mk (shut_string Try.underlying9 w_y) trodAll_mk0))))), rfl, bel.frame _, fun h => by cases h⟩

/-- THE STATEMENT -/
theorem proved : Rows.MemTwoSaid :=
  OpenClaim.holds_of_wide 5 Try.f5 rfl rfl rfl rfl rfl rfl rfl ⟨rfl, rfl, rfl, rfl, rfl⟩ rfl rfl rfl rfl rfl (by kernel_rfl) Try.func5 (by kernel_rfl)
    (of_decide_eq_true (by kernel_rfl)) (by unfold Func.isWrapper; first | (rw [if_pos (by decide +kernel)]; kernel_rfl) | (rw [if_neg (by decide +kernel)]; exact ⟨rfl, rfl⟩))
    (fun os started H enc _ => lifted os started H enc)
#print axioms proved
end Go.Proofs.Ytlfdhdioaglieaa.memTwo
