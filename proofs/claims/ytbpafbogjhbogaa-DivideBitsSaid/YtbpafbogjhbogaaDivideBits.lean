/- Proved: the statement of DivideBits (auspexlaw04): a number has as many bits as doublings reach beyond it; twice a number has one more; for every input; no condition. -/
import Derived.Test.YtbpafbogjhbogaaRows
import Derived.Test.YtbpafbogjhbogaaDivideRef
import Derived.Test.YtbpafbogjhbogaaWordLaw
import Derived.OpenShut
namespace Go.Proofs.Ytbpafbogjhbogaa.divideBits
open Go.ChangeShapes Go.WideShapes Go.ChangeAt Go.RowKit
set_option linter.unusedVariables false

set_option maxHeartbeats 1000000 in
theorem walk (a : Int) (wa : (Lit.int .u32 a).wf = true) (w : World) :
    Calls Try.prog 23 #[.int .u32 a] w fun e w' => e = .returned (.bool true) ∧ Below w.heap.size w w' := by
  obtain ⟨ha, ha'⟩ := bounds_u32 wa
  have hle := nb_le32 (n := a.toNat) (by omega)
  have DZ := Lib.hid (show nb (0 : Int).toNat = 0 from nb_zero)
  by_cases h0 : a = 0
  · subst h0
    have N := Lib.hid (show nb (0 : Int).toNat = 0 from nb_zero)
    have D := Lib.hid nb_zero
    go_enter Try.func23, Try.ntmps23
    go_wp2_with (first
                  | (go_at_call 50; refine (alive04_any _).mono ?_; rintro e w1 ⟨rfl, hb1⟩)
                  | (go_at_call 51; refine (bits_any _ (by omega) (by omega) _).mono ?_; rintro e w6 ⟨rfl, rfl⟩; (try rw [N.out]); (try rw [D.out]); (try rw [DZ.out])))
    go_ret
    exact ⟨rfl, hb1⟩
  · have hp := two_nb_le a.toNat (by omega)
    have hl := lt_two_nb a.toNat
    have hd := nb_double a.toNat (by omega)
    have hpos : 1 ≤ nb a.toNat := by rw [nb_pos (by omega)]; omega
    have q1 : a / 2 ^ nb a.toNat = 0 := by
      refine Int.ediv_eq_zero_of_lt ha ?_
      have : ((2 : Int) ^ nb a.toNat) = ((2 ^ nb a.toNat : Nat) : Int) := by simp
      rw [this]; omega
    have q2 : a / 2 ^ (nb a.toNat - 1) = 1 := by
      have e : ((2 : Int) ^ (nb a.toNat - 1)) = ((2 ^ (nb a.toNat - 1) : Nat) : Int) := by simp
      have e2 : 2 ^ nb a.toNat = 2 ^ (nb a.toNat - 1) * 2 := by rw [← Nat.pow_succ, show (nb a.toNat - 1).succ = nb a.toNat by omega]
      rw [e]
      rw [e2] at hl
      generalize 2 ^ (nb a.toNat - 1) = P at *
      have hP : (0 : Int) < (P : Int) := by omega
      have h1 : a = (P : Int) * 1 + (a - P) := by omega
      rw [h1, Int.mul_add_ediv_left _ _ (by omega), Int.ediv_eq_zero_of_lt (by omega) (by omega)]
      rfl
    have hd2 : nb (2 * a).toNat = nb a.toNat + 1 := by rw [show (2 * a).toNat = 2 * a.toNat by omega]; exact hd
    generalize hn : nb a.toNat = n at *
    have N := Lib.hid hn
    have D := Lib.hid hd2
    have a0 : (a == 0) = false := by simpa using h0
    clear hn hp hl hd hd2
    by_cases c1 : a < 2147483648
    · have d1 : decide (2147483648 ≤ a) = false := decide_eq_false (by omega)
      by_cases c2 : n < 32
      · go_enter Try.func23, Try.ntmps23
        go_wp2_with (first
                      | (go_at_call 50; refine (alive04_any _).mono ?_; rintro e w1 ⟨rfl, hb1⟩)
                      | (go_at_call 51; refine (bits_any _ (by omega) (by omega) _).mono ?_; rintro e w6 ⟨rfl, rfl⟩; (try rw [N.out]); (try rw [D.out]); (try rw [DZ.out])))
        go_ret
        exact ⟨rfl, hb1⟩
      · go_enter Try.func23, Try.ntmps23
        go_wp2_with (first
                      | (go_at_call 50; refine (alive04_any _).mono ?_; rintro e w1 ⟨rfl, hb1⟩)
                      | (go_at_call 51; refine (bits_any _ (by omega) (by omega) _).mono ?_; rintro e w6 ⟨rfl, rfl⟩; (try rw [N.out]); (try rw [D.out]); (try rw [DZ.out])))
        go_ret
        exact ⟨rfl, hb1⟩
    · have d1 : decide (2147483648 ≤ a) = true := decide_eq_true (by omega)
      by_cases c2 : n < 32
      · go_enter Try.func23, Try.ntmps23
        go_wp2_with (first
                      | (go_at_call 50; refine (alive04_any _).mono ?_; rintro e w1 ⟨rfl, hb1⟩)
                      | (go_at_call 51; refine (bits_any _ (by omega) (by omega) _).mono ?_; rintro e w6 ⟨rfl, rfl⟩; (try rw [N.out]); (try rw [D.out]); (try rw [DZ.out])))
        go_ret
        exact ⟨rfl, hb1⟩
      · go_enter Try.func23, Try.ntmps23
        go_wp2_with (first
                      | (go_at_call 50; refine (alive04_any _).mono ?_; rintro e w1 ⟨rfl, hb1⟩)
                      | (go_at_call 51; refine (bits_any _ (by omega) (by omega) _).mono ?_; rintro e w6 ⟨rfl, rfl⟩; (try rw [N.out]); (try rw [D.out]); (try rw [DZ.out])))
        go_ret
        exact ⟨rfl, hb1⟩

theorem own : ownKnob Try.prog.godebug = none := by kernel_rfl

set_option maxRecDepth 100000 in
theorem lifted (os : Os) (started : os.Started) (H : Type) (enc : TypeId × Value → H) :
    ReturnsInHanded {} Try.checked os 23 .any (Rows.divideBitsSpec.pre6 enc Try.prog Try.f23 Rows.divideBitsRow.domain false) (Rows.divideBitsSpec.post enc Try.prog Try.f23 false true false false) := by
  refine returnsInHanded_of_change (C := Try.checked) own started (by kernel_rfl) Try.func23
    (ChangeSpec.witness6 (enc := enc) (C := Try.checked) false ⟨#[], #[.int .u32 0], []⟩ 8 (by kernel_rfl) (by kernel_rfl) (by kernel_rfl) (by kernel_rfl)) ?_
  intro W base args ds gs before hval0 hW hcnd _
  have hval : ∀ (j : Nat) t v, Try.f23.params[j]? = some t → args[j]? = some v → Value.okWide Try.prog W .any base t v := hval0
  have hW' := hW
  obtain ⟨p, q, hA0, hV, rfl, hfz, hnd⟩ := hW
  have hA : DataW.TrodAll enc Try.prog W 0 (fun _ => true) true Try.f23.params.toList args.toList ds p := hA0
  rw [Try.params23] at hA hval
  obtain ⟨v0, vs0, d0, ds0, p0, q0, hargs, rfl, rfl, h0, r0⟩ := trodAll_cons hA
  obtain ⟨rfl, rfl, rfl⟩ := trodAll_nil r0
  obtain rfl : args = #[v0] := by cases args; simp_all
  obtain ⟨rfl, rfl⟩ := trodVars_none hV
  obtain ⟨a, rfl, rfl, rfl, w_a⟩ := open_int Try.underlying22 (hval 0 22 v0 rfl rfl) h0
  clear hA0 hval0
  simp only [List.append_nil] at hW'
  refine (walk a w_a W).mono fun e W' ⟨he, bel⟩ => ?_
  subst he
  exact ⟨_, rfl, _, _, _, [], _, [], hW', trodAll_mk1 (shut_bool Try.underlying4 _), (trodAll_cons_mk (shut_int Try.underlying22 w_a) trodAll_mk0), rfl, bel.frame _, fun h => by cases h⟩

/-- THE STATEMENT -/
theorem proved : Rows.DivideBitsSaid :=
  OpenClaim.holds_of_wide 23 Try.f23 rfl rfl rfl rfl rfl rfl rfl ⟨rfl, rfl, rfl, rfl, rfl⟩ rfl rfl rfl rfl rfl (by kernel_rfl) Try.func23 (by kernel_rfl)
    (of_decide_eq_true (by kernel_rfl)) (by unfold Func.isWrapper; first | (rw [if_pos (by decide +kernel)]; kernel_rfl) | (rw [if_neg (by decide +kernel)]; exact ⟨rfl, rfl⟩))
    (fun os started H enc _ => lifted os started H enc)
#print axioms proved
end Go.Proofs.Ytbpafbogjhbogaa.divideBits
