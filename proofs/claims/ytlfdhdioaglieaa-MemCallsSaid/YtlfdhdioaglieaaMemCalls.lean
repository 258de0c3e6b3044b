/- Proved: the statement of MemCalls (auspexlaw05): which addresses may be, and what reading and writing make of any bytes at any address, or that it is refused, is as the reference says; for every input; no condition. -/
import Derived.Test.YtlfdhdioaglieaaRows
import Derived.Test.YtlfdhdioaglieaaMemR
import Derived.OpenShut
import Derived.ShutString
namespace Go.Proofs.Ytlfdhdioaglieaa.memCalls
open Go.ChangeShapes Go.WideShapes Go.ChangeAt Go.RowKit
open Go.ChangeMaps (open_string shut_string)
set_option linter.unusedVariables false
set_option linter.unusedSimpArgs false

set_option maxHeartbeats 2000000
theorem walk (m : ByteArray) (addr many : Int) (b : ByteArray) (wm : m.size ≤ maxLen) (wa : (Lit.int .u32 addr).wf = true) (wn : (Lit.int .i64 many).wf = true) (wb : b.size ≤ maxLen) (W : World) :
    Calls Try.prog 3 #[.string m, .int .u32 addr, .int .i64 many, .string b] W fun e W' => e = .returned (.bool true) ∧ Below W.heap.size W W' := by
  have ha := bounds_u32 wa
  clear wa wn
  have HM := Lib.hid (short_any m wm W)
  have HB := Lib.hid (short_any b wb W)
  clear wm wb
  go_enter Try.func3, Try.ntmps3
  go_wp2_with fail
  refine HM.out.mono ?_
  rintro e w0 ⟨m, sm, rfl, rfl⟩
  go_wp2_with fail
  refine HB.out.mono ?_
  rintro e w0 ⟨b, sb, rfl, rfl⟩
  clear HM HB
  cases hr : rtB m.size addr many
  · have HR := Lib.hid hr
    cases hw : rtB m.size addr b.size
    · have HW := Lib.hid hw
      clear hr hw
      go_wp2_with fail
      refine (read_any m addr many (by unfold maxLen; omega) (by omega) (by omega) _).mono ?_
      rintro e w0 ⟨rfl, rfl⟩
      rw [HR.out]
      simp only [if_true, if_false, Bool.false_eq_true]
      go_wp2_with fail
      refine (write_any m addr b (by omega) (by omega) (by omega) (by omega) _).mono ?_
      rintro e w1 ⟨rfl, hb1⟩
      rw [HW.out]
      simp only [if_true, if_false, Bool.false_eq_true]
      go_wp2_with fail
      refine (right_any m.size addr many (by omega) (by unfold maxLen; omega) (by omega) (by omega) _).mono ?_
      rintro e w2 ⟨rfl, rfl⟩
      rw [HR.out]
      go_wp2_with fail
      refine (refRight_any m.size addr many (by omega) (by unfold maxLen; omega) (by omega) (by omega) _).mono ?_
      rintro e w2 ⟨rfl, rfl⟩
      rw [HR.out]
      go_wp2_with fail
      refine (alive05_any _).mono ?_
      rintro e w2 ⟨rfl, b2⟩
      have hb2 := hb1.trans (b2.mono hb1.size)
      clear b2 hb1
      go_wp2_with fail
      refine (refRight_any m.size addr many (by omega) (by unfold maxLen; omega) (by omega) (by omega) _).mono ?_
      rintro e w3 ⟨rfl, rfl⟩
      rw [HR.out]
      go_wp2_with fail
      refine (refRight_any m.size addr b.size (by omega) (by unfold maxLen; omega) (by omega) (by omega) _).mono ?_
      rintro e w3 ⟨rfl, rfl⟩
      rw [HW.out]
      go_wp2
      go_ret
      exact ⟨rfl, hb2⟩
    · have HW := Lib.hid hw
      obtain ⟨f1, f2, f3⟩ := rtB_facts hw
      clear f1 f2
      clear hr hw
      go_wp2_with fail
      refine (read_any m addr many (by unfold maxLen; omega) (by omega) (by omega) _).mono ?_
      rintro e w0 ⟨rfl, rfl⟩
      rw [HR.out]
      simp only [if_true, if_false, Bool.false_eq_true]
      go_wp2_with fail
      refine (write_any m addr b (by omega) (by omega) (by omega) (by omega) _).mono ?_
      rintro e w1 ⟨rfl, hb1⟩
      rw [HW.out]
      simp only [if_true, if_false, Bool.false_eq_true]
      go_wp2_with fail
      refine (right_any m.size addr many (by omega) (by unfold maxLen; omega) (by omega) (by omega) _).mono ?_
      rintro e w2 ⟨rfl, rfl⟩
      rw [HR.out]
      go_wp2_with fail
      refine (refRight_any m.size addr many (by omega) (by unfold maxLen; omega) (by omega) (by omega) _).mono ?_
      rintro e w2 ⟨rfl, rfl⟩
      rw [HR.out]
      go_wp2_with fail
      refine (alive05_any _).mono ?_
      rintro e w2 ⟨rfl, b2⟩
      have hb2 := hb1.trans (b2.mono hb1.size)
      clear b2 hb1
      go_wp2_with fail
      refine (refRight_any m.size addr many (by omega) (by unfold maxLen; omega) (by omega) (by omega) _).mono ?_
      rintro e w3 ⟨rfl, rfl⟩
      rw [HR.out]
      go_wp2_with fail
      refine (refRight_any m.size addr b.size (by omega) (by unfold maxLen; omega) (by omega) (by omega) _).mono ?_
      rintro e w3 ⟨rfl, rfl⟩
      rw [HW.out]
      go_wp2_with fail
      refine (refWrite_any m addr b (by omega) (by omega) (by omega) _).mono ?_
      rintro e w3 ⟨rfl, b3⟩
      have hb3 := hb2.trans (b3.mono hb2.size)
      clear b3 hb2
      generalize wrS m b addr.toNat = piece' at *
      go_wp2
      go_ret
      exact ⟨rfl, hb3⟩
  · have HR := Lib.hid hr
    obtain ⟨g1, g2, g3⟩ := rtB_facts hr
    have g0 : 0 ≤ many := by omega
    clear g1 g2
    cases hw : rtB m.size addr b.size
    · have HW := Lib.hid hw
      clear hr hw
      go_wp2_with fail
      refine (read_any m addr many (by unfold maxLen; omega) (by omega) (by omega) _).mono ?_
      rintro e w0 ⟨rfl, rfl⟩
      rw [HR.out]
      simp only [if_true, if_false, Bool.false_eq_true]
      go_wp2_with fail
      refine (write_any m addr b (by omega) (by omega) (by omega) (by omega) _).mono ?_
      rintro e w1 ⟨rfl, hb1⟩
      rw [HW.out]
      simp only [if_true, if_false, Bool.false_eq_true]
      go_wp2_with fail
      refine (right_any m.size addr many (by omega) (by unfold maxLen; omega) (by omega) (by omega) _).mono ?_
      rintro e w2 ⟨rfl, rfl⟩
      rw [HR.out]
      go_wp2_with fail
      refine (refRight_any m.size addr many (by omega) (by unfold maxLen; omega) (by omega) (by omega) _).mono ?_
      rintro e w2 ⟨rfl, rfl⟩
      rw [HR.out]
      go_wp2_with fail
      refine (alive05_any _).mono ?_
      rintro e w2 ⟨rfl, b2⟩
      have hb2 := hb1.trans (b2.mono hb1.size)
      clear b2 hb1
      go_wp2_with fail
      refine (refRight_any m.size addr many (by omega) (by unfold maxLen; omega) (by omega) (by omega) _).mono ?_
      rintro e w3 ⟨rfl, rfl⟩
      rw [HR.out]
      go_wp2_with fail
      refine (refRead_any m addr many (by omega) (by omega) (by omega) (by omega) _).mono ?_
      rintro e w3 ⟨rfl, rfl⟩
      generalize m.extract addr.toNat (addr + many).toNat = piece at *
      go_wp2_with fail
      refine (refRight_any m.size addr b.size (by omega) (by unfold maxLen; omega) (by omega) (by omega) _).mono ?_
      rintro e w3 ⟨rfl, rfl⟩
      rw [HW.out]
      go_wp2
      go_ret
      exact ⟨rfl, hb2⟩
    · have HW := Lib.hid hw
      obtain ⟨f1, f2, f3⟩ := rtB_facts hw
      clear f1 f2
      clear hr hw
      go_wp2_with fail
      refine (read_any m addr many (by unfold maxLen; omega) (by omega) (by omega) _).mono ?_
      rintro e w0 ⟨rfl, rfl⟩
      rw [HR.out]
      simp only [if_true, if_false, Bool.false_eq_true]
      go_wp2_with fail
      refine (write_any m addr b (by omega) (by omega) (by omega) (by omega) _).mono ?_
      rintro e w1 ⟨rfl, hb1⟩
      rw [HW.out]
      simp only [if_true, if_false, Bool.false_eq_true]
      go_wp2_with fail
      refine (right_any m.size addr many (by omega) (by unfold maxLen; omega) (by omega) (by omega) _).mono ?_
      rintro e w2 ⟨rfl, rfl⟩
      rw [HR.out]
      go_wp2_with fail
      refine (refRight_any m.size addr many (by omega) (by unfold maxLen; omega) (by omega) (by omega) _).mono ?_
      rintro e w2 ⟨rfl, rfl⟩
      rw [HR.out]
      go_wp2_with fail
      refine (alive05_any _).mono ?_
      rintro e w2 ⟨rfl, b2⟩
      have hb2 := hb1.trans (b2.mono hb1.size)
      clear b2 hb1
      go_wp2_with fail
      refine (refRight_any m.size addr many (by omega) (by unfold maxLen; omega) (by omega) (by omega) _).mono ?_
      rintro e w3 ⟨rfl, rfl⟩
      rw [HR.out]
      go_wp2_with fail
      refine (refRead_any m addr many (by omega) (by omega) (by omega) (by omega) _).mono ?_
      rintro e w3 ⟨rfl, rfl⟩
      generalize m.extract addr.toNat (addr + many).toNat = piece at *
      go_wp2_with fail
      refine (refRight_any m.size addr b.size (by omega) (by unfold maxLen; omega) (by omega) (by omega) _).mono ?_
      rintro e w3 ⟨rfl, rfl⟩
      rw [HW.out]
      go_wp2_with fail
      refine (refWrite_any m addr b (by omega) (by omega) (by omega) _).mono ?_
      rintro e w3 ⟨rfl, b3⟩
      have hb3 := hb2.trans (b3.mono hb2.size)
      clear b3 hb2
      generalize wrS m b addr.toNat = piece' at *
      go_wp2
      go_ret
      exact ⟨rfl, hb3⟩

theorem own : ownKnob Try.prog.godebug = none := by kernel_rfl

set_option maxRecDepth 100000 in
theorem lifted (os : Os) (started : os.Started) (H : Type) (enc : TypeId × Value → H) :
    ReturnsInHanded {} Try.checked os 3 .any (Rows.memCallsSpec.pre6 enc Try.prog Try.f3 Rows.memCallsRow.domain false) (Rows.memCallsSpec.post enc Try.prog Try.f3 false true false false) := by
  refine returnsInHanded_of_change (C := Try.checked) own started (by kernel_rfl) Try.func3
    (ChangeSpec.witness6 (enc := enc) (C := Try.checked) false ⟨#[], #[.string ByteArray.empty, .int .u32 0, .int .i64 0, .string ByteArray.empty], []⟩ 8 (by kernel_rfl) (by kernel_rfl) (by kernel_rfl) (by kernel_rfl)) ?_
  intro W base args ds gs before hval0 hW hcnd _
  have hval : ∀ (j : Nat) t v, Try.f3.params[j]? = some t → args[j]? = some v → Value.okWide Try.prog W .any base t v := hval0
  have hW' := hW
  obtain ⟨p, q, hA0, hV, rfl, hfz, hnd⟩ := hW
  have hA : DataW.TrodAll enc Try.prog W 0 (fun _ => true) true Try.f3.params.toList args.toList ds p := hA0
  rw [Try.params3] at hA hval
  obtain ⟨v0, vs0, d0, ds0, p0, q0, hargs, rfl, rfl, h0, r0⟩ := trodAll_cons hA
  obtain ⟨v1, vs1, d1, ds1, p1, q1, rfl, rfl, rfl, h1, r1⟩ := trodAll_cons r0
  obtain ⟨v2, vs2, d2, ds2, p2, q2, rfl, rfl, rfl, h2, r2⟩ := trodAll_cons r1
  obtain ⟨v3, vs3, d3, ds3, p3, q3, rfl, rfl, rfl, h3, r3⟩ := trodAll_cons r2
  obtain ⟨rfl, rfl, rfl⟩ := trodAll_nil r3
  obtain rfl : args = #[v0, v1, v2, v3] := by cases args; simp_all
  obtain ⟨rfl, rfl⟩ := trodVars_none hV
  obtain ⟨m, rfl, rfl, rfl, w_m⟩ := open_string Try.underlying9 (hval 0 9 v0 rfl rfl) h0
  obtain ⟨addr, rfl, rfl, rfl, w_addr⟩ := open_int Try.underlying22 (hval 1 22 v1 rfl rfl) h1
  obtain ⟨many, rfl, rfl, rfl, w_many⟩ := open_int Try.underlying3 (hval 2 3 v2 rfl rfl) h2
  obtain ⟨bytes, rfl, rfl, rfl, w_bytes⟩ := open_string Try.underlying9 (hval 3 9 v3 rfl rfl) h3
  clear hA0 hval0
  simp only [List.append_nil] at hW'
  refine (walk m addr many bytes w_m w_addr w_many w_bytes W).mono fun e W' ⟨he, bel⟩ => ?_
  subst he
  exact ⟨_, rfl, _, _, _, [], _, [], hW', trodAll_mk1 (shut_bool Try.underlying4 _), (trodAll_cons_mk (shut_string Try.underlying9 w_m) (trodAll_cons_mk (shut_int Try.underlying22 w_addr) (trodAll_cons_mk (shut_int Try.underlying3 w_many) (trodAll_cons_mk (shut_string Try.underlying9 w_bytes) trodAll_mk0)))), rfl, bel.frame _, fun h => by cases h⟩

/-- THE STATEMENT -/
theorem proved : Rows.MemCallsSaid :=
  OpenClaim.holds_of_wide 3 Try.f3 rfl rfl rfl rfl rfl rfl rfl ⟨rfl, rfl, rfl, rfl, rfl⟩ rfl rfl rfl rfl rfl (by kernel_rfl) Try.func3 (by kernel_rfl)
    (of_decide_eq_true (by kernel_rfl)) (by unfold Func.isWrapper; first | (rw [if_pos (by decide +kernel)]; kernel_rfl) | (rw [if_neg (by decide +kernel)]; exact ⟨rfl, rfl⟩))
    (fun os started H enc _ => lifted os started H enc)
#print axioms proved
end Go.Proofs.Ytlfdhdioaglieaa.memCalls
