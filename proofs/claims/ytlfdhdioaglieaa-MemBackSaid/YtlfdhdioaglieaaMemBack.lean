/- Proved: the statement of MemBack (auspexlaw05): what is written is read, other bytes stay; what is cleaned has a power of two of bytes, and stays, cleaned again; for every input; no condition. -/
import Derived.Test.YtlfdhdioaglieaaRows
import Derived.Test.YtlfdhdioaglieaaMemK
import Derived.OpenShut
import Derived.ShutString
import Derived.Lib.QuietBelow
namespace Go.Proofs.Ytlfdhdioaglieaa.memBack
open Go.ChangeShapes Go.WideShapes Go.ChangeAt Go.RowKit
open Go.ChangeMaps (open_string shut_string)
set_option linter.unusedVariables false
set_option linter.unusedSimpArgs false

set_option maxHeartbeats 2000000
set_option maxRecDepth 100000
theorem walk (m : ByteArray) (addr : Int) (b : ByteArray) (other : Int) (wm : m.size ≤ maxLen) (wa : (Lit.int .u32 addr).wf = true) (wb : b.size ≤ maxLen) (wo : (Lit.int .u32 other).wf = true) (W : World) :
    Calls Try.prog 4 #[.string m, .int .u32 addr, .string b, .int .u32 other] W fun e W' => e = .returned (.bool true) ∧ Below W.heap.size W W' := by
  have ha := bounds_u32 wa
  have ho := bounds_u32 wo
  clear wa wo
  have HM := Lib.hid (short_any m wm W)
  have HB := Lib.hid (short_any b wb W)
  clear wm wb
  go_enter Try.func4, Try.ntmps4
  go_wp2_with fail
  refine HM.out.mono ?_
  rintro e w0 ⟨m, sm, rfl, rfl⟩
  go_wp2_with fail
  refine HB.out.mono ?_
  rintro e w0 ⟨b, sb, rfl, rfl⟩
  clear HM HB
  go_wp2_with fail
  refine (clean_any m (by omega) _).mono ?_
  rintro e w1 ⟨rfl, hb1⟩
  have HCC := Lib.hid (clS_twice m)
  have hsz := clS_size m
  have hpr := fun k h => clS_pre m k h
  have hN := clN_of (min m.size 256)
  have hge := clN_ge (min m.size 256) (Nat.min_le_right _ _)
  generalize clS m = C at *
  by_cases hm : m.size ≤ 256
  · rw [Nat.min_eq_left hm] at hsz hN hge
    have hpre := hpr m.size (by omega)
    rw [show m.extract 0 m.size = m from ba_ext fun k => by rw [ex_get]; by_cases c : 0 + k < m.size; (rw [if_pos c, Nat.zero_add]); (rw [if_neg c, List.getElem?_eq_none (by rw [ba_len]; omega)])] at hpre
    clear hpr
    generalize clN m.size = n at *
    have n1 : decide ((n : Int) < 16) = false := by simp; omega
    have n2 : decide ((n : Int) > 256) = false := by simp; omega
    have n3 : bits .and .i64 (n : Int) ((n : Int) - 1) = 0 := by rcases hN with rfl | rfl | rfl | rfl | rfl <;> decide
    have n4 : (m.size : Int) ≤ n := by omega
    have n5 : n ≤ 256 := by omega
    clear hN
    have HC2 := Lib.hid (fun (wx : World) => (show Calls Try.prog 16 #[.string C] wx fun e w' => e = .returned (.string C) ∧ Below wx.heap.size wx w' by have := clean_any C (by omega) wx; rw [HCC.out] at this; exact this))
    go_wp2_with fail
    refine wp_region_quiet_below (by kernel_rfl) (by kernel_rfl) ?_
    repeat (go_big_quiet_step (first
      | (go_at_call 16; exact Calls.regrown_of (HC2.out _))))
    refine wpQuiet_nil ?_
    intro _ hw'
    obtain ⟨⟨nq, osq⟩, hw''⟩ := hw'
    subst hw''
    have hb := hb1.trans ((below_regrown w1 nq osq).mono hb1.size)
    generalize «Sort».grow (redrawn w1 nq) osq = w2 at *
    clear hb1 HC2
    go_wp2_with fail
    cases hw : rtB m.size addr b.size
    · have HW := Lib.hid hw
      clear hw
      refine (write_any m addr b (by omega) (by omega) (by omega) (by omega) _).mono ?_
      rintro e w3 ⟨rfl, b3⟩
      rw [HW.out]
      simp only [if_false, Bool.false_eq_true]
      replace hb := hb.trans (b3.mono hb.size)
      clear b3
      go_wp2_with fail
      refine (alive05_any _).mono ?_
      rintro e w4 ⟨rfl, b3⟩
      replace hb := hb.trans (b3.mono hb.size)
      clear b3
      go_wp2_with fail
      refine (right_any m.size addr b.size (by omega) (by unfold maxLen; omega) (by omega) (by omega) _).mono ?_
      rintro e w5 ⟨rfl, rfl⟩
      rw [HW.out]
      go_wp2
      go_ret
      exact ⟨rfl, hb⟩
    · have HW := Lib.hid hw
      obtain ⟨f1, f2, f3⟩ := rtB_facts hw
      have f4 : addr.toNat + b.size ≤ m.size := by omega
      clear f1 f2 hw
      refine (write_any m addr b (by omega) (by omega) (by omega) (by omega) _).mono ?_
      rintro e w3 ⟨rfl, b3⟩
      rw [HW.out]
      simp only [if_true]
      replace hb := hb.trans (b3.mono hb.size)
      clear b3
      have XS := Lib.hid (wr_size m b addr.toNat f4)
      have XR := Lib.hid (show (wrS m b addr.toNat).extract addr.toNat (addr + b.size).toNat = b by rw [show (addr + b.size).toNat = addr.toNat + b.size by omega]; exact wr_read m b addr.toNat f4)
      have XO := Lib.hid (fun hd => wr_other m b addr.toNat other.toNat 1 f4 hd)
      generalize wrS m b addr.toNat = x at *
      have x6 : x.size ≤ 600 := by rw [XS.out]; omega
      go_wp2_with fail
      refine (read_any x addr b.size (by unfold maxLen; omega) (by omega) (by omega) _).mono ?_
      rintro e w4 ⟨rfl, rfl⟩
      rw [XS.out, HW.out, XR.out]
      simp only [if_true]
      cases hr : rtB m.size other 1
      · have HR := Lib.hid hr
        clear hr
        go_wp2_with fail
        refine (read_any m other 1 (by unfold maxLen; omega) (by omega) (by omega) _).mono ?_
        rintro e w5 ⟨rfl, rfl⟩
        rw [HR.out]
        simp only [if_false, Bool.false_eq_true]
        go_wp2_with fail
        refine (read_any x other 1 (by unfold maxLen; omega) (by omega) (by omega) _).mono ?_
        rintro e w6 ⟨rfl, rfl⟩
        rw [XS.out, HR.out]
        simp only [if_false, Bool.false_eq_true]
        by_cases o1 : addr ≤ other
        · by_cases o2 : other - addr < b.size
          · have hxs := XS.out
            go_wp2_with fail
            refine (alive05_any _).mono ?_
            rintro e w7 ⟨rfl, b3⟩
            replace hb := hb.trans (b3.mono hb.size)
            clear b3
            go_wp2
            go_ret
            exact ⟨rfl, hb⟩
          · have hxs := XS.out
            go_wp2_with fail
            refine (alive05_any _).mono ?_
            rintro e w7 ⟨rfl, b3⟩
            replace hb := hb.trans (b3.mono hb.size)
            clear b3
            go_wp2
            go_ret
            exact ⟨rfl, hb⟩
        · have hxs := XS.out
          go_wp2_with fail
          refine (alive05_any _).mono ?_
          rintro e w7 ⟨rfl, b3⟩
          replace hb := hb.trans (b3.mono hb.size)
          clear b3
          go_wp2
          go_ret
          exact ⟨rfl, hb⟩
      · have HR := Lib.hid hr
        obtain ⟨r1, r2, r3⟩ := rtB_facts hr
        clear hr r1 r2
        have E1 : (other + 1).toNat = other.toNat + 1 := by omega
        go_wp2_with fail
        refine (read_any m other 1 (by unfold maxLen; omega) (by omega) (by omega) _).mono ?_
        rintro e w5 ⟨rfl, rfl⟩
        rw [HR.out]
        simp only [if_true]
        go_wp2_with fail
        refine (read_any x other 1 (by unfold maxLen; omega) (by omega) (by omega) _).mono ?_
        rintro e w6 ⟨rfl, rfl⟩
        rw [XS.out, HR.out]
        simp only [if_true]
        rw [E1]
        clear E1
        by_cases o1 : addr ≤ other
        · by_cases o2 : other - addr < b.size
          · generalize m.extract other.toNat (other.toNat + 1) = y1 at *
            generalize x.extract other.toNat (other.toNat + 1) = y2 at *
            have hxs := XS.out
            go_wp2_with fail
            refine (alive05_any _).mono ?_
            rintro e w7 ⟨rfl, b3⟩
            replace hb := hb.trans (b3.mono hb.size)
            clear b3
            go_wp2
            go_ret
            exact ⟨rfl, hb⟩
          · rw [XO.out (by omega)]
            generalize m.extract other.toNat (other.toNat + 1) = y1 at *
            have hxs := XS.out
            go_wp2_with fail
            refine (alive05_any _).mono ?_
            rintro e w7 ⟨rfl, b3⟩
            replace hb := hb.trans (b3.mono hb.size)
            clear b3
            go_wp2
            go_ret
            exact ⟨rfl, hb⟩
        · rw [XO.out (by omega)]
          generalize m.extract other.toNat (other.toNat + 1) = y1 at *
          have hxs := XS.out
          go_wp2_with fail
          refine (alive05_any _).mono ?_
          rintro e w7 ⟨rfl, b3⟩
          replace hb := hb.trans (b3.mono hb.size)
          clear b3
          go_wp2
          go_ret
          exact ⟨rfl, hb⟩
  · rw [Nat.min_eq_right (by omega)] at hsz hN hge
    have hpre := hpr 256 (by omega)
    have n1 : 256 < (m.size : Int) := by omega
    have n2 : bits .and .i64 256 255 = 0 := by decide
    have n3 : C.size = 256 := hsz
    have n4 : 256 < m.size := by omega
    have n5 : 256 ≤ C.size := by omega
    have hpc : C.extract 0 256 = C := ba_ext fun k => by
      rw [ex_get]
      by_cases c : 0 + k < 256
      · rw [if_pos c, Nat.zero_add]
      · rw [if_neg c, List.getElem?_eq_none (by rw [ba_len]; omega)]
    have hpre' : m.extract 0 256 = C := by rw [← hpre]; exact hpc
    clear hpr hN hge hm hsz n5 hpre
    have HC2 := Lib.hid (fun (wx : World) => (show Calls Try.prog 16 #[.string C] wx fun e w' => e = .returned (.string C) ∧ Below wx.heap.size wx w' by have := clean_any C (by omega) wx; rw [HCC.out] at this; exact this))
    go_wp2_with fail
    refine wp_region_quiet_below (by kernel_rfl) (by kernel_rfl) ?_
    repeat (go_big_quiet_step (first
      | (go_at_call 16; exact Calls.regrown_of (HC2.out _))))
    refine wpQuiet_nil ?_
    intro _ hw'
    obtain ⟨⟨nq, osq⟩, hw''⟩ := hw'
    subst hw''
    have hb := hb1.trans ((below_regrown w1 nq osq).mono hb1.size)
    generalize «Sort».grow (redrawn w1 nq) osq = w2 at *
    clear hb1 HC2
    go_wp2_with fail
    cases hw : rtB m.size addr b.size
    · have HW := Lib.hid hw
      clear hw
      refine (write_any m addr b (by omega) (by omega) (by omega) (by omega) _).mono ?_
      rintro e w3 ⟨rfl, b3⟩
      rw [HW.out]
      simp only [if_false, Bool.false_eq_true]
      replace hb := hb.trans (b3.mono hb.size)
      clear b3
      go_wp2_with fail
      refine (alive05_any _).mono ?_
      rintro e w4 ⟨rfl, b3⟩
      replace hb := hb.trans (b3.mono hb.size)
      clear b3
      go_wp2_with fail
      refine (right_any m.size addr b.size (by omega) (by unfold maxLen; omega) (by omega) (by omega) _).mono ?_
      rintro e w5 ⟨rfl, rfl⟩
      rw [HW.out]
      go_wp2
      go_ret
      exact ⟨rfl, hb⟩
    · have HW := Lib.hid hw
      obtain ⟨f1, f2, f3⟩ := rtB_facts hw
      have f4 : addr.toNat + b.size ≤ m.size := by omega
      clear f1 f2 hw
      refine (write_any m addr b (by omega) (by omega) (by omega) (by omega) _).mono ?_
      rintro e w3 ⟨rfl, b3⟩
      rw [HW.out]
      simp only [if_true]
      replace hb := hb.trans (b3.mono hb.size)
      clear b3
      have XS := Lib.hid (wr_size m b addr.toNat f4)
      have XR := Lib.hid (show (wrS m b addr.toNat).extract addr.toNat (addr + b.size).toNat = b by rw [show (addr + b.size).toNat = addr.toNat + b.size by omega]; exact wr_read m b addr.toNat f4)
      have XO := Lib.hid (fun hd => wr_other m b addr.toNat other.toNat 1 f4 hd)
      generalize wrS m b addr.toNat = x at *
      have x6 : x.size ≤ 600 := by rw [XS.out]; omega
      go_wp2_with fail
      refine (read_any x addr b.size (by unfold maxLen; omega) (by omega) (by omega) _).mono ?_
      rintro e w4 ⟨rfl, rfl⟩
      rw [XS.out, HW.out, XR.out]
      simp only [if_true]
      cases hr : rtB m.size other 1
      · have HR := Lib.hid hr
        clear hr
        go_wp2_with fail
        refine (read_any m other 1 (by unfold maxLen; omega) (by omega) (by omega) _).mono ?_
        rintro e w5 ⟨rfl, rfl⟩
        rw [HR.out]
        simp only [if_false, Bool.false_eq_true]
        go_wp2_with fail
        refine (read_any x other 1 (by unfold maxLen; omega) (by omega) (by omega) _).mono ?_
        rintro e w6 ⟨rfl, rfl⟩
        rw [XS.out, HR.out]
        simp only [if_false, Bool.false_eq_true]
        by_cases o1 : addr ≤ other
        · by_cases o2 : other - addr < b.size
          · have hxs := XS.out
            go_wp2_with fail
            refine (alive05_any _).mono ?_
            rintro e w7 ⟨rfl, b3⟩
            replace hb := hb.trans (b3.mono hb.size)
            clear b3
            go_wp2
            go_ret
            exact ⟨rfl, hb⟩
          · have hxs := XS.out
            go_wp2_with fail
            refine (alive05_any _).mono ?_
            rintro e w7 ⟨rfl, b3⟩
            replace hb := hb.trans (b3.mono hb.size)
            clear b3
            go_wp2
            go_ret
            exact ⟨rfl, hb⟩
        · have hxs := XS.out
          go_wp2_with fail
          refine (alive05_any _).mono ?_
          rintro e w7 ⟨rfl, b3⟩
          replace hb := hb.trans (b3.mono hb.size)
          clear b3
          go_wp2
          go_ret
          exact ⟨rfl, hb⟩
      · have HR := Lib.hid hr
        obtain ⟨r1, r2, r3⟩ := rtB_facts hr
        clear hr r1 r2
        have E1 : (other + 1).toNat = other.toNat + 1 := by omega
        go_wp2_with fail
        refine (read_any m other 1 (by unfold maxLen; omega) (by omega) (by omega) _).mono ?_
        rintro e w5 ⟨rfl, rfl⟩
        rw [HR.out]
        simp only [if_true]
        go_wp2_with fail
        refine (read_any x other 1 (by unfold maxLen; omega) (by omega) (by omega) _).mono ?_
        rintro e w6 ⟨rfl, rfl⟩
        rw [XS.out, HR.out]
        simp only [if_true]
        rw [E1]
        clear E1
        by_cases o1 : addr ≤ other
        · by_cases o2 : other - addr < b.size
          · generalize m.extract other.toNat (other.toNat + 1) = y1 at *
            generalize x.extract other.toNat (other.toNat + 1) = y2 at *
            have hxs := XS.out
            go_wp2_with fail
            refine (alive05_any _).mono ?_
            rintro e w7 ⟨rfl, b3⟩
            replace hb := hb.trans (b3.mono hb.size)
            clear b3
            go_wp2
            go_ret
            exact ⟨rfl, hb⟩
          · rw [XO.out (by omega)]
            generalize m.extract other.toNat (other.toNat + 1) = y1 at *
            have hxs := XS.out
            go_wp2_with fail
            refine (alive05_any _).mono ?_
            rintro e w7 ⟨rfl, b3⟩
            replace hb := hb.trans (b3.mono hb.size)
            clear b3
            go_wp2
            go_ret
            exact ⟨rfl, hb⟩
        · rw [XO.out (by omega)]
          generalize m.extract other.toNat (other.toNat + 1) = y1 at *
          have hxs := XS.out
          go_wp2_with fail
          refine (alive05_any _).mono ?_
          rintro e w7 ⟨rfl, b3⟩
          replace hb := hb.trans (b3.mono hb.size)
          clear b3
          go_wp2
          go_ret
          exact ⟨rfl, hb⟩

theorem own : ownKnob Try.prog.godebug = none := by kernel_rfl

set_option maxRecDepth 100000 in
theorem lifted (os : Os) (started : os.Started) (H : Type) (enc : TypeId × Value → H) :
    ReturnsInHanded {} Try.checked os 4 .any (Rows.memBackSpec.pre6 enc Try.prog Try.f4 Rows.memBackRow.domain false) (Rows.memBackSpec.post enc Try.prog Try.f4 false true false false) := by
  refine returnsInHanded_of_change (C := Try.checked) own started (by kernel_rfl) Try.func4
    (ChangeSpec.witness6 (enc := enc) (C := Try.checked) false ⟨#[], #[.string ByteArray.empty, .int .u32 0, .string ByteArray.empty, .int .u32 0], []⟩ 8 (by kernel_rfl) (by kernel_rfl) (by kernel_rfl) (by kernel_rfl)) ?_
  intro W base args ds gs before hval0 hW hcnd _
  have hval : ∀ (j : Nat) t v, Try.f4.params[j]? = some t → args[j]? = some v → Value.okWide Try.prog W .any base t v := hval0
  have hW' := hW
  obtain ⟨p, q, hA0, hV, rfl, hfz, hnd⟩ := hW
  have hA : DataW.TrodAll enc Try.prog W 0 (fun _ => true) true Try.f4.params.toList args.toList ds p := hA0
  rw [Try.params4] at hA hval
  obtain ⟨v0, vs0, d0, ds0, p0, q0, hargs, rfl, rfl, h0, r0⟩ := trodAll_cons hA
  obtain ⟨v1, vs1, d1, ds1, p1, q1, rfl, rfl, rfl, h1, r1⟩ := trodAll_cons r0
  obtain ⟨v2, vs2, d2, ds2, p2, q2, rfl, rfl, rfl, h2, r2⟩ := trodAll_cons r1
  obtain ⟨v3, vs3, d3, ds3, p3, q3, rfl, rfl, rfl, h3, r3⟩ := trodAll_cons r2
  obtain ⟨rfl, rfl, rfl⟩ := trodAll_nil r3
  obtain rfl : args = #[v0, v1, v2, v3] := by cases args; simp_all
  obtain ⟨rfl, rfl⟩ := trodVars_none hV
  obtain ⟨m, rfl, rfl, rfl, w_m⟩ := open_string Try.underlying9 (hval 0 9 v0 rfl rfl) h0
  obtain ⟨addr, rfl, rfl, rfl, w_addr⟩ := open_int Try.underlying22 (hval 1 22 v1 rfl rfl) h1
  obtain ⟨bytes, rfl, rfl, rfl, w_bytes⟩ := open_string Try.underlying9 (hval 2 9 v2 rfl rfl) h2
  obtain ⟨other, rfl, rfl, rfl, w_other⟩ := open_int Try.underlying22 (hval 3 22 v3 rfl rfl) h3
  clear hA0 hval0
  simp only [List.append_nil] at hW'
  refine (walk m addr bytes other w_m w_addr w_bytes w_other W).mono fun e W' ⟨he, bel⟩ => ?_
  subst he
  exact ⟨_, rfl, _, _, _, [], _, [], hW', trodAll_mk1 (shut_bool Try.underlying4 _), (trodAll_cons_mk (shut_string Try.underlying9 w_m) (trodAll_cons_mk (shut_int Try.underlying22 w_addr) (trodAll_cons_mk (shut_string Try.underlying9 w_bytes) (trodAll_cons_mk (shut_int Try.underlying22 w_other) trodAll_mk0)))), rfl, bel.frame _, fun h => by cases h⟩

/-- THE STATEMENT -/
theorem proved : Rows.MemBackSaid :=
  OpenClaim.holds_of_wide 4 Try.f4 rfl rfl rfl rfl rfl rfl rfl ⟨rfl, rfl, rfl, rfl, rfl⟩ rfl rfl rfl rfl rfl (by kernel_rfl) Try.func4 (by kernel_rfl)
    (of_decide_eq_true (by kernel_rfl)) (by unfold Func.isWrapper; first | (rw [if_pos (by decide +kernel)]; kernel_rfl) | (rw [if_neg (by decide +kernel)]; exact ⟨rfl, rfl⟩))
    (fun os started H enc _ => lifted os started H enc)
#print axioms proved
end Go.Proofs.Ytlfdhdioaglieaa.memBack
