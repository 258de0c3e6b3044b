/- Proved: the statement of MemParts (auspexlaw05): the bytes of a word are those of its halves, and a load of a half is the low or the high half of the word's load; for every input; no condition. -/
import Derived.Test.YtlfdhdioaglieaaRows
import Derived.Test.YtlfdhdioaglieaaMemL
import Derived.OpenShut
import Derived.ShutString
import Derived.Shelf.Spec.TrailingZeros
namespace Go.Proofs.Ytlfdhdioaglieaa.memParts
open Go.ChangeShapes Go.WideShapes Go.ChangeAt Go.RowKit
open Go.ChangeMaps (open_string shut_string)
set_option linter.unusedVariables false
set_option linter.unusedSimpArgs false

theorem parts (m : ByteArray) (A : Nat) (h : A + 4 ≤ m.size) :
    ∃ b0 b1 b2 b3 : UInt8, (m.extract A (A + 4)).data.toList = [b0, b1, b2, b3] ∧ (m.extract A (A + 2)).data.toList = [b0, b1] ∧ (m.extract (A + 2) (A + 4)).data.toList = [b2, b3] := by
  have hl := ba_len m
  have hd : m.data.toList.drop A = m.data.toList[A] :: m.data.toList[A + 1] :: m.data.toList[A + 2] :: m.data.toList[A + 3] :: m.data.toList.drop (A + 4) := by
    rw [List.drop_eq_getElem_cons (by omega), List.drop_eq_getElem_cons (by omega), List.drop_eq_getElem_cons (by omega), List.drop_eq_getElem_cons (by omega)]
  have hd2 : m.data.toList.drop (A + 2) = m.data.toList[A + 2] :: m.data.toList[A + 3] :: m.data.toList.drop (A + 4) := by
    rw [List.drop_eq_getElem_cons (by omega), List.drop_eq_getElem_cons (by omega)]
  refine ⟨m.data.toList[A], m.data.toList[A + 1], m.data.toList[A + 2], m.data.toList[A + 3], ?_, ?_, ?_⟩
  · rw [ex_data, List.drop_take, hd, show A + 4 - A = 4 by omega]; rfl
  · rw [ex_data, List.drop_take, hd, show A + 2 - A = 2 by omega]; rfl
  · rw [ex_data, List.drop_take, hd2, show A + 4 - (A + 2) = 2 by omega]; rfl
theorem app_data (a b : ByteArray) : (a ++ b).data.toList = a.data.toList ++ b.data.toList := by
  rw [ByteArray.data_append, Array.toList_append]
theorem and16 (a b : Int) (a0 : 0 ≤ a) (a1 : a < 65536) (b0 : 0 ≤ b) (b1 : b < 65536) : bits .and .u32 (a + 65536 * b) 65535 = a := by
  obtain ⟨x, rfl⟩ := Int.eq_ofNat_of_zero_le a0
  obtain ⟨y, rfl⟩ := Int.eq_ofNat_of_zero_le b0
  have h := bits_and_u32_nat (x + 65536 * y) 65535 (by omega) (by omega)
  rw [show ((x : Int) + 65536 * (y : Int)) = ((x + 65536 * y : Nat) : Int) by omega, show (65535 : Int) = ((65535 : Nat) : Int) from rfl, h]
  have e : (x + 65536 * y) &&& 65535 = (x + 65536 * y) % 65536 := Nat.and_two_pow_sub_one_eq_mod _ 16
  rw [e]
  omega
theorem pow16 : (2 : Int) ^ (32 - (16 : Int)).toNat = 65536 := by decide
theorem sx16 (v u : Int) (h0 : 0 ≤ v) (h1 : v < 65536) (u0 : 0 ≤ u) (u1 : u < 65536) : ((sxt v (8 * ((2 : Nat) : Int)) : Nat) : Int) = wrap32 (u + 65536 * v) / 65536 % 4294967296 := by
  have hf := sxt_form v 16 h0 (by omega) (by omega) (by omega)
  rw [pow16] at hf
  have e : (8 * ((2 : Nat) : Int)) = 16 := by omega
  rw [e, ← hf]
  unfold wrap32
  omega
/-- what the loads make of the parts -/
theorem loads (s a b : ByteArray) (b0 b1 b2 b3 : UInt8) (hs : s.data.toList = [b0, b1, b2, b3]) (ha : a.data.toList = [b0, b1]) (hb : b.data.toList = [b2, b3]) :
    s = a ++ b ∧ s.size = 4 ∧ a.size = 2 ∧ b.size = 2 ∧ ∃ va vb : Int, 0 ≤ va ∧ va < 65536 ∧ 0 ≤ vb ∧ vb < 65536 ∧ ldV 13 s = va + 65536 * vb ∧ ldV 15 a = va ∧ ldV 15 b = vb ∧ ldV 12 b = wrap32 (va + 65536 * vb) / 65536 % 4294967296 ∧ ldV 14 (s.extract 3 4) = (va + 65536 * vb) / 16777216 := by
  have h0 := b0.toNat_lt
  have h1 := b1.toNat_lt
  have h2 := b2.toNat_lt
  have h3 := b3.toNat_lt
  have z4 : s.size = 4 := by rw [← ba_len, hs]; rfl
  have z2 : a.size = 2 := by rw [← ba_len, ha]; rfl
  have z2' : b.size = 2 := by rw [← ba_len, hb]; rfl
  have he : (s.extract 3 4).data.toList = [b3] := by rw [ex_data, hs]; rfl
  have z1 : (s.extract 3 4).size = 1 := by rw [← ba_len, he]; rfl
  refine ⟨ba_ext fun k => by rw [app_data, hs, ha, hb]; rfl, z4, z2, z2', (b0.toNat + 256 * b1.toNat : Nat), (b2.toNat + 256 * b3.toNat : Nat), by omega, by omega, by omega, by omega, ?_, ?_, ?_, ?_, ?_⟩
  · unfold ldV
    rw [if_pos ⟨by decide, by rw [z4]; decide⟩, if_neg (by omega), hs]
    simp only [joinN]
    omega
  · unfold ldV
    rw [if_pos ⟨by decide, by rw [z2]; decide⟩, if_neg (by omega), ha]
    simp only [joinN]
    omega
  · unfold ldV
    rw [if_pos ⟨by decide, by rw [z2']; decide⟩, if_neg (by omega), hb]
    simp only [joinN]
    omega
  · unfold ldV
    rw [if_pos ⟨by decide, by rw [z2']; decide⟩, if_pos (by omega), hb, z2']
    have hj : joinN [b2, b3] = b2.toNat + 256 * b3.toNat := by simp only [joinN]; omega
    rw [hj]
    exact sx16 _ _ (by omega) (by omega) (by omega) (by omega)
  · unfold ldV
    rw [if_pos ⟨by decide, by rw [z1]; decide⟩, if_neg (by omega), he]
    simp only [joinN]
    omega

set_option maxHeartbeats 2000000
set_option maxRecDepth 100000
theorem walk (m : ByteArray) (addr : Int) (wm : m.size ≤ maxLen) (wa : (Lit.int .u32 addr).wf = true) (W : World) :
    Calls Try.prog 6 #[.string m, .int .u32 addr] W fun e W' => e = .returned (.bool true) ∧ Below W.heap.size W W' := by
  have ha := bounds_u32 wa
  clear wa
  have HM := Lib.hid (short_any m wm W)
  clear wm
  go_enter Try.func6, Try.ntmps6
  go_wp2_with fail
  refine HM.out.mono ?_
  rintro e w0 ⟨m, sm, rfl, rfl⟩
  clear HM
  cases hr : rtB m.size addr 4
  · have HR := Lib.hid hr
    clear hr
    go_wp2_with fail
    refine (read_any m addr 4 (by unfold maxLen; omega) (by omega) (by omega) _).mono ?_
    rintro e w0 ⟨rfl, rfl⟩
    rw [HR.out]
    simp only [if_false, Bool.false_eq_true]
    go_wp2_with fail
    refine (alive05_any _).mono ?_
    rintro e w2 ⟨rfl, hb2⟩
    go_wp2_with fail
    refine (right_any m.size addr 4 (by omega) (by unfold maxLen; omega) (by omega) (by omega) _).mono ?_
    rintro e w3 ⟨rfl, rfl⟩
    rw [HR.out]
    go_wp2
    go_ret
    exact ⟨rfl, hb2⟩
  · have HR := Lib.hid hr
    obtain ⟨g1, g2, g3⟩ := rtB_facts hr
    have HR2 := Lib.hid (show rtB m.size addr 2 = true by unfold rtB; simp; omega)
    have HR3 := Lib.hid (show rtB m.size (addr + 2) 2 = true by unfold rtB; simp; omega)
    have h4 : addr.toNat + 4 ≤ m.size := by omega
    obtain ⟨b0, b1, b2, b3, hs, hx, hy⟩ := parts m addr.toNat h4
    rw [show addr.toNat + 4 = (addr + 4).toNat by omega] at hs
    rw [show addr.toNat + 2 = (addr + 2).toNat by omega] at hx
    rw [show addr.toNat + 2 = (addr + 2).toNat by omega, show addr.toNat + 4 = (addr + 2 + 2).toNat by omega] at hy
    generalize hS : m.extract addr.toNat (addr + 4).toNat = s at hs
    generalize hA : m.extract addr.toNat (addr + 2).toNat = a at hx
    generalize hB : m.extract (addr + 2).toNat (addr + 2 + 2).toNat = b at hy
    obtain ⟨rfl, z4, z2, z2', va, vb, v0, v1, v2, v3, l1, l2, l3, l4, l5⟩ := loads s a b b0 b1 b2 b3 hs hx hy
    have k1 : bits .and .u32 (va + 65536 * vb) 65535 = va := and16 va vb v0 v1 v2 v3
    obtain ⟨W, hW⟩ : ∃ W, va + 65536 * vb = W := ⟨_, rfl⟩
    obtain ⟨x4, hx4⟩ : ∃ x, wrap32 W / 65536 % 4294967296 = x := ⟨_, rfl⟩
    obtain ⟨x5, hx5⟩ : ∃ x, W / 16777216 = x := ⟨_, rfl⟩
    rw [hW] at l1 l4 l5 k1
    rw [hx4] at l4
    rw [hx5] at l5
    have k2 : W / 65536 = vb := by omega
    have w0 : 0 ≤ W := by omega
    have w1 : W < 4294967296 := by omega
    have HW := Lib.hid hW
    clear hW
    have HS := Lib.hid hS
    have HA := Lib.hid hA
    have HB := Lib.hid hB
    have L1 := Lib.hid l1
    have L2 := Lib.hid l2
    have L3 := Lib.hid l3
    have L4 := Lib.hid l4
    have L5 := Lib.hid l5
    have Z4 := Lib.hid z4
    have y4 : (a ++ b).size ≤ 4 := by omega
    have y2 : a.size ≤ 4 := by omega
    have y2' : b.size ≤ 4 := by omega
    clear hr g1 g2 hs hx hy h4 hS hA hB l1 l2 l3 l4 l5 z4 z2 z2'
    go_wp2_with fail
    refine (read_any m addr 4 (by unfold maxLen; omega) (by omega) (by omega) _).mono ?_
    rintro e w0 ⟨rfl, rfl⟩
    rw [HR.out, HS.out]
    simp only [if_true]
    go_wp2_with fail
    refine (read_any m addr 2 (by unfold maxLen; omega) (by omega) (by omega) _).mono ?_
    rintro e w0 ⟨rfl, rfl⟩
    rw [HR2.out, HA.out]
    simp only [if_true]
    go_wp2_with fail
    refine (read_any m (addr + 2) 2 (by unfold maxLen; omega) (by omega) (by omega) _).mono ?_
    rintro e w0 ⟨rfl, rfl⟩
    rw [HR3.out, HB.out]
    simp only [if_true]
    go_wp2_with fail
    refine (load_any 13 (a ++ b) (by omega) _).mono ?_
    rintro e w1 ⟨rfl, hb⟩
    rw [L1.out]
    go_wp2_with fail
    refine (alive05_any _).mono ?_
    rintro e w2 ⟨rfl, b2⟩
    replace hb := hb.trans (b2.mono hb.size)
    clear b2
    go_wp2_with fail
    refine (load_any 15 a (by omega) _).mono ?_
    rintro e w2 ⟨rfl, b2⟩
    replace hb := hb.trans (b2.mono hb.size)
    clear b2
    rw [L2.out]
    go_wp2_with fail
    refine (load_any 15 b (by omega) _).mono ?_
    rintro e w2 ⟨rfl, b2⟩
    replace hb := hb.trans (b2.mono hb.size)
    clear b2
    rw [L3.out]
    go_wp2_with fail
    refine (load_any 12 b (by omega) _).mono ?_
    rintro e w2 ⟨rfl, b2⟩
    replace hb := hb.trans (b2.mono hb.size)
    clear b2
    rw [L4.out]
    have hsl : ∀ wx : World, (Instr.slice 9 (.string (a ++ b)) (some (.int .i64 3)) none none).run Try.prog wx = .ok (.string ((a ++ b).extract 3 4)) wx := fun wx => by
      rw [run_slice_string_l (P := Try.prog) wx 9 (a ++ b) Try.underlying9 .i64 3 (by omega) (by rw [Z4.out]; omega), Z4.out]
      rfl
    go_wp2_with fail
    refine (load_any 14 ((a ++ b).extract 3 4) (by rw [ex_size _ _ _ (by omega) (by rw [Z4.out]; omega)]; omega) _).mono ?_
    rintro e w2 ⟨rfl, b2⟩
    replace hb := hb.trans (b2.mono hb.size)
    clear b2
    rw [L5.out]
    go_wp2
    go_ret
    exact ⟨rfl, hb⟩

theorem own : ownKnob Try.prog.godebug = none := by kernel_rfl

set_option maxRecDepth 100000 in
theorem lifted (os : Os) (started : os.Started) (H : Type) (enc : TypeId × Value → H) :
    ReturnsInHanded {} Try.checked os 6 .any (Rows.memPartsSpec.pre6 enc Try.prog Try.f6 Rows.memPartsRow.domain false) (Rows.memPartsSpec.post enc Try.prog Try.f6 false true false false) := by
  refine returnsInHanded_of_change (C := Try.checked) own started (by kernel_rfl) Try.func6
    (ChangeSpec.witness6 (enc := enc) (C := Try.checked) false ⟨#[], #[.string ByteArray.empty, .int .u32 0], []⟩ 8 (by kernel_rfl) (by kernel_rfl) (by kernel_rfl) (by kernel_rfl)) ?_
  intro W base args ds gs before hval0 hW hcnd _
  have hval : ∀ (j : Nat) t v, Try.f6.params[j]? = some t → args[j]? = some v → Value.okWide Try.prog W .any base t v := hval0
  have hW' := hW
  obtain ⟨p, q, hA0, hV, rfl, hfz, hnd⟩ := hW
  have hA : DataW.TrodAll enc Try.prog W 0 (fun _ => true) true Try.f6.params.toList args.toList ds p := hA0
  rw [Try.params6] at hA hval
  obtain ⟨v0, vs0, d0, ds0, p0, q0, hargs, rfl, rfl, h0, r0⟩ := trodAll_cons hA
  obtain ⟨v1, vs1, d1, ds1, p1, q1, rfl, rfl, rfl, h1, r1⟩ := trodAll_cons r0
  obtain ⟨rfl, rfl, rfl⟩ := trodAll_nil r1
  obtain rfl : args = #[v0, v1] := by cases args; simp_all
  obtain ⟨rfl, rfl⟩ := trodVars_none hV
  obtain ⟨m, rfl, rfl, rfl, w_m⟩ := open_string Try.underlying9 (hval 0 9 v0 rfl rfl) h0
  obtain ⟨addr, rfl, rfl, rfl, w_addr⟩ := open_int Try.underlying22 (hval 1 22 v1 rfl rfl) h1
  clear hA0 hval0
  simp only [List.append_nil] at hW'
  refine (walk m addr w_m w_addr W).mono fun e W' ⟨he, bel⟩ => ?_
  subst he
  exact ⟨_, rfl, _, _, _, [], _, [], hW', trodAll_mk1 (shut_bool Try.underlying4 _), (trodAll_cons_mk (shut_string Try.underlying9 w_m) (trodAll_cons_mk (shut_int Try.underlying22 w_addr) trodAll_mk0)), rfl, bel.frame _, fun h => by cases h⟩

/-- THE STATEMENT -/
theorem proved : Rows.MemPartsSaid :=
  OpenClaim.holds_of_wide 6 Try.f6 rfl rfl rfl rfl rfl rfl rfl ⟨rfl, rfl, rfl, rfl, rfl⟩ rfl rfl rfl rfl rfl (by kernel_rfl) Try.func6 (by kernel_rfl)
    (of_decide_eq_true (by kernel_rfl)) (by unfold Func.isWrapper; first | (rw [if_pos (by decide +kernel)]; kernel_rfl) | (rw [if_neg (by decide +kernel)]; exact ⟨rfl, rfl⟩))
    (fun os started H enc _ => lifted os started H enc)
#print axioms proved
end Go.Proofs.Ytlfdhdioaglieaa.memParts
