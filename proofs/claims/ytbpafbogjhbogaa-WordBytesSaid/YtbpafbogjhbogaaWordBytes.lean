/- Proved: the statement of WordBytes (auspexlaw01): so many bytes of any word, and the word of any bytes, is as the reference says, or refused; for every input; no condition. -/
import Derived.Test.YtbpafbogjhbogaaRows
import Derived.Test.YtbpafbogjhbogaaWordB
import Derived.OpenShut
import Derived.ShutString
namespace Go.Proofs.Ytbpafbogjhbogaa.wordBytes
open Go.ChangeShapes Go.WideShapes Go.ChangeAt Go.RowKit
open Go.ChangeMaps (open_string shut_string)
set_option linter.unusedVariables false

set_option maxHeartbeats 1000000 in
theorem walk (a n : Int) (s : ByteArray) (wa : (Lit.int .u32 a).wf = true) (wn : (Lit.int .i64 n).wf = true) (ws : s.size ≤ maxLen) (w : World) :
    Calls Try.prog 4 #[.int .u32 a, .int .i64 n, .string s] w fun e w' => e = .returned (.bool true) ∧ Below w.heap.size w w' := by
  obtain ⟨ha, ha'⟩ := bounds_u32 wa
  have hs : s.size ≤ 9223372036854775807 := by unfold maxLen at ws; exact ws
  clear ws
  obtain ⟨t, T⟩ : ∃ t, Hid ((if 0 ≤ n ∧ n ≤ 4 then strOfNums (bytL a n.toNat) else ByteArray.empty) = t) := ⟨_, Lib.hid rfl⟩
  obtain ⟨c, C⟩ : ∃ c, Hid ((if 0 ≤ n ∧ n ≤ 4 then (0 : Int) else 1) = c) := ⟨_, Lib.hid rfl⟩
  obtain ⟨j, J⟩ : ∃ j, Hid ((if s.size ≤ 4 then joinN s.data.toList else 0 : Nat) = j) := ⟨_, Lib.hid rfl⟩
  obtain ⟨d, D⟩ : ∃ d, Hid ((if s.size ≤ 4 then (0 : Int) else 2) = d) := ⟨_, Lib.hid rfl⟩
  go_enter Try.func4, Try.ntmps4
  go_wp2_with (first
    | (go_at_call 24; refine (alive01_any _).mono ?_; rintro e w1 ⟨rfl, hb1⟩)
    | (go_at_call 31; refine (bytes_any _ _ ha (by omega) _).mono ?_; rintro e w2 ⟨rfl, hb2⟩; rw [T.out, C.out])
    | (go_at_call 32; refine (refBytes_any _ _ ha _).mono ?_; rintro e w3 ⟨rfl, hb3⟩; rw [T.out, C.out])
    | (go_at_call 33; refine (join_any _ hs _).mono ?_; rintro e w4 ⟨rfl, hb4⟩; rw [J.out, D.out])
    | (go_at_call 34; refine (refJoin_any _ hs _).mono ?_; rintro e w5 ⟨rfl, rfl⟩; rw [J.out, D.out]))
  go_ret
  exact ⟨rfl, by repeat (first | exact Below.refl _ _ | refine bthen ?_ (by assumption))⟩

theorem own : ownKnob Try.prog.godebug = none := by kernel_rfl

set_option maxRecDepth 100000 in
theorem lifted (os : Os) (started : os.Started) (H : Type) (enc : TypeId × Value → H) :
    ReturnsInHanded {} Try.checked os 4 .any (Rows.wordBytesSpec.pre6 enc Try.prog Try.f4 Rows.wordBytesRow.domain false) (Rows.wordBytesSpec.post enc Try.prog Try.f4 false true false false) := by
  refine returnsInHanded_of_change (C := Try.checked) own started (by kernel_rfl) Try.func4
    (ChangeSpec.witness6 (enc := enc) (C := Try.checked) false ⟨#[], #[.int .u32 0, .int .i64 0, .string ByteArray.empty], []⟩ 8 (by kernel_rfl) (by kernel_rfl) (by kernel_rfl) (by kernel_rfl)) ?_
  intro W base args ds gs before hval0 hW hcnd _
  have hval : ∀ (j : Nat) t v, Try.f4.params[j]? = some t → args[j]? = some v → Value.okWide Try.prog W .any base t v := hval0
  have hW' := hW
  obtain ⟨p, q, hA0, hV, rfl, hfz, hnd⟩ := hW
  have hA : DataW.TrodAll enc Try.prog W 0 (fun _ => true) true Try.f4.params.toList args.toList ds p := hA0
  rw [Try.params4] at hA hval
  obtain ⟨v0, vs0, d0, ds0, p0, q0, hargs, rfl, rfl, h0, r0⟩ := trodAll_cons hA
  obtain ⟨v1, vs1, d1, ds1, p1, q1, rfl, rfl, rfl, h1, r1⟩ := trodAll_cons r0
  obtain ⟨v2, vs2, d2, ds2, p2, q2, rfl, rfl, rfl, h2, r2⟩ := trodAll_cons r1
  obtain ⟨rfl, rfl, rfl⟩ := trodAll_nil r2
  obtain rfl : args = #[v0, v1, v2] := by cases args; simp_all
  obtain ⟨rfl, rfl⟩ := trodVars_none hV
  obtain ⟨a, rfl, rfl, rfl, w_a⟩ := open_int Try.underlying22 (hval 0 22 v0 rfl rfl) h0
  obtain ⟨n, rfl, rfl, rfl, w_n⟩ := open_int Try.underlying3 (hval 1 3 v1 rfl rfl) h1
  obtain ⟨s, rfl, rfl, rfl, w_s⟩ := open_string Try.underlying9 (hval 2 9 v2 rfl rfl) h2
  clear hA0 hval0
  simp only [List.append_nil] at hW'
  refine (walk a n s w_a w_n w_s W).mono fun e W' ⟨he, bel⟩ => ?_
  subst he
  exact ⟨_, rfl, _, _, _, [], _, [], hW', trodAll_mk1 (shut_bool Try.underlying4 _), (trodAll_cons_mk (shut_int Try.underlying22 w_a) (trodAll_cons_mk (shut_int Try.underlying3 w_n) (trodAll_cons_mk (shut_string Try.underlying9 w_s) trodAll_mk0))), rfl, bel.frame _, fun h => by cases h⟩

/-- THE STATEMENT -/
theorem proved : Rows.WordBytesSaid :=
  OpenClaim.holds_of_wide 4 Try.f4 rfl rfl rfl rfl rfl rfl rfl ⟨rfl, rfl, rfl, rfl, rfl⟩ rfl rfl rfl rfl rfl (by kernel_rfl) Try.func4 (by kernel_rfl)
    (of_decide_eq_true (by kernel_rfl)) (by unfold Func.isWrapper; first | (rw [if_pos (by decide +kernel)]; kernel_rfl) | (rw [if_neg (by decide +kernel)]; exact ⟨rfl, rfl⟩))
    (fun os started H enc _ => lifted os started H enc)
#print axioms proved
end Go.Proofs.Ytbpafbogjhbogaa.wordBytes
