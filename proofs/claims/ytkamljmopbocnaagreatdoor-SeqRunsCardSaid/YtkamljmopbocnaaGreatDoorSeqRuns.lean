/- Proved: the card of SeqRuns (auspexlaw06): a run is what the document's own run is: the same state, the same steps; for every input; on the world that holds the table of instructions. -/
import Derived.Test.YtkamljmopbocnaaGreatDoorCards
import Derived.Test.YtkamljmopbocnaaGreatDoorTie
import Derived.Test.YtkamljmopbocnaaGreatDoorSeqG
import Derived.Test.YtkamljmopbocnaaGreatDoorR6B
import Derived.Test.YtkamljmopbocnaaGreatDoorExecLaid
import Derived.Deep.QuietTactic
import Derived.BigQuiet
import Derived.WalkKit
import Derived.ProofKit
import Derived.OpenShut
import Derived.Deep.DeepHandedRow
import Derived.Lib.LaidTab
import Derived.ChangeMaps5
namespace Go.Proofs.YtkamljmopbocnaaGreatDoor.seqRuns
open Go.ChangeShapes Go.WideShapes Go.ChangeAt Go.RowKit
open Go.ChangeMaps (open_string shut_string)
set_option linter.unusedVariables false
set_option linter.unusedSimpArgs false
set_option maxHeartbeats 8000000
set_option maxRecDepth 100000

theorem walk (A : Option Addr) (n c : Nat) (zs : List Int) (m : ByteArray) (z : Int) (hn : n ≤ c) (hc : c ≤ maxLen) (wf : ∀ z ∈ zs, (Lit.int .u32 z).wf = true) (hm : m.size ≤ maxLen) (wz : (Lit.int .i64 z).wf = true) (w : World) (hI : IntsAt w A n .u32 zs) (ht : TabIs w ∧ 0 < w.heap.size) :
    Calls Tryz.prog 3 #[.slice A n c, .string m, .int .i64 z] w fun e w' => e = .returned (.bool true) ∧ Below w.heap.size w w' := by
  obtain ⟨htb, hg⟩ := ht
  have hzi := bounds_i64 wz
  have HSH := Lib.hid (fun w => short_any A n c m hn hc hm w)
  have hI' := hI.take (Nat.min_le_left n 64)
  have hz' : ∀ z ∈ zs.take (min n 64), 0 ≤ z ∧ z < 4294967296 := fun x hx => by have := bounds_u32 (wf x (List.mem_of_mem_take hx)); omega
  have k1 : min n 64 ≤ 64 := Nat.min_le_right _ _
  have k2 : min n 64 ≤ c := Nat.le_trans (Nat.min_le_left _ _) hn
  generalize zs.take (min n 64) = zs' at hI' hz'
  generalize min n 64 = n' at HSH hI' k1 k2
  have k3 : (m.extract 0 (min m.size 300)).size ≤ 300 := by rw [ByteArray.size_extract]; omega
  generalize m.extract 0 (min m.size 300) = m' at HSH k3
  obtain ⟨z2, hz2⟩ : ∃ y, (if 300 < z then 300 else z) = y := ⟨_, rfl⟩
  have k5 : z2 ≤ 300 := by rw [← hz2]; split <;> omega
  have HRN := Lib.hid (fun W t g h => run_any A n' c zs' m' z2 (by omega) hz' (by omega) (by omega) W t g h)
  have HRF := Lib.hid (fun W h => refRun_any A n' c zs' m' z2 (by omega) hz' (by omega) (by omega) W h)
  have hok : sqOK (runR zs' m' z2).1 := runS_ok _ (newS_ok (by omega))
  have hRl : (runR zs' m' z2).2.length ≤ 1000 := Nat.le_trans (runS_len zs' (min z2 10000).toNat (newS m')) (by omega)
  obtain ⟨R, hR⟩ : ∃ R, runR zs' m' z2 = R := ⟨_, rfl⟩
  rw [hR] at HRN HRF hok hRl
  obtain ⟨cs, hcs⟩ : ∃ cs, sqC R.1 = cs := ⟨_, rfl⟩
  have hlc : cs.length = 35 := by rw [← hcs]; exact sqC_len hok.2.1
  have hoc := sqC_one R.1
  have heq : ∀ w, (binOp .eql 28 (.agg cs.toArray) (.agg cs.toArray)).run Tryz.prog w = .ok (.bool true) w := fun w => by rw [← hcs]; exact bin_sq R.1 hok.2.1 w
  rw [hcs] at hoc
  have hvc : sqV R.1 = .agg cs.toArray := by rw [← hcs]; rfl
  have HEQ := Lib.hid heq
  have HI := Lib.hid (show (Tryz.prog.info? 28).map (·.size) = some cs.length by rw [hlc]; exact sq_info)
  have HO := Lib.hid hoc
  have HL := Lib.hid hlc
  have HA := Lib.hid hI'
  have HT := Lib.hid htb
  have HG := Lib.hid hg
  have HRL := Lib.hid hRl
  have HAL := Lib.hid (fun W t g => alive06_any W t g)
  rw [hvc] at HRN HRF
  clear wf wz hI hI' hz' htb hg hok hR hcs hlc hoc hvc hRl heq k5 hn hc hm
  go_enter Tryz.func3, Tryz.ntmps3
  go_wp2_with (first
    | (go_at_call 4
       refine (HSH.out _).mono ?_
       rintro e w1 ⟨rfl, b⟩
       have A1 := Lib.hid (HA.out.below b)
       have T1 := Lib.hid (HT.out.below b HG.out)
       have G1 := Lib.hid (Nat.lt_of_lt_of_le HG.out b.size)
       have K1 := Lib.hid b
       clear b)
    | (go_at_call 5
       refine (HRN.out _ T1.out G1.out A1.out).mono ?_
       rintro e w2 ⟨B, c2, rfl, h1, h2, h3, h4, h5⟩
       have A2 := Lib.hid (A1.out.below h5)
       have T2 := Lib.hid (T1.out.below h5 G1.out)
       have G2 := Lib.hid (Nat.lt_of_lt_of_le G1.out h5.size)
       have K2 := Lib.hid (K1.out.trans (h5.mono K1.out.size))
       have S2 := Lib.hid h3
       clear h1 h2 h3 h4 h5)
    | (refine wpList_store_new rfl 28 (.tmp 7) (.tmp 24) rfl w2.heap.size rfl _ cs _ rfl rfl (by rw [HL.out]; rfl) HI.out HO.out ?_
       intro W3 b3 k3 s3
       have A3 := Lib.hid (A2.out.below b3)
       have T3 := Lib.hid (T2.out.below b3 G2.out)
       have G3 := Lib.hid (Nat.lt_of_lt_of_le G2.out b3.size)
       have K3 := Lib.hid (K2.out.trans (b3.mono K2.out.size))
       have S3 := Lib.hid (S2.out.below b3)
       have B3 := Lib.hid k3
       clear b3 k3 s3)
    | (go_at_call 6
       refine (HRF.out _ A3.out).mono ?_
       rintro e w4 ⟨B', c4, rfl, h3, h5⟩
       have T4 := Lib.hid (T3.out.below h5 G3.out)
       have G4 := Lib.hid (Nat.lt_of_lt_of_le G3.out h5.size)
       have K4 := Lib.hid (K3.out.trans (h5.mono K3.out.size))
       have S4 := Lib.hid (S3.out.below h5)
       have B4 := Lib.hid (B3.out.below h5 B3.out.1)
       have R4 := Lib.hid h3
       clear h3 h5)
    | (refine wpList_store_new rfl 28 (.tmp 9) (.tmp 31) rfl w4.heap.size rfl _ cs _ rfl rfl (by rw [HL.out]; rfl) HI.out HO.out ?_
       intro W5 b5 k5 s5
       have T5 := Lib.hid (T4.out.below b5 G4.out)
       have G5 := Lib.hid (Nat.lt_of_lt_of_le G4.out b5.size)
       have K5 := Lib.hid (K4.out.trans (b5.mono K4.out.size))
       have S5 := Lib.hid (S4.out.below b5)
       have R5 := Lib.hid (R4.out.below b5)
       have B5 := Lib.hid (B4.out.below b5 B4.out.1)
       have C5 := Lib.hid k5
       clear b5 k5 s5)
    | (go_at_call 7
       refine (HAL.out _ T5.out G5.out).mono ?_
       rintro e w6 ⟨rfl, b6⟩
       have K6 := Lib.hid (K5.out.trans (b6.mono K5.out.size))
       have S6 := Lib.hid (S5.out.below b6)
       have R6 := Lib.hid (R5.out.below b6)
       have B6 := Lib.hid (B5.out.below b6 B5.out.1)
       have C6 := Lib.hid (C5.out.below b6 C5.out.1)
       clear b6)
    | (refine wpList_load_want 28 (.tmp 7) rfl rfl w2.heap.size 0 rfl cs _ B6.out.range Tryz.underlying28 rfl HI.out ?_)
    | (refine wpList_load_want 28 (.tmp 9) rfl rfl w4.heap.size 0 rfl cs _ C6.out.range Tryz.underlying28 rfl HI.out ?_)
    | (refine wpList_eql_want 28 28 (.tmp 35) (.tmp 36) rfl rfl cs.toArray cs.toArray rfl rfl true HEQ.out guard_sq ?_)
    | (go_at_call 8
       refine (like06_any _ _ _ _ _ _ HRL.out _ S6.out R6.out).mono ?_
       rintro e w7 ⟨rfl, b7⟩
       have K7 := Lib.hid (K6.out.trans (b7.mono K6.out.size))
       clear b7))
  go_ret
  exact ⟨rfl, K7.out⟩
theorem own : ownKnob Tryz.prog.godebug = none := by kernel_rfl
theorem laidOut : laidOutB Tryz.prog = true := by kernel_rfl
set_option maxRecDepth 100000 in
theorem contract (H : Type) (enc : TypeId × Value → H) (W : World) (base : Nat) (args : Array Value) (ds gs : List (DataW H)) (before : List MemPlace)
    (hval : ∀ (j : Nat) t v, Tryz.f3.params[j]? = some t → args[j]? = some v → Value.okWide Tryz.prog W .any base t v)
    (hW : DataW.Whole enc Tryz.prog Tryz.f3.params.toList Rows.seqRunsSpec.vars false W args.toList ds gs before) (hL : laidMetH Tryz.prog Rows.seqRunsRow.laid W) :
    Calls Tryz.prog 3 args W fun e W' => ∃ v, e = .returned v ∧ Rows.seqRunsSpec.post enc Tryz.prog Tryz.f3 false true false false W args v W' := by
  have hW' := hW
  obtain ⟨p, q, hA0, hV, rfl, hfz, hnd⟩ := hW
  have hA : DataW.TrodAll enc Tryz.prog W 0 (fun _ => true) true Tryz.f3.params.toList args.toList ds p := hA0
  rw [Tryz.params3] at hA hval
  obtain ⟨v0, vs0, d0, ds0, p0, q0, hargs, rfl, rfl, h0, r0⟩ := trodAll_cons hA
  obtain ⟨v1, vs1, d1, ds1, p1, q1, rfl, rfl, rfl, h1, r1⟩ := trodAll_cons r0
  obtain ⟨v2, vs2, d2, ds2, p2, q2, rfl, rfl, rfl, h2, r2⟩ := trodAll_cons r1
  obtain ⟨rfl, rfl, rfl⟩ := trodAll_nil r2
  obtain rfl : args = #[v0, v1, v2] := by cases args; simp_all
  obtain ⟨rfl, rfl⟩ := trodVars_none hV
  have hlt := hW'.lt
  have k0 := h0
  obtain ⟨prog_a, prog_n, prog_c, prog, rfl, w_prog_n, w_prog_c, w_prog, w_prog_wf⟩ := arg_ints (k := .u32) Tryz.underlying22 Tryz.underlying25 (by kernel_rfl) (hval 0 22 v0 rfl rfl) h0
  have k1 := h1
  obtain ⟨m, rfl, -, -, w_m⟩ := open_string Tryz.underlying9 (hval 1 9 v1 rfl rfl) h1
  have k2 := h2
  obtain ⟨n, rfl, -, -, w_n⟩ := open_int Tryz.underlying3 (hval 2 3 v2 rfl rfl) h2
  clear hA0
  simp only [List.append_nil] at hW'
  refine (walk prog_a prog_n prog_c prog m n w_prog_n w_prog_c w_prog_wf w_m w_n W w_prog (table hL)).mono fun e W' ⟨he, bel⟩ => ?_
  subst he
  exact ⟨_, rfl, _, _, _, [], _, [], hW', trodAll_mk1 (shut_bool Tryz.underlying4 _), (trodAll_cons_mk (Below.trod laidOut (by kernel_rfl) (of_decide_eq_true (by kernel_rfl)) k0 bel (fun x hx => hlt x (by simp [hx]))) (trodAll_cons_mk (Below.trod laidOut (by kernel_rfl) (of_decide_eq_true (by kernel_rfl)) k1 bel (fun x hx => hlt x (by simp [hx]))) (trodAll_cons_mk (Below.trod laidOut (by kernel_rfl) (of_decide_eq_true (by kernel_rfl)) k2 bel (fun x hx => hlt x (by simp [hx]))) trodAll_mk0))), rfl, bel.frame _, fun h => by cases h⟩

theorem laid_met (os : Os) : laidMet Tryz.prog Rows.seqRunsRow.laid ((laidWorld os).forCall (fun _ _ => 0) ⟨#[], #[Value.slice none 0 0, Value.string ByteArray.empty, Value.int .i64 0], []⟩).memory :=
  laidMet_of_run' 8 (by kernel_rfl) (by kernel_rfl)
theorem reads (os : Os) {H : Type} (enc : TypeId × Value → H) : ∃ places, DataW.whole enc Tryz.prog ((laidWorld os).forCall (fun _ _ => 0) ⟨#[], #[Value.slice none 0 0, Value.string ByteArray.empty, Value.int .i64 0], []⟩).memory Tryz.f3.params.toList Rows.seqRunsSpec.vars false #[Value.slice none 0 0, Value.string ByteArray.empty, Value.int .i64 0].toList 8 = some ([.nil, .lit (.string []), .lit (.int .i64 0)], [], places) :=
  ⟨[], by kernel_rfl⟩

set_option maxRecDepth 100000 in
theorem lifted (os : Os) (started : os.Started) (H : Type) (enc : TypeId × Value → H) (F : Stop.Interp) :
    ReturnsInHanded {} Tryz.checked os 3 .any ((OpenSpec.ofChange Rows.seqRunsSpec).preRow enc Tryz.prog Tryz.f3 Rows.seqRunsRow.domain false Rows.seqRunsRow.laid) (((OpenSpec.ofChange Rows.seqRunsSpec).at F).post enc Tryz.prog Tryz.f3 false true false false) := by
  obtain ⟨places, hx⟩ := reads os enc
  refine returnsInHanded_of_row (C := Tryz.checked) (s := OpenSpec.ofChange Rows.seqRunsSpec) own started (by kernel_rfl) Tryz.func3
    (witness_row_at (enc := enc) (C := Tryz.checked) false (laidWorld os) #[Value.slice none 0 0, Value.string ByteArray.empty, Value.int .i64 0] rfl (by kernel_rfl) (by kernel_rfl) (by kernel_rfl)
      (OpenSpec.preRow_of_cond 8 hx (by kernel_rfl) (fun k hk => by cases hk) (by kernel_rfl) (laid_met os))) ?_
  intro W base args ds gs before hval hW _ _ _ hL _ _
  exact contract H enc W base args ds gs before hval hW hL

theorem said : Rows.SeqRunsSaid :=
  OpenClaim.holds_of_cond 3 Tryz.f3 rfl rfl rfl rfl rfl rfl rfl ⟨rfl, rfl, rfl, rfl, rfl⟩ rfl rfl rfl rfl rfl (by kernel_rfl) Tryz.func3 (by kernel_rfl)
    (of_decide_eq_true (by kernel_rfl)) (by unfold Func.isWrapper; first | (rw [if_pos (by decide +kernel)]; kernel_rfl) | (rw [if_neg (by decide +kernel)]; exact ⟨rfl, rfl⟩))
    (fun os started H enc _ F => by rw [OpenClaim.pre_eq_preRow]; exact lifted os started H enc F)

theorem plain (f : FuncId) (fn : Func) (hf : Tryz.pinned.checked.prog.funcNamed "auspex/auspexlaw06.SeqRuns" = some f) (hfn : Tryz.pinned.checked.prog.funcs[f]? = some fn) :
    false = Tryz.pinned.checked.prog.looks [] ∧ ∀ (j : Nat) t, fn.params[j]? = some t → Tryz.pinned.checked.prog.wantsStandIn t = false := by
  obtain rfl : f = 3 := Option.some.inj ((show Tryz.prog.funcNamed "auspex/auspexlaw06.SeqRuns" = some 3 by kernel_rfl).symm.trans hf) |>.symm
  obtain rfl : fn = Tryz.f3 := (Option.some.inj (Tryz.func3.symm.trans hfn)).symm
  refine ⟨by kernel_rfl, fun j t ht => ?_⟩
  rw [Tryz.params3] at ht
  have hm := Array.mem_of_getElem? ht
  simp only [List.mem_toArray, List.mem_cons, List.not_mem_nil, or_false] at hm
  rcases hm with rfl | rfl | rfl
  · exact (show Tryz.prog.wantsStandIn 22 = false by kernel_rfl)
  · exact (show Tryz.prog.wantsStandIn 9 = false by kernel_rfl)
  · exact (show Tryz.prog.wantsStandIn 3 = false by kernel_rfl)

/-- THE CARD -/
theorem proved : Rows.SeqRunsCardSaid :=
  Claim7.holds_tied_plain_at .later [] _ _ _ _ said (fun _ h => by cases h) (by kernel_rfl) (fun _ h => by cases h) seqRuns_row_tie rfl ⟨rfl, rfl⟩ (by kernel_rfl) rfl plain (by kernel_rfl)
#print axioms proved
end Go.Proofs.YtkamljmopbocnaaGreatDoor.seqRuns
