/- Proved: the card of TraceRuns (auspexlaw07): the trace of a run is what its steps tell; more steps only add to it; for every input; on the world that holds the table of instructions. -/
import Derived.Test.YtaanbolpgfmihaaDoorCards
import Derived.Test.YtaanbolpgfmihaaDoorTie
import Derived.Test.YtaanbolpgfmihaaDoorSeqD
import Derived.Test.YtaanbolpgfmihaaDoorTraceB
import Derived.Test.YtaanbolpgfmihaaDoorExecLaid
import Derived.Deep.QuietTactic
import Derived.BigQuiet
import Derived.WalkKit
import Derived.ProofKit
import Derived.OpenShut
import Derived.Deep.DeepHandedRow
import Derived.Lib.LaidTab
import Derived.ChangeMaps5
namespace Go.Proofs.YtaanbolpgfmihaaDoor.traceRuns
open Go.ChangeShapes Go.WideShapes Go.ChangeAt Go.RowKit
open Go.ChangeMaps (open_string shut_string)
set_option linter.unusedVariables false
set_option linter.unusedSimpArgs false
set_option maxHeartbeats 8000000
set_option maxRecDepth 100000

theorem sameL_app {α : Type} [DecidableEq α] : ∀ (a b : List α), sameL a (a ++ b) = a.length
  | [], b => by cases b <;> rfl
  | x :: a, b => by
    show (if x = x then sameL a (a ++ b) + 1 else 0) = _
    rw [if_pos rfl, sameL_app a b]; rfl
/-- the trace of a run -/
theorem runT_any (A : Option Addr) (n cap : Nat) (zs : List Int) (m : ByteArray) (z : Int) (b : Bool) (hn : n ≤ 200) (hz : ∀ z ∈ zs, 0 ≤ z ∧ z < 4294967296) (hm : m.size ≤ 1000) (hz1 : z ≤ 200) (w : World) (ht : TabIs w) (hg : 0 < w.heap.size) (h : IntsAt w A n .u32 zs) :
    Calls Tryd.prog 16 #[.slice A n cap, .string m, .int .i64 z, .bool b] w fun r w' => ∃ (B : Option Addr) (c' : Nat), r = .returned (.slice B (runR zs m z).2.length c') ∧ (runR zs m z).2.length ≤ c' ∧ c' ≤ maxLen ∧ EvsAt w' B (runR zs m z).2.length ((runR zs m z).2.map (evOf b)) ∧ Below w.heap.size w w' := by
  have HR := Lib.hid (run_any A n cap zs m z hn hz hm (by omega) w ht hg h)
  have hok : sqOK (runR zs m z).1 := runS_ok _ (newS_ok (by omega))
  have hl : (runR zs m z).2.length ≤ 1000 := Nat.le_trans (runS_len zs (min z 10000).toNat (newS m)) (by omega)
  obtain ⟨R, hR⟩ : ∃ R, runR zs m z = R := ⟨_, rfl⟩
  rw [hR] at HR hok hl
  rw [hR]
  obtain ⟨cs, hcs⟩ : ∃ cs, sqC R.1 = cs := ⟨_, rfl⟩
  have hlc : cs.length = 35 := by rw [← hcs]; exact sqC_len hok.2.1
  have hoc := sqC_one R.1
  rw [hcs] at hoc
  have hvc : sqV R.1 = .agg cs.toArray := by rw [← hcs]; rfl
  rw [hvc] at HR
  have HI := Lib.hid (show (Tryd.prog.info? 28).map (·.size) = some cs.length by rw [hlc]; exact sq_info)
  have HO := Lib.hid hoc
  have HL := Lib.hid hlc
  have HLN := Lib.hid hl
  clear ht hg h hok hR hcs hlc hoc hvc hl
  go_enter Tryd.func16, Tryd.ntmps16
  go_wp2_with (first
    | (go_at_call 11
       refine HR.out.mono ?_
       rintro e w1 ⟨B, c1, rfl, h1, h2, h3, h4, h5⟩
       have B1 := Lib.hid h5
       have S1 := Lib.hid h3
       clear h1 h2 h3 h4 h5)
    | (refine wpList_store_new rfl 28 (.tmp 9) (.tmp 16) rfl w1.heap.size rfl _ cs _ rfl rfl (by rw [HL.out]; rfl) HI.out HO.out ?_
       intro W2 b2 k2 s2
       have B2 := Lib.hid (B1.out.trans (b2.mono B1.out.size))
       have S2 := Lib.hid (S1.out.below b2)
       clear b2 k2 s2)
    | (go_at_call 19
       refine (trOf_any _ _ _ _ b HLN.out _ S2.out).mono ?_
       rintro e w3 ⟨X, cx, rfl, h1, h2, h3, h4⟩
       have E3 := Lib.hid h3
       have C3 := Lib.hid (And.intro h1 h2)
       have B3 := Lib.hid (B2.out.trans (h4.mono B2.out.size))
       clear h1 h2 h3 h4))
  go_ret
  exact ⟨X, cx, rfl, C3.out.1, C3.out.2, E3.out, B3.out⟩

theorem walk (A : Option Addr) (n c : Nat) (zs : List Int) (m : ByteArray) (z u : Int) (b : Bool) (hn : n ≤ c) (hc : c ≤ maxLen) (wf : ∀ z ∈ zs, (Lit.int .u32 z).wf = true) (hm : m.size ≤ maxLen) (wz : (Lit.int .i64 z).wf = true) (wu : (Lit.int .i64 u).wf = true) (w : World) (hI : IntsAt w A n .u32 zs) (ht : TabIs w ∧ 0 < w.heap.size) :
    Calls Tryd.prog 7 #[.slice A n c, .string m, .int .i64 z, .int .i64 u, .bool b] w fun e w' => e = .returned (.bool true) ∧ Below w.heap.size w w' := by
  obtain ⟨htb, hg⟩ := ht
  unfold maxLen at hc hm
  have hI' := hI.take (Nat.min_le_left n 64)
  have hz' : ∀ z ∈ zs.take (min n 64), 0 ≤ z ∧ z < 4294967296 := fun x hx => by have := bounds_u32 (wf x (List.mem_of_mem_take hx)); omega
  have hzi := bounds_i64 wz
  have hui := bounds_i64 wu
  obtain ⟨n', hn'⟩ : ∃ k, min n 64 = k := ⟨_, rfl⟩
  obtain ⟨l', hl'⟩ : ∃ k, min m.size 300 = k := ⟨_, rfl⟩
  rw [hn'] at hI' hz'
  have e1 : (if (64 : Int) < (n : Int) then (64 : Int) else (n : Int)) = (n' : Int) := by split <;> omega
  have e2 : (if (300 : Int) < (m.size : Int) then (300 : Int) else (m.size : Int)) = (l' : Int) := by split <;> omega
  have k1 : n' ≤ 64 := by omega
  have k2 : l' ≤ 300 := by omega
  have k3 : n' ≤ n := by omega
  have k4 : l' ≤ m.size := by omega
  have k5 : (n' : Int) ≤ c := by omega
  have k6 : (l' : Int) ≤ m.size := by omega
  have k7 : (m.extract 0 l').size ≤ 300 := by rw [ByteArray.size_extract]; omega
  obtain ⟨z1, hz1⟩ : ∃ y, (if z < 0 then 0 else z) = y := ⟨_, rfl⟩
  obtain ⟨z2, hz2⟩ : ∃ y, (if 100 < z1 then 100 else z1) = y := ⟨_, rfl⟩
  obtain ⟨u1, hu1⟩ : ∃ y, (if u < 0 then 0 else u) = y := ⟨_, rfl⟩
  obtain ⟨u2, hu2⟩ : ∃ y, (if 100 < u1 then 100 else u1) = y := ⟨_, rfl⟩
  have q1 : 0 ≤ z1 := by rw [← hz1]; split <;> omega
  have q2 : 0 ≤ z2 ∧ z2 ≤ 100 := by rw [← hz2]; split <;> omega
  have q3 : 0 ≤ u1 := by rw [← hu1]; split <;> omega
  have q4 : 0 ≤ u2 ∧ u2 ≤ 100 := by rw [← hu2]; split <;> omega
  generalize zs.take n' = zs' at hI' hz'
  have hadd : ∃ T, (runR zs' (m.extract 0 l') (z2 + u2)).2 = (runR zs' (m.extract 0 l') z2).2 ++ T := by
    refine ⟨(runS zs' u2.toNat (runR zs' (m.extract 0 l') z2).1).2, ?_⟩
    have e3 : (min (z2 + u2) 10000).toNat = (min z2 10000).toNat + u2.toNat := by omega
    show (runS zs' (min (z2 + u2) 10000).toNat (newS _)).2 = _
    rw [e3, runS_add]
    rfl
  have hl1 : (runR zs' (m.extract 0 l') z2).2.length ≤ 200 := Nat.le_trans (runS_len _ _ _) (by omega)
  have hl2 : (runR zs' (m.extract 0 l') (z2 + u2)).2.length ≤ 200 := Nat.le_trans (runS_len _ _ _) (by omega)
  have hok : sqOK (runR zs' (m.extract 0 l') z2).1 := runS_ok _ (newS_ok (by omega))
  have HR := Lib.hid (fun W t g h => run_any A n' c zs' (m.extract 0 l') z2 (by omega) hz' (by omega) (by omega) W t g h)
  have HT1 := Lib.hid (fun W t g h => runT_any A n' c zs' (m.extract 0 l') z2 b (by omega) hz' (by omega) (by omega) W t g h)
  have HT2 := Lib.hid (fun W t g h => runT_any A n' c zs' (m.extract 0 l') (z2 + u2) b (by omega) hz' (by omega) (by omega) W t g h)
  obtain ⟨T, hT⟩ := hadd
  obtain ⟨R, hR⟩ : ∃ R, runR zs' (m.extract 0 l') z2 = R := ⟨_, rfl⟩
  obtain ⟨R2, hR2⟩ : ∃ R2, runR zs' (m.extract 0 l') (z2 + u2) = R2 := ⟨_, rfl⟩
  rw [hR] at HR HT1 hT hl1 hok
  rw [hR2] at HT2 hT hl2
  have hsame : ((sameL (R.2.map (evOf b)) (R2.2.map (evOf b)) : Nat) : Int) = (R.2.length : Int) := by rw [hT, List.map_append, sameL_app, List.length_map]
  have hle : (R.2.length : Int) ≤ (R2.2.length : Int) := by rw [hT, List.length_append]; omega
  have HSM := Lib.hid hsame
  have HL1 := Lib.hid hl1
  have HL2 := Lib.hid hl2
  obtain ⟨cs, hcs⟩ : ∃ cs, sqC R.1 = cs := ⟨_, rfl⟩
  have hlc : cs.length = 35 := by rw [← hcs]; exact sqC_len hok.2.1
  have hoc := sqC_one R.1
  rw [hcs] at hoc
  have hvc : sqV R.1 = .agg cs.toArray := by rw [← hcs]; rfl
  rw [hvc] at HR
  have HI := Lib.hid (show (Tryd.prog.info? 28).map (·.size) = some cs.length by rw [hlc]; exact sq_info)
  have HO := Lib.hid hoc
  have HL := Lib.hid hlc
  have HA := Lib.hid hI'
  have HTB := Lib.hid htb
  have HG := Lib.hid hg
  clear wf wz wu hI hI' hz' hn' hl' htb hg hR hR2 hok hcs hlc hoc hvc hT hsame hl1 hl2 k7
  go_enter Tryd.func7, Tryd.ntmps7
  go_wp2
  go_quiet (fail)
  have b0 := below_dr6 w.heap.size w nq
  have A0 := Lib.hid (HA.out.below b0)
  have T0 := Lib.hid (HTB.out.below b0 HG.out)
  have G0 := Lib.hid (Nat.lt_of_lt_of_le HG.out b0.size)
  have B0 := Lib.hid b0
  clear b0
  generalize w.drewN nq = w0 at *
  go_wp2_with (first
    | (go_at_call 11
       refine (HR.out _ T0.out G0.out A0.out).mono ?_
       rintro e w1 ⟨B, c1, rfl, h1, h2, h3, h4, h5⟩
       have A1 := Lib.hid (A0.out.below h5)
       have T1 := Lib.hid (T0.out.below h5 G0.out)
       have G1 := Lib.hid (Nat.lt_of_lt_of_le G0.out h5.size)
       have B1 := Lib.hid (B0.out.trans (h5.mono B0.out.size))
       have S1 := Lib.hid h3
       clear h1 h2 h3 h4 h5)
    | (refine wpList_store_new rfl 28 (.tmp 11) (.tmp 36) rfl w1.heap.size rfl _ cs _ rfl rfl (by rw [HL.out]; rfl) HI.out HO.out ?_
       intro W2 b2 k2 s2
       have A2 := Lib.hid (A1.out.below b2)
       have T2 := Lib.hid (T1.out.below b2 G1.out)
       have G2 := Lib.hid (Nat.lt_of_lt_of_le G1.out b2.size)
       have B2 := Lib.hid (B1.out.trans (b2.mono B1.out.size))
       have S2 := Lib.hid (S1.out.below b2)
       clear b2 k2 s2)
    | (go_at_call 16
       refine (HT1.out _ T2.out G2.out A2.out).mono ?_
       rintro e w3 ⟨X, cx, rfl, -, -, h1, h2⟩
       have A3 := Lib.hid (A2.out.below h2)
       have T3 := Lib.hid (T2.out.below h2 G2.out)
       have G3 := Lib.hid (Nat.lt_of_lt_of_le G2.out h2.size)
       have B3 := Lib.hid (B2.out.trans (h2.mono B2.out.size))
       have S3 := Lib.hid (S2.out.below h2)
       have X3 := Lib.hid h1
       clear h1 h2 T2)
    | (go_at_call 16
       refine (HT2.out _ T3.out G3.out A3.out).mono ?_
       rintro e w4 ⟨Y, cy, rfl, -, -, h1, h2⟩
       have B4 := Lib.hid (B3.out.trans (h2.mono B3.out.size))
       have S4 := Lib.hid (S3.out.below h2)
       have X4 := Lib.hid (X3.out.below h2)
       have Y4 := Lib.hid h1
       clear h1 h2)
    | (go_at_call 17
       refine (alive07_any _).mono ?_
       rintro e w5 ⟨rfl, h2⟩
       have B5 := Lib.hid (B4.out.trans (h2.mono B4.out.size))
       have S5 := Lib.hid (S4.out.below h2)
       have X5 := Lib.hid (X4.out.below h2)
       have Y5 := Lib.hid (Y4.out.below h2)
       clear h2)
    | (go_at_call 19
       refine (trOf_any _ _ _ _ b (Nat.le_trans HL1.out (by omega)) _ S5.out).mono ?_
       rintro e w6 ⟨Z, cz, rfl, -, -, h1, h2⟩
       have B6 := Lib.hid (B5.out.trans (h2.mono B5.out.size))
       have X6 := Lib.hid (X5.out.below h2)
       have Y6 := Lib.hid (Y5.out.below h2)
       have Z6 := Lib.hid h1
       clear h1 h2)
    | (go_at_call 18
       refine (like_any _ _ _ _ _ _ _ _ (Nat.le_trans HL1.out (by omega)) (Nat.le_trans HL1.out (by omega)) _ X6.out Z6.out).mono ?_
       rintro e w7 ⟨q7, rfl, rfl⟩
       rw [decide_eq_true rfl]
       have h2 := below_dr6 w6.heap.size w6 q7
       have B7 := Lib.hid (B6.out.trans (h2.mono B6.out.size))
       have X7 := Lib.hid (X6.out.below h2)
       have Y7 := Lib.hid (Y6.out.below h2)
       clear h2
       generalize w6.drewN q7 = w7 at *)
    | (go_at_call 20
       refine (same_any _ _ _ _ _ _ _ _ (Nat.le_trans HL1.out (by omega)) (Nat.le_trans HL2.out (by omega)) _ X7.out Y7.out).mono ?_
       rintro e w8 ⟨q8, rfl, rfl⟩
       rw [HSM.out]
       have B8 := Lib.hid (B7.out.trans (below_dr6 w.heap.size w7 q8))))
  go_ret
  exact ⟨rfl, B8.out⟩
theorem own : ownKnob Tryd.prog.godebug = none := by kernel_rfl
theorem laidOut : laidOutB Tryd.prog = true := by kernel_rfl
set_option maxRecDepth 100000 in
theorem contract (H : Type) (enc : TypeId × Value → H) (W : World) (base : Nat) (args : Array Value) (ds gs : List (DataW H)) (before : List MemPlace)
    (hval : ∀ (j : Nat) t v, Tryd.f7.params[j]? = some t → args[j]? = some v → Value.okWide Tryd.prog W .any base t v)
    (hW : DataW.Whole enc Tryd.prog Tryd.f7.params.toList Rows.traceRunsSpec.vars false W args.toList ds gs before) (hL : laidMetH Tryd.prog Rows.traceRunsRow.laid W) :
    Calls Tryd.prog 7 args W fun e W' => ∃ v, e = .returned v ∧ Rows.traceRunsSpec.post enc Tryd.prog Tryd.f7 false true false false W args v W' := by
  have hW' := hW
  obtain ⟨p, q, hA0, hV, rfl, hfz, hnd⟩ := hW
  have hA : DataW.TrodAll enc Tryd.prog W 0 (fun _ => true) true Tryd.f7.params.toList args.toList ds p := hA0
  rw [Tryd.params7] at hA hval
  obtain ⟨v0, vs0, d0, ds0, p0, q0, hargs, rfl, rfl, h0, r0⟩ := trodAll_cons hA
  obtain ⟨v1, vs1, d1, ds1, p1, q1, rfl, rfl, rfl, h1, r1⟩ := trodAll_cons r0
  obtain ⟨v2, vs2, d2, ds2, p2, q2, rfl, rfl, rfl, h2, r2⟩ := trodAll_cons r1
  obtain ⟨v3, vs3, d3, ds3, p3, q3, rfl, rfl, rfl, h3, r3⟩ := trodAll_cons r2
  obtain ⟨v4, vs4, d4, ds4, p4, q4, rfl, rfl, rfl, h4, r4⟩ := trodAll_cons r3
  obtain ⟨rfl, rfl, rfl⟩ := trodAll_nil r4
  obtain rfl : args = #[v0, v1, v2, v3, v4] := by cases args; simp_all
  obtain ⟨rfl, rfl⟩ := trodVars_none hV
  have hlt := hW'.lt
  have k0 := h0
  obtain ⟨prog_a, prog_n, prog_c, prog, rfl, w_prog_n, w_prog_c, w_prog, w_prog_wf⟩ := arg_ints (k := .u32) Tryd.underlying22 Tryd.underlying25 (by kernel_rfl) (hval 0 22 v0 rfl rfl) h0
  have k1 := h1
  obtain ⟨m, rfl, -, -, w_m⟩ := open_string Tryd.underlying9 (hval 1 9 v1 rfl rfl) h1
  have k2 := h2
  obtain ⟨n, rfl, -, -, w_n⟩ := open_int Tryd.underlying3 (hval 2 3 v2 rfl rfl) h2
  have k3 := h3
  obtain ⟨k, rfl, -, -, w_k⟩ := open_int Tryd.underlying3 (hval 3 3 v3 rfl rfl) h3
  have k4 := h4
  obtain ⟨pre, rfl, -, -⟩ := open_bool Tryd.underlying4 (hval 4 4 v4 rfl rfl) h4
  clear hA0
  simp only [List.append_nil] at hW'
  refine (walk prog_a prog_n prog_c prog m n k pre w_prog_n w_prog_c w_prog_wf w_m w_n w_k W w_prog (table hL)).mono fun e W' ⟨he, bel⟩ => ?_
  subst he
  exact ⟨_, rfl, _, _, _, [], _, [], hW', trodAll_mk1 (shut_bool Tryd.underlying4 _), (trodAll_cons_mk (Below.trod laidOut (by kernel_rfl) (of_decide_eq_true (by kernel_rfl)) k0 bel (fun x hx => hlt x (by simp [hx]))) (trodAll_cons_mk (Below.trod laidOut (by kernel_rfl) (of_decide_eq_true (by kernel_rfl)) k1 bel (fun x hx => hlt x (by simp [hx]))) (trodAll_cons_mk (Below.trod laidOut (by kernel_rfl) (of_decide_eq_true (by kernel_rfl)) k2 bel (fun x hx => hlt x (by simp [hx]))) (trodAll_cons_mk (Below.trod laidOut (by kernel_rfl) (of_decide_eq_true (by kernel_rfl)) k3 bel (fun x hx => hlt x (by simp [hx]))) (trodAll_cons_mk (Below.trod laidOut (by kernel_rfl) (of_decide_eq_true (by kernel_rfl)) k4 bel (fun x hx => hlt x (by simp [hx]))) trodAll_mk0))))), rfl, bel.frame _, fun h => by cases h⟩

theorem laid_met (os : Os) : laidMet Tryd.prog Rows.traceRunsRow.laid ((laidWorld os).forCall (fun _ _ => 0) ⟨#[], #[Value.slice none 0 0, Value.string ByteArray.empty, Value.int .i64 0, Value.int .i64 0, Value.bool false], []⟩).memory :=
  laidMet_of_run' 8 (by kernel_rfl) (by kernel_rfl)
theorem reads (os : Os) {H : Type} (enc : TypeId × Value → H) : ∃ places, DataW.whole enc Tryd.prog ((laidWorld os).forCall (fun _ _ => 0) ⟨#[], #[Value.slice none 0 0, Value.string ByteArray.empty, Value.int .i64 0, Value.int .i64 0, Value.bool false], []⟩).memory Tryd.f7.params.toList Rows.traceRunsSpec.vars false #[Value.slice none 0 0, Value.string ByteArray.empty, Value.int .i64 0, Value.int .i64 0, Value.bool false].toList 8 = some ([.nil, .lit (.string []), .lit (.int .i64 0), .lit (.int .i64 0), .lit (.bool false)], [], places) :=
  ⟨[], by kernel_rfl⟩

set_option maxRecDepth 100000 in
theorem lifted (os : Os) (started : os.Started) (H : Type) (enc : TypeId × Value → H) (F : Stop.Interp) :
    ReturnsInHanded {} Tryd.checked os 7 .any ((OpenSpec.ofChange Rows.traceRunsSpec).preRow enc Tryd.prog Tryd.f7 Rows.traceRunsRow.domain false Rows.traceRunsRow.laid) (((OpenSpec.ofChange Rows.traceRunsSpec).at F).post enc Tryd.prog Tryd.f7 false true false false) := by
  obtain ⟨places, hx⟩ := reads os enc
  refine returnsInHanded_of_row (C := Tryd.checked) (s := OpenSpec.ofChange Rows.traceRunsSpec) own started (by kernel_rfl) Tryd.func7
    (witness_row_at (enc := enc) (C := Tryd.checked) false (laidWorld os) #[Value.slice none 0 0, Value.string ByteArray.empty, Value.int .i64 0, Value.int .i64 0, Value.bool false] rfl (by kernel_rfl) (by kernel_rfl) (by kernel_rfl)
      (OpenSpec.preRow_of_cond 8 hx (by kernel_rfl) (fun k hk => by cases hk) (by kernel_rfl) (laid_met os))) ?_
  intro W base args ds gs before hval hW _ _ _ hL _ _
  exact contract H enc W base args ds gs before hval hW hL

theorem said : Rows.TraceRunsSaid :=
  OpenClaim.holds_of_cond 7 Tryd.f7 rfl rfl rfl rfl rfl rfl rfl ⟨rfl, rfl, rfl, rfl, rfl⟩ rfl rfl rfl rfl rfl (by kernel_rfl) Tryd.func7 (by kernel_rfl)
    (of_decide_eq_true (by kernel_rfl)) (by unfold Func.isWrapper; first | (rw [if_pos (by decide +kernel)]; kernel_rfl) | (rw [if_neg (by decide +kernel)]; exact ⟨rfl, rfl⟩))
    (fun os started H enc _ F => by rw [OpenClaim.pre_eq_preRow]; exact lifted os started H enc F)

theorem plain (f : FuncId) (fn : Func) (hf : Tryd.pinned.checked.prog.funcNamed "auspex/auspexlaw07.TraceRuns" = some f) (hfn : Tryd.pinned.checked.prog.funcs[f]? = some fn) :
    false = Tryd.pinned.checked.prog.looks [] ∧ ∀ (j : Nat) t, fn.params[j]? = some t → Tryd.pinned.checked.prog.wantsStandIn t = false := by
  obtain rfl : f = 7 := Option.some.inj ((show Tryd.prog.funcNamed "auspex/auspexlaw07.TraceRuns" = some 7 by kernel_rfl).symm.trans hf) |>.symm
  obtain rfl : fn = Tryd.f7 := (Option.some.inj (Tryd.func7.symm.trans hfn)).symm
  refine ⟨by kernel_rfl, fun j t ht => ?_⟩
  rw [Tryd.params7] at ht
  have hm := Array.mem_of_getElem? ht
  simp only [List.mem_toArray, List.mem_cons, List.not_mem_nil, or_false] at hm
  rcases hm with rfl | rfl | rfl | rfl | rfl
  · exact (show Tryd.prog.wantsStandIn 22 = false by kernel_rfl)
  · exact (show Tryd.prog.wantsStandIn 9 = false by kernel_rfl)
  · exact (show Tryd.prog.wantsStandIn 3 = false by kernel_rfl)
  · exact (show Tryd.prog.wantsStandIn 3 = false by kernel_rfl)
  · exact (show Tryd.prog.wantsStandIn 4 = false by kernel_rfl)

/-- THE CARD -/
theorem proved : Rows.TraceRunsCardSaid :=
  Claim7.holds_tied_plain_at .later [] _ _ _ _ said (fun _ h => by cases h) (by kernel_rfl) (fun _ h => by cases h) traceRuns_row_tie rfl ⟨rfl, rfl⟩ (by kernel_rfl) rfl plain (by kernel_rfl)
#print axioms proved
end Go.Proofs.YtaanbolpgfmihaaDoor.traceRuns
