/- Proved: the card of GaugeCores (auspexlaw24): the rate of any core is that of how many retired to its cycles, of a new one there is none; for every input; on the world that holds the powers of ten. -/
import Derived.Test.YtebeelphilfjhaaDoorCards
import Derived.Test.YtebeelphilfjhaaDoorTie
import Derived.Test.YtebeelphilfjhaaDoorGaugeM
import Derived.WalkKit
import Derived.ProofKit
import Derived.OpenShut
import Derived.Deep.DeepHandedRow
import Derived.Lib.LaidTab
import Derived.Test.YtebeelphilfjhaaDoorOwn
namespace Go.Proofs.YtebeelphilfjhaaDoor.gaugeCores
open Go.ChangeShapes Go.WideShapes Go.ChangeAt Go.RowKit
set_option linter.unusedVariables false
set_option maxHeartbeats 400000
set_option maxRecDepth 100000

theorem of_any (vs : Array Value) (n : Int) (A : Option Addr) (k c : Nat) (h1 : vs[12]? = some (.int .i64 n)) (h2 : vs[63]? = some (.slice A k c)) (w : World) :
    Calls Tryd.prog 23 #[.agg vs] w fun e w' => ∃ r, e = .returned (.float .f64 r) ∧ Got (rateO k n) r ∧ Below w.heap.size w w' := by
  have e1 : (w.alloc (.cells vs 54)).cell? ⟨w.heap.size, 12, none⟩ = some (.int .i64 n) := by rw [World.cell?_alloc_at _ _ _ _ rfl]; exact h1
  have e2 : (w.alloc (.cells vs 54)).cell? ⟨w.heap.size, 63, none⟩ = some (.slice A k c) := by rw [World.cell?_alloc_at _ _ _ _ rfl]; exact h2
  have hb := Lib.hid ((Below.refl w.heap.size w).alloc (Nat.le_refl _) (.cells vs 54))
  clear h1 h2
  generalize hw : w.alloc (.cells vs 54) = w1 at *
  go_enter Tryd.func23, Tryd.ntmps23
  go_wp2_with (first
    | (go_at_call 12; refine (rate_any _ _ _).mono ?_; rintro e w2 ⟨r1, q1, rfl, h1, rfl⟩))
  go_ret
  exact ⟨r1, rfl, h1, hb.out.trans (below_dr _ _ _)⟩

/-- the cells of a core of so many cycles, and what retired -/
def coreZ (n : Int) (A : Option Addr) (k c : Nat) : Array Value := #[.int .i64 0, .int .i64 0, .int .i64 0, .int .i64 0, .int .i64 0, .int .i64 0, .int .i64 0, .int .i64 0, .slice none 0 0, .bool false, .slice none 0 0, .slice none 0 0, .int .i64 n,
  .int .u32 0, .int .u32 0, .int .u32 0, .int .u32 0, .int .u32 0, .int .u32 0, .int .u32 0, .int .u32 0, .int .u32 0, .int .u32 0, .int .u32 0, .int .u32 0, .int .u32 0, .int .u32 0, .int .u32 0, .int .u32 0,
  .int .u32 0, .int .u32 0, .int .u32 0, .int .u32 0, .int .u32 0, .int .u32 0, .int .u32 0, .int .u32 0, .int .u32 0, .int .u32 0, .int .u32 0, .int .u32 0, .int .u32 0, .int .u32 0, .int .u32 0, .int .u32 0,
  .int .u32 0, .bool false, .slice none 0 0, .slice none 0 0, .int .i64 0, .slice none 0 0, .int .i64 0, .slice none 0 0, .int .i64 0, .slice none 0 0, .slice none 0 0, .int .i64 0, .int .i64 0, .string ⟨#[]⟩, .slice none 0 0, .int .u32 0, .slice none 0 0, .int .i64 0, .slice A k c]
theorem coreZ_size (n : Int) (A : Option Addr) (k c : Nat) : (coreZ n A k c).size = 64 := rfl
theorem coreZ_one (n : Int) (A : Option Addr) (k c : Nat) : (coreZ n A k c).all (·.oneCell') = true :=
  all_oneCell_toArray (cs := (coreZ n A k c).toList) (List.all_eq_true.1 (show (coreZ n A k c).toList.all (·.oneCell') = true from rfl))
theorem coreZ_12 (n : Int) (A : Option Addr) (k c : Nat) : (coreZ n A k c)[12]? = some (.int .i64 n) := rfl
theorem coreZ_63 (n : Int) (A : Option Addr) (k c : Nat) : (coreZ n A k c)[63]? = some (.slice A k c) := rfl
theorem core_info : (Tryd.prog.info? 54).map (·.size) = some 64 := by kernel_rfl

theorem walk (n : Int) (A : Option Addr) (m c : Nat) (hn : (Lit.int .i64 n).wf = true) (hm : m ≤ c) (hc : c ≤ maxLen) (w : World) (ht : Tab w) :
    Calls Tryd.prog 7 #[.int .i64 n, .slice A m c] w fun e w' => e = .returned (.bool true) ∧ Below w.heap.size w w' := by
  unfold maxLen at hc
  obtain ⟨k, hk⟩ : ∃ k, min m 100 = k := ⟨_, rfl⟩
  have hmin : min (m : Int) 100 = (k : Int) := by omega
  have hkn : k ≤ m := by omega
  have hk100 : k ≤ 100 := by omega
  have T := Lib.hid ht
  clear ht hk hn
  go_enter Tryd.func7, Tryd.ntmps7
  go_wp2_with (refine wpList_store_fresh rfl 54 (.tmp 5) (.tmp 13) rfl _ (coreZ n A k c) _ rfl rfl rfl core_info (coreZ_one _ _ _ _) ?_; intro W2 hb2 hr2 hs2)
  have HB := Lib.hid hb2
  have HR := Lib.hid hr2
  clear hb2 hr2
  go_at_call 10
  refine (alive24_any _ (T.out.below HB.out)).mono ?_
  rintro e w1 ⟨rfl, b1⟩
  have B1 := Lib.hid (HB.out.trans (b1.mono HB.out.size))
  have R1 := (HR.out.below b1 HR.out.1).range
  have L1 := run_loadAt_mid (P := Tryd.prog) w1 w.heap.size 0 54 (coreZ n A k c).toList _ R1 Tryd.underlying54 rfl core_info
  have L2 := run_loadVar_mid (P := Tryd.prog) w1 w.heap.size 0 54 (coreZ n A k c).toList _ R1 Tryd.underlying54 rfl core_info
  clear b1 HB HR hs2 L1 L2
  have HRR := Lib.hid R1
  clear R1
  go_wp2_with (first
    | (refine wpList_load_want 54 (.tmp 5) rfl rfl w.heap.size 0 rfl (coreZ n A k c).toList _ HRR.out Tryd.underlying54 rfl core_info ?_)
    | (go_at_call 23; refine (of_any _ n A k c rfl rfl _).mono ?_; rintro e w2 ⟨r1, rfl, h1, b2⟩))
  go_at_call 13
  refine (refRate_any k n _).mono ?_
  rintro e w3 ⟨r2, q2, rfl, h2, rfl⟩
  have HS := Lib.hid (show sameB r1 r2 = true from decide_eq_true (h1.sim h2).key)
  have L1 := h1.1
  have L2 := h2.1
  have B2 := Lib.hid (B1.out.trans (b2.mono B1.out.size))
  clear h1 h2 b2
  go_wp2_with fail
  go_at_call 11
  refine (same_any r1 r2 L1 L2 _).mono ?_
  rintro e w4 ⟨rfl, rfl⟩
  rw [HS.out]
  go_wp2_with fail
  go_at_call 23
  refine (of_any _ 0 none 0 0 rfl rfl _).mono ?_
  rintro e w5 ⟨r3, rfl, h3, b3⟩
  have N3 : fNan r3 = true := by
    rcases h3.2 with h | h
    · rw [show rateO ((0 : Nat) : Int) 0 = none from rate00] at h; cases h
    · exact h.2
  have NN := Lib.hid N3
  have L3 := h3.1
  have B3 := Lib.hid (B2.out.trans ((below_dr _ w2 q2).trans (b3.mono B2.out.size)))
  clear h3 N3 b3
  go_wp2_with (go_at_call 22; refine (none_any r3 L3 _).mono ?_; rintro e w6 ⟨rfl, rfl⟩; rw [NN.out])
  go_ret
  exact ⟨rfl, B3.out⟩

theorem own : ownKnob Tryd.prog.godebug = none := by kernel_rfl
theorem laidOut : laidOutB Tryd.prog = true := by kernel_rfl
set_option maxRecDepth 100000 in
theorem contract (H : Type) (enc : TypeId × Value → H) (W : World) (base : Nat) (args : Array Value) (ds gs : List (DataW H)) (before : List MemPlace)
    (hval : ∀ (j : Nat) t v, Tryd.f7.params[j]? = some t → args[j]? = some v → Value.okWide Tryd.prog W .any base t v)
    (hW : DataW.Whole enc Tryd.prog Tryd.f7.params.toList Rows.gaugeCoresSpec.vars false W args.toList ds gs before) (hL : laidMetH Tryd.prog Rows.gaugeCoresRow.laid W) :
    Calls Tryd.prog 7 args W fun e W' => ∃ v, e = .returned v ∧ Rows.gaugeCoresSpec.post enc Tryd.prog Tryd.f7 false true false false W args v W' := by
  have hW' := hW
  obtain ⟨p, q, hA0, hV, rfl, hfz, hnd⟩ := hW
  have hA : DataW.TrodAll enc Tryd.prog W 0 (fun _ => true) true Tryd.f7.params.toList args.toList ds p := hA0
  rw [Tryd.params7] at hA hval
  obtain ⟨v0, vs0, d0, ds0, p0, q0, hargs, rfl, rfl, h0, r0⟩ := trodAll_cons hA
  obtain ⟨v1, vs1, d1, ds1, p1, q1, rfl, rfl, rfl, h1, r1⟩ := trodAll_cons r0
  obtain ⟨rfl, rfl, rfl⟩ := trodAll_nil r1
  obtain rfl : args = #[v0, v1] := by cases args; simp_all
  obtain ⟨rfl, rfl⟩ := trodVars_none hV
  have hlt := hW'.lt
  have k0 := h0
  obtain ⟨n, rfl, -, -, w_n⟩ := open_int Tryd.underlying3 (hval 0 3 v0 rfl rfl) h0
  have k1 := h1
  obtain ⟨l_a, l_n, l_c, rfl, w_l_n, w_l_c⟩ := arg_any_slice Tryd.underlying36 (hval 1 36 v1 rfl rfl) h1
  clear hA0
  simp only [List.append_nil] at hW'
  refine (walk n l_a l_n l_c w_n w_l_n w_l_c W  (table hL)).mono fun e W' ⟨he, bel⟩ => ?_
  subst he
  exact ⟨_, rfl, _, _, _, [], _, [], hW', trodAll_mk1 (shut_bool Tryd.underlying4 _), (trodAll_cons_mk (Below.trod laidOut (by kernel_rfl) (of_decide_eq_true (by kernel_rfl)) k0 bel (fun x hx => hlt x (by simp [hx]))) (trodAll_cons_mk (Below.trod laidOut (by kernel_rfl) (of_decide_eq_true (by kernel_rfl)) k1 bel (fun x hx => hlt x (by simp [hx]))) trodAll_mk0)), rfl, bel.frame _, fun h => by cases h⟩

theorem laid_met (os : Os) : laidMet Tryd.prog Rows.gaugeCoresRow.laid ((laidWorld os).forCall (fun _ _ => 0) ⟨#[], #[Value.int .i64 0, Value.slice none 0 0], []⟩).memory :=
  laidMet_of_run' 8 (by kernel_rfl) (by kernel_rfl)
theorem reads (os : Os) {H : Type} (enc : TypeId × Value → H) : ∃ places, DataW.whole enc Tryd.prog ((laidWorld os).forCall (fun _ _ => 0) ⟨#[], #[Value.int .i64 0, Value.slice none 0 0], []⟩).memory Tryd.f7.params.toList Rows.gaugeCoresSpec.vars false #[Value.int .i64 0, Value.slice none 0 0].toList 8 = some ([.lit (.int .i64 0), .nil], [], places) :=
  ⟨[], by kernel_rfl⟩

set_option maxRecDepth 100000 in
theorem lifted (os : Os) (started : os.Started) (H : Type) (enc : TypeId × Value → H) (F : Stop.Interp) :
    ReturnsInHanded {} Tryd.checked os 7 .any ((OpenSpec.ofChange Rows.gaugeCoresSpec).preRow enc Tryd.prog Tryd.f7 Rows.gaugeCoresRow.domain false Rows.gaugeCoresRow.laid) (((OpenSpec.ofChange Rows.gaugeCoresSpec).at F).post enc Tryd.prog Tryd.f7 false true false false) := by
  obtain ⟨places, hx⟩ := reads os enc
  refine returnsInHanded_of_row (C := Tryd.checked) (s := OpenSpec.ofChange Rows.gaugeCoresSpec) own started (by kernel_rfl) Tryd.func7
    (witness_row_at (enc := enc) (C := Tryd.checked) false (laidWorld os) #[Value.int .i64 0, Value.slice none 0 0] rfl (by kernel_rfl) (by kernel_rfl) (by kernel_rfl)
      (OpenSpec.preRow_of_cond 8 hx (by kernel_rfl) (fun k hk => by cases hk) (by kernel_rfl) (laid_met os))) ?_
  intro W base args ds gs before hval hW _ _ _ hL _ _
  exact contract H enc W base args ds gs before hval hW hL

theorem said : Rows.GaugeCoresSaid :=
  OpenClaim.holds_of_cond 7 Tryd.f7 rfl rfl rfl rfl rfl rfl rfl ⟨rfl, rfl, rfl, rfl, rfl⟩ rfl rfl rfl rfl rfl (by kernel_rfl) Tryd.func7 (by kernel_rfl)
    (of_decide_eq_true (by kernel_rfl)) (by unfold Func.isWrapper; first | (rw [if_pos (by decide +kernel)]; kernel_rfl) | (rw [if_neg (by decide +kernel)]; exact ⟨rfl, rfl⟩))
    (fun os started H enc _ F => by rw [OpenClaim.pre_eq_preRow]; exact lifted os started H enc F)

theorem plain (f : FuncId) (fn : Func) (hf : Tryd.pinned.checked.prog.funcNamed "auspex/auspexlaw24.GaugeCores" = some f) (hfn : Tryd.pinned.checked.prog.funcs[f]? = some fn) :
    false = Tryd.pinned.checked.prog.looks [] ∧ ∀ (j : Nat) t, fn.params[j]? = some t → Tryd.pinned.checked.prog.wantsStandIn t = false := by
  obtain rfl : f = 7 := Option.some.inj ((show Tryd.prog.funcNamed "auspex/auspexlaw24.GaugeCores" = some 7 by kernel_rfl).symm.trans hf) |>.symm
  obtain rfl : fn = Tryd.f7 := (Option.some.inj (Tryd.func7.symm.trans hfn)).symm
  refine ⟨by kernel_rfl, fun j t ht => ?_⟩
  rw [Tryd.params7] at ht
  have hm := Array.mem_of_getElem? ht
  simp only [List.mem_toArray, List.mem_cons, List.not_mem_nil, or_false] at hm
  rcases hm with rfl | rfl
  · exact (show Tryd.prog.wantsStandIn 3 = false by kernel_rfl)
  · exact (show Tryd.prog.wantsStandIn 36 = false by kernel_rfl)

/-- THE CARD -/
theorem proved : Rows.GaugeCoresCardSaid :=
  Claim7.holds_tied_plain_at .later [] _ _ _ _ said (fun _ h => by cases h) (by kernel_rfl) (fun _ h => by cases h) gaugeCores_row_tie rfl ⟨rfl, rfl⟩ (by kernel_rfl) rfl plain (by kernel_rfl)
#print axioms proved
end Go.Proofs.YtebeelphilfjhaaDoor.gaugeCores
