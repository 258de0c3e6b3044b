/- Proved: the statement of RetireSteps (auspexlaw20): what a step makes of the registers, and the store that it leaves, are the reference's; for every input; no condition. -/
import Derived.Test.YtjhkebabbldfcaaRows
import Derived.Test.YtjhkebabbldfcaaRetireB
import Derived.Laws.StructEq
import Derived.OpenShut
import Derived.Deep.QuietTactic
import Derived.BigQuiet
import Derived.Lib.QuietBelow
namespace Go.Proofs.Ytjhkebabbldfcaa.retireSteps
open Go.ChangeShapes Go.WideShapes Go.ChangeAt Go.RowKit Go.Sort
set_option linter.unusedVariables false
set_option linter.unusedSimpArgs false
set_option maxHeartbeats 2000000
set_option maxRecDepth 100000

theorem eql_regs (X : List Int) (h : X.length = 32) (w : World) : (binOp .eql 43 (.agg (regL X).toArray) (.agg (regL X).toArray)).run Try.prog w = .ok (.bool true) w := by
  rw [run_eql_struct, show (10000 : Nat) = 9998 + 1 + 1 from rfl, Op.equalIn]
  have hs : ∀ w, (sizeOf 29).run Try.prog w = .ok 1 w := fun w => by kernel_rfl
  simp only [Sem.run_bind, run_underlying Try.underlying43, Result.andThen_ok, hs, Std.Legacy.Range.forIn_eq_forIn_range', Std.Legacy.Range.size, Nat.sub_zero, Nat.add_sub_cancel, Nat.div_one]
  have hl : ∀ i ∈ List.range' 0 32 1, i < 32 := fun i hi => by simpa using (List.mem_range'_1.1 hi).2
  generalize List.range' 0 32 1 = l at hl ⊢
  induction l with
  | nil => simp
  | cons i l ih =>
    have hi : i < 32 := hl i (by simp)
    obtain ⟨z, hz⟩ : ∃ z, X[i]? = some z := ⟨_, List.getElem?_eq_getElem (by omega)⟩
    have hp : (part 29 (regL X).toArray (i * 1)).run Try.prog w = .ok (.int .u32 z) w := by
      rw [Nat.mul_one]
      simp [part, isAgg, run_underlying Try.underlying29, regL, hz]
    have he : (Op.equalIn (9998 + 1) 29 (.int .u32 z) (.int .u32 z)).run Try.prog w = .ok true w := by
      rw [run_equalIn_int w 9998 29 .u32 .u32 _ _ Try.underlying29]
      simp
    simp only [List.forIn_cons, Sem.run_bind, hp, he, Result.andThen_ok, Bool.not_true, Bool.false_eq_true, if_false, Sem.run_pure]
    exact ih fun j hj => hl j (by simp [hj])

theorem quiet_load_mid {P : Program} {op : Oper} {a : Act} {K : Act → Prop} {w : World} (ty : TypeId) (x : Operand) (ho : op.op = .load ty x)
    (b : Nat) (hx : a.eval x = .pointer (some ⟨b, 0, none⟩)) (cs : List Value) (d : TypeDesc) (hc : Blk w b cs)
    (hu : P.underlying ty = some d) (hd : d.isRow = true) (hi : (P.info? ty).map (·.size) = some cs.length)
    (hk : K (a.put op.dst (.agg cs.toArray))) : op.quiet P a (fun w' => ∃ p : Regrown, w' = grow (redrawn w p.d) p.os) K := by
  refine ⟨_, ?_, hk⟩
  rintro w' ⟨p, rfl⟩
  have hr := (hc.below (below_regrown w p.d p.os) hc.1).range
  unfold Oper.quietAt execOp
  simp only [ho, hx, Instr.loadAt, Instr.sureAddr, Sem.run_bind, Sem.run_pure, Result.andThen_ok, run_loadVar_mid _ b 0 ty cs d hr hu hd hi]
  exact ⟨rfl, rfl⟩

theorem quiet_eql {P : Program} {op : Oper} {a : Act} {K : Act → Prop} {C : World → Prop} (ty ty2 : TypeId) (x y : Operand) (ho : op.op = .binOp .eql ty x y ty2)
    (u v : Array Value) (hx : a.eval x = .agg u) (hy : a.eval y = .agg v) (h : ∀ w, (binOp .eql ty (.agg u) (.agg v)).run P w = .ok (.bool true) w)
    (hm : P.eqGuardType P.depth ty = false)
    (hk : K (a.put op.dst (.bool true))) : op.quiet P a C K := by
  refine ⟨_, ?_, hk⟩
  intro w' _
  unfold Oper.quietAt execOp
  simp only [ho, hx, hy, Sem.run_bind, Sem.run_pure, Result.andThen_ok, h, run_eqGuard_agg w' .eql ty x y u v hm]
  exact ⟨rfl, rfl⟩
theorem eql_put (a : Int) (d : ByteArray) (w : World) : (binOp .eql 47 (.agg #[.int .u32 a, .string d]) (.agg #[.int .u32 a, .string d])).run Try.prog w = .ok (.bool true) w := by
  rw [run_eql_struct, show (10000 : Nat) = 9999 + 1 from rfl, run_equalIn_agg w 9999 47 _ _ (by kernel_rfl) (by kernel_rfl)]
  simp only [Program.fieldsOf, Try.underlying47]
  go_simp

theorem two_allocs (w : World) (X Y : List Value) (t u : TypeId) :
    Blk ((w.alloc (.cells X.toArray t)).alloc (.cells Y.toArray u)) w.heap.size X ∧ Blk ((w.alloc (.cells X.toArray t)).alloc (.cells Y.toArray u)) (w.heap.size + 1) Y ∧ Below w.heap.size w ((w.alloc (.cells X.toArray t)).alloc (.cells Y.toArray u)) ∧
    ((w.alloc (.cells X.toArray t)).alloc (.cells Y.toArray u)).heap.size = w.heap.size + 1 + 1 := by
  have s1 : (w.alloc (.cells X.toArray t)).heap.size = w.heap.size + 1 := by simp
  have b1 : Below (w.heap.size + 1) (w.alloc (.cells X.toArray t)) ((w.alloc (.cells X.toArray t)).alloc (.cells Y.toArray u)) := (Below.refl _ _).alloc (by rw [s1]; exact Nat.le_refl _) _
  refine ⟨(Blk.new w t X).below b1 (Nat.lt_succ_self _), ?_, ?_, by simp⟩
  · have := Blk.new (w.alloc (.cells X.toArray t)) u Y
    rwa [s1] at this
  · exact ((Below.refl _ _).alloc (Nat.le_refl _) _).alloc (by rw [s1]; omega) _

theorem walk (zs : List Int) (s : St) (hzs : regOK zs) (hst : stOK s) (w : World) :
    Calls Try.prog 6 #[regV zs, stV s] w fun e w' => e = .returned (.bool true) ∧ Below w.heap.size w w' := by
  have hz : zs.length = 32 := hzs.1
  have hv := bounds_u32 hst.2.2.2.1
  have HAP := Lib.hid (apply_any zs s hz)
  have HAR := Lib.hid (refApply_any zs s hz)
  have HSD := Lib.hid (stored_any s hv.1 (by omega))
  have HSR := Lib.hid (refStored_any s hv.1 (by omega))
  have hXl : (applyL zs s).length = 32 := by rw [applyL_len, hz]
  obtain ⟨X, hX⟩ : ∃ X, X = applyL zs s := ⟨_, rfl⟩
  rw [← hX] at HAP HAR hXl
  have hzr : (regL zs).length = 32 := by simp [regL, hz]
  have HI := Lib.hid (show (Try.prog.info? 43).map (·.size) = some (regL zs).length by rw [hzr]; exact regs_info)
  have HEX := Lib.hid (eql_regs X hXl)
  have hsv : storedV s = .tuple #[.agg #[.int .u32 (if storedB s then s.addr else 0), .string (if storedB s then strOfNums (bytL s.value s.size.toNat) else ⟨#[]⟩)], .bool (storedB s)] := rfl
  obtain ⟨sb, hsb⟩ : ∃ sb, storedB s = sb := ⟨_, rfl⟩
  rw [hsb] at hsv
  obtain ⟨SA, hSA⟩ : ∃ SA, (if sb then s.addr else 0) = SA := ⟨_, rfl⟩
  obtain ⟨SD, hSD⟩ : ∃ SD, (if sb then strOfNums (bytL s.value s.size.toNat) else ⟨#[]⟩) = SD := ⟨_, rfl⟩
  rw [hSA, hSD] at hsv
  rw [hsv] at HSD HSR
  clear hsv hSA hSD hsb hX hzs hst hv hzr hXl
  have hstV : stV s = .agg #[.int .u32 s.pc, .int .u32 s.next, .int .i64 s.rd, .int .u32 s.value, .int .u32 s.addr, .int .i64 s.size, .bool s.store, .int .i64 s.halt, .int .i64 s.took] := rfl
  rw [hstV] at HAP HAR HSD HSR ⊢
  obtain ⟨pc, next, rd, value, addr, size, store, halt, took⟩ := s
  simp only at HAP HAR HSD HSR ⊢
  clear hstV
  unfold regV at HAP HAR ⊢
  obtain ⟨f1, f2, f3, f4⟩ := two_allocs w (regL zs) [.int .u32 pc, .int .u32 next, .int .i64 rd, .int .u32 value, .int .u32 addr, .int .i64 size, .bool store, .int .i64 halt, .int .i64 took] 43 45
  have F1 := Lib.hid f1
  have F2 := Lib.hid f2
  have F3 := Lib.hid f3
  have F4 := Lib.hid f4
  clear f1 f2 f3 f4
  go_enter Try.func6, Try.ntmps6
  go_wp2_with fail
  go_at_call 19
  refine (HSD.out _).mono ?_
  rintro e w1 ⟨rfl, b⟩
  have b2 : Below w1.heap.size w1 (w1.alloc (.cells #[.int .u32 SA, .string SD] 47)) := (Below.refl _ _).alloc (Nat.le_refl _) _
  have g1 := (F1.out.below b (by rw [F4.out]; omega)).below b2 ((F1.out.below b (by rw [F4.out]; omega)).1)
  have g2 := (F2.out.below b (by rw [F4.out]; omega)).below b2 ((F2.out.below b (by rw [F4.out]; omega)).1)
  have g3 := (F3.out.trans (b.mono F3.out.size)).trans (b2.mono (F3.out.trans (b.mono F3.out.size)).size)
  have GP := Lib.hid (Blk.new w1 47 [.int .u32 SA, .string SD])
  have G1 := Lib.hid g1
  have G2 := Lib.hid g2
  have G3 := Lib.hid g3
  clear g1 g2 g3 b b2
  have s0 := G2.out.2.1 0 _ rfl
  have s1 := G2.out.2.1 1 _ rfl
  have s2 := G2.out.2.1 2 _ rfl
  have s3 := G2.out.2.1 3 _ rfl
  have s4 := G2.out.2.1 4 _ rfl
  have s5 := G2.out.2.1 5 _ rfl
  have s6 := G2.out.2.1 6 _ rfl
  have s7 := G2.out.2.1 7 _ rfl
  have s8 := G2.out.2.1 8 _ rfl
  go_wp2_with fail
  go_at_call 20
  refine (HSR.out _).mono ?_
  rintro e w2 ⟨rfl, b⟩
  have b2 : Below w2.heap.size w2 (w2.alloc (.cells #[.int .u32 SA, .string SD] 47)) := (Below.refl _ _).alloc (Nat.le_refl _) _
  have h1 := (G1.out.below b G1.out.1).below b2 (G1.out.below b G1.out.1).1
  have h2 := (G2.out.below b G2.out.1).below b2 (G2.out.below b G2.out.1).1
  have hP := (GP.out.below b GP.out.1).below b2 (GP.out.below b GP.out.1).1
  have h3 := (G3.out.trans (b.mono G3.out.size)).trans (b2.mono (G3.out.trans (b.mono G3.out.size)).size)
  have HQ := Lib.hid (Blk.new w2 47 [.int .u32 SA, .string SD])
  have H1 := Lib.hid h1
  have H2 := Lib.hid h2
  have H3 := Lib.hid h3
  have HP := Lib.hid hP
  clear h1 h2 h3 hP b b2 s0 s1 s2 s3 s4 s5 s6 s7 s8
  go_wp2_with fail
  obtain ⟨WB, hWB⟩ : ∃ WB, w2.alloc (.cells #[.int .u32 SA, .string SD] 47) = WB := ⟨_, rfl⟩
  rw [hWB] at H1 H2 H3 HP HQ ⊢
  clear hWB
  have HI2 := Lib.hid (show (Try.prog.info? 45).map (·.size) = some 9 by kernel_rfl)
  have HI3 := Lib.hid (show (Try.prog.info? 47).map (·.size) = some 2 by kernel_rfl)
  have HG1 := Lib.hid (show Try.prog.eqGuardType Try.prog.depth 43 = false by kernel_rfl)
  have HG2 := Lib.hid (show Try.prog.eqGuardType Try.prog.depth 47 = false by kernel_rfl)
  cases sb
  all_goals
    refine wp_region_quiet_below (by kernel_rfl) (by kernel_rfl) ?_
    repeat (first
      | (go_big_quiet_want; refine quiet_load_mid 43 (.tmp 2) rfl _ rfl (regL zs) _ H1.out Try.underlying43 rfl HI.out ?_; simp only [Act.put, List.setIfInBounds_toArray, List.set_cons_succ, List.set_cons_zero]; go_big_quiet_on)
      | (go_big_quiet_want; refine quiet_load_mid 45 (.tmp 3) rfl _ rfl _ _ H2.out Try.underlying45 rfl HI2.out ?_; simp only [Act.put, List.setIfInBounds_toArray, List.set_cons_succ, List.set_cons_zero]; go_big_quiet_on)
      | (go_big_quiet_want; refine quiet_load_mid 47 (.tmp 5) rfl _ rfl _ _ HP.out Try.underlying47 rfl HI3.out ?_; simp only [Act.put, List.setIfInBounds_toArray, List.set_cons_succ, List.set_cons_zero]; go_big_quiet_on)
      | (go_big_quiet_want; refine quiet_load_mid 47 (.tmp 7) rfl _ rfl _ _ HQ.out Try.underlying47 rfl HI3.out ?_; simp only [Act.put, List.setIfInBounds_toArray, List.set_cons_succ, List.set_cons_zero]; go_big_quiet_on)
      | (go_big_quiet_want; refine quiet_eql 43 _ (.tmp 23) (.tmp 26) rfl _ _ rfl rfl HEX.out HG1.out ?_; simp only [Act.put, List.setIfInBounds_toArray, List.set_cons_succ, List.set_cons_zero]; go_big_quiet_on)
      | (go_big_quiet_want; refine quiet_eql 47 _ (.tmp 30) (.tmp 31) rfl _ _ rfl rfl (eql_put _ _) HG2.out ?_; simp only [Act.put, List.setIfInBounds_toArray, List.set_cons_succ, List.set_cons_zero]; go_big_quiet_on)
      | (go_big_quiet_step (first
        | (go_at_call 21; exact Calls.regrown_of (alive20_any _))
        | (go_at_call 22; exact Calls.regrown_of (HAP.out _))
        | (go_at_call 23; exact Calls.regrown_of (HAR.out _)))))
    refine wpQuiet_nil ?_
    intro _ hw'
    obtain ⟨⟨nq, osq⟩, hw''⟩ := hw'
    subst hw''
    go_wp2
    go_ret
    exact ⟨rfl, H3.out.trans ((below_regrown _ _ _).mono H3.out.size)⟩
theorem own : ownKnob Try.prog.godebug = none := by kernel_rfl
theorem laidOut : laidOutB Try.prog = true := by kernel_rfl

set_option maxRecDepth 100000 in
theorem lifted (os : Os) (started : os.Started) (H : Type) (enc : TypeId × Value → H) :
    ReturnsInHanded {} Try.checked os 6 .any (Rows.retireStepsSpec.pre6 enc Try.prog Try.f6 Rows.retireStepsRow.domain false) (Rows.retireStepsSpec.post enc Try.prog Try.f6 false true false false) := by
  refine returnsInHanded_of_change (C := Try.checked) own started (by kernel_rfl) Try.func6
    (ChangeSpec.witness6 (enc := enc) (C := Try.checked) false ⟨#[], #[Value.agg #[.int .u32 0, .int .u32 0, .int .u32 0, .int .u32 0, .int .u32 0, .int .u32 0, .int .u32 0, .int .u32 0, .int .u32 0, .int .u32 0, .int .u32 0, .int .u32 0, .int .u32 0, .int .u32 0, .int .u32 0, .int .u32 0, .int .u32 0, .int .u32 0, .int .u32 0, .int .u32 0, .int .u32 0, .int .u32 0, .int .u32 0, .int .u32 0, .int .u32 0, .int .u32 0, .int .u32 0, .int .u32 0, .int .u32 0, .int .u32 0, .int .u32 0, .int .u32 0], Value.agg #[.int .u32 0, .int .u32 0, .int .i64 0, .int .u32 0, .int .u32 0, .int .i64 0, .bool false, .int .i64 0, .int .i64 0]], []⟩ 8 (by kernel_rfl) (by kernel_rfl) (by kernel_rfl) (by kernel_rfl)) ?_
  intro W base args ds gs before hval0 hW hcnd _
  have hval : ∀ (j : Nat) t v, Try.f6.params[j]? = some t → args[j]? = some v → Value.okWide Try.prog W .any base t v := hval0
  have hW' := hW
  obtain ⟨p, q, hA0, hV, rfl, hfz, hnd⟩ := hW
  have hA : DataW.TrodAll enc Try.prog W 0 (fun _ => true) true Try.f6.params.toList args.toList ds p := hA0
  rw [Try.params6] at hA hval
  obtain ⟨v0, vs0, d0, ds0, p0, q0, hargs, rfl, rfl, h0, r0⟩ := trodAll_cons hA
  obtain ⟨v1, vs1, d1, ds1, p1, q1, rfl, rfl, rfl, h1, r1⟩ := trodAll_cons r0
  obtain ⟨rfl, rfl, rfl⟩ := trodAll_nil r1
  obtain rfl : args = #[v0, v1] := by cases args; simp_all
  obtain ⟨rfl, rfl⟩ := trodVars_none hV
  have hlt := hW'.lt
  have k0 := h0
  obtain ⟨r, rfl, w_r⟩ := arg_regs (hval 0 43 v0 rfl rfl) h0
  have k1 := h1
  obtain ⟨s, rfl, w_s⟩ := arg_step (hval 1 45 v1 rfl rfl) h1
  clear hA0 hval0
  simp only [List.append_nil] at hW'
  refine (walk r s w_r w_s W ).mono fun e W' ⟨he, bel⟩ => ?_
  subst he
  exact ⟨_, rfl, _, _, _, [], _, [], hW', trodAll_mk1 (shut_bool Try.underlying4 _), (trodAll_cons_mk (Below.trod laidOut (by kernel_rfl) (of_decide_eq_true (by kernel_rfl)) k0 bel (fun x hx => hlt x (by simp [hx]))) (trodAll_cons_mk (Below.trod laidOut (by kernel_rfl) (of_decide_eq_true (by kernel_rfl)) k1 bel (fun x hx => hlt x (by simp [hx]))) trodAll_mk0)), rfl, bel.frame _, fun h => by cases h⟩

/-- THE STATEMENT -/
theorem proved : Rows.RetireStepsSaid :=
  OpenClaim.holds_of_wide 6 Try.f6 rfl rfl rfl rfl rfl rfl rfl ⟨rfl, rfl, rfl, rfl, rfl⟩ rfl rfl rfl rfl rfl (by kernel_rfl) Try.func6 (by kernel_rfl)
    (of_decide_eq_true (by kernel_rfl)) (by unfold Func.isWrapper; first | (rw [if_pos (by decide +kernel)]; kernel_rfl) | (rw [if_neg (by decide +kernel)]; exact ⟨rfl, rfl⟩))
    (fun os started H enc _ => lifted os started H enc)
#print axioms proved
end Go.Proofs.Ytjhkebabbldfcaa.retireSteps
