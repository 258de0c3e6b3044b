/- Proved: the statement of RetireZero (auspexlaw20): register 0 stays, and all but the one that is told; what halts changes none; for every input; no condition. -/
import Derived.Test.YtjhkebabbldfcaaRows
import Derived.Test.YtjhkebabbldfcaaRetireB
import Derived.OpenShut
import Derived.Deep.QuietTactic
import Derived.BigQuiet
namespace Go.Proofs.Ytjhkebabbldfcaa.retireZero
open Go.ChangeShapes Go.WideShapes Go.ChangeAt Go.RowKit
set_option linter.unusedVariables false
set_option linter.unusedSimpArgs false
set_option maxHeartbeats 2000000
set_option maxRecDepth 100000

theorem two_allocs (w : World) (X Y : List Value) (t u : TypeId) :
    Blk ((w.alloc (.cells X.toArray t)).alloc (.cells Y.toArray u)) w.heap.size X ∧ Blk ((w.alloc (.cells X.toArray t)).alloc (.cells Y.toArray u)) (w.heap.size + 1) Y ∧ Below w.heap.size w ((w.alloc (.cells X.toArray t)).alloc (.cells Y.toArray u)) ∧
    ((w.alloc (.cells X.toArray t)).alloc (.cells Y.toArray u)).heap.size = w.heap.size + 1 + 1 := by
  have s1 : (w.alloc (.cells X.toArray t)).heap.size = w.heap.size + 1 := by simp
  have b1 : Below (w.heap.size + 1) (w.alloc (.cells X.toArray t)) ((w.alloc (.cells X.toArray t)).alloc (.cells Y.toArray u)) := (Below.refl _ _).alloc (by rw [s1]; exact Nat.le_refl _) _
  refine ⟨(Blk.new w t X).below b1 (Nat.lt_succ_self _), ?_, ?_, by simp⟩
  · have := Blk.new (w.alloc (.cells X.toArray t)) u Y
    rwa [s1] at this
  · exact ((Below.refl _ _).alloc (Nat.le_refl _) _).alloc (by rw [s1]; omega) _
theorem applyL_same (zs : List Int) (s : St) (k : Nat) (h : (k : Int) ≠ s.rd ∨ k = 0 ∨ s.halt ≠ 0) : (applyL zs s)[k]? = zs[k]? := by
  unfold applyL applyB
  by_cases ha : s.halt = 0 ∧ 1 ≤ s.rd ∧ s.rd ≤ 31
  · rw [decide_eq_true ha, if_pos rfl, List.getElem?_set_ne]
    intro e
    rcases h with h | h | h
    · omega
    · omega
    · exact h ha.1
  · rw [decide_eq_false ha]
    rfl
theorem below_drq (B : Nat) (w : World) (q : Nat) : Below B w (w.drewN q) := ⟨rfl, rfl, rfl, Nat.le_refl _, fun _ _ => rfl⟩
theorem stored_yes {s : St} (h : storedB s = true) : s.store = true ∧ s.halt = 0 ∧ 0 < s.size := by
  unfold storedB at h
  simp only [Bool.and_eq_true, Bool.or_eq_true, decide_eq_true_eq] at h
  refine ⟨h.1.1, h.1.2, by omega⟩

theorem walk (zs : List Int) (s : St) (hzs : regOK zs) (hst : stOK s) (w : World) :
    Calls Try.prog 7 #[regV zs, stV s] w fun e w' => e = .returned (.bool true) ∧ Below w.heap.size w w' := by
  have hz : zs.length = 32 := hzs.1
  have hv := bounds_u32 hst.2.2.2.1
  have HAP := Lib.hid (apply_any zs s hz)
  have HSD := Lib.hid (stored_any s hv.1 (by omega))
  have HSY := Lib.hid (stored_yes (s := s))
  have HSM := Lib.hid (applyL_same zs s)
  have hXl : (applyL zs s).length = 32 := by rw [applyL_len, hz]
  obtain ⟨X, hX⟩ : ∃ X, X = applyL zs s := ⟨_, rfl⟩
  rw [← hX] at HAP hXl HSM
  have hzr : (regL zs).length = 32 := by simp [regL, hz]
  have hXr : (regL X).toArray.size = 32 := by rw [List.size_toArray, regL, List.length_map, hXl]
  have HI := Lib.hid (show (Try.prog.info? 43).map (·.size) = some (regL zs).length by rw [hzr]; exact regs_info)
  have HI2 := Lib.hid (And.intro (show (Try.prog.info? 43).map (·.size) = some (regL X).toArray.size by rw [hXr]; exact regs_info) (And.intro (show z32.toArray.size = (regL X).toArray.size by rw [hXr]; rfl) (regL_one X)))
  have hsv : storedV s = .tuple #[.agg #[.int .u32 (if storedB s then s.addr else 0), .string (if storedB s then strOfNums (bytL s.value s.size.toNat) else ⟨#[]⟩)], .bool (storedB s)] := rfl
  obtain ⟨sb, hsb⟩ : ∃ sb, storedB s = sb := ⟨_, rfl⟩
  rw [hsb] at hsv HSY
  obtain ⟨SA, hSA⟩ : ∃ SA, (if sb then s.addr else 0) = SA := ⟨_, rfl⟩
  obtain ⟨SD, hSD⟩ : ∃ SD, (if sb then strOfNums (bytL s.value s.size.toNat) else ⟨#[]⟩) = SD := ⟨_, rfl⟩
  rw [hSA, hSD] at hsv
  rw [hsv] at HSD
  clear hsv hSA hSD hsb hX hzs hst hv
  have hstV : stV s = .agg #[.int .u32 s.pc, .int .u32 s.next, .int .i64 s.rd, .int .u32 s.value, .int .u32 s.addr, .int .i64 s.size, .bool s.store, .int .i64 s.halt, .int .i64 s.took] := rfl
  rw [hstV] at HAP HSD ⊢
  obtain ⟨pc, next, rd, value, addr, size, store, halt, took⟩ := s
  simp only at HAP HSD HSM HSY ⊢
  clear hstV
  unfold regV at HAP ⊢
  obtain ⟨f1, f2, f3, f4⟩ := two_allocs w (regL zs) [.int .u32 pc, .int .u32 next, .int .i64 rd, .int .u32 value, .int .u32 addr, .int .i64 size, .bool store, .int .i64 halt, .int .i64 took] 43 45
  have F1 := Lib.hid f1
  have F2 := Lib.hid f2
  have F3 := Lib.hid f3
  have F4 := Lib.hid f4
  clear f1 f2 f3 f4
  go_enter Try.func7, Try.ntmps7
  go_wp2_with (first
    | (refine wpList_load_mid rfl 43 (.tmp 2) rfl w.heap.size 0 rfl (regL zs) _ F1.out.range Try.underlying43 rfl HI.out ?_)
    | (go_at_call 22; refine (HAP.out _).mono ?_; rintro e w1 ⟨rfl, hb1⟩; have G1 := Lib.hid (F1.out.below hb1 (by rw [F4.out]; omega)); have G2 := Lib.hid (F2.out.below hb1 (by rw [F4.out]; omega)); have G3 := Lib.hid (F3.out.trans (hb1.mono F3.out.size)); have GS := Lib.hid hb1.size; clear hb1)
    | (refine wpList_store_fresh_at rfl 43 (.tmp 5) (.tmp 11) rfl w1.heap.size rfl _ (regL X).toArray _ rfl rfl HI2.out.2.1 HI2.out.1 HI2.out.2.2 ?_; intro W4 hb4 hB4 hs4; have K1 := Lib.hid (G1.out.below hb4 G1.out.1); have K2 := Lib.hid (G2.out.below hb4 G2.out.1); have K3 := Lib.hid (G3.out.trans (hb4.mono G3.out.size)); have KX := Lib.hid hB4; clear hb4 hB4))
  go_loopw [12] (fun i wr => ∃ k : Nat, k ≤ 32 ∧ i = .int .i64 k ∧ Below W4.heap.size W4 wr) (fun i _ => 32 - (intOf i).toNat)
  case atStart => exact ⟨0, by omega, rfl, Below.refl _ _⟩
  case round =>
    obtain ⟨k, hk, rfl, hb⟩ := hrel
    have J1 := Lib.hid (K1.out.below hb K1.out.1)
    have J2 := Lib.hid (K2.out.below hb K2.out.1)
    have JX := Lib.hid (KX.out.below hb KX.out.1)
    have JB := Lib.hid hb
    clear hb
    by_cases hlt : k < 32
    · have s2 := J2.out.2.1 2 _ rfl
      have s7 := J2.out.2.1 7 _ rfl
      obtain ⟨z, hzk⟩ : ∃ z, zs[k]? = some z := ⟨_, List.getElem?_eq_getElem (by rw [hz]; exact hlt)⟩
      have cz := J1.out.2.1 k (.int .u32 z) (by unfold regL; rw [List.getElem?_map, hzk]; rfl)
      by_cases hD : (k : Int) = rd ∧ k ≠ 0 ∧ halt = 0
      · obtain ⟨h1, h2, h3⟩ := hD
        subst h1 h3
        have g1 : ((k : Int) != (k : Int)) = false := by simp
        have g2 : ((k : Int) == 0) = false := by simp; omega
        clear hzk cz
        go_wp2
        go_quiet (fail)
        go_wp2
        go_roundw
        case rel => exact ⟨k + 1, by omega, by go_num, JB.out.trans (below_drq _ _ _)⟩
        case measure => simp [intOf]; omega
      · have hsame := HSM.out k (by omega)
        have cx := JX.out.2.1 k (.int .u32 z) (by unfold regL; rw [List.getElem?_map, hsame, hzk]; rfl)
        have gz : (z != z) = false := by simp
        clear hzk hsame
        by_cases h1 : (k : Int) = rd
        · subst h1
          have g1 : ((k : Int) != (k : Int)) = false := by simp
          by_cases h2 : k = 0
          · subst h2
            clear hD
            go_wp2
            go_quiet (fail)
            go_wp2
            go_roundw
            case rel => exact ⟨1, by omega, by go_num, JB.out.trans (below_drq _ _ _)⟩
            case measure => simp [intOf]
          · have h3 : ¬ halt = 0 := fun h => hD ⟨rfl, h2, h⟩
            have g2 : ((k : Int) == 0) = false := by simp; omega
            have g3 : (halt != 0) = true := by simpa using h3
            clear hD h3
            go_wp2
            go_quiet (fail)
            go_wp2
            go_roundw
            case rel => exact ⟨k + 1, by omega, by go_num, JB.out.trans (below_drq _ _ _)⟩
            case measure => simp [intOf]; omega
        · have g1 : ((k : Int) != rd) = true := by simpa using h1
          clear hD h1
          go_wp2
          go_quiet (fail)
          go_wp2
          go_roundw
          case rel => exact ⟨k + 1, by omega, by go_num, JB.out.trans (below_drq _ _ _)⟩
          case measure => simp [intOf]; omega
    · obtain rfl : k = 32 := by omega
      have L3 := Lib.hid (K3.out.trans (JB.out.mono K3.out.size))
      have s0 := J2.out.2.1 0 _ rfl
      have s1 := J2.out.2.1 1 _ rfl
      have s2 := J2.out.2.1 2 _ rfl
      have s3 := J2.out.2.1 3 _ rfl
      have s4 := J2.out.2.1 4 _ rfl
      have s5 := J2.out.2.1 5 _ rfl
      have s6 := J2.out.2.1 6 _ rfl
      have s7 := J2.out.2.1 7 _ rfl
      have s8 := J2.out.2.1 8 _ rfl
      go_wp2_with fail
      go_at_call 19
      refine (HSD.out _).mono ?_
      rintro e w6 ⟨rfl, hb6⟩
      have M2 := Lib.hid (J2.out.below hb6 J2.out.1)
      have M3 := Lib.hid (L3.out.trans (hb6.mono L3.out.size))
      clear hb6 s0 s1 s2 s3 s4 s5 s6 s7 s8
      go_wp2_with fail
      go_at_call 21
      refine (alive20_any _).mono ?_
      rintro e w7 ⟨rfl, hb7⟩
      have N2 := Lib.hid ((M2.out.below ((Below.refl (w6.heap.size) _).alloc (Nat.le_refl _) (.cells #[.int .u32 SA, .string SD] 47)) M2.out.1).below hb7 (by have := M2.out.1; simp; omega))
      have N3 := Lib.hid ((M3.out.alloc M3.out.size (.cells #[.int .u32 SA, .string SD] 47)).trans (hb7.mono (by have := M3.out.size; simp; omega)))
      clear hb7
      have s5 := N2.out.2.1 5 _ rfl
      have s6 := N2.out.2.1 6 _ rfl
      have s7 := N2.out.2.1 7 _ rfl
      cases sb
      · go_wp2
        go_ret
        exact ⟨rfl, N3.out⟩
      · obtain ⟨rfl, rfl, hsz⟩ := HSY.out rfl
        go_wp2
        go_ret
        exact ⟨rfl, N3.out⟩

theorem own : ownKnob Try.prog.godebug = none := by kernel_rfl
theorem laidOut : laidOutB Try.prog = true := by kernel_rfl

set_option maxRecDepth 100000 in
theorem lifted (os : Os) (started : os.Started) (H : Type) (enc : TypeId × Value → H) :
    ReturnsInHanded {} Try.checked os 7 .any (Rows.retireZeroSpec.pre6 enc Try.prog Try.f7 Rows.retireZeroRow.domain false) (Rows.retireZeroSpec.post enc Try.prog Try.f7 false true false false) := by
  refine returnsInHanded_of_change (C := Try.checked) own started (by kernel_rfl) Try.func7
    (ChangeSpec.witness6 (enc := enc) (C := Try.checked) false ⟨#[], #[Value.agg #[.int .u32 0, .int .u32 0, .int .u32 0, .int .u32 0, .int .u32 0, .int .u32 0, .int .u32 0, .int .u32 0, .int .u32 0, .int .u32 0, .int .u32 0, .int .u32 0, .int .u32 0, .int .u32 0, .int .u32 0, .int .u32 0, .int .u32 0, .int .u32 0, .int .u32 0, .int .u32 0, .int .u32 0, .int .u32 0, .int .u32 0, .int .u32 0, .int .u32 0, .int .u32 0, .int .u32 0, .int .u32 0, .int .u32 0, .int .u32 0, .int .u32 0, .int .u32 0], Value.agg #[.int .u32 0, .int .u32 0, .int .i64 0, .int .u32 0, .int .u32 0, .int .i64 0, .bool false, .int .i64 0, .int .i64 0]], []⟩ 8 (by kernel_rfl) (by kernel_rfl) (by kernel_rfl) (by kernel_rfl)) ?_
  intro W base args ds gs before hval0 hW hcnd _
  have hval : ∀ (j : Nat) t v, Try.f7.params[j]? = some t → args[j]? = some v → Value.okWide Try.prog W .any base t v := hval0
  have hW' := hW
  obtain ⟨p, q, hA0, hV, rfl, hfz, hnd⟩ := hW
  have hA : DataW.TrodAll enc Try.prog W 0 (fun _ => true) true Try.f7.params.toList args.toList ds p := hA0
  rw [Try.params7] at hA hval
  obtain ⟨v0, vs0, d0, ds0, p0, q0, hargs, rfl, rfl, h0, r0⟩ := trodAll_cons hA
  obtain ⟨v1, vs1, d1, ds1, p1, q1, rfl, rfl, rfl, h1, r1⟩ := trodAll_cons r0
  obtain ⟨rfl, rfl, rfl⟩ := trodAll_nil r1
  obtain rfl : args = #[v0, v1] := by cases args; simp_all
  obtain ⟨rfl, rfl⟩ := trodVars_none hV
  have hlt := hW'.lt
  have k0 := h0
  obtain ⟨r, rfl, w_r⟩ := arg_regs (hval 0 43 v0 rfl rfl) h0
  have k1 := h1
  obtain ⟨s, rfl, w_s⟩ := arg_step (hval 1 45 v1 rfl rfl) h1
  clear hA0 hval0
  simp only [List.append_nil] at hW'
  refine (walk r s w_r w_s W ).mono fun e W' ⟨he, bel⟩ => ?_
  subst he
  exact ⟨_, rfl, _, _, _, [], _, [], hW', trodAll_mk1 (shut_bool Try.underlying4 _), (trodAll_cons_mk (Below.trod laidOut (by kernel_rfl) (of_decide_eq_true (by kernel_rfl)) k0 bel (fun x hx => hlt x (by simp [hx]))) (trodAll_cons_mk (Below.trod laidOut (by kernel_rfl) (of_decide_eq_true (by kernel_rfl)) k1 bel (fun x hx => hlt x (by simp [hx]))) trodAll_mk0)), rfl, bel.frame _, fun h => by cases h⟩

/-- THE STATEMENT -/
theorem proved : Rows.RetireZeroSaid :=
  OpenClaim.holds_of_wide 7 Try.f7 rfl rfl rfl rfl rfl rfl rfl ⟨rfl, rfl, rfl, rfl, rfl⟩ rfl rfl rfl rfl rfl (by kernel_rfl) Try.func7 (by kernel_rfl)
    (of_decide_eq_true (by kernel_rfl)) (by unfold Func.isWrapper; first | (rw [if_pos (by decide +kernel)]; kernel_rfl) | (rw [if_neg (by decide +kernel)]; exact ⟨rfl, rfl⟩))
    (fun os started H enc _ => lifted os started H enc)
#print axioms proved
end Go.Proofs.Ytjhkebabbldfcaa.retireZero
