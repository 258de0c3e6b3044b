/- THE CONTRACTS of package cache: rightSet, Right, Find. -/
import Derived.Test.YtcgahdmacngipaaCacheA
namespace Go.Proofs.Ytcgahdmacngipaa
open Go.ChangeShapes Go.WideShapes Go.ChangeAt Go.RowKit Go.Sort
set_option linter.unusedVariables false
set_option linter.unusedSimpArgs false
set_option maxHeartbeats 2000000
set_option maxRecDepth 100000

theorem dataE (d : ByteArray) : d.toList.isEmpty = (d.size == 0) := by
  rw [Go.ByteArray.toList_eq]
  obtain ⟨l, rfl⟩ : ∃ l : List UInt8, d = ⟨l.toArray⟩ := ⟨d.data.toList, by cases d; simp⟩
  cases l <;> rfl
def linesOK (zs : List Wy) : Prop := ∀ r ∈ zs, 0 ≤ r.line ∧ r.line < 4294967296
theorem rightSet_any (B : Option Addr) (k c2 : Nat) (zs : List Wy) (at_ : Int) (n : Nat) (hk : k ≤ c2) (hc : c2 ≤ maxLen) (hn : 0 < n) (hn4 : n ≤ 4) (hzs : linesOK zs) (w : World) (hZ : WaysAt w B k zs) :
    Calls Try.prog 38 #[.slice B k c2, .int .i64 at_, .int .i64 n] w fun e w' => e = .returned (.bool (setB n at_ zs)) ∧ Below w.heap.size w w' := by
  have HZ := Lib.hid hZ
  have HL := hZ.len
  unfold maxLen at hc
  clear hZ
  go_enter Try.func38, Try.ntmps38
  go_wp2
  go_loopw [11] (fun v wr => ∃ j : Nat, j ≤ k ∧ v = .int .i64 j ∧ (∀ q, q < j → wayB n at_ zs q = true) ∧ Below w.heap.size w wr) (fun v _ => k - (intOf v).toNat)
  case atStart => exact ⟨0, by omega, rfl, (fun q h => by omega), Below.refl _ _⟩
  case round =>
    obtain ⟨j, hj, rfl, hno, hb⟩ := hrel
    have HB := Lib.hid hb
    have HNO := Lib.hid hno
    clear hb hno
    by_cases hlt : j < k
    · obtain ⟨x, hx⟩ : ∃ x, zs[j]? = some x := ⟨_, List.getElem?_eq_getElem (by omega)⟩
      obtain ⟨a, rfl, hal, hc0, hc1, hc2⟩ := (HZ.out.below HB.out).at_ hx
      have hxr := hzs x (List.mem_of_getElem? hx)
      have hwb : wayB n at_ zs j = ((x.line % 16 == 0) && ((x.line / 16 % n == at_) && (decide (placeI (zs.take j) x.line < 0) && (x.data.size == 16 || x.data.size == 0)))) := by unfold wayB; rw [hx]
      have HWB := Lib.hid hwb
      have HSO := Lib.hid (fun w : World => (setOf_any x.line n hxr.1 hxr.2 hn hn4 w).mono (fun r w' (h : _ ∧ w = w') => (show r = .returned (.int .i64 (setI n x.line)) ∧ Below w.heap.size w w' from ⟨h.1, h.2 ▸ Below.refl _ _⟩)))
      have HPL := Lib.hid (fun w h => place_any (some a) j c2 (zs.take j) x.line (by unfold maxLen; omega) w h)
      obtain ⟨pl, hpl⟩ : ∃ p, placeI (zs.take j) x.line = p := ⟨_, rfl⟩
      obtain ⟨si, hsi⟩ : ∃ p, setI n x.line = p := ⟨_, rfl⟩
      rw [hpl] at HPL HWB
      rw [hsi] at HSO
      rw [show x.line / 16 % (n : Int) = si from hsi] at HWB
      have q0 := HNO.out
      clear hx hwb hpl hsi q0
      have hb0 : Below wr.heap.size wr (wr.alloc (.cells (wyC x).toArray 37)) := (Below.refl _ _).alloc (Nat.le_refl _) _
      have hx1 := Blk.new wr 37 (wyC x)
      have ZT := Lib.hid (((HZ.out.below HB.out).below hb0).take (show j ≤ k by omega))
      have hb1 := HB.out.trans (hb0.mono HB.out.size)
      unfold wyC at hx1 hb0 hb1 ZT
      go_upto_region 4 with fail
      generalize wr.alloc (.cells #[.int .u32 x.line, .bool x.dirty, .string x.data] 37) = W0 at *
      have X1 := Lib.hid hx1
      have KB := Lib.hid hb1
      clear hx1 hb1 hb0 hc0 hc1 hc2
      have c0 := X1.out.2.1 0 _ rfl
      have p0 := fun d os => cell_regrown c0 d os
      clear c0
      generalize wr.heap.size = xb at *
      cases e1 : (x.line % 16 != 0)
      · have e1' : (x.line % 16 == 0) = true := by simpa using e1
        cases e2 : (si != at_)
        · have e2' : (si == at_) = true := by simpa using e2
          cases e3 : decide (0 ≤ pl)
          · have e3' : decide (pl < 0) = true := by
              have := of_decide_eq_false e3
              exact decide_eq_true (by omega)
            refine wp_region_quiet_below (by kernel_rfl) (by kernel_rfl) ?_
            repeat (go_big_quiet_step (first
              | (go_at_call 34; exact Calls.regrown_of (HSO.out _))
              | (go_at_call 35; exact Calls.regrown_of (HPL.out _ (WaysAt.below ZT.out (below_regrown _ _ _))))))
            refine wpQuiet_nil ?_
            intro _ hw'
            obtain ⟨⟨nq, osq⟩, hw''⟩ := hw'
            subst hw''
            have bq := below_regrown W0 nq osq
            have X2 := Lib.hid (X1.out.below bq X1.out.1)
            have KB2 := Lib.hid (KB.out.trans (bq.mono KB.out.size))
            clear bq p0
            generalize grow (redrawn W0 nq) osq = W2 at *
            have c2' := X2.out.2.1 2 _ rfl
            cases e4 : ((x.data.size : Int) != 16)
            · have HWT := Lib.hid (show wayB n at_ zs j = true by
                rw [HWB.out, e1', e2', e3', show (x.data.size == 16) = true by simp at e4 ⊢; omega]
                rfl)
              go_wp2
              go_roundw
              case rel => exact ⟨j + 1, by omega, by go_num, (fun q hq => by
                rcases Nat.lt_or_ge q j with h | h
                · exact HNO.out q h
                · obtain rfl : q = j := by omega
                  exact HWT.out), KB2.out⟩
              case measure => simp [intOf]; omega
            · cases e5 : x.data.toList.isEmpty
              · have e6 : (!x.data.toList.isEmpty) = true := by rw [e5]; rfl
                have HWF := Lib.hid (show setB n at_ zs = false from allR_false (k := j) (by omega) (by
                  rw [HWB.out, e1', e2', e3', show (x.data.size == 16) = false by simp at e4 ⊢; omega, ← dataE, e5]
                  rfl))
                go_wp2
                go_ret
                exact ⟨ret_boolC HWF.out.symm, KB2.out⟩
              · have e6 : (!x.data.toList.isEmpty) = false := by rw [e5]; rfl
                have HWT := Lib.hid (show wayB n at_ zs j = true by
                  rw [HWB.out, e1', e2', e3', ← dataE, e5]
                  simp)
                go_wp2
                go_roundw
                case rel => exact ⟨j + 1, by omega, by go_num, (fun q hq => by
                  rcases Nat.lt_or_ge q j with h | h
                  · exact HNO.out q h
                  · obtain rfl : q = j := by omega
                    exact HWT.out), KB2.out⟩
                case measure => simp [intOf]; omega
          · have HWF := Lib.hid (show setB n at_ zs = false from allR_false (k := j) (by omega) (by
              rw [HWB.out, e1', e2', show decide (pl < 0) = false by
                have := of_decide_eq_true e3
                exact decide_eq_false (by omega)]
              rfl))
            refine wp_region_quiet_below (by kernel_rfl) (by kernel_rfl) ?_
            repeat (go_big_quiet_step (first
              | (go_at_call 34; exact Calls.regrown_of (HSO.out _))
              | (go_at_call 35; exact Calls.regrown_of (HPL.out _ (WaysAt.below ZT.out (below_regrown _ _ _))))))
            refine wpQuiet_nil ?_
            intro _ hw'
            obtain ⟨⟨nq, osq⟩, hw''⟩ := hw'
            subst hw''
            have bq := below_regrown W0 nq osq
            have X2 := Lib.hid (X1.out.below bq X1.out.1)
            have KB2 := Lib.hid (KB.out.trans (bq.mono KB.out.size))
            clear bq p0
            generalize grow (redrawn W0 nq) osq = W2 at *
            go_wp2
            go_ret
            exact ⟨ret_boolC HWF.out.symm, KB2.out⟩
        · have HWF := Lib.hid (show setB n at_ zs = false from allR_false (k := j) (by omega) (by
            rw [HWB.out, e1', show (si == at_) = false by simpa using e2]
            rfl))
          refine wp_region_quiet_below (by kernel_rfl) (by kernel_rfl) ?_
          repeat (go_big_quiet_step (first
            | (go_at_call 34; exact Calls.regrown_of (HSO.out _))
            | (go_at_call 35; exact Calls.regrown_of (HPL.out _ (WaysAt.below ZT.out (below_regrown _ _ _))))))
          refine wpQuiet_nil ?_
          intro _ hw'
          obtain ⟨⟨nq, osq⟩, hw''⟩ := hw'
          subst hw''
          have bq := below_regrown W0 nq osq
          have X2 := Lib.hid (X1.out.below bq X1.out.1)
          have KB2 := Lib.hid (KB.out.trans (bq.mono KB.out.size))
          clear bq p0
          generalize grow (redrawn W0 nq) osq = W2 at *
          go_wp2
          go_ret
          exact ⟨ret_boolC HWF.out.symm, KB2.out⟩
      · have HWF := Lib.hid (show setB n at_ zs = false from allR_false (k := j) (by omega) (by
          rw [HWB.out, show (x.line % 16 == 0) = false by simpa using e1]
          rfl))
        refine wp_region_quiet_below (by kernel_rfl) (by kernel_rfl) ?_
        repeat (go_big_quiet_step (first
          | (go_at_call 34; exact Calls.regrown_of (HSO.out _))
          | (go_at_call 35; exact Calls.regrown_of (HPL.out _ (WaysAt.below ZT.out (below_regrown _ _ _))))))
        refine wpQuiet_nil ?_
        intro _ hw'
        obtain ⟨⟨nq, osq⟩, hw''⟩ := hw'
        subst hw''
        have bq := below_regrown W0 nq osq
        have X2 := Lib.hid (X1.out.below bq X1.out.1)
        have KB2 := Lib.hid (KB.out.trans (bq.mono KB.out.size))
        clear bq p0
        generalize grow (redrawn W0 nq) osq = W2 at *
        go_wp2
        go_ret
        exact ⟨ret_boolC HWF.out.symm, KB2.out⟩
    · obtain rfl : j = k := by omega
      have HWT := Lib.hid (show setB n at_ zs = true from allR_true (fun q hq => HNO.out q (by omega)))
      go_wp2
      go_ret
      exact ⟨ret_boolC HWT.out.symm, HB.out⟩
end Go.Proofs.Ytcgahdmacngipaa
