/- THE CONTRACT of Tick, of package bus. -/
import Derived.Test.YtebeelphilfjhaaBus2
import Derived.BigRegion
import Derived.StillTailTactics
namespace Go.Proofs.Ytebeelphilfjhaa
open Go.ChangeShapes Go.WideShapes Go.ChangeAt Go.RowKit
set_option linter.unusedVariables false
set_option linter.unusedSimpArgs false

theorem RowsAt.setCell {w : World} {A : Option Addr} {n sz : Nat} {cs : List (List Value)} (h : RowsAt w A n sz cs) {p : Addr} (hp : ∀ a, A = some a → p.block ≠ a.block) (u : Value) : RowsAt (w.setCell p u) A n sz cs :=
  ⟨h.1, fun j c hc => by
    obtain ⟨e, a, ha, hl, hv⟩ := h.2 j c hc
    refine ⟨e, a, ha, by simpa using hl, fun i v hi => ?_⟩
    rw [World.cell?_setCell_other _ _ _ _ (fun e => hp a ha (by rw [e, block_add]))]
    exact hv i v hi⟩
theorem reqs_kept {w : World} {g b n : Nat} {rs : List Req} (hp : b ≠ g) (h : ReqsAt w (some ⟨g, 0, none⟩) n rs) (v0 v1 v2 v3 : Value) :
    ReqsAt ((((w.setCell ⟨b, 0, none⟩ v0).setCell ⟨b, 1, none⟩ v1).setCell ⟨b, 2, none⟩ v2).setCell ⟨b, 3, none⟩ v3) (some ⟨g, 0, none⟩) n rs := by
  have hq : ∀ i : Nat, ∀ a : Addr, (some ⟨g, 0, none⟩ : Option Addr) = some a → (⟨b, i, none⟩ : Addr).block ≠ a.block := fun i a ha => by cases ha; exact hp
  exact RowsAt.setCell (RowsAt.setCell (RowsAt.setCell (RowsAt.setCell h (hq 0) _) (hq 1) _) (hq 2) _) (hq 3) _
theorem reqs_drew {w : World} {A : Option Addr} {n : Nat} {rs : List Req} (h : ReqsAt w A n rs) : ReqsAt w.drew A n rs := h
theorem below_drew {B : Nat} {a w : World} (h : Below B a w) : Below B a w.drew := ⟨h.os, h.tape, h.output, h.size, h.block⟩
theorem Four.setCell {w : World} {b : Nat} {v0 v1 v2 v3 : Value} (h : Four w b v0 v1 v2 v3) {p : Addr} (hp : p.block ≠ b) (v : Value) : Four (w.setCell p v) b v0 v1 v2 v3 := by
  obtain ⟨⟨a0, a1, a2, a3⟩, ⟨f0, f1, f2, f3⟩⟩ := h
  have hc : ∀ i, (w.setCell p v).cell? ⟨b, i, none⟩ = w.cell? ⟨b, i, none⟩ := fun i => World.cell?_setCell_other _ _ _ _ (fun e => hp (by rw [e]))
  have hf : ∀ i, (w.setCell p v).frozen? ⟨b, i, none⟩ = w.frozen? ⟨b, i, none⟩ := fun i => by simp
  exact ⟨⟨by rw [hc]; exact a0, by rw [hc]; exact a1, by rw [hc]; exact a2, by rw [hc]; exact a3⟩, ⟨by rw [hf]; exact f0, by rw [hf]; exact f1, by rw [hf]; exact f2, by rw [hf]; exact f3⟩⟩
def req0 : Req := ⟨0, 0, 0, ByteArray.mk #[]⟩
/-- a cycle: the row, the one that is done, is one? -/
def tickR : List Req → List Req × Req × Bool
  | [] => ([], req0, false)
  | r :: tl => if 0 < wrap64 (r.left - 1) then ({ r with left := wrap64 (r.left - 1) } :: tl, req0, false) else (tl, { r with left := wrap64 (r.left - 1) }, true)

set_option maxHeartbeats 1000000
set_option maxRecDepth 100000
theorem tick_any (A : Option Addr) (n cap : Nat) (rs : List Req) (hn : n ≤ 100) (w : World) (h : ReqsAt w A n rs) (hc : n ≤ cap) (hm : cap ≤ maxLen) :
    Calls Try.prog 37 #[.slice A n cap] w fun e w' =>
      ∃ A' cap', e = .returned (.tuple #[.slice A' (tickR rs).1.length cap', reqV (tickR rs).2.1, .bool (tickR rs).2.2]) ∧ (tickR rs).1.length ≤ cap' ∧ cap' ≤ maxLen ∧ ReqsAt w' A' (tickR rs).1.length (tickR rs).1 ∧ Below w.heap.size w w' := by
  have hb0 := (Below.refl w.heap.size w).alloc (Nat.le_refl _) (.cells #[.int .i64 0, .int .u32 0, .int .i64 0, .string (ByteArray.mk #[])] 39)
  have hf := four_new w 39 (.int .i64 0) (.int .u32 0) (.int .i64 0) (.string (ByteArray.mk #[]))
  have HC := Lib.hid (clone_any A n cap rs (by omega) _ (h.below hb0))
  have hl := h.len
  cases rs with
  | nil =>
    obtain rfl : n = 0 := hl.symm
    have h' := h.below hb0
    clear hl HC h
    go_enter Try.func37, Try.ntmps37
    go_wp2
    refine bodyPost_ret (v := .tuple #[.slice A 0 cap, reqV req0, .bool false]) ?_ rfl ⟨A, cap, rfl, Nat.zero_le _, hm, h', hb0⟩
    simp [results, Try.results37, go_sem, reqV, req0]
  | cons r tl =>
    have HL := Lib.hid hl
    have hpos : 0 < n := by rw [← hl]; simp
    clear h hl
    generalize hw0 : w.alloc (.cells #[.int .i64 0, .int .u32 0, .int .i64 0, .string (ByteArray.mk #[])] 39) = w0 at *
    have hsz : w.heap.size < w0.heap.size := by rw [← hw0]; simp
    have Hw0 := Lib.hid hw0
    clear hw0
    go_enter Try.func37, Try.ntmps37
    go_wp2_with fail
    rw [Hw0.out]
    refine HC.out.mono ?_
    rintro e w1 ⟨v, rfl, hown, hbel1⟩
    have hf1 := hf.below hbel1 hsz
    have hbel := hb0.trans (hbel1.mono (Nat.le_of_lt hsz))
    have hsz1 : w.heap.size < w1.heap.size := Nat.lt_of_lt_of_le hsz hbel1.size
    clear HC hf hbel1 hb0
    obtain ⟨g, cap', rfl, hg, hgl, hnc, hcm⟩ : ∃ g cap', v = .slice (some ⟨g, 0, none⟩) n cap' ∧ w0.heap.size ≤ g ∧ g < w1.heap.size ∧ n ≤ cap' ∧ cap' ≤ maxLen := by
      rcases hown.2 with ⟨_, h0⟩ | ⟨g, cap', cur, rfl, h1, h2, h3, h4, _⟩
      · omega
      · refine ⟨g, cap', rfl, h1, ?_, h3, h4⟩
        rcases Nat.lt_or_ge g w1.heap.size with h' | h'
        · exact h'
        · rw [Array.getElem?_eq_none h'] at h2; cases h2
    have hne : ¬ g = w.heap.size := by omega
    have c0 : w1.cell? ⟨g, 0, none⟩ = some (.int .i64 r.kind) := hown.cellAt 0 (by omega)
    have c1 : w1.cell? ⟨g, 1, none⟩ = some (.int .u32 r.line) := hown.cellAt 1 (by omega)
    have c2 : w1.cell? ⟨g, 2, none⟩ = some (.int .i64 r.left) := hown.cellAt 2 (by omega)
    have c3 : w1.cell? ⟨g, 3, none⟩ = some (.string r.data) := hown.cellAt 3 (by omega)
    have fz : w1.frozen? ⟨g, 2, none⟩ = false := hown.frozenAt 2
    obtain ⟨hst, hgr⟩ := hown.stored 2 (.int .i64 (wrap64 (r.left - 1)))
    have hbel2 := hbel.grown hgr (by omega) (fun k hk => by cases hk; omega)
    have hst' : (w1.setCell ⟨g, 2, none⟩ (.int .i64 (wrap64 (r.left - 1)))).ownsRow w0.heap.size 39 4 (.slice (some ⟨g, 0, none⟩) n cap') n (({ r with left := wrap64 (r.left - 1) } :: tl).map reqC).flatten := hst
    obtain ⟨A', cp, hv, -, -, hat⟩ := ReqsAt.own hst' (by simpa using HL.out)
    injection hv with hA hn' hc'
    subst hA hc'
    have HR := Lib.hid hat
    have hp2 : (0 : Nat) < n := hpos
    clear hst hst' hgr hown hat
    obtain ⟨⟨x0, x1, x2, x3⟩, ⟨y0, y1, y2, y3⟩⟩ := hf1.setCell (p := ⟨g, 2, none⟩) (fun e => hne e) (.int .i64 (wrap64 (r.left - 1)))
    clear hf1
    by_cases hd : 0 < wrap64 (r.left - 1)
    · have HT := Lib.hid (show tickR (r :: tl) = ({ r with left := wrap64 (r.left - 1) } :: tl, req0, false) from if_pos hd)
      have hd1 : decide (wrap64 (r.left - 1) > 0) = true := by simpa using hd
      go_wp2
      refine bodyPost_ret (v := .tuple #[.slice (some ⟨g, 0, none⟩) n cap', reqV req0, .bool false]) ?_ rfl ?_
      · simp [results, Try.results37, go_sem, reqV, req0, x0, x1, x2, x3]
      · rw [HT.out]
        refine ⟨some ⟨g, 0, none⟩, cap', by rw [show ({ r with left := wrap64 (r.left - 1) } :: tl).length = n from HL.out], by rw [show ({ r with left := wrap64 (r.left - 1) } :: tl).length = n from HL.out]; exact hnc, hcm, ?_, ?_⟩
        · rw [show ({ r with left := wrap64 (r.left - 1) } :: tl).length = n from HL.out]
          exact reqs_kept (fun e => hne e.symm) HR.out _ _ _ _
        · exact (((hbel2.setCell (Nat.le_refl _) _).setCell (Nat.le_refl _) _).setCell (Nat.le_refl _) _).setCell (Nat.le_refl _) _
    · have HT := Lib.hid (show tickR (r :: tl) = (tl, { r with left := wrap64 (r.left - 1) }, true) from if_neg hd)
      have hd1 : decide (wrap64 (r.left - 1) > 0) = false := by simpa using hd
      go_wp2
      have hlt : n = tl.length + 1 := HL.out.symm
      have HT2 := Lib.hid hlt
      clear hlt
      by_cases hc1 : cap' = 1
      · subst hc1
        have h1n : n - 1 = 0 := by omega
        go_region
        go_wp2
        refine bodyPost_ret (v := .tuple #[.slice (some ⟨g, 0, none⟩) (n - 1) 0, reqV { r with left := wrap64 (r.left - 1) }, .bool true]) ?_ rfl ?_
        · simp [results, Try.results37, go_sem, reqV, x0, x1, x2, x3]
          try omega
        · rw [HT.out]
          refine ⟨some ⟨g, 0, none⟩, 0, by rw [show tl.length = n - 1 by rw [HT2.out]; rfl], by rw [show tl.length = n - 1 by rw [HT2.out]; rfl]; omega, by omega, ?_, ?_⟩
          · rw [show tl.length = n - 1 by rw [HT2.out]; rfl]
            exact reqs_drew (ReqsAt.drop (k := 1) (reqs_kept (fun e => hne e.symm) HR.out _ _ _ _) hpos (fun h => by first | rfl | omega))
          · exact below_drew ((((hbel2.setCell (Nat.le_refl _) _).setCell (Nat.le_refl _) _).setCell (Nat.le_refl _) _).setCell (Nat.le_refl _) _)
      · have hc1' : 1 < cap' := by omega
        go_region
        go_wp2
        refine bodyPost_ret (v := .tuple #[.slice (some ⟨g, 4, none⟩) (n - 1) (cap' - 1), reqV { r with left := wrap64 (r.left - 1) }, .bool true]) ?_ rfl ?_
        · simp [results, Try.results37, go_sem, reqV, x0, x1, x2, x3]
          try omega
        · rw [HT.out]
          refine ⟨some ⟨g, 4, none⟩, (cap' - 1), by rw [show tl.length = n - 1 by rw [HT2.out]; rfl], by rw [show tl.length = n - 1 by rw [HT2.out]; rfl]; omega, by omega, ?_, ?_⟩
          · rw [show tl.length = n - 1 by rw [HT2.out]; rfl]
            exact reqs_drew (ReqsAt.drop (k := 1) (reqs_kept (fun e => hne e.symm) HR.out _ _ _ _) hpos (fun h => by first | rfl | omega))
          · exact below_drew ((((hbel2.setCell (Nat.le_refl _) _).setCell (Nat.le_refl _) _).setCell (Nat.le_refl _) _).setCell (Nat.le_refl _) _)

end Go.Proofs.Ytebeelphilfjhaa
