/- THE CONTRACT of guess.Next where what returns comes and a place to return to is known. -/
import Derived.Test.YtkamljmopbocnaaGuessN
namespace Go.Proofs.Ytkamljmopbocnaa
open Go.ChangeShapes Go.WideShapes Go.ChangeAt Go.RowKit
set_option linter.unusedVariables false
set_option linter.unusedSimpArgs false
set_option maxHeartbeats 4000000
set_option maxRecDepth 100000

theorem below_undrew {w w' : World} (h : Below w.drew.heap.size w.drew w') : Below w.heap.size w w' := ⟨h.os, h.tape, h.output, h.size, h.block⟩
theorem next_back (A : Option Addr) (ca : Nat) (h : Int) (B : Option Addr) (nb cb : Nat) (R : List Int) (pc imm rs2 : Int) (h1 : h < 8) (hn : nb ≤ 4) (hp : 0 < nb)
    (w : World) (hB : IntsAt w B nb .u32 R) :
    Calls Try.prog 8 #[gV A 8 ca h B nb cb, .int .u32 pc, .agg #[.int .i64 4, .int .i64 0, .int .i64 1, .int .i64 rs2, .int .u32 imm]] w fun r w' => r = .returned (.int .u32 (R.getD (nb - 1) 0)) ∧ Below w.heap.size w w' := by
  have HR := Lib.hid (fun w => guessRight_any A 8 ca h B nb cb w)
  rw [show rightB 8 h nb = true from decide_eq_true ⟨rfl, h1, hn⟩] at HR
  have HK := Lib.hid (fun w => kind_any 4 0 1 rs2 imm w)
  rw [show kindI 4 = 5 by simp [kindI]] at HK
  have HC := Lib.hid (fun w => isReturn_any 4 0 1 rs2 imm w)
  rw [show backB 4 0 1 = true from by simp [backB]] at HC
  have HB := Lib.hid hB
  clear hB
  have f1 := (two_new w [.slice A 8 ca, .int .u32 h, .slice B nb cb] [.int .i64 4, .int .i64 0, .int .i64 1, .int .i64 rs2, .int .u32 imm] 27 31)
  obtain ⟨f1, f2, f4, f5⟩ := f1
  unfold gV at HR ⊢
  go_enter Try.func8, Try.ntmps8
  go_upto_region 1 with fail
  generalize (w.alloc (.cells #[.slice A 8 ca, .int .u32 h, .slice B nb cb] 27)).alloc (.cells #[.int .i64 4, .int .i64 0, .int .i64 1, .int .i64 rs2, .int .u32 imm] 31) = W0 at *
  have X1 := Lib.hid f1
  have X2 := Lib.hid f2
  have KB := Lib.hid f4
  clear f1 f2 f4 f5
  have s0 := X1.out.2.1 0 _ rfl
  have s1 := X1.out.2.1 1 _ rfl
  have s2 := X1.out.2.1 2 _ rfl
  go_wp2_with fail
  go_at_call 12
  refine (HR.out _).mono ?_
  rintro r w1 ⟨rfl, b⟩
  replace X1 := Lib.hid (X1.out.below b X1.out.1)
  replace X2 := Lib.hid (X2.out.below b X2.out.1)
  replace KB := Lib.hid (KB.out.trans (b.mono KB.out.size))
  clear b s0 s1 s2
  have t0 := X2.out.2.1 0 _ rfl
  have t1 := X2.out.2.1 1 _ rfl
  have t2 := X2.out.2.1 2 _ rfl
  have t3 := X2.out.2.1 3 _ rfl
  have t4 := X2.out.2.1 4 _ rfl
  go_wp2_with fail
  go_at_call 13
  refine (HK.out _).mono ?_
  rintro r w2 ⟨rfl, b⟩
  replace X1 := Lib.hid (X1.out.below b X1.out.1)
  replace X2 := Lib.hid (X2.out.below b X2.out.1)
  replace KB := Lib.hid (KB.out.trans (b.mono KB.out.size))
  clear b t0 t1 t2 t3 t4
  have s2 := X1.out.2.1 2 _ rfl
  have t0 := X2.out.2.1 0 _ rfl
  have t1 := X2.out.2.1 1 _ rfl
  have t2 := X2.out.2.1 2 _ rfl
  have t3 := X2.out.2.1 3 _ rfl
  have t4 := X2.out.2.1 4 _ rfl
  go_wp2_with fail
  go_at_call 16
  refine (HC.out _).mono ?_
  rintro r w3 ⟨rfl, b⟩
  replace X1 := Lib.hid (X1.out.below b X1.out.1)
  replace KB := Lib.hid (KB.out.trans (b.mono KB.out.size))
  clear b s2 t0 t1 t2 t3 t4
  have s2 := X1.out.2.1 2 _ rfl
  obtain ⟨m, rfl⟩ : ∃ m, nb = m + 1 := ⟨nb - 1, by omega⟩
  have hm : ((m + 1 : Nat) : Int) - 1 = m := by omega
  obtain ⟨a, rfl, hc⟩ := (HB.out.below KB.out).at_ (j := m) (by omega)
  obtain ⟨x, hx⟩ : ∃ x, R.getD m 0 = x := ⟨_, rfl⟩
  rw [hx] at hc
  have HX := Lib.hid hx
  clear hx
  go_wp2
  go_ret
  exact ⟨by rw [show m + 1 - 1 = m from rfl, HX.out]; rfl, KB.out⟩

/-- a jump that nothing is known of goes on to the next place -/
theorem next_zero (g : Nat) (pc op rd rs1 rs2 imm : Int) (hk : kindI op = 5) (hb : backB op rd rs1 = false) (p0 : 0 < pc) (p1 : pc < 4294967296)
    (w : World) (hA : RowsAt w (some ⟨g, 0, none⟩) 8 2 ((List.replicate 8 ((0 : Int), (0 : Int))).map slC)) :
    Calls Try.prog 8 #[gV (some ⟨g, 0, none⟩) 8 8 0 none 0 0, .int .u32 pc, .agg #[.int .i64 op, .int .i64 rd, .int .i64 rs1, .int .i64 rs2, .int .u32 imm]] w fun r w' => r = .returned (.int .u32 ((pc + 4) % 4294967296)) ∧ Below w.heap.size w w' := by
  have HR := Lib.hid (fun w => guessRight_any (some ⟨g, 0, none⟩) 8 8 0 none 0 0 w)
  rw [show rightB 8 0 0 = true from by simp [rightB]] at HR
  have HK := Lib.hid (fun w => kind_any op rd rs1 rs2 imm w)
  rw [hk] at HK
  have HC := Lib.hid (fun w => isReturn_any op rd rs1 rs2 imm w)
  rw [hb] at HC
  have HS := Lib.hid (fun w => slotOf_any (some ⟨g, 0, none⟩) 8 8 0 none 0 0 pc (by decide) (by decide) (by omega) p1 w)
  have HA := Lib.hid hA
  have hlt : g < w.heap.size := by
    obtain ⟨_, a, ha, hl, _⟩ := hA.2 0 _ (List.getElem?_eq_getElem (by rw [hA.1]; decide))
    cases ha
    exact hl
  clear hA hk hb
  have f1 := (two_new w [.slice (some ⟨g, 0, none⟩) 8 8, .int .u32 0, .slice none 0 0] [.int .i64 op, .int .i64 rd, .int .i64 rs1, .int .i64 rs2, .int .u32 imm] 27 31)
  obtain ⟨f1, f2, f4, f5⟩ := f1
  unfold gV at HR HS ⊢
  go_enter Try.func8, Try.ntmps8
  go_upto_region 1 with fail
  generalize (w.alloc (.cells #[.slice (some ⟨g, 0, none⟩) 8 8, .int .u32 0, .slice none 0 0] 27)).alloc (.cells #[.int .i64 op, .int .i64 rd, .int .i64 rs1, .int .i64 rs2, .int .u32 imm] 31) = W0 at *
  have X1 := Lib.hid f1
  have X2 := Lib.hid f2
  have KB := Lib.hid f4
  clear f1 f2 f4 f5
  have s0 := X1.out.2.1 0 _ rfl
  have s1 := X1.out.2.1 1 _ rfl
  have s2 := X1.out.2.1 2 _ rfl
  go_wp2_with fail
  go_at_call 12
  refine (HR.out _).mono ?_
  rintro r w1 ⟨rfl, b⟩
  replace X1 := Lib.hid (X1.out.below b X1.out.1)
  replace X2 := Lib.hid (X2.out.below b X2.out.1)
  replace KB := Lib.hid (KB.out.trans (b.mono KB.out.size))
  clear b s0 s1 s2
  have t0 := X2.out.2.1 0 _ rfl
  have t1 := X2.out.2.1 1 _ rfl
  have t2 := X2.out.2.1 2 _ rfl
  have t3 := X2.out.2.1 3 _ rfl
  have t4 := X2.out.2.1 4 _ rfl
  go_wp2_with fail
  go_at_call 13
  refine (HK.out _).mono ?_
  rintro r w2 ⟨rfl, b⟩
  replace X1 := Lib.hid (X1.out.below b X1.out.1)
  replace X2 := Lib.hid (X2.out.below b X2.out.1)
  replace KB := Lib.hid (KB.out.trans (b.mono KB.out.size))
  clear b t0 t1 t2 t3 t4
  have s2 := X1.out.2.1 2 _ rfl
  have t0 := X2.out.2.1 0 _ rfl
  have t1 := X2.out.2.1 1 _ rfl
  have t2 := X2.out.2.1 2 _ rfl
  have t3 := X2.out.2.1 3 _ rfl
  have t4 := X2.out.2.1 4 _ rfl
  go_wp2_with fail
  go_at_call 16
  refine (HC.out _).mono ?_
  rintro r w3 ⟨rfl, b⟩
  replace X1 := Lib.hid (X1.out.below b X1.out.1)
  replace KB := Lib.hid (KB.out.trans (b.mono KB.out.size))
  clear b s2 t0 t1 t2 t3 t4 X2
  go_upto_region 6 with fail
  have s0 := X1.out.2.1 0 _ rfl
  have s1 := X1.out.2.1 1 _ rfl
  have s2 := X1.out.2.1 2 _ rfl
  have HA3 := Lib.hid (HA.out.below KB.out)
  have HLT := Lib.hid (Nat.lt_of_lt_of_le hlt KB.out.size)
  have k1 : Below w3.heap.size w3 (w3.alloc (.cells #[.int .u32 0, .int .u32 0] 41)) := (Below.refl _ _).alloc (Nat.le_refl _) _
  have K1 := Lib.hid (show Below w3.heap.size w3 (w3.alloc (.cells #[.int .u32 0, .int .u32 0] 41)).drew from ⟨k1.os, k1.tape, k1.output, k1.size, k1.block⟩)
  have F1 := Lib.hid (show Blk (w3.alloc (.cells #[.int .u32 0, .int .u32 0] 41)).drew w3.heap.size [.int .u32 0, .int .u32 0] from Blk.new w3 41 [.int .u32 0, .int .u32 0])
  have x1 := X1.out.below k1 X1.out.1
  have u0 := x1.2.1 0 _ rfl
  have u1 := x1.2.1 1 _ rfl
  have u2 := x1.2.1 2 _ rfl
  clear k1 x1
  go_cut [8] from 34 to 40 (fun v wx => ∃ b : Nat, v = .pointer (some ⟨b, 0, none⟩) ∧ w3.heap.size ≤ b ∧ Blk wx b [.int .u32 0, .int .u32 0] ∧ Below w.heap.size w wx)
  case first =>
    go_region_law (first
      | (go_simp; go_at_call 14; refine (HS.out _).mono ?_; rintro r w5 ⟨k, hk8, rfl, b⟩
         have hk8i : (k : Int) < 8 := by omega
         have B5 := Lib.hid (below_undrew b)
         have hk0 : ((List.replicate 8 ((0 : Int), (0 : Int))).map slC)[k]? = some [.int .u32 0, .int .u32 0] := by rw [List.getElem?_map, List.getElem?_replicate, if_pos hk8]; rfl
         obtain ⟨_, a5, ha5, _, hv5⟩ := (HA3.out.below B5.out).2 k _ hk0
         cases ha5
         have d0 := hv5 0 _ rfl
         have d1 := hv5 1 _ rfl
         simp only [Addr.add_lit, Nat.zero_add, Nat.add_zero] at d0 d1
         have x5 := X1.out.below B5.out X1.out.1
         have v0 := x5.2.1 0 _ rfl
         have kz : Below w5.heap.size w5 (w5.alloc (.cells #[.int .u32 0, .int .u32 0] 41)) := (Below.refl _ _).alloc (Nat.le_refl _) _
         have xz := x5.below kz x5.1
         have vz := xz.2.1 0 _ rfl
         have hg5 : g < w5.heap.size := Nat.lt_of_lt_of_le HLT.out B5.out.size
         have dz0 := (kz.cell (p := ⟨g, k * 2, none⟩) hg5).trans d0
         have dz1 := (kz.cell (p := ⟨g, k * 2 + 1, none⟩) hg5).trans d1
         clear b hk0 hv5 x5 kz xz hg5)
      | (go_simp; go_at_call 14; refine (HS.out _).mono ?_; rintro r w5 ⟨k, hk8, rfl, b⟩
         have hk8i : (k : Int) < 8 := by omega
         have B5 := Lib.hid (K1.out.trans (b.mono K1.out.size))
         have y := F1.out.below b F1.out.1
         have hk0 : ((List.replicate 8 ((0 : Int), (0 : Int))).map slC)[k]? = some [.int .u32 0, .int .u32 0] := by rw [List.getElem?_map, List.getElem?_replicate, if_pos hk8]; rfl
         obtain ⟨_, a5, ha5, _, hv5⟩ := (HA3.out.below B5.out).2 k _ hk0
         cases ha5
         have d0 := hv5 0 _ rfl
         have d1 := hv5 1 _ rfl
         simp only [Addr.add_lit, Nat.zero_add, Nat.add_zero] at d0 d1
         have e0 := y.2.1 0 _ rfl
         have e1 := y.2.1 1 _ rfl
         have g0 := y.2.2 0 (by simp)
         have g1 := y.2.2 1 (by simp)
         have Y5 := Lib.hid y
         have v0 := (X1.out.below B5.out X1.out.1).2.1 0 _ rfl
         clear b hk0 hv5 y))
    all_goals go_wp2_with fail
    all_goals go_meet
    all_goals
      have hle := Nat.le_trans KB.out.size B5.out.size
      have kb5 := KB.out.trans (B5.out.mono KB.out.size)
      first
        | exact ⟨w5.heap.size, rfl, B5.out.size, Blk.new w5 _ [.int .u32 0, .int .u32 0], kb5.alloc hle _⟩
        | exact ⟨w3.heap.size, rfl, Nat.le_refl _, (Y5.out.set (i := 0) (v := .int .u32 0) (by simp)).set (i := 1) (v := .int .u32 0) (by simp), (kb5.setCell (p := ⟨w3.heap.size, 0, none⟩) KB.out.size _).setCell (p := ⟨w3.heap.size, 1, none⟩) KB.out.size _⟩
  case rest =>
    obtain ⟨b, rfl, -, hbb, hbk⟩ := hcut
    have c0 := hbb.2.1 0 _ rfl
    have c1 := hbb.2.1 1 _ rfl
    have q : ((0 : Int) != pc) = true := by simp; omega
    generalize wc = w9 at *
    clear s0 s1 s2 u0 u1 u2 X1 KB HA3 HLT K1 F1
    go_wp2
    go_ret
    exact ⟨rfl, hbk⟩
theorem alive12_any (w : World) : Calls Try.prog 10 #[] w fun r w' => r = .returned (.bool true) ∧ Below w.heap.size w w' := by
  have HN := Lib.hid (fun w => new_any w)
  have HR := Lib.hid (fun g w => guessRight_any (some ⟨g, 0, none⟩) 8 8 0 none 0 0 w)
  rw [show rightB 8 0 0 = true from by simp [rightB]] at HR
  have HX := Lib.hid (fun g w h => next_zero g 8 5 0 0 0 0 (by simp [kindI]) (by simp [backB]) (by decide) (by decide) w h)
  go_enter Try.func10, Try.ntmps10
  have HN2 := HN
  go_wp2_with (first
    | (go_at_call 5; refine (HN.out _).mono ?_; clear HN; rintro r w1 ⟨g, hg, rfl, hr, b⟩; have B1 := Lib.hid b; clear b hr hg)
    | (go_at_call 12; refine (HR.out _ _).mono ?_; clear HR; rintro r w2 ⟨rfl, b⟩; have B2 := Lib.hid (B1.out.trans (b.mono B1.out.size)); clear b)
    | (go_at_call 5; refine (HN2.out _).mono ?_; clear HN2; rintro r w3 ⟨g3, hg, rfl, hr, b⟩; have B3 := Lib.hid (B2.out.trans (b.mono B2.out.size)); have RW := Lib.hid hr; clear b hr hg)
    | (go_at_call 8; refine (HX.out _ _ RW.out).mono ?_; rintro r w4 ⟨rfl, b⟩; have B4 := Lib.hid (B3.out.trans (b.mono B3.out.size)); clear b))
  go_ret
  exact ⟨rfl, B4.out⟩
end Go.Proofs.Ytkamljmopbocnaa
