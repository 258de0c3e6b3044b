/- WHAT GuessKeeps WANTS: a row of instructions as an argument; the reference's Like of one guess; how many places there are to return to. -/
import Derived.Test.YtkamljmopbocnaaGuessF
namespace Go.Proofs.Ytkamljmopbocnaa
open Go.ChangeShapes Go.WideShapes Go.ChangeAt Go.RowKit Go.Sort
set_option linter.unusedVariables false
set_option linter.unusedSimpArgs false
set_option maxHeartbeats 4000000
set_option maxRecDepth 100000

/-- an instruction, as it came in -/
structure InG where
  op : Int
  rd : Int
  rs1 : Int
  rs2 : Int
  imm : Int
def igC (i : InG) : List Value := [.int .i64 i.op, .int .i64 i.rd, .int .i64 i.rs1, .int .i64 i.rs2, .int .u32 i.imm]
theorem arg_insts {H : Type} {enc : TypeId × Value → H} {w : World} {base : Nat} {held : Bool} {r : Reach} {b0 : Nat} {v : Value} {d : DataW H} {p : List MemPlace}
    (hv : Value.okWide Try.prog w r b0 23 v) (h : DataW.Trod enc Try.prog w base (fun _ => true) held 23 v d p) :
    ∃ (A : Option Addr) (n cap : Nat) (ss : List InG), v = .slice A n cap ∧ n ≤ cap ∧ cap ≤ maxLen ∧ (A = none → cap = 0) ∧ RowsAt w A n 5 (ss.map igC) ∧ ∀ s ∈ ss, True := by
  obtain ⟨A, n, cap, cs, rfl, h1, h2, h3, h4, h5⟩ := arg_rows Try.underlying23 Try.underlying31 (by kernel_rfl) (by kernel_rfl) (by decide) hv h
  obtain ⟨rs, rfl, hw⟩ := list_of (f := igC) (W := fun _ => True) cs (fun c hc => by
    obtain ⟨hl, hf⟩ := h5 c hc
    obtain ⟨c0, y0, n0, g0, t0⟩ := hf 0 _ rfl
    obtain ⟨c1, y1, n1, g1, t1⟩ := hf 1 _ rfl
    obtain ⟨c2, y2, n2, g2, t2⟩ := hf 2 _ rfl
    obtain ⟨c3, y3, n3, g3, t3⟩ := hf 3 _ rfl
    obtain ⟨c4, y4, n4, g4, t4⟩ := hf 4 _ rfl
    obtain ⟨op, rfl, w0⟩ := arg_int Try.underlying3 t0
    obtain ⟨rd, rfl, w1⟩ := arg_int Try.underlying3 t1
    obtain ⟨rs1, rfl, w2⟩ := arg_int Try.underlying3 t2
    obtain ⟨rs2, rfl, w3⟩ := arg_int Try.underlying3 t3
    obtain ⟨im, rfl, w4⟩ := arg_int Try.underlying24 t4
    refine ⟨⟨op, rd, rs1, rs2, im⟩, ?_, trivial⟩
    have hl4 : c.length = 5 := hl
    match c, hl4, g0, g1, g2, g3, g4 with
    | [x0, x1, x2, x3, x4], _, g0, g1, g2, g3, g4 =>
      simp at g0 g1 g2 g3 g4
      subst g0 g1 g2 g3 g4
      rfl)
  exact ⟨A, n, cap, rs, rfl, h1, h2, h3, h4, hw⟩
theorem retL_len (R : List Int) (pc op rd rs1 : Int) (h : R.length ≤ 4) : (retL R pc op rd rs1).length ≤ 4 := by
  unfold retL
  split
  · split
    · rw [List.length_drop, List.length_append]; simp; omega
    · rw [List.length_append]; simp; omega
  · split
    · rw [List.length_take]; omega
    · exact h
theorem neq_slot (a b : Int) (w : World) : (Op.equalIn 10000 41 (.agg #[.int .u32 a, .int .u32 b]) (.agg #[.int .u32 a, .int .u32 b])).run Try.prog w = .ok true w := by
  rw [show (10000 : Nat) = 9999 + 1 from rfl, run_equalIn_agg w 9999 41 _ _ (by kernel_rfl) (by kernel_rfl)]
  simp only [Program.fieldsOf, Try.underlying41]
  go_simp
theorem guard_slot : Try.prog.eqGuardType Try.prog.depth 41 = false := by kernel_rfl
theorem below_drK (B : Nat) (w : World) (q : Nat) : Below B w (w.drewN q) := ⟨rfl, rfl, rfl, Nat.le_refl _, fun _ _ => rfl⟩
/-- a struct is read whole where the class of worlds holds its cells -/
theorem quiet_load_drewK {P : Program} {op : Oper} {a : Act} {K : Act → Prop} {w : World} (ty : TypeId) (x : Operand) (ho : op.op = .load ty x)
    (p : Addr) (hx : a.eval x = .pointer (some p)) (cs : List Value) (d : TypeDesc) (hc : ∀ j v, cs[j]? = some v → w.cell? (p.add j) = some v)
    (hu : P.underlying ty = some d) (hd : d.isRow = true) (hi : (P.info? ty).map (·.size) = some cs.length)
    (hk : K (a.put op.dst (.agg cs.toArray))) : op.quiet P a (fun w' => ∃ n, w' = w.drewN n) K := by
  refine ⟨_, ?_, hk⟩
  rintro w' ⟨q, rfl⟩
  have hr := run_loadVar_row (P := P) (w.drewN q) p ty cs d (fun j v hv => hc j v hv) hu hd hi
  unfold Oper.quietAt execOp
  simp only [ho, hx, Instr.loadAt, Instr.sureAddr, Sem.run_bind, Sem.run_pure, Result.andThen_ok, hr]
  exact ⟨rfl, rfl⟩
theorem like12_any (A : Option Addr) (ca : Nat) (q : Int) (B : Option Addr) (nb cb : Nat) (L : List (Int × Int)) (R : List Int) (hn : nb ≤ 4) (w : World) (hA : RowsAt w A 8 2 (L.map slC)) (hB : IntsAt w B nb .u32 R) :
    Calls Try.prog 9 #[gV A 8 ca q B nb cb, gV A 8 ca q B nb cb] w fun r w' => r = .returned (.bool true) ∧ Below w.heap.size w w' := by
  obtain ⟨f1, f2, f3, f4⟩ := two_new w [.slice A 8 ca, .int .u32 q, .slice B nb cb] [.slice A 8 ca, .int .u32 q, .slice B nb cb] 27 27
  have HA := Lib.hid hA
  have HB := Lib.hid hB
  clear hA hB
  unfold gV
  go_enter Try.func9, Try.ntmps9
  go_upto_region 1 with fail
  generalize (w.alloc (.cells #[.slice A 8 ca, .int .u32 q, .slice B nb cb] 27)).alloc (.cells #[.slice A 8 ca, .int .u32 q, .slice B nb cb] 27) = W0 at *
  have X1 := Lib.hid f1
  have X2 := Lib.hid f2
  have KB := Lib.hid f3
  clear f1 f2 f3 f4
  have a0 := X1.out.2.1 0 _ rfl
  have a1 := X1.out.2.1 1 _ rfl
  have a2 := X1.out.2.1 2 _ rfl
  have b0 := X2.out.2.1 0 _ rfl
  have b1 := X2.out.2.1 1 _ rfl
  have b2 := X2.out.2.1 2 _ rfl
  go_wp2_with fail
  clear a0 a1 a2 b0 b1 b2
  go_loopw [33] (fun i wr => ∃ k q : Nat, k ≤ 8 ∧ i = .int .i64 k ∧ wr = W0.drewN q) (fun i _ => 8 - (intOf i).toNat)
  case atStart => exact ⟨0, 0, Nat.zero_le _, rfl, rfl⟩
  case round =>
    obtain ⟨k, q', hk, rfl, rfl⟩ := hrel
    by_cases hkn : k < 8
    · obtain ⟨x, hx⟩ : ∃ x, L[k]? = some x := ⟨_, List.getElem?_eq_getElem (by have := HA.out.1; rw [List.length_map] at this; omega)⟩
      obtain ⟨_, pa, rfl, hpa, hva⟩ := (RowsAt.below HA.out KB.out).2 k (slC x) (by rw [List.getElem?_map, hx]; rfl)
      obtain ⟨cx, hcx⟩ : ∃ c, slC x = c := ⟨_, rfl⟩
      rw [hcx] at hva
      have hl : cx.length = 2 := by rw [← hcx]; rfl
      have HNS := Lib.hid (show ∀ w, (Op.equalIn 10000 41 (.agg cx.toArray) (.agg cx.toArray)).run Try.prog w = .ok true w from fun w => by rw [← hcx]; exact neq_slot x.1 x.2 w)
      have HIS := Lib.hid (show (Try.prog.info? 41).map (·.size) = some cx.length by rw [hl]; kernel_rfl)
      have HV := Lib.hid (show ∀ j v, cx[j]? = some v → (W0.drewN q').cell? ((pa.add (k * 2)).add j) = some v from fun j v hj => by have := hva j v hj; rwa [Addr.add_add])
      have a0 := X1.out.2.1 0 _ rfl
      have b0 := X2.out.2.1 0 _ rfl
      have z1 : (k : Int) < 8 := by omega
      clear hva hx hpa hcx hl
      go_wp2
      refine wp_region_quiet_lit (by kernel_rfl) (by kernel_rfl) ?_
      repeat (first
        | (go_big_quiet_want; refine quiet_load_drewK 41 (.tmp 39) rfl (pa.add (k * 2)) rfl cx _ HV.out Try.underlying41 rfl HIS.out ?_; simp only [Act.put, List.setIfInBounds_toArray, List.set_cons_succ, List.set_cons_zero]; go_big_quiet_on)
        | (go_big_quiet_want; refine quiet_load_drewK 41 (.tmp 44) rfl (pa.add (k * 2)) rfl cx _ HV.out Try.underlying41 rfl HIS.out ?_; simp only [Act.put, List.setIfInBounds_toArray, List.set_cons_succ, List.set_cons_zero]; go_big_quiet_on)
        | (go_big_quiet_want; refine quiet_neq 41 41 (.tmp 40) (.tmp 45) rfl cx.toArray cx.toArray rfl rfl true HNS.out guard_slot ?_; simp only [Act.put, List.setIfInBounds_toArray, List.set_cons_succ, List.set_cons_zero]; go_big_quiet_on)
        | (go_big_quiet_step (fail)))
      refine wpQuiet_nil ?_
      intro _ hw'
      obtain ⟨nq', hw''⟩ := hw'
      subst hw''
      go_wp2
      go_roundw
      case rel => exact ⟨k + 1, q' + nq', by omega, by go_num, by first | rfl | simp [World.drewN, Nat.add_assoc]⟩
      case measure => simp [intOf]; omega
    · obtain rfl : k = 8 := by omega
      have a2 := X1.out.2.1 2 _ rfl
      have b2 := X2.out.2.1 2 _ rfl
      go_wp2_with fail
      clear a2 b2
      have bd := below_drK W0.heap.size W0 q'
      have X1' := Lib.hid (X1.out.below bd X1.out.1)
      have X2' := Lib.hid (X2.out.below bd X2.out.1)
      have KB' := Lib.hid (KB.out.trans (bd.mono KB.out.size))
      generalize W0.drewN q' = W1 at *
      clear bd X1 X2
      go_loopw [51] (fun i wr => ∃ k q : Nat, k ≤ nb ∧ i = .int .i64 k ∧ wr = W1.drewN q) (fun i _ => nb - (intOf i).toNat)
      case atStart => exact ⟨0, 0, Nat.zero_le _, rfl, rfl⟩
      case round =>
        obtain ⟨k, q2, hk2, rfl, rfl⟩ := hrel
        by_cases hkn2 : k < nb
        · obtain ⟨x, hx⟩ : ∃ x, R[k]? = some x := ⟨_, List.getElem?_eq_getElem (by rw [HB.out.1]; exact hkn2)⟩
          obtain ⟨pb, rfl, hpb, hvb⟩ := (HB.out.below KB'.out).2 k x hx
          have a2 := X1'.out.2.1 2 _ rfl
          have b2 := X2'.out.2.1 2 _ rfl
          clear hx hpb
          go_wp2
          go_quiet (fail)
          go_wp2
          go_roundw
          case rel => exact ⟨k + 1, q2 + nq, by omega, by go_num, by first | rfl | simp [World.drewN, Nat.add_assoc]⟩
          case measure => simp [intOf]; omega
        · obtain rfl : k = nb := by omega
          go_wp2
          go_ret
          exact ⟨rfl, KB'.out.trans (below_drK _ _ _)⟩
end Go.Proofs.Ytkamljmopbocnaa
