/- The walk of ExecStays (auspexlaw18): an entry that is done stays, whatever is done with it; none loses that it is known, its place or its number; for every input; on the world that holds the table of instructions. -/
import Derived.Test.YtfekknalchjkiaaDoorCards
import Derived.Test.YtfekknalchjkiaaDoorExecT
import Derived.Test.YtfekknalchjkiaaDoorExecA
import Derived.Test.YtfekknalchjkiaaDoorExecGoW
import Derived.Test.YtfekknalchjkiaaDoorExecLaid
import Derived.Test.YtfekknalchjkiaaDoorQuietTail
import Derived.Great.BuildSlice
import Derived.Laws.StructEq
import Derived.WalkKit
import Derived.ProofKit
import Derived.OpenShut
import Derived.Deep.DeepHandedRow
import Derived.Lib.LaidTab
import Derived.Deep.QuietTactic
import Derived.BigQuiet
namespace Go.Proofs.YtfekknalchjkiaaDoor.execStays
open Go.ChangeShapes Go.WideShapes Go.ChangeAt Go.RowKit Go.Sort
set_option linter.unusedVariables false
set_option linter.unusedSimpArgs false
set_option maxHeartbeats 12000000
set_option maxRecDepth 100000

theorem eql_ent (e : En) (w : World) : (Op.equalIn 10000 60 (.agg (enC e).toArray) (.agg (enC e).toArray)).run Tryd.prog w = .ok true w := by
  obtain ⟨no, pc, op, rd, rs1, rs2, imm, guess, is, left, value, next, addr, halt, took, known, filled⟩ := e
  unfold enC
  rw [show (10000 : Nat) = 9999 + 1 from rfl, run_equalIn_agg w 9999 60 _ _ (by kernel_rfl) (by kernel_rfl)]
  simp only [Program.fieldsOf, Tryd.underlying60]
  have hJ : Tryd.prog.stoodInHeld 58 = false := by kernel_rfl
  go_simp
theorem eql_inst (op rd rs1 rs2 imm : Int) (w : World) : (Op.equalIn 10000 58 (.agg #[.int .i64 op, .int .i64 rd, .int .i64 rs1, .int .i64 rs2, .int .u32 imm]) (.agg #[.int .i64 op, .int .i64 rd, .int .i64 rs1, .int .i64 rs2, .int .u32 imm])).run Tryd.prog w = .ok true w := by
  rw [show (10000 : Nat) = 9999 + 1 from rfl, run_equalIn_agg w 9999 58 _ _ (by kernel_rfl) (by kernel_rfl)]
  simp only [Program.fieldsOf, Tryd.underlying58]
  go_simp

/-- what stays -/
def okS (e x : En) : Prop := (x.no = e.no ∧ x.pc = e.pc ∧ x.op = e.op ∧ x.rd = e.rd ∧ x.rs1 = e.rs1 ∧ x.rs2 = e.rs2 ∧ x.imm = e.imm ∧ x.guess = e.guess ∧ x.filled = e.filled) ∧ (e.is = 3 → x = e) ∧ (e.known = true → x.known = true)
theorem okS_refl (e : En) : okS e e := ⟨⟨rfl, rfl, rfl, rfl, rfl, rfl, rfl, rfl, rfl⟩, fun _ => rfl, fun h => h⟩
theorem okS_start (e : En) (a b : Int) : okS e (startE e a b) := by
  unfold startE
  by_cases h : e.is ≠ 0 ∨ kindI e.op = 3 ∨ kindI e.op = 4
  · rw [if_pos h]; exact okS_refl e
  · rw [if_neg h]
    have h0 : e.is = 0 := Classical.byContradiction fun h1 => h (Or.inl h1)
    unfold startG
    simp only
    repeat' split
    all_goals exact ⟨⟨rfl, rfl, rfl, rfl, rfl, rfl, rfl, rfl, rfl⟩, fun h => by rw [h0] at h; omega, fun h => h⟩
theorem okS_addr (e : En) (s a : Int) : okS e (addrE e s a) := by
  unfold addrE
  by_cases h : e.is ≠ 0 ∨ e.known = true ∨ (kindI e.op ≠ 3 ∧ kindI e.op ≠ 4)
  · rw [if_pos h]; exact okS_refl e
  · rw [if_neg h]
    have h0 : e.is = 0 := Classical.byContradiction fun h1 => h (Or.inl h1)
    repeat' split
    · exact ⟨⟨rfl, rfl, rfl, rfl, rfl, rfl, rfl, rfl, rfl⟩, fun h => by rw [h0] at h; omega, fun _ => rfl⟩
    · exact ⟨⟨rfl, rfl, rfl, rfl, rfl, rfl, rfl, rfl, rfl⟩, fun h => by rw [h0] at h; omega, fun h => h⟩
    · exact ⟨⟨rfl, rfl, rfl, rfl, rfl, rfl, rfl, rfl, rfl⟩, fun h => by rw [h0] at h; omega, fun h => h⟩
theorem okS_go (e : En) : okS e (goW e) := by
  unfold goW
  by_cases h : e.is = 1 ∧ e.left = -9223372036854775808
  · rw [if_pos h]
    exact ⟨⟨rfl, rfl, rfl, rfl, rfl, rfl, rfl, rfl, rfl⟩, fun h1 => by rw [h.1] at h1; omega, fun h => h⟩
  · rw [if_neg h]
    unfold goE
    by_cases h1 : e.is = 1
    · rw [if_neg (fun h => h h1)]
      split
      · exact ⟨⟨rfl, rfl, rfl, rfl, rfl, rfl, rfl, rfl, rfl⟩, fun h => by rw [h1] at h; omega, fun h => h⟩
      · exact ⟨⟨rfl, rfl, rfl, rfl, rfl, rfl, rfl, rfl, rfl⟩, fun h => by rw [h1] at h; omega, fun h => by simp [h]⟩
    · rw [if_pos h1]; exact okS_refl e
theorem okS_take (e : En) (s : ByteArray) : okS e (takeE e s) := by
  unfold takeE
  by_cases h : kindI e.op ≠ 3 ∨ e.known = false ∨ (e.is ≠ 0 ∧ e.is ≠ 2)
  · rw [if_pos h]; exact okS_refl e
  · rw [if_neg h]
    exact ⟨⟨rfl, rfl, rfl, rfl, rfl, rfl, rfl, rfl, rfl⟩, fun h1 => absurd (Or.inr (Or.inr ⟨by omega, by omega⟩)) h, fun h => h⟩
theorem okS_store (e : En) (b : Int) : okS e (storeE e b) := by
  unfold storeE
  by_cases h : kindI e.op ≠ 4 ∨ e.known = false ∨ e.is ≠ 0
  · rw [if_pos h]; exact okS_refl e
  · rw [if_neg h]
    exact ⟨⟨rfl, rfl, rfl, rfl, rfl, rfl, rfl, rfl, rfl⟩, fun h1 => absurd (Or.inr (Or.inr (by omega))) h, fun h => h⟩

theorem ents_flat (es : List En) : ((es.map enV).flatMap fun v => v.cells.toList) = (es.map enC).flatten := by
  rw [List.flatMap_def, List.map_map]
  rfl
theorem ents_new {w : World} (t : TypeId) (es : List En) : EntsAt (w.alloc (.cells ((es.map enV).flatMap fun v => v.cells.toList).toArray t)) (some ⟨w.heap.size, 0, none⟩) es.length es := by
  have hc : ∀ (j : Nat) (c : List Value), (es.map enC)[j]? = some c → c.length = 17 := fun j c hj => by
    rw [List.getElem?_map] at hj
    obtain ⟨e, _, rfl⟩ := Option.map_eq_some_iff.1 hj
    rfl
  refine ⟨by simp, fun j c hj => ⟨hc j c hj, _, rfl, by simp, fun i v hi => ?_⟩⟩
  have hil : i < 17 := by have := (List.getElem?_eq_some_iff.1 hi).1; rw [hc j c hj] at this; exact this
  rw [Addr.add_lit, Nat.zero_add, World.cell?_alloc_at _ _ _ _ rfl, ents_flat]
  have := flat_get (es.map enC) hc j i hil
  rw [hj] at this
  simpa using this.trans hi
theorem wpList_build_ents {ops : Array Oper} {rest : List Oper} {o : Oper} {a : Act} {w : World} {Q : Exit → Act → World → Prop} (hg : o.guard = none) (parts : Array (Nat × Operand)) (es : List En) (n : Nat) (ho : o.op = .buildSlice 52 n parts)
    (hn : n = es.length) (h0 : 0 < n) (h1 : n ≤ 1000) (hp : (parts.map fun (i, x) => (i, a.eval x)).toList = ((es.map enV).zipIdx 0).map fun x => (x.2, x.1))
    (h : ∀ W2, EntsAt W2 (some ⟨w.heap.size, 0, none⟩) n es → Below w.heap.size w W2 → wpList Tryd.prog ops Q rest (a.put o.dst (.slice (some ⟨w.heap.size, 0, none⟩) n n)) W2) : wpList Tryd.prog ops Q (o :: rest) a w := by
  subst hn
  obtain ⟨ie, hie, hs⟩ := Option.map_eq_some_iff.1 ent_info
  obtain ⟨z, hz, hzs⟩ : ∃ z, ie.zero = some z ∧ z.cells.size = 17 := by
    have : (Tryd.prog.info? 60).bind (fun i => i.zero.map (·.cells.size)) = some 17 := by kernel_rfl
    rw [hie] at this
    simpa using this
  refine wpList_buildSlice hg 52 60 es.length parts ho ((es.map enV).flatMap fun v => v.cells.toList).toArray ie z Tryd.underlying52 hie hz (by rw [hs]; omega) (by rw [hs]; omega) ?_ ?_
  · rw [hp, hs]
    exact Great.fill_whole (by decide) _ _ (fun v hv => by obtain ⟨e, _, rfl⟩ := List.mem_map.1 hv; rfl) (by simp)
  · exact h _ (ents_new _ es) ((Below.refl _ _).alloc (Nat.le_refl _) _)

theorem walk (e : En) (a b size : Int) (bytes : ByteArray) (we : enOK e) (wa : (Lit.int .u32 a).wf = true) (wb : (Lit.int .u32 b).wf = true) (ws : (Lit.int .i64 size).wf = true) (wby : bytes.size ≤ maxLen) (w : World) (ht : TabIs w ∧ 0 < w.heap.size) :
    Calls Tryd.prog 16 #[enV e, .int .u32 a, .int .u32 b, .int .i64 size, .string bytes] w fun r w' => r = .returned (.bool true) ∧ Below w.heap.size w w' := by
  obtain ⟨htb, hg⟩ := ht
  obtain ⟨ha, ha'⟩ := bounds_u32 wa
  obtain ⟨hb, hb'⟩ := bounds_u32 wb
  have hs := bounds_i64 ws
  have hl := bounds_i64 we.2.2.2.2.2.2.2.2.2.1
  have hi := bounds_u32 we.2.2.2.2.2.2.1
  unfold maxLen at wby
  have HST := Lib.hid (fun w ht hg => start_any e a b hi.1 (by omega) ha (by omega) hb (by omega) w ht hg)
  have HAD := Lib.hid (fun w => address_any e size a (by omega) (by omega) w)
  have HGO := Lib.hid (fun w => go_all e (by omega) (by omega) w)
  have HTK := Lib.hid (fun w ht hg => take_any e bytes (by omega) w ht hg)
  have HSO := Lib.hid (fun w => store_any e b hb (by omega) w)
  have k0 := okS_start e a b
  have k1 := okS_addr e size a
  have k2 := okS_go e
  have k3 := okS_take e bytes
  have k4 := okS_store e b
  obtain ⟨x0, h0⟩ : ∃ x, startE e a b = x := ⟨_, rfl⟩
  obtain ⟨x1, h1⟩ : ∃ x, addrE e size a = x := ⟨_, rfl⟩
  obtain ⟨x2, h2⟩ : ∃ x, goW e = x := ⟨_, rfl⟩
  obtain ⟨x3, h3⟩ : ∃ x, takeE e bytes = x := ⟨_, rfl⟩
  obtain ⟨x4, h4⟩ : ∃ x, storeE e b = x := ⟨_, rfl⟩
  rw [h0] at HST k0
  rw [h1] at HAD k1
  rw [h2] at HGO k2
  rw [h3] at HTK k3
  rw [h4] at HSO k4
  clear h0 h1 h2 h3 h4
  have HOK := Lib.hid (show ∀ (k : Nat) x, [x0, x1, x2, x3, x4][k]? = some x → okS e x from fun k x hk => by
    have := List.mem_of_getElem? hk
    simp only [List.mem_cons, List.not_mem_nil, or_false] at this
    rcases this with rfl | rfl | rfl | rfl | rfl
    · exact k0
    · exact k1
    · exact k2
    · exact k3
    · exact k4)
  clear k0 k1 k2 k3 k4 we wa wb ws wby ha ha' hb hb' hs hl hi
  have HTB := Lib.hid htb
  clear htb
  obtain ⟨cs, hcs⟩ : ∃ cs, enC e = cs := ⟨_, rfl⟩
  have hsv : enV e = .agg cs.toArray := by unfold enV; rw [hcs]
  have hl : cs.length = 17 := by rw [← hcs]; rfl
  have ho := enC_one e
  rw [hcs] at ho
  have HQ := Lib.hid (eql_ent e)
  rw [hcs] at HQ
  have HHG := Lib.hid (show Tryd.prog.eqGuardType Tryd.prog.depth 60 = false by kernel_rfl)
  obtain ⟨no, pc, op, rd, rs1, rs2, imm, guess, is, left, value, next, addr, halt, took, known, filled⟩ := e
  have HCS := Lib.hid hcs
  have HI := Lib.hid (show (Tryd.prog.info? 60).map (·.size) = some cs.length by rw [hl]; exact ent_info)
  rw [hsv] at HST HAD HGO HTK HSO ⊢
  have f1 := Blk.new w 60 cs
  have f3 : Below w.heap.size w (w.alloc (.cells cs.toArray 60)) := (Below.refl _ _).alloc (Nat.le_refl _) _
  clear hcs hsv hl ho
  go_enter Tryd.func16, Tryd.ntmps16
  go_upto_region 1 with fail
  generalize w.alloc (.cells cs.toArray 60) = W0 at *
  have X1 := Lib.hid f1
  have X3 := Lib.hid f3
  have TB := Lib.hid (HTB.out.below f3 hg)
  have GB := Lib.hid (Nat.lt_of_lt_of_le hg f3.size)
  clear f1 f3
  refine wp_region_below_tailN 16 18 (.int .i64 0) (by kernel_rfl) rfl rfl (by kernel_rfl) (by kernel_rfl) (fun _ _ _ h => h) (Or.inl ⟨rfl, fun _ => rfl⟩) ?_
  simp only [List.take_succ_cons, List.take_zero, List.drop_succ_cons, List.drop_zero, Act.put, List.setIfInBounds_toArray, List.set_cons_succ, List.set_cons_zero]
  repeat (first
    | (go_big_quiet_want; refine quiet_load_mid 60 (.tmp 5) rfl _ rfl cs _ X1.out Tryd.underlying60 rfl HI.out ?_; simp only [Act.put, List.setIfInBounds_toArray, List.set_cons_succ, List.set_cons_zero]; go_big_quiet_on)
    | (go_big_quiet_step (first
      | (go_at_call 44; exact Calls.regrown_of (HST.out _ (TB.out.below (below_regrown _ _ _) GB.out) (Nat.lt_of_lt_of_le GB.out (below_regrown _ _ _).size)))
      | (go_at_call 46; exact Calls.regrown_of (HAD.out _))
      | (go_at_call 48; exact Calls.regrown_of (HGO.out _))
      | (go_at_call 55; exact Calls.regrown_of (HTK.out _ (TB.out.below (below_regrown _ _ _) GB.out) (Nat.lt_of_lt_of_le GB.out (below_regrown _ _ _).size)))
      | (go_at_call 57; exact Calls.regrown_of (HSO.out _)))))
  refine wpQuiet_nil ?_
  intro _ hw'
  obtain ⟨⟨nq, osq⟩, hw''⟩ := hw'
  subst hw''
  have bq := below_regrown W0 nq osq
  have z1 := X1.out.below bq X1.out.1
  have z3 := X3.out.trans (bq.mono X3.out.size)
  generalize grow (redrawn W0 nq) osq = W1 at *
  clear X1 X3 TB GB bq HST HAD HGO HTK HSO
  refine wpList_build_ents rfl _ [x0, x1, x2, x3, x4] 5 rfl rfl (by decide) (by decide) (by simp [Act.eval, List.zipIdx_cons]) ?_
  intro W2 hE hb
  have HE := Lib.hid hE
  have X1w : w.heap.size < W1.heap.size := z1.1
  have X1 := Lib.hid (z1.below hb z1.1)
  have X3 := Lib.hid (z3.trans (hb.mono z3.size))
  clear hE hb z1 z3
  have hlt0 : w.heap.size < W1.heap.size := X1w
  generalize W1.heap.size = B at *
  go_wp2
  go_loopw [31] (fun i wr => ∃ k : Nat, k ≤ 5 ∧ i = .int .i64 k ∧ EntsAt wr (some ⟨B, 0, none⟩) 5 [x0, x1, x2, x3, x4] ∧ Blk wr w.heap.size cs ∧ Below w.heap.size w wr) (fun i _ => 5 - (intOf i).toNat)
  case atStart => exact ⟨0, by omega, rfl, HE.out, X1.out, X3.out⟩
  case round =>
    obtain ⟨k, hk, rfl, r1, r2, r3⟩ := hrel
    clear HE X1 X3
    have HE := Lib.hid r1
    have X1 := Lib.hid r2
    have X3 := Lib.hid r3
    clear r1 r2 r3
    by_cases hlt : k < 5
    · obtain ⟨x, hx⟩ : ∃ x, [x0, x1, x2, x3, x4][k]? = some x := ⟨_, List.getElem?_eq_getElem (by simpa using hlt)⟩
      have hok := HOK.out k x hx
      obtain ⟨aa, haa, hal, hcell⟩ := HE.out.at_ hx
      cases haa
      rw [Addr.add_lit, Nat.zero_add] at hcell
      obtain ⟨⟨e1, e2, e3, e4, e5, e6, e7, e8, e9⟩, e10, e11⟩ := hok
      obtain ⟨xno, xpc, xop, xrd, xrs1, xrs2, ximm, xguess, xis, xleft, xvalue, xnext, xaddr, xhalt, xtook, xknown, xfilled⟩ := x
      simp only at e1 e2 e3 e4 e5 e6 e7 e8 e9 e11
      subst e1 e2 e3 e4 e5 e6 e7 e8 e9
      clear hx
      obtain ⟨xs, hxs⟩ : ∃ xs, enC ⟨xno, xpc, xop, xrd, xrs1, xrs2, ximm, xguess, xis, xleft, xvalue, xnext, xaddr, xhalt, xtook, xknown, xfilled⟩ = xs := ⟨_, rfl⟩
      have x17 : xs.length = 17 := by rw [← hxs]; rfl
      have xo := enC_one ⟨xno, xpc, xop, xrd, xrs1, xrs2, ximm, xguess, xis, xleft, xvalue, xnext, xaddr, xhalt, xtook, xknown, xfilled⟩
      rw [hxs] at hcell xo
      have HX := Lib.hid hcell
      have HXS := Lib.hid hxs
      have HXI := Lib.hid (show (Tryd.prog.info? 60).map (·.size) = some xs.length by rw [x17]; exact ent_info)
      have HXO := Lib.hid xo
      have HXZ := Lib.hid x17
      have HE11 := Lib.hid e11
      clear hcell hxs x17 xo e11
      by_cases hi : is = 3
      · subst hi
        have hxe := e10 rfl
        have hxc : xs = cs := by rw [← HXS.out, hxe]; exact HCS.out
        injection hxe with _ _ _ _ _ _ _ _ _ _ _ _ _ _ _ hkn _
        subst hkn
        clear e10 HE11
        subst hxc
        have HQ2 := HQ.out
        have HG2 := HHG.out
        cases xknown
        · have H8 := Lib.hid (show xs[8]? = some (.int .i64 3) by rw [← HCS.out]; rfl)
          have H15 := Lib.hid (show xs[15]? = some (.bool false) by rw [← HCS.out]; rfl)
          have H0 := Lib.hid (show xs[0]? = some (.int .i64 xno) by rw [← HCS.out]; rfl)
          have H1 := Lib.hid (show xs[1]? = some (.int .u32 xpc) by rw [← HCS.out]; rfl)
          have H2 := Lib.hid (show xs[2]? = some (.int .i64 xop) by rw [← HCS.out]; rfl)
          have H3 := Lib.hid (show xs[3]? = some (.int .i64 xrd) by rw [← HCS.out]; rfl)
          have H4 := Lib.hid (show xs[4]? = some (.int .i64 xrs1) by rw [← HCS.out]; rfl)
          have H5 := Lib.hid (show xs[5]? = some (.int .i64 xrs2) by rw [← HCS.out]; rfl)
          have H6 := Lib.hid (show xs[6]? = some (.int .u32 ximm) by rw [← HCS.out]; rfl)
          have H7 := Lib.hid (show xs[7]? = some (.int .u32 xguess) by rw [← HCS.out]; rfl)
          have H16 := Lib.hid (show xs[16]? = some (.bool xfilled) by rw [← HCS.out]; rfl)
          have K15 := Lib.hid (show xs[15]? = some (.bool false) by rw [← HXS.out]; rfl)
          have K0 := Lib.hid (show xs[0]? = some (.int .i64 xno) by rw [← HXS.out]; rfl)
          have K1 := Lib.hid (show xs[1]? = some (.int .u32 xpc) by rw [← HXS.out]; rfl)
          have K2 := Lib.hid (show xs[2]? = some (.int .i64 xop) by rw [← HXS.out]; rfl)
          have K3 := Lib.hid (show xs[3]? = some (.int .i64 xrd) by rw [← HXS.out]; rfl)
          have K4 := Lib.hid (show xs[4]? = some (.int .i64 xrs1) by rw [← HXS.out]; rfl)
          have K5 := Lib.hid (show xs[5]? = some (.int .i64 xrs2) by rw [← HXS.out]; rfl)
          have K6 := Lib.hid (show xs[6]? = some (.int .u32 ximm) by rw [← HXS.out]; rfl)
          have K7 := Lib.hid (show xs[7]? = some (.int .u32 xguess) by rw [← HXS.out]; rfl)
          have K16 := Lib.hid (show xs[16]? = some (.bool xfilled) by rw [← HXS.out]; rfl)
          go_wp2_with (first
            | (refine wpList_load_row rfl 60 (.tmp 33) rfl _ rfl xs _ HX.out Tryd.underlying60 rfl HXI.out ?_)
            | (refine wpList_store_new rfl 60 (.tmp 12) (.tmp 34) rfl wr.heap.size rfl _ xs _ rfl rfl HXZ.out.symm HXI.out HXO.out ?_; intro W4 hb4 hB4 hs4
               have Y1 := Lib.hid (X1.out.below hb4 X1.out.1)
               have YX := Lib.hid hB4
               have Y3 := Lib.hid (X3.out.trans (hb4.mono X3.out.size))
               have YE := Lib.hid (HE.out.below hb4)
               have c8 := Y1.out.2.1 8 _ H8.out
               have c15 := Y1.out.2.1 15 _ H15.out
               have c0 := Y1.out.2.1 0 _ H0.out
               have c1 := Y1.out.2.1 1 _ H1.out
               have c2 := Y1.out.2.1 2 _ H2.out
               have c3 := Y1.out.2.1 3 _ H3.out
               have c4 := Y1.out.2.1 4 _ H4.out
               have c5 := Y1.out.2.1 5 _ H5.out
               have c6 := Y1.out.2.1 6 _ H6.out
               have c7 := Y1.out.2.1 7 _ H7.out
               have c16 := Y1.out.2.1 16 _ H16.out
               have d15 := YX.out.2.1 15 _ K15.out
               have d0 := YX.out.2.1 0 _ K0.out
               have d1 := YX.out.2.1 1 _ K1.out
               have d2 := YX.out.2.1 2 _ K2.out
               have d3 := YX.out.2.1 3 _ K3.out
               have d4 := YX.out.2.1 4 _ K4.out
               have d5 := YX.out.2.1 5 _ K5.out
               have d6 := YX.out.2.1 6 _ K6.out
               have d7 := YX.out.2.1 7 _ K7.out
               have d16 := YX.out.2.1 16 _ K16.out
               clear hb4 hB4 hs4)
            | (refine wpList_load_want 60 (.tmp 12) rfl rfl wr.heap.size 0 rfl xs _ YX.out.range Tryd.underlying60 rfl HXI.out ?_)
            | (refine wpList_load_want 60 (.tmp 5) rfl rfl w.heap.size 0 rfl xs _ Y1.out.range Tryd.underlying60 rfl HI.out ?_))
          go_roundw
          case rel => exact ⟨k + 1, by omega, by go_num, YE.out, Y1.out, Y3.out⟩
          case measure => simp [intOf]; omega
        · have H8 := Lib.hid (show xs[8]? = some (.int .i64 3) by rw [← HCS.out]; rfl)
          have H15 := Lib.hid (show xs[15]? = some (.bool true) by rw [← HCS.out]; rfl)
          have H0 := Lib.hid (show xs[0]? = some (.int .i64 xno) by rw [← HCS.out]; rfl)
          have H1 := Lib.hid (show xs[1]? = some (.int .u32 xpc) by rw [← HCS.out]; rfl)
          have H2 := Lib.hid (show xs[2]? = some (.int .i64 xop) by rw [← HCS.out]; rfl)
          have H3 := Lib.hid (show xs[3]? = some (.int .i64 xrd) by rw [← HCS.out]; rfl)
          have H4 := Lib.hid (show xs[4]? = some (.int .i64 xrs1) by rw [← HCS.out]; rfl)
          have H5 := Lib.hid (show xs[5]? = some (.int .i64 xrs2) by rw [← HCS.out]; rfl)
          have H6 := Lib.hid (show xs[6]? = some (.int .u32 ximm) by rw [← HCS.out]; rfl)
          have H7 := Lib.hid (show xs[7]? = some (.int .u32 xguess) by rw [← HCS.out]; rfl)
          have H16 := Lib.hid (show xs[16]? = some (.bool xfilled) by rw [← HCS.out]; rfl)
          have K15 := Lib.hid (show xs[15]? = some (.bool true) by rw [← HXS.out]; rfl)
          have K0 := Lib.hid (show xs[0]? = some (.int .i64 xno) by rw [← HXS.out]; rfl)
          have K1 := Lib.hid (show xs[1]? = some (.int .u32 xpc) by rw [← HXS.out]; rfl)
          have K2 := Lib.hid (show xs[2]? = some (.int .i64 xop) by rw [← HXS.out]; rfl)
          have K3 := Lib.hid (show xs[3]? = some (.int .i64 xrd) by rw [← HXS.out]; rfl)
          have K4 := Lib.hid (show xs[4]? = some (.int .i64 xrs1) by rw [← HXS.out]; rfl)
          have K5 := Lib.hid (show xs[5]? = some (.int .i64 xrs2) by rw [← HXS.out]; rfl)
          have K6 := Lib.hid (show xs[6]? = some (.int .u32 ximm) by rw [← HXS.out]; rfl)
          have K7 := Lib.hid (show xs[7]? = some (.int .u32 xguess) by rw [← HXS.out]; rfl)
          have K16 := Lib.hid (show xs[16]? = some (.bool xfilled) by rw [← HXS.out]; rfl)
          go_wp2_with (first
            | (refine wpList_load_row rfl 60 (.tmp 33) rfl _ rfl xs _ HX.out Tryd.underlying60 rfl HXI.out ?_)
            | (refine wpList_store_new rfl 60 (.tmp 12) (.tmp 34) rfl wr.heap.size rfl _ xs _ rfl rfl HXZ.out.symm HXI.out HXO.out ?_; intro W4 hb4 hB4 hs4
               have Y1 := Lib.hid (X1.out.below hb4 X1.out.1)
               have YX := Lib.hid hB4
               have Y3 := Lib.hid (X3.out.trans (hb4.mono X3.out.size))
               have YE := Lib.hid (HE.out.below hb4)
               have c8 := Y1.out.2.1 8 _ H8.out
               have c15 := Y1.out.2.1 15 _ H15.out
               have c0 := Y1.out.2.1 0 _ H0.out
               have c1 := Y1.out.2.1 1 _ H1.out
               have c2 := Y1.out.2.1 2 _ H2.out
               have c3 := Y1.out.2.1 3 _ H3.out
               have c4 := Y1.out.2.1 4 _ H4.out
               have c5 := Y1.out.2.1 5 _ H5.out
               have c6 := Y1.out.2.1 6 _ H6.out
               have c7 := Y1.out.2.1 7 _ H7.out
               have c16 := Y1.out.2.1 16 _ H16.out
               have d15 := YX.out.2.1 15 _ K15.out
               have d0 := YX.out.2.1 0 _ K0.out
               have d1 := YX.out.2.1 1 _ K1.out
               have d2 := YX.out.2.1 2 _ K2.out
               have d3 := YX.out.2.1 3 _ K3.out
               have d4 := YX.out.2.1 4 _ K4.out
               have d5 := YX.out.2.1 5 _ K5.out
               have d6 := YX.out.2.1 6 _ K6.out
               have d7 := YX.out.2.1 7 _ K7.out
               have d16 := YX.out.2.1 16 _ K16.out
               clear hb4 hB4 hs4)
            | (refine wpList_load_want 60 (.tmp 12) rfl rfl wr.heap.size 0 rfl xs _ YX.out.range Tryd.underlying60 rfl HXI.out ?_)
            | (refine wpList_load_want 60 (.tmp 5) rfl rfl w.heap.size 0 rfl xs _ Y1.out.range Tryd.underlying60 rfl HI.out ?_))
          go_roundw
          case rel => exact ⟨k + 1, by omega, by go_num, YE.out, Y1.out, Y3.out⟩
          case measure => simp [intOf]; omega
      · have hib : (is == 3) = false := by simpa using hi
        clear e10 hi
        cases known
        · clear HE11
          have H8 := Lib.hid (show cs[8]? = some (.int .i64 is) by rw [← HCS.out]; rfl)
          have H15 := Lib.hid (show cs[15]? = some (.bool false) by rw [← HCS.out]; rfl)
          have H0 := Lib.hid (show cs[0]? = some (.int .i64 xno) by rw [← HCS.out]; rfl)
          have H1 := Lib.hid (show cs[1]? = some (.int .u32 xpc) by rw [← HCS.out]; rfl)
          have H2 := Lib.hid (show cs[2]? = some (.int .i64 xop) by rw [← HCS.out]; rfl)
          have H3 := Lib.hid (show cs[3]? = some (.int .i64 xrd) by rw [← HCS.out]; rfl)
          have H4 := Lib.hid (show cs[4]? = some (.int .i64 xrs1) by rw [← HCS.out]; rfl)
          have H5 := Lib.hid (show cs[5]? = some (.int .i64 xrs2) by rw [← HCS.out]; rfl)
          have H6 := Lib.hid (show cs[6]? = some (.int .u32 ximm) by rw [← HCS.out]; rfl)
          have H7 := Lib.hid (show cs[7]? = some (.int .u32 xguess) by rw [← HCS.out]; rfl)
          have H16 := Lib.hid (show cs[16]? = some (.bool xfilled) by rw [← HCS.out]; rfl)
          have K15 := Lib.hid (show xs[15]? = some (.bool xknown) by rw [← HXS.out]; rfl)
          have K0 := Lib.hid (show xs[0]? = some (.int .i64 xno) by rw [← HXS.out]; rfl)
          have K1 := Lib.hid (show xs[1]? = some (.int .u32 xpc) by rw [← HXS.out]; rfl)
          have K2 := Lib.hid (show xs[2]? = some (.int .i64 xop) by rw [← HXS.out]; rfl)
          have K3 := Lib.hid (show xs[3]? = some (.int .i64 xrd) by rw [← HXS.out]; rfl)
          have K4 := Lib.hid (show xs[4]? = some (.int .i64 xrs1) by rw [← HXS.out]; rfl)
          have K5 := Lib.hid (show xs[5]? = some (.int .i64 xrs2) by rw [← HXS.out]; rfl)
          have K6 := Lib.hid (show xs[6]? = some (.int .u32 ximm) by rw [← HXS.out]; rfl)
          have K7 := Lib.hid (show xs[7]? = some (.int .u32 xguess) by rw [← HXS.out]; rfl)
          have K16 := Lib.hid (show xs[16]? = some (.bool xfilled) by rw [← HXS.out]; rfl)
          go_wp2_with (first
            | (refine wpList_load_row rfl 60 (.tmp 33) rfl _ rfl xs _ HX.out Tryd.underlying60 rfl HXI.out ?_)
            | (refine wpList_store_new rfl 60 (.tmp 12) (.tmp 34) rfl wr.heap.size rfl _ xs _ rfl rfl HXZ.out.symm HXI.out HXO.out ?_; intro W4 hb4 hB4 hs4
               have Y1 := Lib.hid (X1.out.below hb4 X1.out.1)
               have YX := Lib.hid hB4
               have Y3 := Lib.hid (X3.out.trans (hb4.mono X3.out.size))
               have YE := Lib.hid (HE.out.below hb4)
               have c8 := Y1.out.2.1 8 _ H8.out
               have c15 := Y1.out.2.1 15 _ H15.out
               have c0 := Y1.out.2.1 0 _ H0.out
               have c1 := Y1.out.2.1 1 _ H1.out
               have c2 := Y1.out.2.1 2 _ H2.out
               have c3 := Y1.out.2.1 3 _ H3.out
               have c4 := Y1.out.2.1 4 _ H4.out
               have c5 := Y1.out.2.1 5 _ H5.out
               have c6 := Y1.out.2.1 6 _ H6.out
               have c7 := Y1.out.2.1 7 _ H7.out
               have c16 := Y1.out.2.1 16 _ H16.out
               have d15 := YX.out.2.1 15 _ K15.out
               have d0 := YX.out.2.1 0 _ K0.out
               have d1 := YX.out.2.1 1 _ K1.out
               have d2 := YX.out.2.1 2 _ K2.out
               have d3 := YX.out.2.1 3 _ K3.out
               have d4 := YX.out.2.1 4 _ K4.out
               have d5 := YX.out.2.1 5 _ K5.out
               have d6 := YX.out.2.1 6 _ K6.out
               have d7 := YX.out.2.1 7 _ K7.out
               have d16 := YX.out.2.1 16 _ K16.out
               clear hb4 hB4 hs4)
            | (refine wpList_load_want 60 (.tmp 12) rfl rfl wr.heap.size 0 rfl xs _ YX.out.range Tryd.underlying60 rfl HXI.out ?_)
            | (refine wpList_load_want 60 (.tmp 5) rfl rfl w.heap.size 0 rfl cs _ Y1.out.range Tryd.underlying60 rfl HI.out ?_))
          go_roundw
          case rel => exact ⟨k + 1, by omega, by go_num, YE.out, Y1.out, Y3.out⟩
          case measure => simp [intOf]; omega
        · have hkn := HE11.out rfl
          subst hkn
          clear HE11
          have H8 := Lib.hid (show cs[8]? = some (.int .i64 is) by rw [← HCS.out]; rfl)
          have H15 := Lib.hid (show cs[15]? = some (.bool true) by rw [← HCS.out]; rfl)
          have H0 := Lib.hid (show cs[0]? = some (.int .i64 xno) by rw [← HCS.out]; rfl)
          have H1 := Lib.hid (show cs[1]? = some (.int .u32 xpc) by rw [← HCS.out]; rfl)
          have H2 := Lib.hid (show cs[2]? = some (.int .i64 xop) by rw [← HCS.out]; rfl)
          have H3 := Lib.hid (show cs[3]? = some (.int .i64 xrd) by rw [← HCS.out]; rfl)
          have H4 := Lib.hid (show cs[4]? = some (.int .i64 xrs1) by rw [← HCS.out]; rfl)
          have H5 := Lib.hid (show cs[5]? = some (.int .i64 xrs2) by rw [← HCS.out]; rfl)
          have H6 := Lib.hid (show cs[6]? = some (.int .u32 ximm) by rw [← HCS.out]; rfl)
          have H7 := Lib.hid (show cs[7]? = some (.int .u32 xguess) by rw [← HCS.out]; rfl)
          have H16 := Lib.hid (show cs[16]? = some (.bool xfilled) by rw [← HCS.out]; rfl)
          have K15 := Lib.hid (show xs[15]? = some (.bool true) by rw [← HXS.out]; rfl)
          have K0 := Lib.hid (show xs[0]? = some (.int .i64 xno) by rw [← HXS.out]; rfl)
          have K1 := Lib.hid (show xs[1]? = some (.int .u32 xpc) by rw [← HXS.out]; rfl)
          have K2 := Lib.hid (show xs[2]? = some (.int .i64 xop) by rw [← HXS.out]; rfl)
          have K3 := Lib.hid (show xs[3]? = some (.int .i64 xrd) by rw [← HXS.out]; rfl)
          have K4 := Lib.hid (show xs[4]? = some (.int .i64 xrs1) by rw [← HXS.out]; rfl)
          have K5 := Lib.hid (show xs[5]? = some (.int .i64 xrs2) by rw [← HXS.out]; rfl)
          have K6 := Lib.hid (show xs[6]? = some (.int .u32 ximm) by rw [← HXS.out]; rfl)
          have K7 := Lib.hid (show xs[7]? = some (.int .u32 xguess) by rw [← HXS.out]; rfl)
          have K16 := Lib.hid (show xs[16]? = some (.bool xfilled) by rw [← HXS.out]; rfl)
          go_wp2_with (first
            | (refine wpList_load_row rfl 60 (.tmp 33) rfl _ rfl xs _ HX.out Tryd.underlying60 rfl HXI.out ?_)
            | (refine wpList_store_new rfl 60 (.tmp 12) (.tmp 34) rfl wr.heap.size rfl _ xs _ rfl rfl HXZ.out.symm HXI.out HXO.out ?_; intro W4 hb4 hB4 hs4
               have Y1 := Lib.hid (X1.out.below hb4 X1.out.1)
               have YX := Lib.hid hB4
               have Y3 := Lib.hid (X3.out.trans (hb4.mono X3.out.size))
               have YE := Lib.hid (HE.out.below hb4)
               have c8 := Y1.out.2.1 8 _ H8.out
               have c15 := Y1.out.2.1 15 _ H15.out
               have c0 := Y1.out.2.1 0 _ H0.out
               have c1 := Y1.out.2.1 1 _ H1.out
               have c2 := Y1.out.2.1 2 _ H2.out
               have c3 := Y1.out.2.1 3 _ H3.out
               have c4 := Y1.out.2.1 4 _ H4.out
               have c5 := Y1.out.2.1 5 _ H5.out
               have c6 := Y1.out.2.1 6 _ H6.out
               have c7 := Y1.out.2.1 7 _ H7.out
               have c16 := Y1.out.2.1 16 _ H16.out
               have d15 := YX.out.2.1 15 _ K15.out
               have d0 := YX.out.2.1 0 _ K0.out
               have d1 := YX.out.2.1 1 _ K1.out
               have d2 := YX.out.2.1 2 _ K2.out
               have d3 := YX.out.2.1 3 _ K3.out
               have d4 := YX.out.2.1 4 _ K4.out
               have d5 := YX.out.2.1 5 _ K5.out
               have d6 := YX.out.2.1 6 _ K6.out
               have d7 := YX.out.2.1 7 _ K7.out
               have d16 := YX.out.2.1 16 _ K16.out
               clear hb4 hB4 hs4)
            | (refine wpList_load_want 60 (.tmp 12) rfl rfl wr.heap.size 0 rfl xs _ YX.out.range Tryd.underlying60 rfl HXI.out ?_)
            | (refine wpList_load_want 60 (.tmp 5) rfl rfl w.heap.size 0 rfl cs _ Y1.out.range Tryd.underlying60 rfl HI.out ?_))
          go_roundw
          case rel => exact ⟨k + 1, by omega, by go_num, YE.out, Y1.out, Y3.out⟩
          case measure => simp [intOf]; omega
    · obtain rfl : k = 5 := by omega
      go_wp2_with (go_at_call 43; refine (alive18_any _ (HTB.out.below X3.out hg) (Nat.lt_of_lt_of_le hg X3.out.size)).mono ?_; rintro r w7 ⟨rfl, b7⟩; have B7 := Lib.hid (X3.out.trans (b7.mono X3.out.size)); clear b7)
      go_ret
      exact ⟨rfl, B7.out⟩
end Go.Proofs.YtfekknalchjkiaaDoor.execStays
