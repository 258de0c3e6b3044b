/- THE CONTRACT of source.Maker: a range over a function of its own. -/
import Derived.Test.YtfekknalchjkiaaDoorTaintM
import Derived.Test.YtfekknalchjkiaaDoorRound
import Derived.RangeFuncNested
import Derived.RangeFuncBound
import Derived.RangeFuncCalls
import Derived.RangeFuncLeaves
import Derived.Shelf.Abstract
import Derived.Shelf.RegionOpen
import Derived.WalkKit
import Derived.OwnWalkIn
import Derived.TacticsInMore
import Derived.LoopNIn
import Derived.LoopIn
import Derived.BigFrameIn
import Derived.Deep.QuietTactic
import Derived.BigQuiet
namespace Go.Proofs.YtfekknalchjkiaaDoor
open Go.ChangeShapes Go.WideShapes Go.ChangeAt Go.RowKit Go.Sort Go.Shelf
set_option linter.unusedVariables false
set_option linter.unusedSimpArgs false
set_option maxHeartbeats 2000000
set_option maxRecDepth 100000
attribute [local go_sem] Oper.semAt_some

theorem isWritten_any (reg : Int) (w : World) : Calls Tryd.prog 115 #[.int .i64 reg] w fun e w' => e = .returned (.bool (isW reg)) ∧ w = w' := by
  go_enter Tryd.func115, Tryd.ntmps115
  unfold isW
  by_cases h : 1 ≤ reg
  · by_cases h2 : reg ≤ 31
    · have q1 : decide (1 ≤ reg) = true := decide_eq_true h
      have q2 : decide (reg ≤ 31) = true := decide_eq_true h2
      go_wp2
      go_ret
      exact ⟨retb (by simp [h, h2]), rfl⟩
    · have q1 : decide (1 ≤ reg) = true := decide_eq_true h
      have q2 : decide (reg ≤ 31) = false := decide_eq_false h2
      go_wp2
      go_ret
      exact ⟨retb (by simp [h, h2]), rfl⟩
  · have q1 : decide (1 ≤ reg) = false := decide_eq_false h
    go_wp2
    go_ret
    exact ⟨retb (by simp [h]), rfl⟩
theorem ahead_any (A : Option Addr) (n c : Nat) (i : Int) (w : World) : Calls Tryd.prog 116 #[.slice A n c, .int .i64 i] w fun e w' =>
    e = .returned (.func (.func 145) #[] #[.pointer (some ⟨w.heap.size + 1, 0, none⟩), .pointer (some ⟨w.heap.size, 0, none⟩)]) ∧ w' = (w.alloc (.cells #[.slice A n c] 52)).alloc (.cells #[.int .i64 i] 3) := by
  go_enter Tryd.func116, Tryd.ntmps116
  go_wp2
  go_ret
  exact ⟨rfl, rfl⟩
theorem keeps_of_below {B : Nat} {W W' : World} (h : Below W.heap.size W W') : KeepsFrom B W W' := ⟨h.size, fun k o _ hk _ => (h.block k (Array.getElem?_eq_some_iff.1 hk).1).trans hk⟩

/-- a struct read whole, inside a fence -/
theorem wpListIn_load_row {F : Fence} {n : Nat} {P : Program} {ops : Array Oper} {rest : List Oper} {op : Oper} {a : Act} {w : World} {Q : Exit → Act → World → Prop} (hgd : op.guard = none) (ty : TypeId) (x : Operand) (ho : op.op = .load ty x)
    (p : Addr) (hx : a.eval x = .pointer (some p)) (cs : List Value) (d : TypeDesc) (hc : ∀ j v, cs[j]? = some v → w.cell? (p.add j) = some v)
    (hu : P.underlying ty = some d) (hd : d.isRow = true) (hi : (P.info? ty).map (·.size) = some cs.length)
    (h : wpListIn F n P ops Q rest (a.put op.dst (.agg cs.toArray)) w) : wpListIn F n P ops Q (op :: rest) a w := by
  refine BigFrame.wpListIn_want (by unfold Region.wanted; rw [hgd]) fun _ hK => ?_
  refine ⟨fun f hf => ?_, ?_⟩
  · simp [Oper.about, ho] at hf
  · rw [Oper.semAt_eq _ _ _ (by simp [ho])]
    unfold execOp
    simp only [ho, hx, Instr.loadAt, Instr.sureAddr, Sem.run_bind, Sem.run_pure, Result.andThen_ok, run_loadVar_row w p ty cs d hc hu hd hi]
    exact hK _ _ h
abbrev encE (x : Nat × En) : Array Value := #[.int .i64 (x.1 : Int), enV x.2]

theorem ahead1_in (n : Nat) (hn : 1 ≤ n) (l bi br : Nat) (A : Option Addr) (len cap : Nat) (es : List En) (i : Int) (m : Nat) (hm : (m : Int) = min (max i 0) len) (hlen : len ≤ maxLen) (w0 : World)
    (J Jx : List (Nat × En) → World → Prop)
    (hY : ∀ pre x W, J pre W → pre.length < m → YieldAt Fence.wide (n - 1) Tryd.prog l #[.int .i64 (x.1 : Int), enV x.2] W fun e W' =>
      (e = .returned (.bool true) ∧ J (pre ++ [x]) W' ∧ Below w0.heap.size W W') ∨ (e = .returned (.bool false) ∧ Jx (pre ++ [x]) W'))
    (hbi0 : w0.cell? ⟨bi, 0, none⟩ = some (.int .i64 i)) (hbr : w0.cell? ⟨br, 0, none⟩ = some (.slice A len cap)) (hE : EntsAt w0 A len es) (W : World) (hW : Below w0.heap.size w0 W) (h0 : J [] W) :
    CallsIn Fence.wide n Tryd.prog 145 #[.func (.yield l) #[] #[], .pointer (some ⟨bi, 0, none⟩), .pointer (some ⟨br, 0, none⟩)] W fun e W' => (∃ v, e = .returned v) ∧
      ((∃ ys, ys = uptoF (dnF es m) m ∧ J ys W') ∨ (∃ pre, (∃ k, k < m ∧ pre = uptoF (dnF es m) (k + 1)) ∧ Jx pre W')) := by
  have hml : m ≤ len := by omega
  unfold maxLen at hlen
  have HM := Lib.hid hm
  have hm' := hm.symm
  clear hm
  have hbi := (hW.cell (block_lt_of_cell hbi0)).trans hbi0
  have hbrW := (hW.cell (block_lt_of_cell hbr)).trans hbr
  refine callsIn_of_wp Tryd.func145 rfl trivial ?_ rfl
  simp only [Tryd.ntmps145, List.size_toArray, List.length_cons, List.length_nil, Nat.reduceAdd, Nat.reduceSub, Array.replicate_succ, Array.replicate_zero, List.push_toArray, List.append_toArray, List.nil_append, List.cons_append]
  gi_wp2
  all_goals
    gi_loopw [4] (fun i wr => ∃ j kk : Nat, j + kk = m ∧ i = .int .i64 ((kk : Int) - 1) ∧ J (uptoF (dnF es m) j) wr ∧ Below w0.heap.size w0 wr) (fun i _ => (intOf i + 1).toNat)
    case atStart => exact ⟨0, m, by omega, congrArg (Value.int .i64) (by omega), h0, hW⟩
    case round =>
      obtain ⟨j, kk, hjk, rfl, hJs, hnx⟩ := hrel
      cases kk with
      | zero =>
        gi_wp2
        go_end0
        obtain rfl : j = m := by omega
        exact ⟨⟨_, rfl⟩, .inl ⟨_, rfl, hJs⟩⟩
      | succ q =>
        have e : ((q + 1 : Nat) : Int) - 1 = q := by push_cast; omega
        rw [e]
        obtain ⟨e0, he0⟩ : ∃ e0, es[q]? = some e0 := ⟨_, List.getElem?_eq_getElem (by rw [hE.len]; omega)⟩
        have hx : dnF es m j = (q, e0) := by
          unfold dnF
          rw [show m - 1 - j = q by omega, he0]
          rfl
        obtain ⟨fn, tmps, assign, body, hy, hR⟩ := hY _ (q, e0) wr hJs (by rw [uptoF_len]; omega)
        dsimp only at hy
        obtain ⟨a, rfl, hal, hcell⟩ := hE.at_ he0
        have hbr' := (hnx.cell (p := ⟨br, 0, none⟩) (block_lt_of_cell hbr)).trans hbr
        obtain ⟨cs, hcs⟩ : ∃ cs, enC e0 = cs := ⟨_, rfl⟩
        have hsv : enV e0 = .agg cs.toArray := by unfold enV; rw [hcs]
        have h17 : cs.length = 17 := by rw [← hcs]; rfl
        rw [hcs] at hcell
        rw [hsv] at hy
        have HX := Lib.hid (fun (t : Nat) (v : Value) (ht : cs[t]? = some v) => (hnx.cell (p := (a.add (q * 17)).add t) (by rw [block_add, block_add]; exact hal)).trans (hcell t v ht))
        have HI := Lib.hid (show (Tryd.prog.info? 60).map (·.size) = some cs.length by rw [h17]; exact ent_info)
        have HJ := Lib.hid hJs
        have HR := Lib.hid hR
        have HN := Lib.hid hnx
        clear hcell hsv h17 hcs hbr hbi hbrW hbi0 hE hY h0 hJs hR hnx hW
        gi_wp2_with (refine wpListIn_load_row rfl 60 (.tmp 19) rfl _ rfl cs _ HX.out Tryd.underlying60 rfl HI.out ?_)
        refine HR.out.mono ?_
        rintro e W3 (⟨rfl, hJ3, hk3⟩ | ⟨rfl, hJx3⟩)
        · gi_wp2
          go_roundw
          case rel => exact ⟨j + 1, q, by omega, by go_num, by rw [uptoF_succ, hx]; exact hJ3, HN.out.trans hk3⟩
          case measure => (first | (simp [intOf]; done) | (simp [intOf]; omega))
        · gi_wp2
          refine bodyPost_ret (results_none rfl _ _ _) rfl ?_
          exact ⟨⟨_, rfl⟩, .inr ⟨_, ⟨j, by omega, by rw [uptoF_succ, hx]⟩, hJx3⟩⟩
theorem ahead_stops (n : Nat) (hn : 1 ≤ n) (bi br : Nat) (A : Option Addr) (len cap : Nat) (es : List En) (i : Int) (m : Nat) (hm : (m : Int) = min (max i 0) len) (hlen : len ≤ maxLen) (w0 : World)
    (hbi0 : w0.cell? ⟨bi, 0, none⟩ = some (.int .i64 i)) (hbr : w0.cell? ⟨br, 0, none⟩ = some (.slice A len cap)) (hE : EntsAt w0 A len es) :
    SeqStopsK Fence.wide n Tryd.prog 145 #[.pointer (some ⟨bi, 0, none⟩), .pointer (some ⟨br, 0, none⟩)] encE (Below w0.heap.size) (fun ys => ys = uptoF (dnF es m) m) (fun pre => ∃ k, k < m ∧ pre = uptoF (dnF es m) (k + 1)) m w0 :=
  fun l J Jx W hW _ _ hY h0 => ahead1_in n hn l bi br A len cap es i m hm hlen w0 J Jx hY hbi0 hbr hE W hW h0

theorem alloc4 (w : World) (X Y Z V : Value) (t1 t2 t3 t4 : TypeId) : ∀ W0, (((w.alloc (.cells #[X] t1)).alloc (.cells #[Y] t2)).alloc (.cells #[Z] t3)).alloc (.cells #[V] t4) = W0 →
    W0.heap.size = w.heap.size + 1 + 1 + 1 + 1 ∧ Blk W0 w.heap.size [X] ∧ Blk W0 (w.heap.size + 1) [Y] ∧ Blk W0 (w.heap.size + 1 + 1) [Z] ∧ Blk W0 (w.heap.size + 1 + 1 + 1) [V] ∧ Below w.heap.size w W0 := by
  rintro _ rfl
  have s1 : (w.alloc (.cells #[X] t1)).heap.size = w.heap.size + 1 := by simp
  have s2 : ((w.alloc (.cells #[X] t1)).alloc (.cells #[Y] t2)).heap.size = w.heap.size + 1 + 1 := by simp
  have s3 : (((w.alloc (.cells #[X] t1)).alloc (.cells #[Y] t2)).alloc (.cells #[Z] t3)).heap.size = w.heap.size + 1 + 1 + 1 := by simp
  have b1 : ∀ (u : World) (o : Obj), Below u.heap.size u (u.alloc o) := fun u o => (Below.refl _ _).alloc (Nat.le_refl _) _
  have x1 := Blk.new w t1 [X]
  have x2 := Blk.new (w.alloc (.cells #[X] t1)) t2 [Y]
  have x3 := Blk.new ((w.alloc (.cells #[X] t1)).alloc (.cells #[Y] t2)) t3 [Z]
  have x4 := Blk.new (((w.alloc (.cells #[X] t1)).alloc (.cells #[Y] t2)).alloc (.cells #[Z] t3)) t4 [V]
  rw [s1] at x2
  rw [s2] at x3
  rw [s3] at x4
  refine ⟨by simp, ((x1.below (b1 _ _) x1.1).below (b1 _ _) ?_).below (b1 _ _) ?_, (x2.below (b1 _ _) x2.1).below (b1 _ _) ?_, x3.below (b1 _ _) x3.1, x4, ?_⟩
  · rw [s2]; omega
  · rw [s3]; omega
  · rw [s3]; omega
  · exact ((((Below.refl _ _).alloc (Nat.le_refl _) _).alloc (by simp) _).alloc (by simp; omega) _).alloc (by simp; omega) _
theorem maker_any (A : Option Addr) (n c : Nat) (es : List En) (i reg : Int) (hn : n ≤ c) (hc : c ≤ maxLen) (w : World) (ht : TabIs w) (hg : 0 < w.heap.size) (hE : EntsAt w A n es) :
    Calls Tryd.prog 71 #[.slice A n c, .int .i64 i, .int .i64 reg] w fun r w' => r = .returned (.int .i64 (makI es i reg)) ∧ Below w.heap.size w w' := by
  have HL := hE.len
  have HE := Lib.hid hE
  have HT := Lib.hid ht
  clear ht hE
  refine (callsIn_wide (n := 8)).1 ?_
  refine callsIn_of_wp_marks Tryd.func71 rfl trivial ?_ rfl
  simp only [Tryd.ntmps71, List.size_toArray, List.length_cons, List.length_nil, Nat.reduceAdd, Nat.reduceSub, Array.replicate_succ, Array.replicate_zero, List.push_toArray, List.append_toArray, List.nil_append, List.cons_append]
  refine wpIn_wide.2 ?_
  have HIW := Lib.hid (isWritten_any reg)
  have HA := Lib.hid (ahead_any A n c i)
  have HMI := Lib.hid (show makI es i reg = if isW reg = true then makN es reg (ahdN es.length i) else -1 from rfl)
  cases hwr : isW reg
  · rw [hwr] at HIW HMI
    go_wp2_with (go_at_call 115; refine (HIW.out _).mono ?_; rintro r w1 ⟨rfl, rfl⟩)
    refine ⟨.int .i64 (-1), ?_, by rw [HMI.out]; rfl, ((Below.refl _ _).alloc (Nat.le_refl _) _).alloc (by simp) _⟩
    simp [results, Tryd.f71, go_sem]
  · rw [hwr] at HIW HMI
    obtain ⟨m, hm⟩ : ∃ m : Nat, ahdN es.length i = m := ⟨_, rfl⟩
    have hmm : (m : Int) = min (max i 0) n := by rw [← hm, HL]; unfold ahdN; omega
    have hml : m ≤ es.length := by rw [← hm]; exact ahd_le _ _
    rw [hm, if_pos rfl] at HMI
    have HMM := Lib.hid hmm
    clear hm hmm hwr
    go_wp2_with (first
      | (go_at_call 115; refine (HIW.out _).mono ?_; rintro r w1 ⟨rfl, rfl⟩)
      | (go_at_call 116; refine (HA.out _).mono ?_; rintro r w2 ⟨rfl, rfl⟩))
    refine (wpIn_wide (n := 6)).1 ?_
    obtain ⟨W0, hW0⟩ : ∃ W0, (((w.alloc (.cells #[.int .i64 reg] 3)).alloc (.cells #[.int .i64 0] 3)).alloc (.cells #[.slice A n c] 52)).alloc (.cells #[.int .i64 i] 3) = W0 := ⟨_, rfl⟩
    obtain ⟨hs, x1, x2, x3, x4, hB⟩ := alloc4 w _ _ _ _ _ _ _ _ W0 hW0
    rw [hW0]
    clear hW0
    have hwr := Blk.range x1
    refine wpIn_rangeFunc_ownH rfl (by omega) (gf := 145) (lb := #[.pointer (some ⟨w.heap.size + 1 + 1 + 1, 0, none⟩), .pointer (some ⟨w.heap.size + 1 + 1, 0, none⟩)]) rfl trivial (enters_of Tryd.func145 (by kernel_rfl) rfl)
      (ahead_stops 5 (by omega) (w.heap.size + 1 + 1 + 1) (w.heap.size + 1 + 1) A n c es i m HMM.out (Nat.le_trans hn hc) W0 (x4.2.1 0 _ rfl) (x3.2.1 0 _ rfl) (HE.out.below hB)) belowK_t (belowK_b (Nat.le_refl _)) (Below.refl _ _) (fun _ => rfl)
      (fun pre W => ((∀ x ∈ pre, wrI x.2.op x.2.rd ≠ reg) ∧ W.cell? ⟨w.heap.size, 0, none⟩ = some (.int .i64 reg) ∧ W.cell? ⟨w.heap.size + 1, 0, none⟩ = some (.int .i64 0) ∧ W.frozen? ⟨w.heap.size + 1, 0, none⟩ = false ∧ W0.heap.size ≤ W.heap.size) ∧ Below w.heap.size w W)
      (fun c pre W => (c = .ret ∧ ∃ ini last, pre = ini ++ [last] ∧ (∀ x ∈ ini, wrI x.2.op x.2.rd ≠ reg) ∧ wrI last.2.op last.2.rd = reg ∧ W.cell? ⟨w.heap.size + 1, 0, none⟩ = some (.int .i64 (last.1 : Int))) ∧ Below w.heap.size w W)
      (OwnFrom.and (Own.from (fun s X Y row hs hg hr => ⟨hs.1, cell_kept hs.2.1 hg hr, cell_kept hs.2.2.1 hg hr, (frozen_kept hs.2.2.1 hg hr).trans hs.2.2.2.1, Nat.le_trans hs.2.2.2.2 hg.size⟩) _) (ownFrom_below (Nat.le_refl _) (by omega)))
      (fun c => OwnFrom.and (Own.from (fun s X Y row hs hg hr => by obtain ⟨hc, ini, last, e1, e2, e3, e4⟩ := hs; exact ⟨hc, ini, last, e1, e2, e3, cell_kept e4 hg hr⟩) _) (ownFrom_below (Nat.le_refl _) (by omega)))
      ⟨⟨by simp, x1.2.1 0 _ rfl, x2.2.1 0 _ rfl, x2.2.2 0 (by simp), Nat.le_refl _⟩, hB⟩
      (fun x a' W => ∃ bx, (∀ (t : Nat) v, (enC x.2)[t]? = some v → W.cell? ⟨bx, t, none⟩ = some v) ∧ a' = { tmps := #[.slice A n c, .int .i64 i, .int .i64 reg, undef, undef, .pointer (some ⟨w.heap.size, 0, none⟩), .pointer (some ⟨w.heap.size + 1, 0, none⟩), .int .i64 (x.1 : Int), .pointer (some ⟨bx, 0, none⟩), .int .i64 reg, .bool true, .bool false, .slice A n c, .int .i64 i, .func (.func 145) #[] #[.pointer (some ⟨w.heap.size + 1 + 1 + 1, 0, none⟩), .pointer (some ⟨w.heap.size + 1 + 1, 0, none⟩)], .int .i64 (x.1 : Int), enV x.2, undef, undef, undef, undef, undef, undef], defers := [] })
      (fun x a' => Own.from (fun s X Y row hs hg hr => by obtain ⟨bx, h2, h3⟩ := hs; exact ⟨bx, fun t v ht => cell_kept (h2 t v ht) hg hr, h3⟩) _)
      ?assign ?body ?done ?stop
    case assign =>
      intro l pre x W K hI hK
      refine wpIn_seq_k fun K1 hK1 => ?_
      refine wpIn_region_round rfl (fun ⟨_, _, h⟩ => h) ?_
      obtain ⟨k, e0⟩ := x
      obtain ⟨cs, hcs⟩ : ∃ cs, enC e0 = cs := ⟨_, rfl⟩
      have hsv : enV e0 = .agg cs.toArray := by unfold enV; rw [hcs]
      have h17 : cs.length = 17 := by rw [← hcs]; rfl
      have h1 : cs.toArray.all (·.oneCell') = true := by rw [← hcs]; exact enC_one e0
      have HI := Lib.hid (show (Tryd.prog.info? 60).map (·.size) = some cs.length by rw [h17]; exact ent_info)
      have HO := Lib.hid h1
      have HZ := Lib.hid h17
      unfold encE
      rw [zip2]
      simp only [hsv, List.setIfInBounds_toArray, List.set_cons_succ, List.set_cons_zero]
      go_wp2
      refine wpIn_region_round rfl (fun ⟨_, _, h⟩ => h) ?_
      go_wp2_with (refine wpList_store_new rfl 60 (.tmp 8) (.tmp 16) rfl W.heap.size rfl _ cs _ rfl rfl HZ.out.symm HI.out HO.out ?_; intro W4 hb4 hB4 hs4)
      refine hK _ _ (keeps_of_below hb4) (hb4.mono hI.1.2.2.2.2) ⟨⟨hI.1.1, (hb4.cell (block_lt_of_cell hI.1.2.1)).trans hI.1.2.1, (hb4.cell (block_lt_of_cell hI.1.2.2.1)).trans hI.1.2.2.1, (hb4.frozen (block_lt_of_cell hI.1.2.2.1)).trans hI.1.2.2.2.1, Nat.le_trans hI.1.2.2.2.2 hb4.size⟩, hI.2.trans (hb4.mono hI.2.size)⟩ ?_
      exact ⟨W.heap.size, fun t v ht => hB4.2.1 t v (by rw [← hcs]; exact ht), by rw [hsv]; rfl⟩
    case body =>
      rintro l pre ⟨k, e0⟩ a' W hl ⟨rr, hrr⟩ ⟨⟨hp, hcw, hcr, hfr, hsz⟩, hBW⟩ ⟨bx, hbx, rfl⟩ hlt
      have hb0 := hbx 2 _ rfl
      have hb1 := hbx 3 _ rfl
      have hb2 := hbx 4 _ rfl
      have hb3 := hbx 5 _ rfl
      have hb4 := hbx 6 _ rfl
      have g0 := fun d os => cell_regrown hb0 d os
      have g1 := fun d os => cell_regrown hb1 d os
      have g2 := fun d os => cell_regrown hb2 d os
      have g3 := fun d os => cell_regrown hb3 d os
      have g4 := fun d os => cell_regrown hb4 d os
      have g5 := fun d os => cell_regrown hcw d os
      clear hb0 hb1 hb2 hb3 hb4 hbx
      have TB := Lib.hid (HT.out.below hBW hg)
      have GB := Lib.hid (Nat.lt_of_lt_of_le hg hBW.size)
      have HWR := Lib.hid (fun w ht hg => writes_any e0.op e0.rd e0.rs1 e0.rs2 e0.imm w ht hg)
      obtain ⟨wr, hwr⟩ : ∃ wr, wrI e0.op e0.rd = wr := ⟨_, rfl⟩
      rw [hwr] at HWR
      refine wpIn_block_k ?_
      refine wpIn_seq_k fun K1 hK1 => ?_
      refine wpIn_region_round_quiet (by kernel_rfl) (by kernel_rfl) rfl (fun ⟨_, _, h⟩ => h) ?_
      repeat (go_big_quiet_step (first
        | (go_at_call 101; exact Calls.regrown_of (HWR.out _ (TB.out.below (below_regrown _ _ _) GB.out) (Nat.lt_of_lt_of_le GB.out (below_regrown _ _ _).size)))))
      refine wpQuiet_nil ?_
      intro _ hw'
      obtain ⟨⟨nq, osq⟩, hw''⟩ := hw'
      subst hw''
      have bq := below_regrown W nq osq
      have z1 := (bq.cell (block_lt_of_cell hcw)).trans hcw
      have z2 := (bq.cell (block_lt_of_cell hcr)).trans hcr
      have z3 := (bq.frozen (block_lt_of_cell hcr)).trans hfr
      have z4 := Nat.le_trans hsz bq.size
      have z5 := hBW.trans (bq.mono hBW.size)
      have z6 := keeps_of_below (B := W0.heap.size) bq
      have z7 := bq.mono hsz
      have hlt1 : w.heap.size + 1 < W.heap.size := block_lt_of_cell hcr
      generalize grow (redrawn W nq) osq = W5 at *
      clear bq hcw hcr hfr g0 g1 g2 g3 g4 g5
      refine hK1 _ _ ?_
      clear hK1
      by_cases hq : wr = reg
      · refine wpIn_cond_true (by simp [Act.eval, hq]) ?_
        refine wpIn_seq_k fun K2 hK2 => ?_
        refine wpIn_region_round rfl (fun ⟨_, _, h⟩ => h) ?_
        go_wp2
        refine wpIn_ret ?_
        exact ⟨z6.trans ((KeepsOthers.setCell _ _ _).from _), ⟨rfl, pre, (k, e0), rfl, hp, hwr.trans hq, World.cell?_setCell_same' _ _ _ (by rw [z2]; rfl)⟩, z5.setCell (by simp) _⟩
      · refine wpIn_cond_false (by simp [Act.eval, hq]) ?_
        refine wpIn_skip ?_
        exact ⟨z6, z7, ⟨fun x hx => (List.mem_append.1 hx).elim (hp x) (fun e => by simp at e; subst e; exact fun h => hq (hwr.symm.trans h)), z1, z2, z3, z4⟩, z5⟩
    case done =>
      rintro D ys W hD rfl ⟨⟨hp, hcw, hcr, hfr, hsz⟩, hBW⟩ hK
      have hres := HMI.out.trans (mak_done hml hp)
      go_wp2
      have hK' := (KeepsOthers.setCell W ⟨w.heap.size + 1, 0, none⟩ (.int .i64 (-1))).same D _ hK rfl
      refine ⟨by simp, .inl ⟨_, _, rfl, run_takeDeferred hK', ?_⟩⟩
      have hc5 := cell_kept (World.cell?_setCell_same' W ⟨w.heap.size + 1, 0, none⟩ (.int .i64 (-1)) (by rw [hcr]; rfl)) (grownBy_putObj' _ D (.deferred none)) (fun r e => by cases e; exact ⟨_, hK', rfl⟩)
      refine ⟨.int .i64 (-1), ?_, (by first | rfl | rw [hres]), (hBW.setCell (p := ⟨w.heap.size + 1, 0, none⟩) (by simp) _).trans (belowK_b (w := w) (Nat.le_refl _) _ D _ _ (by omega) hK' rfl rfl)⟩
      simp [results, Tryd.f71, go_sem, hc5]
    case stop =>
      rintro D c pre W hD ⟨k, hk, rfl⟩ ⟨⟨rfl, ini, last, e1, e2, e3, hcr⟩, hBW⟩ hK
      rw [uptoF_succ] at e1
      obtain ⟨rfl, e5⟩ := List.append_inj' e1 rfl
      obtain rfl : dnF es m k = last := by simpa using e5
      have hres := HMI.out.trans (mak_stop hml hk e2 e3)
      generalize (dnF es m k).1 = q at *
      gi_wp2
      refine ⟨by simp, .inl ⟨_, _, rfl, run_takeDeferred hK, ?_⟩⟩
      have hc5 := cell_kept hcr (grownBy_putObj' _ D (.deferred none)) (fun r e => by cases e; exact ⟨_, hK, rfl⟩)
      refine ⟨.int .i64 (q : Int), ?_, (by first | rfl | rw [hres]), hBW.trans (belowK_b (w := w) (Nat.le_refl _) W D _ _ (by omega) hK rfl rfl)⟩
      simp [results, Tryd.f71, go_sem, hc5]
end Go.Proofs.YtfekknalchjkiaaDoor
