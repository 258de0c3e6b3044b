import Derived.RangeFuncWrites
import Derived.RangeFuncLeaves
import Derived.RangeFuncCalls
import Derived.RangeFuncBound
import Derived.Test.YtaokhegbfaokdaaDoorOwnB
import Derived.Test.YtaokhegbfaokdaaDoorSeqB
import Derived.Test.YtaokhegbfaokdaaDoorRound
import Derived.Shelf.Abstract
import Derived.Shelf.RegionOpen
import Derived.WalkKit
import Derived.OwnWalkIn
import Derived.TacticsInMore
import Derived.LoopNIn
import Derived.LoopIn
import Derived.BigFrameIn
import Derived.Sort.CutIn
import Derived.Test.YtaokhegbfaokdaaDoorStoB
/- A RANGE OVER A FUNCTION THAT KEEPS ITS STATE IN A BLOCK OF ITS OWN (and writes it between two rounds), all of whose elements are taken: the loop's rounds go on to the end. What the iterator does leaves every block but its own as it is. -/
namespace Go.Proofs.YtaokhegbfaokdaaDoor
open Go Go.RowKit
set_option linter.unusedVariables false

/-- the blocks of K stay; others may be written, and there may be new ones -/
structure Stay (K : Nat → Prop) (A B : World) : Prop where
  os : B.os = A.os
  tape : B.tape = A.tape
  output : B.output = A.output
  size : A.heap.size ≤ B.heap.size
  block : ∀ k, k < A.heap.size → K k → B.heap[k]? = A.heap[k]?
theorem Stay.refl (K : Nat → Prop) (A : World) : Stay K A A := ⟨rfl, rfl, rfl, Nat.le_refl _, fun _ _ _ => rfl⟩
theorem Stay.trans {K : Nat → Prop} {A B C : World} (h : Stay K A B) (k : Stay K B C) : Stay K A C :=
  ⟨k.os.trans h.os, k.tape.trans h.tape, k.output.trans h.output, Nat.le_trans h.size k.size, fun i hi hK => (k.block i (Nat.lt_of_lt_of_le hi h.size) hK).trans (h.block i hi hK)⟩
theorem Stay.of_below {K : Nat → Prop} {n : Nat} {A B : World} (h : Below n A B) (hK : ∀ k, k < A.heap.size → K k → k < n) : Stay K A B :=
  ⟨h.os, h.tape, h.output, h.size, fun k hk hkk => h.block k (hK k hk hkk)⟩
theorem Stay.mono {K K' : Nat → Prop} {A B : World} (h : Stay K A B) (hK : ∀ k, k < A.heap.size → K' k → K k) : Stay K' A B :=
  ⟨h.os, h.tape, h.output, h.size, fun k hk hkk => h.block k hk (hK k hk hkk)⟩
theorem Stay.below {K : Nat → Prop} {n : Nat} {A B : World} (h : Stay K A B) (hn : n ≤ A.heap.size) (hK : ∀ k, k < n → K k) : Below n A B :=
  ⟨h.os, h.tape, h.output, h.size, fun k hk => h.block k (by omega) (hK k hk)⟩
theorem Stay.setCell {K : Nat → Prop} (A : World) (p : Addr) (v : Value) (hp : ¬ K p.block) : Stay K A (A.setCell p v) :=
  ⟨rfl, rfl, rfl, by simp, fun k hk hkk => by
    have hne : p.block ≠ k := fun e => hp (by rw [e]; exact hkk)
    simp [World.setCell, Array.getElem?_modify, hne]⟩
theorem Stay.cell {K : Nat → Prop} {A B : World} (h : Stay K A B) {p : Addr} {v : Value} (hc : A.cell? p = some v) (hp : K p.block) : B.cell? p = some v := by
  rw [World.cell?_of_block (h.block p.block (block_lt_of_cell hc) hp)]
  exact hc
theorem Stay.blk {K : Nat → Prop} {A B : World} (h : Stay K A B) {b : Nat} {cs : List Value} (hB : Blk A b cs) (hb : K b) : Blk B b cs :=
  ⟨Nat.lt_of_lt_of_le hB.1 h.size, fun i v hv => by rw [World.cell?_of_block (h.block b hB.1 hb)]; exact hB.2.1 i v hv, fun i hi => by rw [World.frozen?_of_block (h.block b hB.1 hb)]; exact hB.2.2 i hi⟩
theorem KeepsFrom.cells_row {B : Nat} {W W' : World} {row : Option Nat} (hg : W.grownBy W' row) (hrow : ∀ j o, row = some j → W.heap[j]? = some o → o.isCells = true) : KeepsFrom B W W' :=
  ⟨hg.size, fun k o _ hk ho => by
    refine (hg.block k (Array.getElem?_eq_some_iff.1 hk).1 (fun e => ?_)).trans hk
    have := hrow k o e.symm hk
    rw [ho] at this
    cases this⟩

variable {P : Program}
/-- the iterator gives xs, one behind the other, whatever the caller holds, as long as the rounds keep what it wants (Kp); it writes block bs alone -/
def IterAll {α : Type} (n : Nat) (P : Program) (gf : Nat) (lb : Array Value) (encs : α → Array Value) (bs : Nat) (Kp : World → World → Prop) (xs : List α) (W0 : World) : Prop :=
  ∀ (l : Nat) (J : List α → World → Prop) (W : World), Kp W0 W → (∀ s A B, J s A → Stay (· ≠ bs) A B → J s B) →
    (∀ pre x W1, J pre W1 → (pre ++ [x]) <+: xs → YieldAt Fence.wide (n - 1) P l (encs x) W1 fun e W2 => e = .returned (.bool true) ∧ J (pre ++ [x]) W2 ∧ Kp W1 W2) →
    J [] W → CallsIn Fence.wide n P gf (#[.func (.yield l) #[] #[]] ++ lb) W fun e W2 => (∃ v, e = .returned v) ∧ J xs W2

theorem wpIn_range_all {α : Type} {n : Nat} {g : Operand} {gf : Nat} {lb : Array Value} {ps : Array Tmp} {assign body : Code} {Q : Exit → Act → World → Prop} {a : Act} {w W0 : World} {encs : α → Array Value} {bs : Nat} {Kp : World → World → Prop} {xs : List α}
    (h1 : 1 ≤ n) (hg : a.eval g = .func (.func gf) #[] lb) (eg : ∀ args w, (callFunc gf args).run P w = .ok (.enter gf args) w) (hps : ∀ x, (encs x).size = ps.size) (hbs : bs < w.heap.size)
    (hit : IterAll (n - 1) P gf lb encs bs Kp xs W0) (hK0 : ∀ W, Below w.heap.size w W → Kp W0 W) (hKt : ∀ {A B C : World}, Kp A B → Kp B C → Kp A C) (hKp : ∀ (W : World) (l : Nat) (o : Obj), w.heap.size ≤ l → Kp W (W.putObj l o))
    (I : List α → World → Prop) (hI : ∀ s A B, I s A → Stay (· ≠ bs) A B → I s B) (hIp : ∀ s A (l : Nat) (o o' : Obj), w.heap.size ≤ l → A.heap[l]? = some o → o.isCells = false → I s A → I s (A.putObj l o')) (h0 : I [] w)
    (hround : ∀ pre x W, I pre W → (pre ++ [x]) <+: xs → (∃ r : Loop, W.heap[w.heap.size + 1]? = some (.loop r)) → ∀ K : Act → World → Prop,
      (∀ a' W', KeepsFrom w.heap.size W W' → Kp W W' → (∀ r : Loop, body.wpIn (Fence.wide.inRound (w.heap.size + 1)) (n - 1 - 1) P
          (fun e _ W2 => e = .normal ∧ KeepsFrom w.heap.size (W'.putObj (w.heap.size + 1) (.loop r)) W2 ∧ Kp (W'.putObj (w.heap.size + 1) (.loop r)) W2 ∧ I (pre ++ [x]) W2) a' (W'.putObj (w.heap.size + 1) (.loop r))) → K a' W') →
      assign.wpIn (Fence.wide.inRound (w.heap.size + 1)) (n - 1 - 1) P (Exit.then K (fun _ _ _ => False)) { tmps := (ps.zip (encs x)).foldl (fun t (p, v) => t.setIfInBounds p v) a.tmps, defers := [] } W)
    (hdone : ∀ (D : Nat) (W : World), w.heap.size ≤ D → I xs W → W.heap[D]? = some (.deferred (some [])) → Q .normal { a with defers := { target := .collected D, args := #[] } :: a.defers } W) :
    (Code.rangeFunc g ps assign body).wpIn Fence.wide n P Q a w := by
  refine wpIn_rangeFunc fun fn hfn => ?_
  let lr := w.heap.size + 1
  let R : LoopState → Loop := fun st => { state := st, pending := none, fn, tmps := a.tmps, params := ps, assign, body, defers := w.heap.size }
  let V : World := (w.alloc (.deferred (some []))).alloc (.loop (R .ready))
  have vl : V.heap[lr]? = some (.loop (R .ready)) := by
    have := World.alloc_heap_new (w.alloc (.deferred (some []))) (.loop (R .ready))
    rwa [World.size_alloc] at this
  have vd : V.heap[w.heap.size]? = some (.deferred (some [])) := (Below.heap_alloc _ _ _ (by simp)).trans (World.alloc_heap_new w _)
  have vb : Below w.heap.size w V := ((Below.refl _ w).alloc (Nat.le_refl _) _).alloc (by simp) _
  have vs : Stay (· ≠ bs) w V := .of_below vb (fun k hk _ => hk)
  refine ⟨lr, [{ target := .collected w.heap.size, args := #[] }], V, { target := .fn (.func gf) lb, args := #[.func (.yield lr) #[] #[]] }, V, gf, #[.func (.yield lr) #[] #[]] ++ lb, V, run_enterLoop_outer _ _ _ _ _, ?_, fun f' hf' => ?_, ?_, fun _ => h1, ?_⟩
  · simp only [resolve, hg]
    simp [go_sem]
  · simp [Target.leads] at hf'
    exact hf' ▸ trivial
  · simp [invoke, go_sem, eg]
  -- the caller's hold: its own, the record, the block of deferred calls
  let J : List α → World → Prop := fun s W => I s W ∧ W.heap[lr]? = some (.loop (R .ready)) ∧ W.heap[w.heap.size]? = some (.deferred (some []))
  have jR : ∀ s A B, J s A → Stay (· ≠ bs) A B → J s B := fun s A B hj hs =>
    ⟨hI s A B hj.1 hs, (hs.block lr (Array.getElem?_eq_some_iff.1 hj.2.1).1 (by show w.heap.size + 1 ≠ bs; omega)).trans hj.2.1, (hs.block _ (Array.getElem?_eq_some_iff.1 hj.2.2).1 (by omega)).trans hj.2.2⟩
  refine (hit lr J V (hK0 V vb) jR (fun pre x W hj hpre => ?_) ⟨hI _ _ _ h0 vs, vl, vd⟩).mono ?_
  · obtain ⟨hi, hl, hd⟩ := hj
    have hlt : lr < W.heap.size := (Array.getElem?_eq_some_iff.1 hl).1
    refine ⟨fn, _, assign, body, run_yield (P := P) (args := encs x) hl (hps x), roundIn_of_wpIn hfn (hround pre x W hi hpre ⟨_, hl⟩ _ fun a' W' hk hkp hb => ?_)⟩
    have hl' : W'.heap[lr]? = some (.loop (R .ready)) := hk.same _ _ (Nat.le_succ _) hl rfl
    have hd' : W'.heap[w.heap.size]? = some (.deferred (some [])) := hk.same _ _ (Nat.le_refl _) hd rfl
    have hlt' : lr < W'.heap.size := (Array.getElem?_eq_some_iff.1 hl').1
    refine ⟨_, run_beginRound hl' rfl, wpIn_mono (hb (R .busy)) fun e a2 W2 hq => ?_⟩
    obtain ⟨rfl, hk2, hkp2, hi2⟩ := hq
    have hl2 : W2.heap[lr]? = some (.loop (R .busy)) := hk2.same _ _ (Nat.le_succ _) (World.putObj_heap_same hlt') rfl
    have hd2 : W2.heap[w.heap.size]? = some (.deferred (some [])) := hk2.same _ _ (Nat.le_refl _) ((World.putObj_heap_other (by show w.heap.size ≠ w.heap.size + 1; omega)).trans hd') rfl
    refine ⟨_, _, run_endRound (P := P) none hl2, rfl, ⟨hIp _ _ _ _ _ (Nat.le_succ _) hl2 rfl hi2, World.putObj_heap_same (Array.getElem?_eq_some_iff.1 hl2).1, (World.putObj_heap_other (by show w.heap.size ≠ w.heap.size + 1; omega)).trans hd2⟩, ?_⟩
    exact hKt (hKt (hKt hkp (hKp _ _ _ (Nat.le_succ _))) hkp2) (hKp _ _ _ (Nat.le_succ _))
  · rintro e W2 ⟨⟨v, rfl⟩, hi, hl, hd⟩
    exact ⟨none, _, run_endLoop (P := P) hl (by intro h; cases h), hdone _ _ (Nat.le_refl _) (hIp _ _ _ _ _ (Nat.le_succ _) hl rfl hi) ((World.putObj_heap_other (by show w.heap.size ≠ w.heap.size + 1; omega)).trans hd)⟩
end Go.Proofs.YtaokhegbfaokdaaDoor

/- THE CONTRACTS of seq.New, seq.going, what it hands on, seq.Run. -/
namespace Go.Proofs.YtaokhegbfaokdaaDoor
open Go.ChangeShapes Go.WideShapes Go.ChangeAt Go.RowKit Go.Sort Go.Shelf
set_option linter.unusedVariables false
set_option linter.unusedSimpArgs false
set_option maxHeartbeats 2000000
set_option maxRecDepth 100000
attribute [local go_sem] Oper.semAt_some

theorem Blk.row {w : World} {b : Nat} {cs : List Value} (h : Blk w b cs) : ∀ j v, cs[j]? = some v → w.cell? ((⟨b, 0, none⟩ : Addr).add j) = some v := fun j v hv => by
  rw [Addr.add_lit, Nat.zero_add]
  exact h.2.1 j v hv
/-- a struct read whole, inside a fence -/
theorem wpListIn_load_row {F : Fence} {n : Nat} {P : Program} {ops : Array Oper} {rest : List Oper} {op : Oper} {a : Act} {w : World} {Q : Exit → Act → World → Prop} (hgd : op.guard = none) (ty : TypeId) (x : Operand) (ho : op.op = .load ty x)
    (p : Addr) (hx : a.eval x = .pointer (some p)) (cs : List Value) (d : TypeDesc) (hc : ∀ j v, cs[j]? = some v → w.cell? (p.add j) = some v)
    (hu : P.underlying ty = some d) (hd : d.isRow = true) (hi : (P.info? ty).map (·.size) = some cs.length)
    (h : wpListIn F n P ops Q rest (a.put op.dst (.agg cs.toArray)) w) : wpListIn F n P ops Q (op :: rest) a w := by
  refine BigFrame.wpListIn_want (by unfold Region.wanted; rw [hgd]) fun _ hK => ?_
  refine ⟨fun f hf => ?_, ?_⟩
  · simp [Oper.about, ho] at hf
  · rw [Oper.semAt_eq _ _ _ (by simp [ho])]
    unfold execOp
    simp only [ho, hx, Instr.loadAt, Instr.sureAddr, Sem.run_bind, Sem.run_pure, Result.andThen_ok, run_loadVar_row w p ty cs d hc hu hd hi]
    exact hK _ _ h
/-- a whole value is stored over a block that is known, inside a fence -/
theorem wpListIn_store_blk {F : Fence} {n : Nat} {P : Program} {ops : Array Oper} {rest : List Oper} {op : Oper} {a : Act} {w : World} {Q : Exit → Act → World → Prop} (hgd : op.guard = none) (ty : TypeId) (x y : Operand) (ho : op.op = .store ty x y)
    (b : Nat) (zs cs : List Value) (hB : Blk w b zs) (hz : zs.length = cs.length) (hx : a.eval x = .pointer (some ⟨b, 0, none⟩)) (hy : a.eval y = .agg cs.toArray)
    (hi : (P.info? ty).map (·.size) = some cs.length) (h1 : cs.toArray.all (·.oneCell') = true)
    (h : ∀ W2, Blk W2 b cs → (∀ b' ds, b' ≠ b → Blk w b' ds → Blk W2 b' ds) → Stay (· ≠ b) w W2 → (∀ p : Addr, p.block ≠ b → W2.cell? p = w.cell? p) → wpListIn F n P ops Q rest (a.put op.dst undef) W2) :
    wpListIn F n P ops Q (op :: rest) a w := by
  have hs := run_storeAt_mid w b 0 ty cs.toArray (P := P) (there_blk hB (by simp [hz])) (by simpa using hi) h1
  refine BigFrame.wpListIn_want (by unfold Region.wanted; rw [hgd]) fun _ hK => ?_
  refine ⟨fun f hf => ?_, ?_⟩
  · simp [Oper.about, ho] at hf
  · rw [Oper.semAt_eq _ _ _ (by simp [ho])]
    unfold execOp
    simp only [ho, hx, hy, Sem.run_bind, hs, Sem.run_pure, Result.andThen_ok]
    refine hK _ _ (h _ (by simpa using Blk.cellsHere hB hz) (fun b' ds hne hd => by simpa using hd.cells hne) ?_ (fun p hne => World.cell?_setCells_out b _ 0 w p (fun hb _ => absurd hb hne)))
    have : ∀ (vs : List Value) (o : Nat) (W : World), Stay (· ≠ b) W (W.setCells b o vs) := by
      intro vs
      induction vs with
      | nil => exact fun o W => Stay.refl _ _
      | cons v r ih => exact fun o W => (Stay.setCell W ⟨b, o, none⟩ v (by simp)).trans (ih (o + 1) _)
    exact this _ 0 w
abbrev encQ (x : Sq × St) : Array Value := #[sqV x.1, stV x.2]
/-- what the iterator wants kept -/
def keepQ (n0 m0 m1 : Nat) (A B : World) : Prop := Stay (fun k => k < n0 ∨ (m0 ≤ k ∧ k < m1)) A B
end Go.Proofs.YtaokhegbfaokdaaDoor

/- THE CONTRACT of seq.Run. -/
namespace Go.Proofs.YtaokhegbfaokdaaDoor
open Go.ChangeShapes Go.WideShapes Go.ChangeAt Go.RowKit Go.Sort Go.Shelf
set_option linter.unusedVariables false
set_option linter.unusedSimpArgs false
set_option maxHeartbeats 4000000
set_option maxRecDepth 100000
attribute [local go_sem] Oper.semAt_some

theorem info_step : (Tryd.prog.info? 36).map (fun i => (i.zero, i.size, i.bytes)) = some (some (.agg #[.int .u32 0, .int .u32 0, .int .i64 0, .int .u32 0, .int .u32 0, .int .i64 0, .bool false, .int .i64 0, .int .i64 0]), 9, 56) := by kernel_rfl
theorem own_stay {K : Nat → Prop} {w w2 : World} {B e size n : Nat} {v : Value} {xs : List Value} (h : w.ownsRow B e size v n xs) (hs : Stay K w w2) (hK : ∀ k, B ≤ k → K k) : w2.ownsRow B e size v n xs := by
  refine ⟨h.1, ?_⟩
  rcases h.2 with h0 | ⟨g, cap, cur, hv, hg, hh, r⟩
  · exact .inl h0
  · have hlt : g < w.heap.size := by
      rcases Nat.lt_or_ge g w.heap.size with h' | h'
      · exact h'
      · rw [Array.getElem?_eq_none (by omega)] at hh; cases hh
    exact .inr ⟨g, cap, cur, hv, hg, by rw [hs.block g hlt (hK g hg)]; exact hh, r⟩
theorem own_put {w : World} {B e size n l : Nat} {o o' : Obj} {v : Value} {xs : List Value} (h : w.ownsRow B e size v n xs) (hl : w.heap[l]? = some o) (ho : o.isCells = false) : (w.putObj l o').ownsRow B e size v n xs := by
  refine ⟨h.1, ?_⟩
  rcases h.2 with h0 | ⟨g, cap, cur, hv, hg, hh, r⟩
  · exact .inl h0
  · have hne : g ≠ l := fun e => by rw [e, hl] at hh; cases hh; cases ho
    exact .inr ⟨g, cap, cur, hv, hg, by rw [World.putObj_heap_other hne]; exact hh, r⟩
theorem Blk.put {w : World} {b l : Nat} {cs : List Value} {o : Obj} (h : Blk w b cs) (hne : b ≠ l) : Blk (w.putObj l o) b cs :=
  ⟨by rw [World.putObj_size]; exact h.1, fun i v hv => by rw [World.cell?_of_block (World.putObj_heap_other hne)]; exact h.2.1 i v hv, fun i hi => by rw [World.frozen?_of_block (World.putObj_heap_other hne)]; exact h.2.2 i hi⟩
theorem below_put {n : Nat} (W : World) (l : Nat) (o : Obj) (h : n ≤ l) : Below n W (W.putObj l o) :=
  ⟨rfl, rfl, rfl, by simp, fun k hk => World.putObj_heap_other (by omega)⟩
theorem stay_put {K : Nat → Prop} (W : World) (l : Nat) (o : Obj) (h : ¬ K l) : Stay K W (W.putObj l o) :=
  ⟨rfl, rfl, rfl, by simp, fun k hk hK => World.putObj_heap_other (fun e => h (by rw [← e]; exact hK))⟩
theorem keeps_of_below' {B : Nat} {W W' : World} (h : Below W.heap.size W W') : KeepsFrom B W W' := ⟨h.size, fun k o _ hk _ => (h.block k (Array.getElem?_eq_some_iff.1 hk).1).trans hk⟩
theorem lastS_ok : ∀ (l : List (Sq × St)) {s : Sq}, sqOK s → (∀ x ∈ l, sqOK x.1) → sqOK (lastS s l)
  | [], _, h, _ => h
  | x :: r, _, _, h => lastS_ok r (h x (by simp)) (fun y hy => h y (by simp [hy]))
/-- a whole value is stored over a block that is known: all other blocks stay -/
theorem wpList_store_blkS {P : Program} {ops : Array Oper} {rest : List Oper} {op : Oper} {a : Act} {w : World} {Q : Exit → Act → World → Prop} (hgd : op.guard = none) (ty : TypeId) (x y : Operand) (ho : op.op = .store ty x y)
    (b : Nat) (zs cs : List Value) (hB : Blk w b zs) (hz : zs.length = cs.length) (hx : a.eval x = .pointer (some ⟨b, 0, none⟩)) (hy : a.eval y = .agg cs.toArray)
    (hi : (P.info? ty).map (·.size) = some cs.length) (h1 : cs.toArray.all (·.oneCell') = true)
    (h : ∀ W2, Blk W2 b cs → (∀ b' ds, b' ≠ b → Blk w b' ds → Blk W2 b' ds) → Stay (· ≠ b) w W2 → wpList P ops Q rest (a.put op.dst undef) W2) : wpList P ops Q (op :: rest) a w := by
  refine wpList_store_mid hgd ty x y ho b 0 cs.toArray hx hy (there_blk hB (by simp [hz])) (by simpa using hi) h1 (h _ (by simpa using Blk.cellsHere hB hz) (fun b' ds hne hd => by simpa using hd.cells hne) ?_)
  have : ∀ (vs : List Value) (o : Nat) (W : World), Stay (· ≠ b) W (W.setCells b o vs) := by
    intro vs
    induction vs with
    | nil => exact fun o W => Stay.refl _ _
    | cons v r ih => exact fun o W => (Stay.setCell W ⟨b, o, none⟩ v (by simp)).trans (ih (o + 1) _)
  exact this _ 0 w
theorem keeps_stay {B b : Nat} {W W' : World} (h : Stay (· ≠ b) W W') (hb : b < B) : KeepsFrom B W W' := ⟨h.size, fun k o hk ho _ => (h.block k (Array.getElem?_eq_some_iff.1 ho).1 (by omega)).trans ho⟩
theorem stay_grown {K : Nat → Prop} {W W' : World} {row : Option Nat} (h : W.grownBy W' row) (hr : ∀ j, row = some j → ¬ K j) : Stay K W W' :=
  ⟨h.os, h.tape, h.output, h.size, fun k hk hK => h.block k hk (fun e => hr k e.symm hK)⟩
theorem own_cells {w : World} {B e size n : Nat} {v : Value} {xs : List Value} (h : w.ownsRow B e size v n xs) : ∀ j o, v.ownBlock = some j → w.heap[j]? = some o → o.isCells = true := by
  intro j o hj ho
  rcases h.2 with ⟨rfl, h0⟩ | ⟨g, cap, cur, rfl, hg, hh, r⟩
  · cases hj
  · simp only [Value.ownBlock] at hj
    cases hj
    rw [hh] at ho
    cases ho
    rfl
/-- the steps' cells -/
def stepCells (l : List St) : List Value := (l.map stC).flatten
theorem stepCells_snoc (l : List St) (s : St) : stepCells (l ++ [s]) = stepCells l ++ stC s := by simp [stepCells]
theorem stC_len {l : List St} : ∀ (j : Nat) (c : List Value), (l.map stC)[j]? = some c → c.length = 9 := by
  intro j c hc
  rw [List.getElem?_map] at hc
  obtain ⟨r, _, rfl⟩ := Option.map_eq_some_iff.1 hc
  rfl
theorem stC_one' (s : St) : ∀ u ∈ stC s, u.oneCell' = true := by
  intro u hu
  simp only [stC, List.mem_cons, List.not_mem_nil, or_false] at hu
  rcases hu with rfl | rfl | rfl | rfl | rfl | rfl | rfl | rfl | rfl <;> rfl
theorem cell_newL (w : World) (cs : List Value) (t : TypeId) : ∀ j u, cs[j]? = some u → (w.alloc (.cells cs.toArray t)).cell? ((⟨w.heap.size, 0, none⟩ : Addr).add j) = some u := (Blk.new w t cs).row

/-- what Run answers -/
def runR (zs : List Int) (m : ByteArray) (z : Int) : Sq × List St := runS zs (min z 10000).toNat (newS m)
end Go.Proofs.YtaokhegbfaokdaaDoor

/- WHAT THE LAWS OF LAYER 6 WANT: what a run keeps; how it ends; equality of states and steps; what is cut short; alive. -/
namespace Go.Proofs.YtaokhegbfaokdaaDoor
open Go.ChangeShapes Go.WideShapes Go.ChangeAt Go.RowKit Go.Sort
set_option linter.unusedVariables false
set_option linter.unusedSimpArgs false
set_option maxHeartbeats 2000000
set_option maxRecDepth 100000

/-- a step tells whether it halts, and where -/
theorem wrote_halt (s : Sq) (op rd next value : Int) (t : St) (h : t.halt = 0) (hs : s.halt = 0) : (wrote s op rd next value t).2.halt = 0 ∧ (wrote s op rd next value t).1.halt = 0 := ⟨h, hs⟩
theorem doS_halt {s : Sq} (hs : s.halt = 0) (i : Ins) : (doS s i).2.halt = (doS s i).1.halt ∧ ((doS s i).1.halt ≠ 0 → (doS s i).2.pc = (doS s i).1.pc ∧ (doS s i).2.next = (doS s i).1.pc) := by
  unfold doS
  simp only
  split
  · unfold accS
    split
    · exact ⟨rfl, fun _ => ⟨rfl, rfl⟩⟩
    · split
      · exact ⟨hs.symm, fun h => absurd hs h⟩
      · exact ⟨hs.symm, fun h => absurd hs h⟩
  · split
    · split
      · exact ⟨hs.symm, fun h => absurd hs h⟩
      · exact ⟨rfl, fun _ => ⟨rfl, rfl⟩⟩
    · split
      · exact ⟨hs.symm, fun h => absurd hs h⟩
      · exact ⟨hs.symm, fun h => absurd hs h⟩
theorem stepS_halt {zs : List Int} {s : Sq} (hs : s.halt = 0) : (stepS zs s).2.halt = (stepS zs s).1.halt ∧ ((stepS zs s).1.halt ≠ 0 → (stepS zs s).2.pc = (stepS zs s).1.pc ∧ (stepS zs s).2.next = (stepS zs s).1.pc) := by
  unfold stepS
  rw [if_neg (by simp [hs])]
  split
  · exact ⟨rfl, fun _ => ⟨rfl, rfl⟩⟩
  · exact doS_halt hs _
/-- a run that halted, halted at its last step -/
theorem runS_last {zs : List Int} : ∀ (n : Nat) {s : Sq}, s.halt = 0 → (runS zs n s).1.halt ≠ 0 → ∃ ini t, (runS zs n s).2 = ini ++ [t] ∧ t.halt = (runS zs n s).1.halt ∧ t.pc = (runS zs n s).1.pc ∧ t.next = (runS zs n s).1.pc ∧ ∀ x ∈ ini, x.halt = 0
  | 0, s, hs, h => absurd hs h
  | n + 1, s, hs, h => by
    rw [runS_goes zs n s hs] at h ⊢
    obtain ⟨h1, h2⟩ := stepS_halt (zs := zs) hs
    by_cases h0 : (stepS zs s).1.halt = 0
    · obtain ⟨ini, t, e1, e2, e3, e4, e5⟩ := runS_last n h0 h
      refine ⟨(stepS zs s).2 :: ini, t, by simp [e1], e2, e3, e4, fun x hx => ?_⟩
      rcases List.mem_cons.1 hx with rfl | hx
      · exact h1.trans h0
      · exact e5 x hx
    · rw [runS_halted zs n _ h0]
      exact ⟨[], (stepS zs s).2, rfl, h1, (h2 h0).1, (h2 h0).2, fun x hx => by cases hx⟩
theorem runS_alive {zs : List Int} : ∀ (n : Nat) {s : Sq}, s.halt = 0 → (runS zs n s).1.halt = 0 → ∀ x ∈ (runS zs n s).2, x.halt = 0
  | 0, s, hs, h, x, hx => by cases hx
  | n + 1, s, hs, h, x, hx => by
    rw [runS_goes zs n s hs] at h hx
    obtain ⟨h1, _⟩ := stepS_halt (zs := zs) hs
    have h0 : (stepS zs s).1.halt = 0 := Classical.byContradiction fun h0 => by rw [runS_halted zs n _ h0] at h; exact h0 h
    rcases List.mem_cons.1 hx with rfl | hx
    · exact h1.trans h0
    · exact runS_alive n h0 h x hx
/-- register 0 and the memory's size -/
def kept (s s' : Sq) : Prop := s'.regs.getD 0 0 = s.regs.getD 0 0 ∧ s'.mem.size = s.mem.size
theorem wrote_kept (s : Sq) (op rd next value : Int) (t : St) (hw : 0 ≤ wrI op rd) : kept s (wrote s op rd next value t).1 := by
  refine ⟨?_, rfl⟩
  show (if wrI op rd = 0 then s.regs else s.regs.set (wrI op rd).toNat value).getD 0 0 = _
  split
  · rfl
  · rw [List.getD_eq_getElem?_getD, List.getElem?_set_ne (by omega), List.getD_eq_getElem?_getD]
theorem stoS_is (b n : Int) (h : n = 1 ∨ n = 2 ∨ n = 4) : ((stoS b n).size : Int) = n := by
  unfold stoS
  rw [if_pos (by omega)]
  have h1 : (strOfNums (bytL b n.toNat)).size = n.toNat := by simp [strOfNums, bytL, ByteArray.size]
  omega
theorem doS_kept {s : Sq} (h : sqOK s) {i : Ins} (hi : insOK i) : kept s (doS s i).1 := by
  have hw := hi.2.2.2.2.2.1.1
  unfold doS
  simp only
  split
  · unfold accS
    split
    · exact ⟨rfl, rfl⟩
    · rename_i hr
      have hr' : rtB s.mem.size ((rg s.regs i.rs1 + i.imm) % 4294967296) (sizeOp i.op) = true := by simpa using hr
      split
      · have h1 := wrote_kept { s with mem := (if rtB s.mem.size ((rg s.regs i.rs1 + i.imm) % 4294967296) (stoS (rg s.regs i.rs2) (sizeOp i.op)).size then wrS s.mem (stoS (rg s.regs i.rs2) (sizeOp i.op)) ((rg s.regs i.rs1 + i.imm) % 4294967296).toNat else ByteArray.empty) } i.op i.rd ((s.pc + 4) % 4294967296) 0 ⟨0, 0, 0, stoV (rg s.regs i.rs2) (sizeOp i.op), (rg s.regs i.rs1 + i.imm) % 4294967296, sizeOp i.op, true, 0, 0⟩ hw
        refine ⟨h1.1, h1.2.trans ?_⟩
        have e := stoS_is (rg s.regs i.rs2) (sizeOp i.op) (rtB_facts hr').1
        exact (store_size s.mem (stoS (rg s.regs i.rs2) (sizeOp i.op)) ((rg s.regs i.rs1 + i.imm) % 4294967296) (by omega)).2 (by rw [e]; exact hr')
      · exact wrote_kept _ _ _ _ _ _ hw
  · split
    · split
      · exact wrote_kept _ _ _ _ _ _ hw
      · exact ⟨rfl, rfl⟩
    · split
      · exact wrote_kept _ _ _ _ _ _ hw
      · exact wrote_kept _ _ _ _ _ _ hw
theorem stepS_kept {zs : List Int} {s : Sq} (h : sqOK s) : kept s (stepS zs s).1 := by
  unfold stepS
  split
  · exact ⟨rfl, rfl⟩
  · split
    · exact ⟨rfl, rfl⟩
    · rename_i hy
      exact doS_kept h (insOf_ok _ (why_zero (by simpa using hy)).2.1)
theorem runS_kept {zs : List Int} : ∀ (n : Nat) {s : Sq}, sqOK s → kept s (runS zs n s).1
  | 0, _, _ => ⟨rfl, rfl⟩
  | n + 1, s, h => by
    by_cases h0 : s.halt = 0
    · rw [runS_goes zs n s h0]
      have h1 := stepS_kept (zs := zs) h
      have h2 := runS_kept (zs := zs) n (stepS_ok (zs := zs) h)
      exact ⟨h2.1.trans h1.1, h2.2.trans h1.2⟩
    · rw [runS_halted zs _ s h0]; exact ⟨rfl, rfl⟩

/-- the same state, the same step -/
theorem eqlIn_regs (X : List Int) (h : X.length = 32) (k : Nat) (w : World) : (Op.equalIn (k + 1 + 1) 23 (.agg (regL X).toArray) (.agg (regL X).toArray)).run Tryd.prog w = .ok true w := by
  rw [Op.equalIn]
  have hs : ∀ w, (sizeOf 22).run Tryd.prog w = .ok 1 w := fun w => by kernel_rfl
  simp only [Sem.run_bind, run_underlying Tryd.underlying23, Result.andThen_ok, hs, Std.Legacy.Range.forIn_eq_forIn_range', Std.Legacy.Range.size, Nat.sub_zero, Nat.add_sub_cancel, Nat.div_one]
  have hl : ∀ i ∈ List.range' 0 32 1, i < 32 := fun i hi => by simpa using (List.mem_range'_1.1 hi).2
  generalize List.range' 0 32 1 = l at hl ⊢
  induction l with
  | nil => simp
  | cons i l ih =>
    have hi : i < 32 := hl i (by simp)
    obtain ⟨z, hz⟩ : ∃ z, X[i]? = some z := ⟨_, List.getElem?_eq_getElem (by omega)⟩
    have hp : (part 22 (regL X).toArray (i * 1)).run Tryd.prog w = .ok (.int .u32 z) w := by
      rw [Nat.mul_one]
      simp [part, isAgg, run_underlying Tryd.underlying22, regL, hz]
    have he : (Op.equalIn (k + 1) 22 (.int .u32 z) (.int .u32 z)).run Tryd.prog w = .ok true w := by
      rw [run_equalIn_int w k 22 .u32 .u32 _ _ Tryd.underlying22]
      simp
    simp only [List.forIn_cons, Sem.run_bind, hp, he, Result.andThen_ok, Bool.not_true, Bool.false_eq_true, if_false, Sem.run_pure]
    exact ih fun j hj => hl j (by simp [hj])
theorem eql_st (s : St) (w : World) : (Op.equalIn 10000 36 (.agg (stC s).toArray) (.agg (stC s).toArray)).run Tryd.prog w = .ok true w := by
  obtain ⟨pc, nx, rd, va, ad, si, so, ha, tk⟩ := s
  unfold stC
  rw [show (10000 : Nat) = 9999 + 1 from rfl, run_equalIn_agg w 9999 36 _ _ (by kernel_rfl) (by kernel_rfl)]
  simp only [Program.fieldsOf, Tryd.underlying36]
  go_simp
theorem h32 (w : World) : (sizeOf 23).run Tryd.prog w = .ok 32 w := by kernel_rfl
theorem p0 (s : Sq) (w : World) : (part 22 (sqC s).toArray 0).run Tryd.prog w = .ok (.int .u32 s.pc) w := by simp [part, isAgg, run_underlying Tryd.underlying22, sqC_pc]
theorem p1 (s : Sq) (h : s.regs.length = 32) (w : World) : (part 23 (sqC s).toArray 1).run Tryd.prog w = .ok (.agg (regL s.regs).toArray) w := by
  have hR : List.take 32 (sqC s).tail = regL s.regs := by
    unfold sqC
    have hl : (regL s.regs).length = 32 := by unfold regL; simp [h]
    simp [hl]
  simp [part, isAgg, run_underlying Tryd.underlying23, h32, hR]
theorem p2 (s : Sq) (h : s.regs.length = 32) (w : World) : (part 9 (sqC s).toArray 33).run Tryd.prog w = .ok (.string s.mem) w := by simp [part, isAgg, run_underlying Tryd.underlying9, sqC_mem h]
theorem p3 (s : Sq) (h : s.regs.length = 32) (w : World) : (part 3 (sqC s).toArray 34).run Tryd.prog w = .ok (.int .i64 s.halt) w := by simp [part, isAgg, run_underlying Tryd.underlying3, sqC_halt h]
theorem q0 (s : Sq) (k : Nat) (w : World) : (Op.equalIn (k + 1 + 1) 22 (.int .u32 s.pc) (.int .u32 s.pc)).run Tryd.prog w = .ok true w := by
  rw [run_equalIn_int w (k + 1) 22 .u32 .u32 _ _ Tryd.underlying22]; simp
theorem q3 (s : Sq) (k : Nat) (w : World) : (Op.equalIn (k + 1 + 1) 3 (.int .i64 s.halt) (.int .i64 s.halt)).run Tryd.prog w = .ok true w := by
  rw [run_equalIn_int w (k + 1) 3 .i64 .i64 _ _ Tryd.underlying3]; simp
theorem q2 (s : Sq) (k : Nat) (w : World) : (Op.equalIn (k + 1 + 1) 9 (.string s.mem) (.string s.mem)).run Tryd.prog w = .ok true w := by
  go_simp
theorem eql_sq_k (s : Sq) (h : s.regs.length = 32) (k : Nat) (w : World) (nm0 nm1 nm2 nm3 g p : String) (b0 b1 b2 b3 : Nat) (h0 : nm0 ≠ "_") (h1 : nm1 ≠ "_") (h2 : nm2 ≠ "_") (h3 : nm3 ≠ "_") :
    (Op.eqFields (k + 1 + 1) (sqC s).toArray (sqC s).toArray [⟨nm0, 22, 0, false, g, p, b0⟩, ⟨nm1, 23, 1, false, g, p, b1⟩, ⟨nm2, 9, 33, false, g, p, b2⟩, ⟨nm3, 3, 34, false, g, p, b3⟩]).run Tryd.prog w = .ok true w := by
  have q1 := eqlIn_regs s.regs h k w
  simp only [Op.eqFields, ne_eq, h0, h1, h2, h3, not_false_eq_true, if_true, Sem.run_bind, p0, p1 s h, p2 s h, p3 s h, q0, q1, q2, q3, Result.andThen_ok, Bool.not_true, Bool.false_eq_true, if_false, Sem.run_pure]
theorem eql_sq (s : Sq) (h : s.regs.length = 32) (w : World) : (Op.equalIn 10000 34 (.agg (sqC s).toArray) (.agg (sqC s).toArray)).run Tryd.prog w = .ok true w := by
  rw [show (10000 : Nat) = 9997 + 1 + 1 + 1 from rfl, run_equalIn_agg w (9997 + 1 + 1) 34 _ _ (by kernel_rfl) (by kernel_rfl)]
  simp only [Program.fieldsOf, Tryd.underlying34]
  exact eql_sq_k s h 9997 w _ _ _ _ _ _ _ _ _ _ (by decide) (by decide) (by decide) (by decide)

theorem below_dr6 (B : Nat) (w : World) (q : Nat) : Below B w (w.drewN q) := ⟨rfl, rfl, rfl, Nat.le_refl _, fun _ _ => rfl⟩
/-- the function whose answer both laws of the halting run want: a run of the empty program -/
theorem newS_alive : (runS [] 5 (newS ByteArray.empty)).1.halt = 1 ∧ (runS [] 5 (newS ByteArray.empty)).1.mem.size = 16 := by
  decide +kernel
theorem wpList_eql_want {P : Program} {ops : Array Oper} {rest : List Oper} {op : Oper} {a : Act} {w : World} {Q : Exit → Act → World → Prop} (ty ty2 : TypeId) (x y : Operand) (ho : op.op = .binOp .eql ty x y ty2) (hw : Region.wanted op (yielded ops a.tmps) = true)
    (u v : Array Value) (hx : a.eval x = .agg u) (hy : a.eval y = .agg v) (r : Bool) (h : ∀ w, (binOp .eql ty (.agg u) (.agg v)).run P w = .ok (.bool r) w)
    (hm : P.eqGuardType P.depth ty = false) (hk : wpList P ops Q rest (a.put op.dst (.bool r)) w) : wpList P ops Q (op :: rest) a w :=
  BigFrame.wpList_want hw fun K hK => Oper.wp_of_quiet (C := fun w' => w' = w) (K := fun a' => K a' w) rfl (fun a' w' e k => by rw [e]; exact k) (quiet_eql ty ty2 x y ho u v hx hy r h hm (hK _ _ hk))
theorem bin_sq (s : Sq) (h : s.regs.length = 32) (w : World) : (binOp .eql 34 (.agg (sqC s).toArray) (.agg (sqC s).toArray)).run Tryd.prog w = .ok (.bool true) w := by
  rw [run_eql_struct, eql_sq s h w]
  rfl
theorem bin_st (s : St) (w : World) : (binOp .eql 36 (.agg (stC s).toArray) (.agg (stC s).toArray)).run Tryd.prog w = .ok (.bool true) w := by
  rw [run_eql_struct, eql_st s w]
  rfl
theorem guard_sq : Tryd.prog.eqGuardType Tryd.prog.depth 34 = false := by kernel_rfl
theorem guard_st : Tryd.prog.eqGuardType Tryd.prog.depth 36 = false := by kernel_rfl
end Go.Proofs.YtaokhegbfaokdaaDoor
