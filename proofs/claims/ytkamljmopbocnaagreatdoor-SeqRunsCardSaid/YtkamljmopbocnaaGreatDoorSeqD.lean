import Derived.RangeFuncWrites
import Derived.RangeFuncLeaves
import Derived.RangeFuncCalls
import Derived.RangeFuncBound
import Derived.Test.YtkamljmopbocnaaGreatDoorOwnB
import Derived.Test.YtkamljmopbocnaaGreatDoorSeqB
import Derived.Test.YtkamljmopbocnaaGreatDoorRound
import Derived.Shelf.Abstract
import Derived.Shelf.RegionOpen
import Derived.WalkKit
import Derived.OwnWalkIn
import Derived.TacticsInMore
import Derived.LoopNIn
import Derived.LoopIn
import Derived.BigFrameIn
import Derived.Sort.CutIn
import Derived.Test.YtkamljmopbocnaaGreatDoorStoB
/- A RANGE OVER A FUNCTION THAT KEEPS ITS STATE IN A BLOCK OF ITS OWN (and writes it between two rounds), all of whose elements are taken: the loop's rounds go on to the end. What the iterator does leaves every block but its own as it is. -/
namespace Go.Proofs.YtkamljmopbocnaaGreatDoor
open Go Go.RowKit
set_option linter.unusedVariables false

/-- the blocks of K stay; others may be written, and there may be new ones -/
structure Stay (K : Nat → Prop) (A B : World) : Prop where
  os : B.os = A.os
  tape : B.tape = A.tape
  output : B.output = A.output
  size : A.heap.size ≤ B.heap.size
  block : ∀ k, k < A.heap.size → K k → B.heap[k]? = A.heap[k]?
theorem Stay.refl (K : Nat → Prop) (A : World) : Stay K A A := ⟨rfl, rfl, rfl, Nat.le_refl _, fun _ _ _ => rfl⟩
theorem Stay.trans {K : Nat → Prop} {A B C : World} (h : Stay K A B) (k : Stay K B C) : Stay K A C :=
  ⟨k.os.trans h.os, k.tape.trans h.tape, k.output.trans h.output, Nat.le_trans h.size k.size, fun i hi hK => (k.block i (Nat.lt_of_lt_of_le hi h.size) hK).trans (h.block i hi hK)⟩
theorem Stay.of_below {K : Nat → Prop} {n : Nat} {A B : World} (h : Below n A B) (hK : ∀ k, k < A.heap.size → K k → k < n) : Stay K A B :=
  ⟨h.os, h.tape, h.output, h.size, fun k hk hkk => h.block k (hK k hk hkk)⟩
theorem Stay.mono {K K' : Nat → Prop} {A B : World} (h : Stay K A B) (hK : ∀ k, k < A.heap.size → K' k → K k) : Stay K' A B :=
  ⟨h.os, h.tape, h.output, h.size, fun k hk hkk => h.block k hk (hK k hk hkk)⟩
theorem Stay.below {K : Nat → Prop} {n : Nat} {A B : World} (h : Stay K A B) (hn : n ≤ A.heap.size) (hK : ∀ k, k < n → K k) : Below n A B :=
  ⟨h.os, h.tape, h.output, h.size, fun k hk => h.block k (by omega) (hK k hk)⟩
theorem Stay.setCell {K : Nat → Prop} (A : World) (p : Addr) (v : Value) (hp : ¬ K p.block) : Stay K A (A.setCell p v) :=
  ⟨rfl, rfl, rfl, by simp, fun k hk hkk => by
    have hne : p.block ≠ k := fun e => hp (by rw [e]; exact hkk)
    simp [World.setCell, Array.getElem?_modify, hne]⟩
theorem Stay.cell {K : Nat → Prop} {A B : World} (h : Stay K A B) {p : Addr} {v : Value} (hc : A.cell? p = some v) (hp : K p.block) : B.cell? p = some v := by
  rw [World.cell?_of_block (h.block p.block (block_lt_of_cell hc) hp)]
  exact hc
theorem Stay.blk {K : Nat → Prop} {A B : World} (h : Stay K A B) {b : Nat} {cs : List Value} (hB : Blk A b cs) (hb : K b) : Blk B b cs :=
  ⟨Nat.lt_of_lt_of_le hB.1 h.size, fun i v hv => by rw [World.cell?_of_block (h.block b hB.1 hb)]; exact hB.2.1 i v hv, fun i hi => by rw [World.frozen?_of_block (h.block b hB.1 hb)]; exact hB.2.2 i hi⟩
theorem KeepsFrom.cells_row {B : Nat} {W W' : World} {row : Option Nat} (hg : W.grownBy W' row) (hrow : ∀ j o, row = some j → W.heap[j]? = some o → o.isCells = true) : KeepsFrom B W W' :=
  ⟨hg.size, fun k o _ hk ho => by
    refine (hg.block k (Array.getElem?_eq_some_iff.1 hk).1 (fun e => ?_)).trans hk
    have := hrow k o e.symm hk
    rw [ho] at this
    cases this⟩

variable {P : Program}
/-- the iterator gives xs, one behind the other, whatever the caller holds, as long as the rounds keep what it wants (Kp); it writes block bs alone -/
def IterAll {α : Type} (n : Nat) (P : Program) (gf : Nat) (lb : Array Value) (encs : α → Array Value) (bs : Nat) (Kp : World → World → Prop) (xs : List α) (W0 : World) : Prop :=
  ∀ (l : Nat) (J : List α → World → Prop) (W : World), Kp W0 W → (∀ s A B, J s A → Stay (· ≠ bs) A B → J s B) →
    (∀ pre x W1, J pre W1 → (pre ++ [x]) <+: xs → YieldAt Fence.wide (n - 1) P l (encs x) W1 fun e W2 => e = .returned (.bool true) ∧ J (pre ++ [x]) W2 ∧ Kp W1 W2) →
    J [] W → CallsIn Fence.wide n P gf (#[.func (.yield l) #[] #[]] ++ lb) W fun e W2 => (∃ v, e = .returned v) ∧ J xs W2

theorem wpIn_range_all {α : Type} {n : Nat} {g : Operand} {gf : Nat} {lb : Array Value} {ps : Array Tmp} {assign body : Code} {Q : Exit → Act → World → Prop} {a : Act} {w W0 : World} {encs : α → Array Value} {bs : Nat} {Kp : World → World → Prop} {xs : List α}
    (h1 : 1 ≤ n) (hg : a.eval g = .func (.func gf) #[] lb) (eg : ∀ args w, (callFunc gf args).run P w = .ok (.enter gf args) w) (hps : ∀ x, (encs x).size = ps.size) (hbs : bs < w.heap.size)
    (hit : IterAll (n - 1) P gf lb encs bs Kp xs W0) (hK0 : ∀ W, Below w.heap.size w W → Kp W0 W) (hKt : ∀ {A B C : World}, Kp A B → Kp B C → Kp A C) (hKp : ∀ (W : World) (l : Nat) (o : Obj), w.heap.size ≤ l → Kp W (W.putObj l o))
    (I : List α → World → Prop) (hI : ∀ s A B, I s A → Stay (· ≠ bs) A B → I s B) (hIp : ∀ s A (l : Nat) (o o' : Obj), w.heap.size ≤ l → A.heap[l]? = some o → o.isCells = false → I s A → I s (A.putObj l o')) (h0 : I [] w)
    (hround : ∀ pre x W, I pre W → (pre ++ [x]) <+: xs → (∃ r : Loop, W.heap[w.heap.size + 1]? = some (.loop r)) → ∀ K : Act → World → Prop,
      (∀ a' W', KeepsFrom w.heap.size W W' → Kp W W' → (∀ r : Loop, body.wpIn (Fence.wide.inRound (w.heap.size + 1)) (n - 1 - 1) P
          (fun e _ W2 => e = .normal ∧ KeepsFrom w.heap.size (W'.putObj (w.heap.size + 1) (.loop r)) W2 ∧ Kp (W'.putObj (w.heap.size + 1) (.loop r)) W2 ∧ I (pre ++ [x]) W2) a' (W'.putObj (w.heap.size + 1) (.loop r))) → K a' W') →
      assign.wpIn (Fence.wide.inRound (w.heap.size + 1)) (n - 1 - 1) P (Exit.then K (fun _ _ _ => False)) { tmps := (ps.zip (encs x)).foldl (fun t (p, v) => t.setIfInBounds p v) a.tmps, defers := [] } W)
    (hdone : ∀ (D : Nat) (W : World), w.heap.size ≤ D → I xs W → W.heap[D]? = some (.deferred (some [])) → Q .normal { a with defers := { target := .collected D, args := #[] } :: a.defers } W) :
    (Code.rangeFunc g ps assign body).wpIn Fence.wide n P Q a w := by
  refine wpIn_rangeFunc fun fn hfn => ?_
  let lr := w.heap.size + 1
  let R : LoopState → Loop := fun st => { state := st, pending := none, fn, tmps := a.tmps, params := ps, assign, body, defers := w.heap.size }
  let V : World := (w.alloc (.deferred (some []))).alloc (.loop (R .ready))
  have vl : V.heap[lr]? = some (.loop (R .ready)) := by
    have := World.alloc_heap_new (w.alloc (.deferred (some []))) (.loop (R .ready))
    rwa [World.size_alloc] at this
  have vd : V.heap[w.heap.size]? = some (.deferred (some [])) := (Below.heap_alloc _ _ _ (by simp)).trans (World.alloc_heap_new w _)
  have vb : Below w.heap.size w V := ((Below.refl _ w).alloc (Nat.le_refl _) _).alloc (by simp) _
  have vs : Stay (· ≠ bs) w V := .of_below vb (fun k hk _ => hk)
  refine ⟨lr, [{ target := .collected w.heap.size, args := #[] }], V, { target := .fn (.func gf) lb, args := #[.func (.yield lr) #[] #[]] }, V, gf, #[.func (.yield lr) #[] #[]] ++ lb, V, run_enterLoop_outer _ _ _ _ _, ?_, fun f' hf' => ?_, ?_, fun _ => h1, ?_⟩
  · simp only [resolve, hg]
    simp [go_sem]
  · simp [Target.leads] at hf'
    exact hf' ▸ trivial
  · simp [invoke, go_sem, eg]
  -- the caller's hold: its own, the record, the block of deferred calls
  let J : List α → World → Prop := fun s W => I s W ∧ W.heap[lr]? = some (.loop (R .ready)) ∧ W.heap[w.heap.size]? = some (.deferred (some []))
  have jR : ∀ s A B, J s A → Stay (· ≠ bs) A B → J s B := fun s A B hj hs =>
    ⟨hI s A B hj.1 hs, (hs.block lr (Array.getElem?_eq_some_iff.1 hj.2.1).1 (by show w.heap.size + 1 ≠ bs; omega)).trans hj.2.1, (hs.block _ (Array.getElem?_eq_some_iff.1 hj.2.2).1 (by omega)).trans hj.2.2⟩
  refine (hit lr J V (hK0 V vb) jR (fun pre x W hj hpre => ?_) ⟨hI _ _ _ h0 vs, vl, vd⟩).mono ?_
  · obtain ⟨hi, hl, hd⟩ := hj
    have hlt : lr < W.heap.size := (Array.getElem?_eq_some_iff.1 hl).1
    refine ⟨fn, _, assign, body, run_yield (P := P) (args := encs x) hl (hps x), roundIn_of_wpIn hfn (hround pre x W hi hpre ⟨_, hl⟩ _ fun a' W' hk hkp hb => ?_)⟩
    have hl' : W'.heap[lr]? = some (.loop (R .ready)) := hk.same _ _ (Nat.le_succ _) hl rfl
    have hd' : W'.heap[w.heap.size]? = some (.deferred (some [])) := hk.same _ _ (Nat.le_refl _) hd rfl
    have hlt' : lr < W'.heap.size := (Array.getElem?_eq_some_iff.1 hl').1
    refine ⟨_, run_beginRound hl' rfl, wpIn_mono (hb (R .busy)) fun e a2 W2 hq => ?_⟩
    obtain ⟨rfl, hk2, hkp2, hi2⟩ := hq
    have hl2 : W2.heap[lr]? = some (.loop (R .busy)) := hk2.same _ _ (Nat.le_succ _) (World.putObj_heap_same hlt') rfl
    have hd2 : W2.heap[w.heap.size]? = some (.deferred (some [])) := hk2.same _ _ (Nat.le_refl _) ((World.putObj_heap_other (by show w.heap.size ≠ w.heap.size + 1; omega)).trans hd') rfl
    refine ⟨_, _, run_endRound (P := P) none hl2, rfl, ⟨hIp _ _ _ _ _ (Nat.le_succ _) hl2 rfl hi2, World.putObj_heap_same (Array.getElem?_eq_some_iff.1 hl2).1, (World.putObj_heap_other (by show w.heap.size ≠ w.heap.size + 1; omega)).trans hd2⟩, ?_⟩
    exact hKt (hKt (hKt hkp (hKp _ _ _ (Nat.le_succ _))) hkp2) (hKp _ _ _ (Nat.le_succ _))
  · rintro e W2 ⟨⟨v, rfl⟩, hi, hl, hd⟩
    exact ⟨none, _, run_endLoop (P := P) hl (by intro h; cases h), hdone _ _ (Nat.le_refl _) (hIp _ _ _ _ _ (Nat.le_succ _) hl rfl hi) ((World.putObj_heap_other (by show w.heap.size ≠ w.heap.size + 1; omega)).trans hd)⟩
end Go.Proofs.YtkamljmopbocnaaGreatDoor

/- THE CONTRACTS of seq.New, seq.going, what it hands on, seq.Run. -/
namespace Go.Proofs.YtkamljmopbocnaaGreatDoor
open Go.ChangeShapes Go.WideShapes Go.ChangeAt Go.RowKit Go.Sort Go.Shelf
set_option linter.unusedVariables false
set_option linter.unusedSimpArgs false
set_option maxHeartbeats 2000000
set_option maxRecDepth 100000
attribute [local go_sem] Oper.semAt_some

theorem new_any (A : Option Addr) (n cap : Nat) (m : ByteArray) (hm : m.size ≤ 1000) (w : World) : Calls Tryz.prog 9 #[.slice A n cap, .string m] w fun r w' => r = .returned (sqV (newS m)) ∧ Below w.heap.size w w' := by
  have HC := Lib.hid (fun w => clean_any m hm w)
  obtain ⟨cs, hcs⟩ : ∃ cs, sqC (newS m) = cs := ⟨_, rfl⟩
  have hl : cs.length = 35 := by rw [← hcs]; exact sqC_len (by simp [newS])
  have ho := sqC_one (newS m)
  rw [hcs] at ho
  have HI := Lib.hid (show (Tryz.prog.info? 28).map (·.size) = some cs.length by rw [hl]; exact sq_info)
  have HZ := Lib.hid (show z35.length = cs.toArray.size by rw [List.size_toArray, hl]; rfl)
  have HO := Lib.hid ho
  have hv : sqV (newS m) = .agg cs.toArray := by rw [← hcs]; rfl
  have hb : (.agg #[.int .u32 0, .int .u32 0, .int .u32 0, .int .u32 0, .int .u32 0, .int .u32 0, .int .u32 0, .int .u32 0, .int .u32 0, .int .u32 0, .int .u32 0, .int .u32 0, .int .u32 0, .int .u32 0, .int .u32 0, .int .u32 0, .int .u32 0, .int .u32 0, .int .u32 0, .int .u32 0, .int .u32 0, .int .u32 0, .int .u32 0, .int .u32 0, .int .u32 0, .int .u32 0, .int .u32 0, .int .u32 0, .int .u32 0, .int .u32 0, .int .u32 0, .int .u32 0, .int .u32 0, .string (clS m), .int .i64 0] : Value) = .agg cs.toArray := by rw [← hcs]; rfl
  have HB := Lib.hid hb
  rw [hv]
  clear hl ho hv hb hcs
  go_enter Tryz.func9, Tryz.ntmps9
  go_upto_region 1 with fail
  refine wp_allocs [(z35, 28)] rfl ?_
  intro W0 y1 KB y3
  have X1 := Lib.hid (show Blk W0 w.heap.size z35 from y3 0 _ rfl)
  replace KB := Lib.hid KB
  clear y1 y3
  go_wp2_with (first
    | (go_at_call 13; refine (HC.out _).mono ?_; rintro e w1 ⟨rfl, b⟩; have z1 := X1.out.below b X1.out.1; have z2 := KB.out.trans (b.mono KB.out.size); replace X1 := Lib.hid z1; replace KB := Lib.hid z2; clear z1 z2 b)
    | (refine wpList_store_blk rfl 28 (.tmp 4) (.tmp 7) rfl w.heap.size z35 cs.toArray X1.out HZ.out rfl HB.out (by simpa using HI.out) HO.out ?_; intro W8 hB8 hO8 hbl8 hs8))
  exact bodyPost_ret (v := .agg cs.toArray) (results_cell_blk Tryz.results9 _ W8 w.heap.size cs _ rfl hB8 Tryz.underlying28 rfl HI.out) rfl ⟨rfl, KB.out.trans (hbl8 _ (Nat.le_refl _))⟩

theorem going_any (A : Option Addr) (n c : Nat) (s : Sq) (z : Int) (w : World) : Calls Tryz.prog 10 #[.slice A n c, sqV s, .int .i64 z] w fun e w' =>
    e = .returned (.func (.func 14) #[] #[.pointer (some ⟨w.heap.size + 1 + 1, 0, none⟩), .pointer (some ⟨w.heap.size + 1, 0, none⟩), .pointer (some ⟨w.heap.size, 0, none⟩)]) ∧ w' = allocsL w [([.slice A n c], 22), (sqC s, 28), ([.int .i64 z], 3)] := by
  obtain ⟨cs, hcs⟩ : ∃ cs, sqC s = cs := ⟨_, rfl⟩
  rw [show sqV s = .agg cs.toArray by rw [← hcs]; rfl, hcs]
  clear hcs
  go_enter Tryz.func10, Tryz.ntmps10
  go_wp2
  go_ret
  exact ⟨rfl, rfl⟩
theorem Blk.row {w : World} {b : Nat} {cs : List Value} (h : Blk w b cs) : ∀ j v, cs[j]? = some v → w.cell? ((⟨b, 0, none⟩ : Addr).add j) = some v := fun j v hv => by
  rw [Addr.add_lit, Nat.zero_add]
  exact h.2.1 j v hv
/-- a struct read whole, inside a fence -/
theorem wpListIn_load_row {F : Fence} {n : Nat} {P : Program} {ops : Array Oper} {rest : List Oper} {op : Oper} {a : Act} {w : World} {Q : Exit → Act → World → Prop} (hgd : op.guard = none) (ty : TypeId) (x : Operand) (ho : op.op = .load ty x)
    (p : Addr) (hx : a.eval x = .pointer (some p)) (cs : List Value) (d : TypeDesc) (hc : ∀ j v, cs[j]? = some v → w.cell? (p.add j) = some v)
    (hu : P.underlying ty = some d) (hd : d.isRow = true) (hi : (P.info? ty).map (·.size) = some cs.length)
    (h : wpListIn F n P ops Q rest (a.put op.dst (.agg cs.toArray)) w) : wpListIn F n P ops Q (op :: rest) a w := by
  refine BigFrame.wpListIn_want (by unfold Region.wanted; rw [hgd]) fun _ hK => ?_
  refine ⟨fun f hf => ?_, ?_⟩
  · simp [Oper.about, ho] at hf
  · rw [Oper.semAt_eq _ _ _ (by simp [ho])]
    unfold execOp
    simp only [ho, hx, Instr.loadAt, Instr.sureAddr, Sem.run_bind, Sem.run_pure, Result.andThen_ok, run_loadVar_row w p ty cs d hc hu hd hi]
    exact hK _ _ h
/-- a whole value is stored over a block that is known, inside a fence -/
theorem wpListIn_store_blk {F : Fence} {n : Nat} {P : Program} {ops : Array Oper} {rest : List Oper} {op : Oper} {a : Act} {w : World} {Q : Exit → Act → World → Prop} (hgd : op.guard = none) (ty : TypeId) (x y : Operand) (ho : op.op = .store ty x y)
    (b : Nat) (zs cs : List Value) (hB : Blk w b zs) (hz : zs.length = cs.length) (hx : a.eval x = .pointer (some ⟨b, 0, none⟩)) (hy : a.eval y = .agg cs.toArray)
    (hi : (P.info? ty).map (·.size) = some cs.length) (h1 : cs.toArray.all (·.oneCell') = true)
    (h : ∀ W2, Blk W2 b cs → (∀ b' ds, b' ≠ b → Blk w b' ds → Blk W2 b' ds) → Stay (· ≠ b) w W2 → (∀ p : Addr, p.block ≠ b → W2.cell? p = w.cell? p) → wpListIn F n P ops Q rest (a.put op.dst undef) W2) :
    wpListIn F n P ops Q (op :: rest) a w := by
  have hs := run_storeAt_mid w b 0 ty cs.toArray (P := P) (there_blk hB (by simp [hz])) (by simpa using hi) h1
  refine BigFrame.wpListIn_want (by unfold Region.wanted; rw [hgd]) fun _ hK => ?_
  refine ⟨fun f hf => ?_, ?_⟩
  · simp [Oper.about, ho] at hf
  · rw [Oper.semAt_eq _ _ _ (by simp [ho])]
    unfold execOp
    simp only [ho, hx, hy, Sem.run_bind, hs, Sem.run_pure, Result.andThen_ok]
    refine hK _ _ (h _ (by simpa using Blk.cellsHere hB hz) (fun b' ds hne hd => by simpa using hd.cells hne) ?_ (fun p hne => World.cell?_setCells_out b _ 0 w p (fun hb _ => absurd hb hne)))
    have : ∀ (vs : List Value) (o : Nat) (W : World), Stay (· ≠ b) W (W.setCells b o vs) := by
      intro vs
      induction vs with
      | nil => exact fun o W => Stay.refl _ _
      | cons v r ih => exact fun o W => (Stay.setCell W ⟨b, o, none⟩ v (by simp)).trans (ih (o + 1) _)
    exact this _ 0 w
abbrev encQ (x : Sq × St) : Array Value := #[sqV x.1, stV x.2]
/-- what the iterator wants kept -/
def keepQ (n0 m0 m1 : Nat) (A B : World) : Prop := Stay (fun k => k < n0 ∨ (m0 ≤ k ∧ k < m1)) A B
theorem going1_all (n : Nat) (hn : 1 ≤ n) (bn bs bp : Nat) (A : Option Addr) (m cap : Nat) (zs : List Int) (s0 : Sq) (z : Int) (n0 m0 m1 : Nat) (W0 : World) (hm : m ≤ 200) (hzs : ∀ z ∈ zs, 0 ≤ z ∧ z < 4294967296) (hs0 : sqOK s0)
    (hz : z ≤ 9223372036854775807) (hbn : m0 ≤ bn ∧ bn < m1) (hbs : m0 ≤ bs ∧ bs < m1) (hbp : m0 ≤ bp ∧ bp < m1) (hne : bs ≠ bn ∧ bs ≠ bp) (hnm : n0 ≤ m0) (hm1 : m1 ≤ W0.heap.size)
    (cn : W0.cell? ⟨bn, 0, none⟩ = some (.int .i64 z)) (cs0 : Blk W0 bs (sqC s0)) (cp : W0.cell? ⟨bp, 0, none⟩ = some (.slice A m cap)) (ht : TabIs W0) (hg : 0 < n0) (hA : IntsAt W0 A m .u32 zs) (hAl : ∀ a, A = some a → 0 < m → a.block < n0) :
    IterAll n Tryz.prog 14 #[.pointer (some ⟨bn, 0, none⟩), .pointer (some ⟨bs, 0, none⟩), .pointer (some ⟨bp, 0, none⟩)] encQ bs (keepQ n0 m0 m1) (pairS zs z.toNat s0) W0 := by
  intro l J W hW hR hY h0
  have HST := Lib.hid (fun (W : World) (hb : Below n0 W0 W) (s : Sq) (hs : sqOK s) => step_any A m cap zs s hs hm hzs W (ht.below hb hg) (by have := hb.size; omega) (by
    refine ⟨hA.1, fun j z hz => ?_⟩
    obtain ⟨a, ha, hl, hc⟩ := hA.2 j z hz
    exact ⟨a, ha, Nat.lt_of_lt_of_le hl hb.size, (hb.cell (p := a.add j) (by rw [block_add]; exact hAl a ha (by have h1 := (List.getElem?_eq_some_iff.1 hz).1; have h2 := hA.1; omega))).trans hc⟩))
  refine callsIn_of_wp Tryz.func14 rfl trivial ?_ rfl
  simp only [Tryz.ntmps14, List.size_toArray, List.length_cons, List.length_nil, Nat.reduceAdd, Nat.reduceSub, Array.replicate_succ, Array.replicate_zero, List.push_toArray, List.append_toArray, List.nil_append, List.cons_append]
  have cnW := Stay.cell hW cn (Or.inr hbn)
  have csW := Stay.blk hW cs0 (Or.inr hbs)
  gi_wp2
  have HZ := Lib.hid hz
  have hzN : ∀ k : Nat, k ≤ z.toNat → (k : Int) ≤ 9223372036854775807 := fun k hk => by omega
  have HN := Lib.hid hzN
  clear hzN
  gi_loopw [7] (fun i wr => ∃ k : Nat, k ≤ z.toNat ∧ i = .int .i64 k ∧ J (pairS zs k s0) wr ∧ Blk wr bs (sqC (runS zs k s0).1) ∧ Stay (fun b => (b < n0 ∨ (m0 ≤ b ∧ b < m1)) ∧ b ≠ bs) W0 wr) (fun i _ => (z - intOf i).toNat)
  case atStart => exact ⟨0, Nat.zero_le _, rfl, h0, csW, hW.mono (fun k _ hk => hk.1)⟩
  case round =>
    obtain ⟨k, hk, rfl, hJ, hB, hS⟩ := hrel
    have HRL := Lib.hid (And.intro hJ (And.intro hB hS))
    obtain ⟨s, hs⟩ : ∃ s, (runS zs k s0).1 = s := ⟨_, rfl⟩
    have hok : sqOK s := by rw [← hs]; exact runS_ok k hs0
    rw [hs] at hB
    have HOK := Lib.hid hok
    have HSK := Lib.hid hs
    have HK := Lib.hid hk
    have c34 := hB.2.1 34 _ (sqC_halt hok.2.1)
    clear hJ hB hS hok hs csW cnW hW h0 hs0 hz hk
    by_cases hlt : (k : Int) < z
    · by_cases hh : s.halt = 0
      · rw [hh] at c34
        gi_upto_region 4 with fail
        obtain ⟨hJ, hB, hS⟩ := HRL.out
        rw [HSK.out] at hB
        obtain ⟨cs, hcs⟩ : ∃ cs, sqC s = cs := ⟨_, rfl⟩
        rw [hcs] at hB
        have hl : cs.length = 35 := by rw [← hcs]; exact sqC_len HOK.out.2.1
        have hsv : sqV s = .agg cs.toArray := by rw [← hcs]; rfl
        have hb1 : Below wr.heap.size wr (wr.alloc (.cells z9.toArray 40)) := (Below.refl _ _).alloc (Nat.le_refl _) _
        have x5 := Blk.new wr 40 z9
        have y1 : Stay (· ≠ bs) wr (wr.alloc (.cells z9.toArray 40)) := Stay.of_below hb1 (fun k hk _ => hk)
        have HJ0 := Lib.hid hJ
        have y2 := hB.below hb1 hB.1
        have y3 := hS.trans (Stay.of_below hb1 (fun k hk _ => hk))
        have hws : m1 ≤ wr.heap.size := Nat.le_trans hm1 hS.size
        change Code.wpIn _ _ _ _ _ _ (wr.alloc (.cells z9.toArray 40))
        generalize wr.alloc (.cells z9.toArray 40) = W1 at *
        clear hb1 hJ hB hS HRL
        have cpW := Stay.cell y3 cp ⟨Or.inr hbp, fun e => hne.2 e.symm⟩
        have HS1 := Lib.hid y3
        have HB1 := Lib.hid y2
        have HJ1 := Lib.hid y1
        have HX5 := Lib.hid x5
        have HI := Lib.hid (show (Tryz.prog.info? 28).map (·.size) = some cs.length by rw [hl]; exact sq_info)
        have hst := HST.out W1 (Stay.below y3 (by omega) (fun k hk => ⟨Or.inl hk, fun e => by omega⟩)) s HOK.out
        rw [hsv] at hst
        clear y1 y2 y3 x5 c34
        obtain ⟨s2, hs2⟩ : ∃ s2, (stepS zs s).1 = s2 := ⟨_, rfl⟩
        obtain ⟨t2, ht2⟩ : ∃ t2, (stepS zs s).2 = t2 := ⟨_, rfl⟩
        rw [hs2, ht2] at hst
        have hok2 : sqOK s2 := by rw [← hs2]; exact stepS_ok HOK.out
        obtain ⟨ds, hds⟩ : ∃ ds, sqC s2 = ds := ⟨_, rfl⟩
        have hl2 : ds.length = 35 := by rw [← hds]; exact sqC_len hok2.2.1
        obtain ⟨es, hes⟩ : ∃ es, stC t2 = es := ⟨_, rfl⟩
        have hl3 : es.length = 9 := by rw [← hes]; rfl
        have ho2 := sqC_one s2
        have ho3 := stC_one t2
        have hv2 : sqV s2 = .agg ds.toArray := by rw [← hds]; rfl
        have hv3 : stV t2 = .agg es.toArray := by rw [← hes]; rfl
        rw [hds] at ho2
        rw [hes] at ho3
        rw [hv2, hv3] at hst
        have HSP := Lib.hid hst
        have HI2 := Lib.hid (show (Tryz.prog.info? 28).map (·.size) = some ds.length by rw [hl2]; exact sq_info)
        have HI3 := Lib.hid (show (Tryz.prog.info? 40).map (·.size) = some es.length by rw [hl3]; exact st_info)
        have HO2 := Lib.hid ho2
        have HO3 := Lib.hid ho3
        have HL := Lib.hid (And.intro hl (And.intro hl2 hl3))
        have HV := Lib.hid (And.intro hv2 hv3)
        have HY := Lib.hid hY
        have HWS := Lib.hid hws
        have H2 := Lib.hid (And.intro hs2 ht2)
        clear hst ho2 ho3 hl hl2 hl3 hv2 hv3 hs2 ht2 hds hes hcs hsv hok2 hY hws
        gi_upto_region 5 with (first
          | (refine wpListIn_load_row rfl 28 (.tmp 2) rfl ⟨bs, 0, none⟩ rfl cs _ HB1.out.row Tryz.underlying28 rfl HI.out ?_)
          | (refine ⟨trivial, (callsIn_wide.2 HSP.out).mono ?_⟩
             rintro e w2 ⟨rfl, b⟩
             have y2 := HB1.out.below b HB1.out.1
             have y3 := HS1.out.trans (Stay.of_below b (fun k hk _ => hk))
             have y4 := HX5.out.below b HX5.out.1
             have y5 := HJ1.out.trans (Stay.of_below b (fun k hk _ => hk))
             clear HJ1 HB1 HS1 HX5 cpW
             have HJ1 := Lib.hid y5
             have HB1 := Lib.hid y2
             have HS1 := Lib.hid y3
             have HX5 := Lib.hid y4
             clear y2 y3 y4 y5 b)
          | (refine wpListIn_store_blk rfl 28 (.tmp 2) (.tmp 16) rfl bs cs ds HB1.out (by rw [HL.out.1, HL.out.2.1]) rfl rfl HI2.out HO2.out ?_
             intro w3 n1 n2 n3 n4
             have y1 := HJ1.out.trans n3
             have y4 := n2 _ _ (by have := HWS.out; omega) HX5.out
             have y3 := HS1.out.trans (n3.mono (fun k _ hk => hk.2))
             clear HJ1 HB1 HS1 HX5 n2 n3 n4
             have HJ1 := Lib.hid y1
             have HB1 := Lib.hid n1
             have HS1 := Lib.hid y3
             have HX5 := Lib.hid y4
             clear y1 y3 y4 n1)
          | (refine wpListIn_store_blk rfl 40 (.tmp 5) (.tmp 17) rfl wr.heap.size z9 es HX5.out (by rw [HL.out.2.2]; rfl) rfl rfl HI3.out HO3.out ?_
             intro w4 n1 n2 n3 n4))
        have hlt5 := HB1.out.1
        have yb := n2 _ _ (by have := HWS.out; omega) HB1.out
        have yJ : Stay (· ≠ bs) wr w4 := ⟨n3.os.trans HJ1.out.os, n3.tape.trans HJ1.out.tape, n3.output.trans HJ1.out.output, Nat.le_trans HJ1.out.size n3.size, fun i hi hne => (n3.block i (Nat.lt_of_lt_of_le hi HJ1.out.size) (by omega)).trans (HJ1.out.block i hi hne)⟩
        have yJ4 := hR _ _ _ HJ0.out yJ
        have yS : Stay (fun b => (b < n0 ∨ (m0 ≤ b ∧ b < m1)) ∧ b ≠ bs) W0 w4 := HS1.out.trans (n3.mono (fun i _ hi => by have := HWS.out; show i ≠ wr.heap.size; omega))
        have hhz : (runS zs k s0).1.halt = 0 := by rw [HSK.out]; exact hh
        have hsn : pairS zs (k + 1) s0 = pairS zs k s0 ++ [(s2, t2)] := by
          rw [pairS_snoc zs k s0 hhz, HSK.out, ← H2.out.1, ← H2.out.2]
        have hst2 : (runS zs (k + 1) s0).1 = s2 := by rw [runS_snoc zs k s0 hhz, HSK.out]; exact H2.out.1
        obtain ⟨fn, tmps, assign, body, hy, hRd⟩ := HY.out (pairS zs k s0) (s2, t2) w4 yJ4 (by rw [← hsn]; exact pairS_prefix zs _ _ s0 (by omega))
        rw [show encQ (s2, t2) = #[.agg ds.toArray, .agg es.toArray] by unfold encQ; rw [HV.out.1, HV.out.2]] at hy
        have HRd := Lib.hid hRd
        have HSN := Lib.hid hsn
        have HB4 := Lib.hid yb
        have HX4 := Lib.hid n1
        have HS4 := Lib.hid yS
        have HST2 := Lib.hid hst2
        have HDS := Lib.hid (show sqC s2 = ds by have := HV.out.1; unfold sqV at this; injection this with h; exact congrArg Array.toList h)
        clear hRd hsn yb n1 n2 n3 n4 yS yJ yJ4 hst2 hhz HJ0 HJ1 HB1 HS1 HX5 HY hlt5
        simp only [Act.put]
        gi_wp2_with (first
          | (refine wpListIn_load_row rfl 28 (.tmp 2) rfl ⟨bs, 0, none⟩ rfl ds _ HB4.out.row Tryz.underlying28 rfl HI2.out ?_)
          | (refine wpListIn_load_row rfl 40 (.tmp 5) rfl ⟨wr.heap.size, 0, none⟩ rfl es _ HX4.out.row Tryz.underlying40 rfl HI3.out ?_))
        refine HRd.out.mono ?_
        rintro e W3 ⟨rfl, hJ3, hk3⟩
        have hb3 := Stay.blk hk3 HB4.out (Or.inr hbs)
        have hs3 := HS4.out.trans (hk3.mono (fun i _ hi => hi.1))
        rw [← HDS.out, ← HST2.out] at hb3
        have hzb := HZ.out
        gi_wp2
        go_roundw
        case rel => exact ⟨k + 1, by have := HK.out; omega, by go_num, by rw [HSN.out]; exact hJ3, hb3, hs3⟩
        case measure => (first | (simp [intOf]; done) | (simp [intOf]; omega))
      · have q : (s.halt != 0) = true := by simpa using hh
        gi_wp2
        refine bodyPost_ret (results_none rfl _ _ _) rfl ⟨⟨_, rfl⟩, ?_⟩
        rw [pairS_stop zs k _ s0 HK.out (by rw [HSK.out]; exact hh)]
        exact HRL.out.1
    · have hlt' : z ≤ k := by omega
      gi_wp2
      go_end0
      have : k = z.toNat := by have := HK.out; omega
      subst this
      exact ⟨⟨_, rfl⟩, HRL.out.1⟩
end Go.Proofs.YtkamljmopbocnaaGreatDoor

/- THE CONTRACT of seq.Run. -/
namespace Go.Proofs.YtkamljmopbocnaaGreatDoor
open Go.ChangeShapes Go.WideShapes Go.ChangeAt Go.RowKit Go.Sort Go.Shelf
set_option linter.unusedVariables false
set_option linter.unusedSimpArgs false
set_option maxHeartbeats 4000000
set_option maxRecDepth 100000
attribute [local go_sem] Oper.semAt_some

theorem info_step : (Tryz.prog.info? 40).map (fun i => (i.zero, i.size, i.bytes)) = some (some (.agg #[.int .u32 0, .int .u32 0, .int .i64 0, .int .u32 0, .int .u32 0, .int .i64 0, .bool false, .int .i64 0, .int .i64 0]), 9, 56) := by kernel_rfl
theorem own_stay {K : Nat → Prop} {w w2 : World} {B e size n : Nat} {v : Value} {xs : List Value} (h : w.ownsRow B e size v n xs) (hs : Stay K w w2) (hK : ∀ k, B ≤ k → K k) : w2.ownsRow B e size v n xs := by
  refine ⟨h.1, ?_⟩
  rcases h.2 with h0 | ⟨g, cap, cur, hv, hg, hh, r⟩
  · exact .inl h0
  · have hlt : g < w.heap.size := by
      rcases Nat.lt_or_ge g w.heap.size with h' | h'
      · exact h'
      · rw [Array.getElem?_eq_none (by omega)] at hh; cases hh
    exact .inr ⟨g, cap, cur, hv, hg, by rw [hs.block g hlt (hK g hg)]; exact hh, r⟩
theorem own_put {w : World} {B e size n l : Nat} {o o' : Obj} {v : Value} {xs : List Value} (h : w.ownsRow B e size v n xs) (hl : w.heap[l]? = some o) (ho : o.isCells = false) : (w.putObj l o').ownsRow B e size v n xs := by
  refine ⟨h.1, ?_⟩
  rcases h.2 with h0 | ⟨g, cap, cur, hv, hg, hh, r⟩
  · exact .inl h0
  · have hne : g ≠ l := fun e => by rw [e, hl] at hh; cases hh; cases ho
    exact .inr ⟨g, cap, cur, hv, hg, by rw [World.putObj_heap_other hne]; exact hh, r⟩
theorem Blk.put {w : World} {b l : Nat} {cs : List Value} {o : Obj} (h : Blk w b cs) (hne : b ≠ l) : Blk (w.putObj l o) b cs :=
  ⟨by rw [World.putObj_size]; exact h.1, fun i v hv => by rw [World.cell?_of_block (World.putObj_heap_other hne)]; exact h.2.1 i v hv, fun i hi => by rw [World.frozen?_of_block (World.putObj_heap_other hne)]; exact h.2.2 i hi⟩
theorem below_put {n : Nat} (W : World) (l : Nat) (o : Obj) (h : n ≤ l) : Below n W (W.putObj l o) :=
  ⟨rfl, rfl, rfl, by simp, fun k hk => World.putObj_heap_other (by omega)⟩
theorem stay_put {K : Nat → Prop} (W : World) (l : Nat) (o : Obj) (h : ¬ K l) : Stay K W (W.putObj l o) :=
  ⟨rfl, rfl, rfl, by simp, fun k hk hK => World.putObj_heap_other (fun e => h (by rw [← e]; exact hK))⟩
theorem keeps_of_below' {B : Nat} {W W' : World} (h : Below W.heap.size W W') : KeepsFrom B W W' := ⟨h.size, fun k o _ hk _ => (h.block k (Array.getElem?_eq_some_iff.1 hk).1).trans hk⟩
theorem lastS_ok : ∀ (l : List (Sq × St)) {s : Sq}, sqOK s → (∀ x ∈ l, sqOK x.1) → sqOK (lastS s l)
  | [], _, h, _ => h
  | x :: r, _, _, h => lastS_ok r (h x (by simp)) (fun y hy => h y (by simp [hy]))
/-- a whole value is stored over a block that is known: all other blocks stay -/
theorem wpList_store_blkS {P : Program} {ops : Array Oper} {rest : List Oper} {op : Oper} {a : Act} {w : World} {Q : Exit → Act → World → Prop} (hgd : op.guard = none) (ty : TypeId) (x y : Operand) (ho : op.op = .store ty x y)
    (b : Nat) (zs cs : List Value) (hB : Blk w b zs) (hz : zs.length = cs.length) (hx : a.eval x = .pointer (some ⟨b, 0, none⟩)) (hy : a.eval y = .agg cs.toArray)
    (hi : (P.info? ty).map (·.size) = some cs.length) (h1 : cs.toArray.all (·.oneCell') = true)
    (h : ∀ W2, Blk W2 b cs → (∀ b' ds, b' ≠ b → Blk w b' ds → Blk W2 b' ds) → Stay (· ≠ b) w W2 → wpList P ops Q rest (a.put op.dst undef) W2) : wpList P ops Q (op :: rest) a w := by
  refine wpList_store_mid hgd ty x y ho b 0 cs.toArray hx hy (there_blk hB (by simp [hz])) (by simpa using hi) h1 (h _ (by simpa using Blk.cellsHere hB hz) (fun b' ds hne hd => by simpa using hd.cells hne) ?_)
  have : ∀ (vs : List Value) (o : Nat) (W : World), Stay (· ≠ b) W (W.setCells b o vs) := by
    intro vs
    induction vs with
    | nil => exact fun o W => Stay.refl _ _
    | cons v r ih => exact fun o W => (Stay.setCell W ⟨b, o, none⟩ v (by simp)).trans (ih (o + 1) _)
  exact this _ 0 w
theorem keeps_stay {B b : Nat} {W W' : World} (h : Stay (· ≠ b) W W') (hb : b < B) : KeepsFrom B W W' := ⟨h.size, fun k o hk ho _ => (h.block k (Array.getElem?_eq_some_iff.1 ho).1 (by omega)).trans ho⟩
theorem stay_grown {K : Nat → Prop} {W W' : World} {row : Option Nat} (h : W.grownBy W' row) (hr : ∀ j, row = some j → ¬ K j) : Stay K W W' :=
  ⟨h.os, h.tape, h.output, h.size, fun k hk hK => h.block k hk (fun e => hr k e.symm hK)⟩
theorem own_cells {w : World} {B e size n : Nat} {v : Value} {xs : List Value} (h : w.ownsRow B e size v n xs) : ∀ j o, v.ownBlock = some j → w.heap[j]? = some o → o.isCells = true := by
  intro j o hj ho
  rcases h.2 with ⟨rfl, h0⟩ | ⟨g, cap, cur, rfl, hg, hh, r⟩
  · cases hj
  · simp only [Value.ownBlock] at hj
    cases hj
    rw [hh] at ho
    cases ho
    rfl
/-- the steps' cells -/
def stepCells (l : List St) : List Value := (l.map stC).flatten
theorem stepCells_snoc (l : List St) (s : St) : stepCells (l ++ [s]) = stepCells l ++ stC s := by simp [stepCells]
theorem stC_len {l : List St} : ∀ (j : Nat) (c : List Value), (l.map stC)[j]? = some c → c.length = 9 := by
  intro j c hc
  rw [List.getElem?_map] at hc
  obtain ⟨r, _, rfl⟩ := Option.map_eq_some_iff.1 hc
  rfl
theorem stC_one' (s : St) : ∀ u ∈ stC s, u.oneCell' = true := by
  intro u hu
  simp only [stC, List.mem_cons, List.not_mem_nil, or_false] at hu
  rcases hu with rfl | rfl | rfl | rfl | rfl | rfl | rfl | rfl | rfl <;> rfl
theorem cell_newL (w : World) (cs : List Value) (t : TypeId) : ∀ j u, cs[j]? = some u → (w.alloc (.cells cs.toArray t)).cell? ((⟨w.heap.size, 0, none⟩ : Addr).add j) = some u := (Blk.new w t cs).row

/-- what Run answers -/
def runR (zs : List Int) (m : ByteArray) (z : Int) : Sq × List St := runS zs (min z 10000).toNat (newS m)
theorem run_own (A : Option Addr) (n cap : Nat) (zs : List Int) (m : ByteArray) (z : Int) (hn : n ≤ 200) (hz : ∀ z ∈ zs, 0 ≤ z ∧ z < 4294967296) (hm : m.size ≤ 1000) (hz1 : z ≤ 9223372036854775807) (w : World) (ht : TabIs w) (hg : 0 < w.heap.size) (h : IntsAt w A n .u32 zs) :
    Calls Tryz.prog 5 #[.slice A n cap, .string m, .int .i64 z] w fun r w' => ∃ (B : Option Addr) (c' : Nat), r = .returned (.tuple #[sqV (runR zs m z).1, .slice B (runR zs m z).2.length c']) ∧ (runR zs m z).2.length ≤ c' ∧ c' ≤ maxLen ∧ StepsAt w' B (runR zs m z).2.length (runR zs m z).2 ∧ (∀ a, B = some a → w.heap.size ≤ a.block) ∧ Below w.heap.size w w' ∧ ∃ base, w.heap.size ≤ base ∧ base ≤ w'.heap.size ∧ w'.ownsRow base 40 9 (.slice B (runR zs m z).2.length c') (runR zs m z).2.length (stepCells (runR zs m z).2) := by
  obtain ⟨i0, hi, hz0, hz1', hz2⟩ := info_parts info_step
  have HNW := Lib.hid (fun w => new_any A n cap m hm w)
  have HT := Lib.hid ht
  have HA := Lib.hid h
  have hAl : ∀ a, A = some a → 0 < n → a.block < w.heap.size := fun a ha h0 => by
    obtain ⟨a', ha', _⟩ := h.at_ h0
    obtain ⟨a2, h2, hl, _⟩ := h.2 0 _ (List.getElem?_eq_getElem (by rw [h.1]; exact h0))
    rw [ha] at h2
    cases h2
    exact hl
  clear ht h
  have hok0 := newS_ok hm
  obtain ⟨s0, hs0⟩ : ∃ s0, newS m = s0 := ⟨_, rfl⟩
  unfold runR
  rw [hs0] at HNW hok0 ⊢
  obtain ⟨zz, hzz⟩ : ∃ zz, min z 10000 = zz := ⟨_, rfl⟩
  rw [hzz]
  have hzz1 : zz ≤ 10000 := by omega
  obtain ⟨cs0, hcs0⟩ : ∃ cs0, sqC s0 = cs0 := ⟨_, rfl⟩
  have hl0 : cs0.length = 35 := by rw [← hcs0]; exact sqC_len hok0.2.1
  have ho0 := sqC_one s0
  rw [hcs0] at ho0
  have hv0 : sqV s0 = .agg cs0.toArray := by rw [← hcs0]; rfl
  have HGO := Lib.hid (fun w => going_any A n cap s0 zz w)
  rw [hv0, hcs0] at HGO
  rw [hv0] at HNW
  have HI := Lib.hid (show (Tryz.prog.info? 28).map (·.size) = some cs0.length by rw [hl0]; exact sq_info)
  have HO := Lib.hid ho0
  have HL := Lib.hid hl0
  clear hl0 ho0
  refine (callsIn_wide (n := 8)).1 ?_
  refine callsIn_of_wp_marks Tryz.func5 rfl trivial ?_ rfl
  simp only [Tryz.ntmps5, List.size_toArray, List.length_cons, List.length_nil, Nat.reduceAdd, Nat.reduceSub, Array.replicate_succ, Array.replicate_zero, List.push_toArray, List.append_toArray, List.nil_append, List.cons_append]
  refine wpIn_wide.2 ?_
  go_upto_region 1 with fail
  refine wp_allocs [(z35, 28)] rfl ?_
  intro W1 y1 KB y3
  have X6 := Lib.hid (show Blk W1 w.heap.size z35 from y3 0 _ rfl)
  replace KB := Lib.hid KB
  clear y1 y3
  go_upto_region 2 with (first
    | (go_at_call 9
       refine (HNW.out _).mono ?_
       rintro e w1 ⟨rfl, b⟩
       have z1 := X6.out.below b X6.out.1
       have z2 := KB.out.trans (b.mono KB.out.size)
       replace X6 := Lib.hid z1
       replace KB := Lib.hid z2
       clear z1 z2 b)
    | (refine wpList_store_new rfl 28 (.tmp 8) (.tmp 14) rfl w1.heap.size rfl _ cs0 _ rfl rfl (by rw [HL.out]; rfl) HI.out HO.out ?_
       intro W2 hb2 hB2 hs2
       have z1 := X6.out.below hb2 X6.out.1
       have z2 := KB.out.trans (hb2.mono KB.out.size)
       have HLT := Lib.hid X6.out.1
       replace X6 := Lib.hid z1
       replace KB := Lib.hid z2
       have X8 := Lib.hid hB2
       clear hb2 hB2 z1 z2))
  simp only [Act.put]
  go_upto_region 3 with fail
  refine wp_allocs (w := W2) [([.slice none 0 0], 29)] rfl ?_
  intro W3 y1 y2 y3
  have X9 := Lib.hid (show Blk W3 W2.heap.size [.slice none 0 0] from y3 0 _ rfl)
  have z1 := X6.out.below y2 X6.out.1
  have z2 := KB.out.trans (y2.mono KB.out.size)
  have z3 := X8.out.below y2 X8.out.1
  replace X6 := Lib.hid z1
  replace KB := Lib.hid z2
  replace X8 := Lib.hid z3
  have hlt := HLT.out
  rw [hs2] at X9 y1
  obtain ⟨b8, hb8⟩ : ∃ b8, w1.heap.size = b8 := ⟨_, rfl⟩
  have hsz3 : W3.heap.size = b8 + 1 + 1 := by rw [y1, hb8]; rfl
  rw [hb8] at X8 X9 hlt ⊢
  have HLT2 := Lib.hid (And.intro hlt hsz3)
  clear y1 y2 y3 z1 z2 z3 hs2 hb8 hlt hsz3 HLT HNW
  rcases Int.lt_or_le 10000 z with hbig | hbig
  · obtain rfl : zz = 10000 := by omega
    clear hzz hzz1
    go_wp2_with (first
      | (refine wpList_load_mid rfl 28 (.tmp 8) rfl _ 0 rfl cs0 _ X8.out.range Tryz.underlying28 rfl HI.out ?_)
      | (go_at_call 10; refine (HGO.out _).mono ?_; rintro e w4 ⟨rfl, rfl⟩))
    refine (wpIn_wide (n := 6)).1 ?_
    obtain ⟨v1, v2, v3⟩ := allocsL_spec [([.slice A n cap], 22), (cs0, 28), ([.int .i64 10000], 3)] W3
    obtain ⟨W0, hW0⟩ : ∃ W0, allocsL W3 [([.slice A n cap], 22), (cs0, 28), ([.int .i64 10000], 3)] = W0 := ⟨_, rfl⟩
    rw [hW0] at v1 v2 v3 ⊢
    clear hW0
    have vp := v3 0 _ rfl
    have vs := v3 1 _ rfl
    have vn := v3 2 _ rfl
    rw [HLT2.out.2] at v1 v2 vp vs vn ⊢
    have v1' : W0.heap.size = b8 + 5 := v1
    have y6 := X6.out.below v2 (by have := HLT2.out.1; omega)
    have y8 := X8.out.below v2 (by omega)
    have y9 := X9.out.below v2 (by omega)
    have yK := KB.out.trans (v2.mono (by have := HLT2.out.1; omega))
    have hlt8 := HLT2.out.1
    clear X6 X8 X9 KB v1 v3 HGO
    refine wpIn_range_all (by omega) rfl (enters_of Tryz.func14 (by kernel_rfl) rfl) (fun _ => rfl) (show b8 + 1 + 1 + 1 < W0.heap.size by omega)
      (going1_all 5 (by omega) (b8 + 1 + 1 + 1 + 1) (b8 + 1 + 1 + 1) (b8 + 1 + 1) A n cap zs s0 10000 w.heap.size (b8 + 1 + 1) (b8 + 5) W0 hn hz hok0 (by omega) (by omega) (by omega) (by omega) (by omega) (by omega) (by omega)
        (vn.2.1 0 _ rfl) (by rw [hcs0]; exact vs) (vp.2.1 0 _ rfl) (HT.out.below yK hg) hg (HA.out.below yK) hAl)
      (fun W hb => Stay.of_below hb (fun k hk _ => hk)) (fun h k => h.trans k) (fun W l o hl => stay_put W l o (by omega))
      (fun pre W => (∃ v, Blk W (b8 + 1) [v] ∧ W.ownsRow W0.heap.size 40 9 v pre.length (stepCells (pre.map (·.2)))) ∧ Blk W b8 (sqC (lastS s0 pre)) ∧ Blk W w.heap.size z35 ∧ Below w.heap.size w W ∧ W0.heap.size ≤ W.heap.size)
      ?hI ?hIp ?h0 ?hround ?hdone
    case hI =>
      rintro pre A' B' ⟨⟨v, h1, h2⟩, h3, h4, h5, h6⟩ hs
      exact ⟨⟨v, hs.blk h1 (by omega), own_stay h2 hs (fun k hk => by omega)⟩, hs.blk h3 (by omega), hs.blk h4 (by omega), h5.trans (hs.below h5.size (fun k hk => by omega)), Nat.le_trans h6 hs.size⟩
    case hIp =>
      rintro pre A' l o o' hl hlo ho ⟨⟨v, h1, h2⟩, h3, h4, h5, h6⟩
      exact ⟨⟨v, h1.put (by omega), own_put h2 hlo ho⟩, h3.put (by omega), h4.put (by omega), h5.trans (below_put _ _ _ (by omega)), by rw [World.putObj_size]; exact h6⟩
    case h0 => exact ⟨⟨_, y9, World.ownsRow_nil _ _ _ _⟩, by rw [show lastS s0 [] = s0 from rfl, hcs0]; exact y8, y6, yK, Nat.le_refl _⟩
    case hround =>
      rintro pre ⟨xs, xt⟩ W ⟨⟨v, h1, h2⟩, h3, h4, h5, h6⟩ hpre ⟨r0, hlr⟩ K hK
      have hlt := (Array.getElem?_eq_some_iff.1 hlr).1
      have hokx : sqOK xs := pairS_ok _ hok0 (xs, xt) (hpre.subset (by simp))
      have HPR := Lib.hid (fun x (hx : x ∈ pre) => pairS_ok _ hok0 x (hpre.subset (by simp [hx])))
      have hlen : pre.length + 1 ≤ 10000 := by
        have e1 := hpre.length_le
        have e2 := pairS_len zs (10000 : Int).toNat s0
        rw [List.length_append, List.length_singleton] at e1
        omega
      obtain ⟨cx, hcx⟩ : ∃ cx, sqC xs = cx := ⟨_, rfl⟩
      have hlx : cx.length = 35 := by rw [← hcx]; exact sqC_len hokx.2.1
      have hox := sqC_one xs
      rw [hcx] at hox
      have hvx : sqV xs = .agg cx.toArray := by rw [← hcx]; rfl
      have IX := Lib.hid (show (Tryz.prog.info? 28).map (·.size) = some cx.length by rw [hlx]; exact sq_info)
      have OX := Lib.hid hox
      have LX := Lib.hid hlx
      obtain ⟨es, hes⟩ : ∃ es, stC xt = es := ⟨_, rfl⟩
      have hle : es.length = 9 := by rw [← hes]; rfl
      have hoe := stC_one xt
      rw [hes] at hoe
      have hve : stV xt = .agg es.toArray := by rw [← hes]; rfl
      have IE := Lib.hid (show (Tryz.prog.info? 40).map (·.size) = some es.length by rw [hle]; exact st_info)
      have OE := Lib.hid hoe
      have LE := Lib.hid hle
      have HES := Lib.hid hes
      clear hle hoe hes
      unfold encQ
      rw [zip2]
      simp only [hvx, hve, List.setIfInBounds_toArray, List.set_cons_succ, List.set_cons_zero]
      clear hox hlx hvx
      refine wpIn_seq_k fun K1 hK1 => ?_
      refine wpIn_region_round rfl (fun ⟨_, _, h⟩ => h) ?_
      go_wp2_with (refine wpList_store_new rfl 28 (.tmp 10) (.tmp 20) rfl W.heap.size rfl _ cx _ rfl rfl (by rw [LX.out]; rfl) IX.out OX.out ?_; intro V1 vb1 vB1 vs1)
      refine wpIn_region_round rfl (fun ⟨_, _, h⟩ => h) ?_
      rw [v1'] at hlr hlt h2 h6 hK
      have VL := Lib.hid hlt
      have VS := Lib.hid (show W.heap.size < V1.heap.size from vB1.1)
      clear vs1
      go_wp2_with (refine wpList_store_new rfl 40 (.tmp 11) (.tmp 21) rfl V1.heap.size rfl _ es _ rfl rfl (by rw [LE.out]; rfl) IE.out OE.out ?_; intro V2 vb2 vB2 vs2)
      have bw : RowKit.Below W.heap.size W V2 := vb1.trans (vb2.mono vb1.size)
      have bx := vB1.below vb2 vB1.1
      refine hK _ _ (keeps_of_below' bw) (Stay.of_below bw (fun k hk _ => hk)) fun r => ?_
      have g1 := (h1.below bw h1.1).put (l := b8 + 5 + 1) (o := .loop r) (by omega)
      have g2 := own_put (o' := .loop r) (own_stay h2 (Stay.of_below (K := fun _ => True) bw (fun k hk _ => hk)) (fun _ _ => trivial)) ((bw.block _ hlt).trans hlr) rfl
      have g3 := (h3.below bw h3.1).put (l := b8 + 5 + 1) (o := .loop r) (by omega)
      have g4 := (h4.below bw h4.1).put (l := b8 + 5 + 1) (o := .loop r) (by omega)
      have g5 := (h5.trans (bw.mono h5.size)).trans (below_put V2 (b8 + 5 + 1) (.loop r) (by omega))
      have g6 : b8 + 5 ≤ (V2.putObj (b8 + 5 + 1) (.loop r)).heap.size := by rw [World.putObj_size]; exact Nat.le_trans h6 bw.size
      have gx := bx.put (l := b8 + 5 + 1) (o := .loop r) (by have := VL.out; omega)
      have gt := vB2.put (l := b8 + 5 + 1) (o := .loop r) (by have := VL.out; have := VS.out; omega)
      rw [← HES.out] at gt
      generalize V2.putObj (b8 + 5 + 1) (.loop r) = V at *
      have G1 := Lib.hid g1
      have G2 := Lib.hid g2
      have G3 := Lib.hid g3
      have G4 := Lib.hid g4
      have G5 := Lib.hid g5
      have GX := Lib.hid gx
      have GT := Lib.hid gt
      have G6 := Lib.hid g6
      have HLN := Lib.hid hlen
      clear h1 h2 h3 h4 h5 h6 bw bx vb1 vB1 vb2 vB2 vs2 hpre hlr hlt hK g1 g2 g3 g4 g5 g6 gx gt hlen y6 y8 y9 yK vp vs vn v2
      have hl8 : (sqC (lastS s0 pre)).length = 35 := sqC_len (lastS_ok pre hok0 HPR.out).2.1
      have L8 := Lib.hid (show (sqC (lastS s0 pre)).length = cx.toArray.size by rw [hl8, List.size_toArray, LX.out])
      clear hl8
      refine wpIn_block_k ?_
      refine wpIn_seq_k fun K2 hK2 => ?_
      refine wpIn_region_round rfl (fun ⟨_, _, h⟩ => by cases h.1) ?_
      go_wp2_with (first
        | (refine wpList_load_mid rfl 28 (.tmp 10) rfl _ 0 rfl cx _ GX.out.range Tryz.underlying28 rfl IX.out ?_)
        | (refine wpList_store_blkS rfl 28 (.tmp 8) (.tmp 22) rfl b8 _ cx G3.out L8.out rfl rfl IX.out OX.out ?_; intro V3 c1 c2 c3))
      refine wpIn_region_round rfl (fun ⟨_, _, h⟩ => by cases h.1) ?_
      have u1 := c2 _ _ (by omega) G1.out
      have u4 := c2 _ _ (by omega) G4.out
      have ut := c2 _ _ (by have := VL.out; have := VS.out; omega) GT.out
      have uo := own_stay G2.out c3 (fun k hk => by omega)
      have k1 := keeps_stay (B := b8 + 5) c3 (by omega)
      have u5 := G5.out.trans (c3.below G5.out.size (fun k hk => by omega))
      have u6 : b8 + 5 ≤ V3.heap.size := Nat.le_trans G6.out c3.size
      have q1 := u1.2.1 0 _ rfl
      have e1 := u1.2.2 0 (by simp)
      have U1 := Lib.hid u1
      have U4 := Lib.hid u4
      have UT := Lib.hid ut
      have UO := Lib.hid uo
      have U5 := Lib.hid u5
      have U6 := Lib.hid u6
      have U8 := Lib.hid c1
      have US := Lib.hid c3
      have UK := Lib.hid k1
      clear u1 u4 ut uo u5 u6 c1 c2 c3 k1 G1 G2 G3 G4 G5 G6 GX GT
      simp only [stC] at UT
      go_wp2_with (first
        | (refine wpList_load_mid rfl 40 (.tmp 11) rfl _ 0 rfl _ _ UT.out.range Tryz.underlying40 rfl st_info ?_)
        | (at_builtin
           refine wpList_append_own _ rfl (.tmp 23) (.tmp 25) 29 rfl (b8 + 5) 40 i0 _ 9 56 Tryz.underlying29 hi hz0 hz1' hz2 rfl (by decide) _ _ _ rfl (UO.out.alloc _) ⟨V3.heap.size, 0, none⟩ 1 1 (stC xt) rfl rfl (cell_newL _ _ _) (stC_one' _) (by unfold maxLen; have := HLN.out; omega) (by have := HLN.out; omega) (by simp; have := U6.out; omega) ?_
           intro v' V5 hown5 hgrow5 hnil5
           have s5 : Stay (fun k => k < b8 + 5) V3 V5 := (Stay.of_below ((RowKit.Below.refl _ V3).alloc (Nat.le_refl _) _) (fun k hk _ => hk)).trans (stay_grown hgrow5 (fun j hj => by have := (UO.out.lt j hj).1; omega))
           have k5 : KeepsFrom (b8 + 5) V3 V5 := (keeps_of_below' ((RowKit.Below.refl _ V3).alloc (Nat.le_refl _) _)).trans (KeepsFrom.cells_row hgrow5 (own_cells (UO.out.alloc _)))
           have b5 := s5.blk U1.out (by omega)
           have r5 := b5.2.1 0 _ rfl
           have f5 := b5.2.2 0 (by simp)
           obtain ⟨A5, c5, rfl, hf1, hf2, hf3⟩ := own_form hown5
           have S5 := Lib.hid s5
           have K5 := Lib.hid k5
           have B5 := Lib.hid b5
           have O5 := Lib.hid hown5
           clear s5 k5 b5 hown5 hgrow5 hnil5 hf1 hf2 hf3))
      have x8 := (S5.out.blk U8.out (by omega)).other (p := ⟨b8 + 1, 0, none⟩) (v := .slice A5 (pre.length + 1) c5) (by simp)
      have x4 := (S5.out.blk U4.out (by omega)).other (p := ⟨b8 + 1, 0, none⟩) (v := .slice A5 (pre.length + 1) c5) (by simp <;> omega)
      have x1 := (B5.out).set (i := 0) (v := .slice A5 (pre.length + 1) c5) (by simp)
      have sc := Stay.setCell (K := (· ≠ b8 + 1)) V5 ⟨b8 + 1, 0, none⟩ (.slice A5 (pre.length + 1) c5) (by simp)
      refine ⟨by first | trivial | rfl, (UK.out.trans K5.out).trans (keeps_stay sc (by omega)), (US.out.mono (fun k _ hk => by omega)).trans ((S5.out.mono (fun k _ hk => by omega)).trans (sc.mono (fun k _ hk => by omega))), ⟨_, x1, ?_⟩, ?_, x4, ?_, ?_⟩
      · rw [List.map_append, List.length_append, show List.map (fun x : Sq × St => x.2) [(xs, xt)] = [xt] from rfl, stepCells_snoc]
        exact own_stay O5.out sc (fun k hk => by omega)
      · rw [lastS_snoc, hcx]
        exact x8
      · exact U5.out.trans ((S5.out.below U5.out.size (fun k hk => by omega)).trans (sc.below (Nat.le_trans U5.out.size S5.out.size) (fun k hk => by omega)))
      · exact Nat.le_trans U6.out (Nat.le_trans S5.out.size sc.size)
    case hdone =>
      rintro D W hD ⟨⟨v, h1, h2⟩, h3, h4, h5, h6⟩ hd
      rw [lastS_pairS] at h3
      have hst := pairS_steps zs (10000 : Int).toNat s0
      have hln : (pairS zs (10000 : Int).toNat s0).length = (runS zs (10000 : Int).toNat s0).2.length := by rw [← hst, List.length_map]
      rw [hst, hln] at h2
      have hokR := runS_ok (zs := zs) (10000 : Int).toNat hok0
      obtain ⟨R, hR⟩ : ∃ R, runS zs (10000 : Int).toNat s0 = R := ⟨_, rfl⟩
      rw [hR] at h2 h3 hokR
      obtain ⟨cr, hcr⟩ : ∃ cr, sqC R.1 = cr := ⟨_, rfl⟩
      rw [hcr] at h3
      have hlr : cr.length = 35 := by rw [← hcr]; exact sqC_len hokR.2.1
      have hor := sqC_one R.1
      rw [hcr] at hor
      have IR := Lib.hid (show (Tryz.prog.info? 28).map (·.size) = some cr.length by rw [hlr]; exact sq_info)
      have OR := Lib.hid hor
      have LR := Lib.hid hlr
      have HR := Lib.hid hR
      have HCR := Lib.hid hcr
      obtain ⟨A9, c9, rfl, w1', w2', w3'⟩ := own_form h2
      have q9 := stW_cell (h1.2.1 0 _ rfl) w.heap.size cr w.heap.size cr (by show b8 + 1 ≠ w.heap.size; omega) (by show b8 + 1 ≠ w.heap.size; omega)
      have XK := Lib.hid (h3.stage w.heap.size cr w.heap.size cr (by omega) (by omega))
      clear hor hlr hcr hst hln hok0 hokR
      have O2 := Lib.hid h2
      have O3 := Lib.hid h3
      have O4 := Lib.hid h4
      have O5 := Lib.hid h5
      have O6x := Lib.hid h6
      have OD := Lib.hid hd
      have ODl := Lib.hid hD
      have OW := Lib.hid (And.intro w1' (And.intro w2' w3'))
      have OV := Lib.hid v1'
      have H8 := Lib.hid hlt8
      clear h1 h2 h3 h4 h5 h6 hd hD w1' w2' w3' hR v1' v2 vp vs vn y6 y8 y9 yK
      dsimp only
      go_upto_region 8 with fail
      refine wp_region_one [] [0, 1] 2 3 _ _ w.heap.size z35 cr 28 (.tmp 6) (.tmp 27) (.tmp 28) (some 7) (.slice A9 R.2.length c9) (by kernel_rfl) (by kernel_rfl) rfl rfl rfl ⟨rfl, rfl, rfl⟩ ⟨rfl, rfl, rfl⟩ O4.out (by rw [LR.out]; rfl) IR.out OR.out ?_
      simp only [opsAt, List.getElem?_toArray, List.getElem?_cons_zero, List.getElem?_cons_succ, Option.toList_some, List.cons_append, List.nil_append]
      refine wpQuiet_next ?_
      go_big_quiet_want
      refine quiet_load_stage 28 (.tmp 8) rfl _ rfl cr _ XK.out Tryz.underlying28 rfl IR.out ?_
      simp only [Act.put, List.setIfInBounds_toArray, List.set_cons_succ, List.set_cons_zero]
      go_big_quiet_on
      go_big_quiet_step (fail)
      refine wpQuiet_nil ?_
      refine ⟨⟨rfl, rfl, rfl⟩, fun w9 n1 n2 n3 n4 n5 => ?_⟩
      go_wp2
      have hDl := ODl.out
      have hv := OV.out
      have h8 := H8.out
      have hd9 := n4 D _ (by omega) OD.out
      have st9 : Stay (· ≠ w.heap.size) W w9 := ⟨(n5 0 (by omega)).os, (n5 0 (by omega)).tape, (n5 0 (by omega)).output, (n5 0 (by omega)).size, fun k hk hne => by rw [n4 k _ hne (Array.getElem?_eq_getElem hk), Array.getElem?_eq_getElem hk]⟩
      have r9 := own_put (o' := .deferred none) (own_stay O2.out st9 (fun k hk => by omega)) hd9 rfl
      obtain ⟨A', c', e9, e1, e2, e3⟩ := RowsAt.own r9 (by rw [List.length_map]) stC_len
      injection e9 with e9 _ e10
      subst e9 e10
      refine ⟨by simp, .inl ⟨D, _, rfl, run_takeDeferred hd9, ?_⟩⟩
      refine ⟨.tuple #[.agg cr.toArray, .slice A9 R.2.length c9], ?_, ?_⟩
      · exact results_cell_slot rfl _ _ w.heap.size cr _ _ rfl rfl (n1.put (by omega)) Tryz.underlying28 rfl IR.out
      · refine ⟨A9, c9, by rw [HR.out, show sqV R.1 = .agg cr.toArray by rw [← HCR.out]; rfl], by rw [HR.out]; exact e1, e2, by rw [HR.out]; exact e3, fun a ha => ?_, ?_, W0.heap.size, by omega, by rw [World.putObj_size]; exact Nat.le_trans O6x.out st9.size, ?_⟩
        · have := OW.out.2.2 a ha
          omega
        · exact (O5.out.trans (n5 _ (Nat.le_refl _))).trans (below_put _ _ _ (by omega))
        · rw [HR.out]; exact r9
  · obtain rfl : zz = z := by omega
    clear hzz hzz1
    go_wp2_with (first
      | (refine wpList_load_mid rfl 28 (.tmp 8) rfl _ 0 rfl cs0 _ X8.out.range Tryz.underlying28 rfl HI.out ?_)
      | (go_at_call 10; refine (HGO.out _).mono ?_; rintro e w4 ⟨rfl, rfl⟩))
    refine (wpIn_wide (n := 6)).1 ?_
    obtain ⟨v1, v2, v3⟩ := allocsL_spec [([.slice A n cap], 22), (cs0, 28), ([.int .i64 zz], 3)] W3
    obtain ⟨W0, hW0⟩ : ∃ W0, allocsL W3 [([.slice A n cap], 22), (cs0, 28), ([.int .i64 zz], 3)] = W0 := ⟨_, rfl⟩
    rw [hW0] at v1 v2 v3 ⊢
    clear hW0
    have vp := v3 0 _ rfl
    have vs := v3 1 _ rfl
    have vn := v3 2 _ rfl
    rw [HLT2.out.2] at v1 v2 vp vs vn ⊢
    have v1' : W0.heap.size = b8 + 5 := v1
    have y6 := X6.out.below v2 (by have := HLT2.out.1; omega)
    have y8 := X8.out.below v2 (by omega)
    have y9 := X9.out.below v2 (by omega)
    have yK := KB.out.trans (v2.mono (by have := HLT2.out.1; omega))
    have hlt8 := HLT2.out.1
    clear X6 X8 X9 KB v1 v3 HGO
    refine wpIn_range_all (by omega) rfl (enters_of Tryz.func14 (by kernel_rfl) rfl) (fun _ => rfl) (show b8 + 1 + 1 + 1 < W0.heap.size by omega)
      (going1_all 5 (by omega) (b8 + 1 + 1 + 1 + 1) (b8 + 1 + 1 + 1) (b8 + 1 + 1) A n cap zs s0 zz w.heap.size (b8 + 1 + 1) (b8 + 5) W0 hn hz hok0 (by omega) (by omega) (by omega) (by omega) (by omega) (by omega) (by omega)
        (vn.2.1 0 _ rfl) (by rw [hcs0]; exact vs) (vp.2.1 0 _ rfl) (HT.out.below yK hg) hg (HA.out.below yK) hAl)
      (fun W hb => Stay.of_below hb (fun k hk _ => hk)) (fun h k => h.trans k) (fun W l o hl => stay_put W l o (by omega))
      (fun pre W => (∃ v, Blk W (b8 + 1) [v] ∧ W.ownsRow W0.heap.size 40 9 v pre.length (stepCells (pre.map (·.2)))) ∧ Blk W b8 (sqC (lastS s0 pre)) ∧ Blk W w.heap.size z35 ∧ Below w.heap.size w W ∧ W0.heap.size ≤ W.heap.size)
      ?hI ?hIp ?h0 ?hround ?hdone
    case hI =>
      rintro pre A' B' ⟨⟨v, h1, h2⟩, h3, h4, h5, h6⟩ hs
      exact ⟨⟨v, hs.blk h1 (by omega), own_stay h2 hs (fun k hk => by omega)⟩, hs.blk h3 (by omega), hs.blk h4 (by omega), h5.trans (hs.below h5.size (fun k hk => by omega)), Nat.le_trans h6 hs.size⟩
    case hIp =>
      rintro pre A' l o o' hl hlo ho ⟨⟨v, h1, h2⟩, h3, h4, h5, h6⟩
      exact ⟨⟨v, h1.put (by omega), own_put h2 hlo ho⟩, h3.put (by omega), h4.put (by omega), h5.trans (below_put _ _ _ (by omega)), by rw [World.putObj_size]; exact h6⟩
    case h0 => exact ⟨⟨_, y9, World.ownsRow_nil _ _ _ _⟩, by rw [show lastS s0 [] = s0 from rfl, hcs0]; exact y8, y6, yK, Nat.le_refl _⟩
    case hround =>
      rintro pre ⟨xs, xt⟩ W ⟨⟨v, h1, h2⟩, h3, h4, h5, h6⟩ hpre ⟨r0, hlr⟩ K hK
      have hlt := (Array.getElem?_eq_some_iff.1 hlr).1
      have hokx : sqOK xs := pairS_ok _ hok0 (xs, xt) (hpre.subset (by simp))
      have HPR := Lib.hid (fun x (hx : x ∈ pre) => pairS_ok _ hok0 x (hpre.subset (by simp [hx])))
      have hlen : pre.length + 1 ≤ 10000 := by
        have e1 := hpre.length_le
        have e2 := pairS_len zs (zz : Int).toNat s0
        rw [List.length_append, List.length_singleton] at e1
        omega
      obtain ⟨cx, hcx⟩ : ∃ cx, sqC xs = cx := ⟨_, rfl⟩
      have hlx : cx.length = 35 := by rw [← hcx]; exact sqC_len hokx.2.1
      have hox := sqC_one xs
      rw [hcx] at hox
      have hvx : sqV xs = .agg cx.toArray := by rw [← hcx]; rfl
      have IX := Lib.hid (show (Tryz.prog.info? 28).map (·.size) = some cx.length by rw [hlx]; exact sq_info)
      have OX := Lib.hid hox
      have LX := Lib.hid hlx
      obtain ⟨es, hes⟩ : ∃ es, stC xt = es := ⟨_, rfl⟩
      have hle : es.length = 9 := by rw [← hes]; rfl
      have hoe := stC_one xt
      rw [hes] at hoe
      have hve : stV xt = .agg es.toArray := by rw [← hes]; rfl
      have IE := Lib.hid (show (Tryz.prog.info? 40).map (·.size) = some es.length by rw [hle]; exact st_info)
      have OE := Lib.hid hoe
      have LE := Lib.hid hle
      have HES := Lib.hid hes
      clear hle hoe hes
      unfold encQ
      rw [zip2]
      simp only [hvx, hve, List.setIfInBounds_toArray, List.set_cons_succ, List.set_cons_zero]
      clear hox hlx hvx
      refine wpIn_seq_k fun K1 hK1 => ?_
      refine wpIn_region_round rfl (fun ⟨_, _, h⟩ => h) ?_
      go_wp2_with (refine wpList_store_new rfl 28 (.tmp 10) (.tmp 20) rfl W.heap.size rfl _ cx _ rfl rfl (by rw [LX.out]; rfl) IX.out OX.out ?_; intro V1 vb1 vB1 vs1)
      refine wpIn_region_round rfl (fun ⟨_, _, h⟩ => h) ?_
      rw [v1'] at hlr hlt h2 h6 hK
      have VL := Lib.hid hlt
      have VS := Lib.hid (show W.heap.size < V1.heap.size from vB1.1)
      clear vs1
      go_wp2_with (refine wpList_store_new rfl 40 (.tmp 11) (.tmp 21) rfl V1.heap.size rfl _ es _ rfl rfl (by rw [LE.out]; rfl) IE.out OE.out ?_; intro V2 vb2 vB2 vs2)
      have bw : RowKit.Below W.heap.size W V2 := vb1.trans (vb2.mono vb1.size)
      have bx := vB1.below vb2 vB1.1
      refine hK _ _ (keeps_of_below' bw) (Stay.of_below bw (fun k hk _ => hk)) fun r => ?_
      have g1 := (h1.below bw h1.1).put (l := b8 + 5 + 1) (o := .loop r) (by omega)
      have g2 := own_put (o' := .loop r) (own_stay h2 (Stay.of_below (K := fun _ => True) bw (fun k hk _ => hk)) (fun _ _ => trivial)) ((bw.block _ hlt).trans hlr) rfl
      have g3 := (h3.below bw h3.1).put (l := b8 + 5 + 1) (o := .loop r) (by omega)
      have g4 := (h4.below bw h4.1).put (l := b8 + 5 + 1) (o := .loop r) (by omega)
      have g5 := (h5.trans (bw.mono h5.size)).trans (below_put V2 (b8 + 5 + 1) (.loop r) (by omega))
      have g6 : b8 + 5 ≤ (V2.putObj (b8 + 5 + 1) (.loop r)).heap.size := by rw [World.putObj_size]; exact Nat.le_trans h6 bw.size
      have gx := bx.put (l := b8 + 5 + 1) (o := .loop r) (by have := VL.out; omega)
      have gt := vB2.put (l := b8 + 5 + 1) (o := .loop r) (by have := VL.out; have := VS.out; omega)
      rw [← HES.out] at gt
      generalize V2.putObj (b8 + 5 + 1) (.loop r) = V at *
      have G1 := Lib.hid g1
      have G2 := Lib.hid g2
      have G3 := Lib.hid g3
      have G4 := Lib.hid g4
      have G5 := Lib.hid g5
      have GX := Lib.hid gx
      have GT := Lib.hid gt
      have G6 := Lib.hid g6
      have HLN := Lib.hid hlen
      clear h1 h2 h3 h4 h5 h6 bw bx vb1 vB1 vb2 vB2 vs2 hpre hlr hlt hK g1 g2 g3 g4 g5 g6 gx gt hlen y6 y8 y9 yK vp vs vn v2
      have hl8 : (sqC (lastS s0 pre)).length = 35 := sqC_len (lastS_ok pre hok0 HPR.out).2.1
      have L8 := Lib.hid (show (sqC (lastS s0 pre)).length = cx.toArray.size by rw [hl8, List.size_toArray, LX.out])
      clear hl8
      refine wpIn_block_k ?_
      refine wpIn_seq_k fun K2 hK2 => ?_
      refine wpIn_region_round rfl (fun ⟨_, _, h⟩ => by cases h.1) ?_
      go_wp2_with (first
        | (refine wpList_load_mid rfl 28 (.tmp 10) rfl _ 0 rfl cx _ GX.out.range Tryz.underlying28 rfl IX.out ?_)
        | (refine wpList_store_blkS rfl 28 (.tmp 8) (.tmp 22) rfl b8 _ cx G3.out L8.out rfl rfl IX.out OX.out ?_; intro V3 c1 c2 c3))
      refine wpIn_region_round rfl (fun ⟨_, _, h⟩ => by cases h.1) ?_
      have u1 := c2 _ _ (by omega) G1.out
      have u4 := c2 _ _ (by omega) G4.out
      have ut := c2 _ _ (by have := VL.out; have := VS.out; omega) GT.out
      have uo := own_stay G2.out c3 (fun k hk => by omega)
      have k1 := keeps_stay (B := b8 + 5) c3 (by omega)
      have u5 := G5.out.trans (c3.below G5.out.size (fun k hk => by omega))
      have u6 : b8 + 5 ≤ V3.heap.size := Nat.le_trans G6.out c3.size
      have q1 := u1.2.1 0 _ rfl
      have e1 := u1.2.2 0 (by simp)
      have U1 := Lib.hid u1
      have U4 := Lib.hid u4
      have UT := Lib.hid ut
      have UO := Lib.hid uo
      have U5 := Lib.hid u5
      have U6 := Lib.hid u6
      have U8 := Lib.hid c1
      have US := Lib.hid c3
      have UK := Lib.hid k1
      clear u1 u4 ut uo u5 u6 c1 c2 c3 k1 G1 G2 G3 G4 G5 G6 GX GT
      simp only [stC] at UT
      go_wp2_with (first
        | (refine wpList_load_mid rfl 40 (.tmp 11) rfl _ 0 rfl _ _ UT.out.range Tryz.underlying40 rfl st_info ?_)
        | (at_builtin
           refine wpList_append_own _ rfl (.tmp 23) (.tmp 25) 29 rfl (b8 + 5) 40 i0 _ 9 56 Tryz.underlying29 hi hz0 hz1' hz2 rfl (by decide) _ _ _ rfl (UO.out.alloc _) ⟨V3.heap.size, 0, none⟩ 1 1 (stC xt) rfl rfl (cell_newL _ _ _) (stC_one' _) (by unfold maxLen; have := HLN.out; omega) (by have := HLN.out; omega) (by simp; have := U6.out; omega) ?_
           intro v' V5 hown5 hgrow5 hnil5
           have s5 : Stay (fun k => k < b8 + 5) V3 V5 := (Stay.of_below ((RowKit.Below.refl _ V3).alloc (Nat.le_refl _) _) (fun k hk _ => hk)).trans (stay_grown hgrow5 (fun j hj => by have := (UO.out.lt j hj).1; omega))
           have k5 : KeepsFrom (b8 + 5) V3 V5 := (keeps_of_below' ((RowKit.Below.refl _ V3).alloc (Nat.le_refl _) _)).trans (KeepsFrom.cells_row hgrow5 (own_cells (UO.out.alloc _)))
           have b5 := s5.blk U1.out (by omega)
           have r5 := b5.2.1 0 _ rfl
           have f5 := b5.2.2 0 (by simp)
           obtain ⟨A5, c5, rfl, hf1, hf2, hf3⟩ := own_form hown5
           have S5 := Lib.hid s5
           have K5 := Lib.hid k5
           have B5 := Lib.hid b5
           have O5 := Lib.hid hown5
           clear s5 k5 b5 hown5 hgrow5 hnil5 hf1 hf2 hf3))
      have x8 := (S5.out.blk U8.out (by omega)).other (p := ⟨b8 + 1, 0, none⟩) (v := .slice A5 (pre.length + 1) c5) (by simp)
      have x4 := (S5.out.blk U4.out (by omega)).other (p := ⟨b8 + 1, 0, none⟩) (v := .slice A5 (pre.length + 1) c5) (by simp <;> omega)
      have x1 := (B5.out).set (i := 0) (v := .slice A5 (pre.length + 1) c5) (by simp)
      have sc := Stay.setCell (K := (· ≠ b8 + 1)) V5 ⟨b8 + 1, 0, none⟩ (.slice A5 (pre.length + 1) c5) (by simp)
      refine ⟨by first | trivial | rfl, (UK.out.trans K5.out).trans (keeps_stay sc (by omega)), (US.out.mono (fun k _ hk => by omega)).trans ((S5.out.mono (fun k _ hk => by omega)).trans (sc.mono (fun k _ hk => by omega))), ⟨_, x1, ?_⟩, ?_, x4, ?_, ?_⟩
      · rw [List.map_append, List.length_append, show List.map (fun x : Sq × St => x.2) [(xs, xt)] = [xt] from rfl, stepCells_snoc]
        exact own_stay O5.out sc (fun k hk => by omega)
      · rw [lastS_snoc, hcx]
        exact x8
      · exact U5.out.trans ((S5.out.below U5.out.size (fun k hk => by omega)).trans (sc.below (Nat.le_trans U5.out.size S5.out.size) (fun k hk => by omega)))
      · exact Nat.le_trans U6.out (Nat.le_trans S5.out.size sc.size)
    case hdone =>
      rintro D W hD ⟨⟨v, h1, h2⟩, h3, h4, h5, h6⟩ hd
      rw [lastS_pairS] at h3
      have hst := pairS_steps zs (zz : Int).toNat s0
      have hln : (pairS zs (zz : Int).toNat s0).length = (runS zs (zz : Int).toNat s0).2.length := by rw [← hst, List.length_map]
      rw [hst, hln] at h2
      have hokR := runS_ok (zs := zs) (zz : Int).toNat hok0
      obtain ⟨R, hR⟩ : ∃ R, runS zs (zz : Int).toNat s0 = R := ⟨_, rfl⟩
      rw [hR] at h2 h3 hokR
      obtain ⟨cr, hcr⟩ : ∃ cr, sqC R.1 = cr := ⟨_, rfl⟩
      rw [hcr] at h3
      have hlr : cr.length = 35 := by rw [← hcr]; exact sqC_len hokR.2.1
      have hor := sqC_one R.1
      rw [hcr] at hor
      have IR := Lib.hid (show (Tryz.prog.info? 28).map (·.size) = some cr.length by rw [hlr]; exact sq_info)
      have OR := Lib.hid hor
      have LR := Lib.hid hlr
      have HR := Lib.hid hR
      have HCR := Lib.hid hcr
      obtain ⟨A9, c9, rfl, w1', w2', w3'⟩ := own_form h2
      have q9 := stW_cell (h1.2.1 0 _ rfl) w.heap.size cr w.heap.size cr (by show b8 + 1 ≠ w.heap.size; omega) (by show b8 + 1 ≠ w.heap.size; omega)
      have XK := Lib.hid (h3.stage w.heap.size cr w.heap.size cr (by omega) (by omega))
      clear hor hlr hcr hst hln hok0 hokR
      have O2 := Lib.hid h2
      have O3 := Lib.hid h3
      have O4 := Lib.hid h4
      have O5 := Lib.hid h5
      have O6x := Lib.hid h6
      have OD := Lib.hid hd
      have ODl := Lib.hid hD
      have OW := Lib.hid (And.intro w1' (And.intro w2' w3'))
      have OV := Lib.hid v1'
      have H8 := Lib.hid hlt8
      clear h1 h2 h3 h4 h5 h6 hd hD w1' w2' w3' hR v1' v2 vp vs vn y6 y8 y9 yK
      dsimp only
      go_upto_region 8 with fail
      refine wp_region_one [] [0, 1] 2 3 _ _ w.heap.size z35 cr 28 (.tmp 6) (.tmp 27) (.tmp 28) (some 7) (.slice A9 R.2.length c9) (by kernel_rfl) (by kernel_rfl) rfl rfl rfl ⟨rfl, rfl, rfl⟩ ⟨rfl, rfl, rfl⟩ O4.out (by rw [LR.out]; rfl) IR.out OR.out ?_
      simp only [opsAt, List.getElem?_toArray, List.getElem?_cons_zero, List.getElem?_cons_succ, Option.toList_some, List.cons_append, List.nil_append]
      refine wpQuiet_next ?_
      go_big_quiet_want
      refine quiet_load_stage 28 (.tmp 8) rfl _ rfl cr _ XK.out Tryz.underlying28 rfl IR.out ?_
      simp only [Act.put, List.setIfInBounds_toArray, List.set_cons_succ, List.set_cons_zero]
      go_big_quiet_on
      go_big_quiet_step (fail)
      refine wpQuiet_nil ?_
      refine ⟨⟨rfl, rfl, rfl⟩, fun w9 n1 n2 n3 n4 n5 => ?_⟩
      go_wp2
      have hDl := ODl.out
      have hv := OV.out
      have h8 := H8.out
      have hd9 := n4 D _ (by omega) OD.out
      have st9 : Stay (· ≠ w.heap.size) W w9 := ⟨(n5 0 (by omega)).os, (n5 0 (by omega)).tape, (n5 0 (by omega)).output, (n5 0 (by omega)).size, fun k hk hne => by rw [n4 k _ hne (Array.getElem?_eq_getElem hk), Array.getElem?_eq_getElem hk]⟩
      have r9 := own_put (o' := .deferred none) (own_stay O2.out st9 (fun k hk => by omega)) hd9 rfl
      obtain ⟨A', c', e9, e1, e2, e3⟩ := RowsAt.own r9 (by rw [List.length_map]) stC_len
      injection e9 with e9 _ e10
      subst e9 e10
      refine ⟨by simp, .inl ⟨D, _, rfl, run_takeDeferred hd9, ?_⟩⟩
      refine ⟨.tuple #[.agg cr.toArray, .slice A9 R.2.length c9], ?_, ?_⟩
      · exact results_cell_slot rfl _ _ w.heap.size cr _ _ rfl rfl (n1.put (by omega)) Tryz.underlying28 rfl IR.out
      · refine ⟨A9, c9, by rw [HR.out, show sqV R.1 = .agg cr.toArray by rw [← HCR.out]; rfl], by rw [HR.out]; exact e1, e2, by rw [HR.out]; exact e3, fun a ha => ?_, ?_, W0.heap.size, by omega, by rw [World.putObj_size]; exact Nat.le_trans O6x.out st9.size, ?_⟩
        · have := OW.out.2.2 a ha
          omega
        · exact (O5.out.trans (n5 _ (Nat.le_refl _))).trans (below_put _ _ _ (by omega))
        · rw [HR.out]; exact r9
theorem run_any (A : Option Addr) (n cap : Nat) (zs : List Int) (m : ByteArray) (z : Int) (hn : n ≤ 200) (hz : ∀ z ∈ zs, 0 ≤ z ∧ z < 4294967296) (hm : m.size ≤ 1000) (hz1 : z ≤ 9223372036854775807) (w : World) (ht : TabIs w) (hg : 0 < w.heap.size) (h : IntsAt w A n .u32 zs) :
    Calls Tryz.prog 5 #[.slice A n cap, .string m, .int .i64 z] w fun r w' => ∃ (B : Option Addr) (c' : Nat), r = .returned (.tuple #[sqV (runR zs m z).1, .slice B (runR zs m z).2.length c']) ∧ (runR zs m z).2.length ≤ c' ∧ c' ≤ maxLen ∧ StepsAt w' B (runR zs m z).2.length (runR zs m z).2 ∧ (∀ a, B = some a → w.heap.size ≤ a.block) ∧ Below w.heap.size w w' :=
  (run_own A n cap zs m z hn hz hm hz1 w ht hg h).mono fun r w' ⟨B, c', h1, h2, h3, h4, h5, h6, _⟩ => ⟨B, c', h1, h2, h3, h4, h5, h6⟩
end Go.Proofs.YtkamljmopbocnaaGreatDoor

/- WHAT THE LAWS OF LAYER 6 WANT: what a run keeps; how it ends; equality of states and steps; what is cut short; alive. -/
namespace Go.Proofs.YtkamljmopbocnaaGreatDoor
open Go.ChangeShapes Go.WideShapes Go.ChangeAt Go.RowKit Go.Sort
set_option linter.unusedVariables false
set_option linter.unusedSimpArgs false
set_option maxHeartbeats 2000000
set_option maxRecDepth 100000

/-- a step tells whether it halts, and where -/
theorem wrote_halt (s : Sq) (op rd next value : Int) (t : St) (h : t.halt = 0) (hs : s.halt = 0) : (wrote s op rd next value t).2.halt = 0 ∧ (wrote s op rd next value t).1.halt = 0 := ⟨h, hs⟩
theorem doS_halt {s : Sq} (hs : s.halt = 0) (i : Ins) : (doS s i).2.halt = (doS s i).1.halt ∧ ((doS s i).1.halt ≠ 0 → (doS s i).2.pc = (doS s i).1.pc ∧ (doS s i).2.next = (doS s i).1.pc) := by
  unfold doS
  simp only
  split
  · unfold accS
    split
    · exact ⟨rfl, fun _ => ⟨rfl, rfl⟩⟩
    · split
      · exact ⟨hs.symm, fun h => absurd hs h⟩
      · exact ⟨hs.symm, fun h => absurd hs h⟩
  · split
    · split
      · exact ⟨hs.symm, fun h => absurd hs h⟩
      · exact ⟨rfl, fun _ => ⟨rfl, rfl⟩⟩
    · split
      · exact ⟨hs.symm, fun h => absurd hs h⟩
      · exact ⟨hs.symm, fun h => absurd hs h⟩
theorem stepS_halt {zs : List Int} {s : Sq} (hs : s.halt = 0) : (stepS zs s).2.halt = (stepS zs s).1.halt ∧ ((stepS zs s).1.halt ≠ 0 → (stepS zs s).2.pc = (stepS zs s).1.pc ∧ (stepS zs s).2.next = (stepS zs s).1.pc) := by
  unfold stepS
  rw [if_neg (by simp [hs])]
  split
  · exact ⟨rfl, fun _ => ⟨rfl, rfl⟩⟩
  · exact doS_halt hs _
/-- a run that halted, halted at its last step -/
theorem runS_last {zs : List Int} : ∀ (n : Nat) {s : Sq}, s.halt = 0 → (runS zs n s).1.halt ≠ 0 → ∃ ini t, (runS zs n s).2 = ini ++ [t] ∧ t.halt = (runS zs n s).1.halt ∧ t.pc = (runS zs n s).1.pc ∧ t.next = (runS zs n s).1.pc ∧ ∀ x ∈ ini, x.halt = 0
  | 0, s, hs, h => absurd hs h
  | n + 1, s, hs, h => by
    rw [runS_goes zs n s hs] at h ⊢
    obtain ⟨h1, h2⟩ := stepS_halt (zs := zs) hs
    by_cases h0 : (stepS zs s).1.halt = 0
    · obtain ⟨ini, t, e1, e2, e3, e4, e5⟩ := runS_last n h0 h
      refine ⟨(stepS zs s).2 :: ini, t, by simp [e1], e2, e3, e4, fun x hx => ?_⟩
      rcases List.mem_cons.1 hx with rfl | hx
      · exact h1.trans h0
      · exact e5 x hx
    · rw [runS_halted zs n _ h0]
      exact ⟨[], (stepS zs s).2, rfl, h1, (h2 h0).1, (h2 h0).2, fun x hx => by cases hx⟩
theorem runS_alive {zs : List Int} : ∀ (n : Nat) {s : Sq}, s.halt = 0 → (runS zs n s).1.halt = 0 → ∀ x ∈ (runS zs n s).2, x.halt = 0
  | 0, s, hs, h, x, hx => by cases hx
  | n + 1, s, hs, h, x, hx => by
    rw [runS_goes zs n s hs] at h hx
    obtain ⟨h1, _⟩ := stepS_halt (zs := zs) hs
    have h0 : (stepS zs s).1.halt = 0 := Classical.byContradiction fun h0 => by rw [runS_halted zs n _ h0] at h; exact h0 h
    rcases List.mem_cons.1 hx with rfl | hx
    · exact h1.trans h0
    · exact runS_alive n h0 h x hx
/-- register 0 and the memory's size -/
def kept (s s' : Sq) : Prop := s'.regs.getD 0 0 = s.regs.getD 0 0 ∧ s'.mem.size = s.mem.size
theorem wrote_kept (s : Sq) (op rd next value : Int) (t : St) (hw : 0 ≤ wrI op rd) : kept s (wrote s op rd next value t).1 := by
  refine ⟨?_, rfl⟩
  show (if wrI op rd = 0 then s.regs else s.regs.set (wrI op rd).toNat value).getD 0 0 = _
  split
  · rfl
  · rw [List.getD_eq_getElem?_getD, List.getElem?_set_ne (by omega), List.getD_eq_getElem?_getD]
theorem stoS_is (b n : Int) (h : n = 1 ∨ n = 2 ∨ n = 4) : ((stoS b n).size : Int) = n := by
  unfold stoS
  rw [if_pos (by omega)]
  have h1 : (strOfNums (bytL b n.toNat)).size = n.toNat := by simp [strOfNums, bytL, ByteArray.size]
  omega
theorem doS_kept {s : Sq} (h : sqOK s) {i : Ins} (hi : insOK i) : kept s (doS s i).1 := by
  have hw := hi.2.2.2.2.2.1.1
  unfold doS
  simp only
  split
  · unfold accS
    split
    · exact ⟨rfl, rfl⟩
    · rename_i hr
      have hr' : rtB s.mem.size ((rg s.regs i.rs1 + i.imm) % 4294967296) (sizeOp i.op) = true := by simpa using hr
      split
      · have h1 := wrote_kept { s with mem := (if rtB s.mem.size ((rg s.regs i.rs1 + i.imm) % 4294967296) (stoS (rg s.regs i.rs2) (sizeOp i.op)).size then wrS s.mem (stoS (rg s.regs i.rs2) (sizeOp i.op)) ((rg s.regs i.rs1 + i.imm) % 4294967296).toNat else ByteArray.empty) } i.op i.rd ((s.pc + 4) % 4294967296) 0 ⟨0, 0, 0, stoV (rg s.regs i.rs2) (sizeOp i.op), (rg s.regs i.rs1 + i.imm) % 4294967296, sizeOp i.op, true, 0, 0⟩ hw
        refine ⟨h1.1, h1.2.trans ?_⟩
        have e := stoS_is (rg s.regs i.rs2) (sizeOp i.op) (rtB_facts hr').1
        exact (store_size s.mem (stoS (rg s.regs i.rs2) (sizeOp i.op)) ((rg s.regs i.rs1 + i.imm) % 4294967296) (by omega)).2 (by rw [e]; exact hr')
      · exact wrote_kept _ _ _ _ _ _ hw
  · split
    · split
      · exact wrote_kept _ _ _ _ _ _ hw
      · exact ⟨rfl, rfl⟩
    · split
      · exact wrote_kept _ _ _ _ _ _ hw
      · exact wrote_kept _ _ _ _ _ _ hw
theorem stepS_kept {zs : List Int} {s : Sq} (h : sqOK s) : kept s (stepS zs s).1 := by
  unfold stepS
  split
  · exact ⟨rfl, rfl⟩
  · split
    · exact ⟨rfl, rfl⟩
    · rename_i hy
      exact doS_kept h (insOf_ok _ (why_zero (by simpa using hy)).2.1)
theorem runS_kept {zs : List Int} : ∀ (n : Nat) {s : Sq}, sqOK s → kept s (runS zs n s).1
  | 0, _, _ => ⟨rfl, rfl⟩
  | n + 1, s, h => by
    by_cases h0 : s.halt = 0
    · rw [runS_goes zs n s h0]
      have h1 := stepS_kept (zs := zs) h
      have h2 := runS_kept (zs := zs) n (stepS_ok (zs := zs) h)
      exact ⟨h2.1.trans h1.1, h2.2.trans h1.2⟩
    · rw [runS_halted zs _ s h0]; exact ⟨rfl, rfl⟩

/-- the same state, the same step -/
theorem eqlIn_regs (X : List Int) (h : X.length = 32) (k : Nat) (w : World) : (Op.equalIn (k + 1 + 1) 26 (.agg (regL X).toArray) (.agg (regL X).toArray)).run Tryz.prog w = .ok true w := by
  rw [Op.equalIn]
  have hs : ∀ w, (sizeOf 25).run Tryz.prog w = .ok 1 w := fun w => by kernel_rfl
  simp only [Sem.run_bind, run_underlying Tryz.underlying26, Result.andThen_ok, hs, Std.Legacy.Range.forIn_eq_forIn_range', Std.Legacy.Range.size, Nat.sub_zero, Nat.add_sub_cancel, Nat.div_one]
  have hl : ∀ i ∈ List.range' 0 32 1, i < 32 := fun i hi => by simpa using (List.mem_range'_1.1 hi).2
  generalize List.range' 0 32 1 = l at hl ⊢
  induction l with
  | nil => simp
  | cons i l ih =>
    have hi : i < 32 := hl i (by simp)
    obtain ⟨z, hz⟩ : ∃ z, X[i]? = some z := ⟨_, List.getElem?_eq_getElem (by omega)⟩
    have hp : (part 25 (regL X).toArray (i * 1)).run Tryz.prog w = .ok (.int .u32 z) w := by
      rw [Nat.mul_one]
      simp [part, isAgg, run_underlying Tryz.underlying25, regL, hz]
    have he : (Op.equalIn (k + 1) 25 (.int .u32 z) (.int .u32 z)).run Tryz.prog w = .ok true w := by
      rw [run_equalIn_int w k 25 .u32 .u32 _ _ Tryz.underlying25]
      simp
    simp only [List.forIn_cons, Sem.run_bind, hp, he, Result.andThen_ok, Bool.not_true, Bool.false_eq_true, if_false, Sem.run_pure]
    exact ih fun j hj => hl j (by simp [hj])
theorem eql_st (s : St) (w : World) : (Op.equalIn 10000 40 (.agg (stC s).toArray) (.agg (stC s).toArray)).run Tryz.prog w = .ok true w := by
  obtain ⟨pc, nx, rd, va, ad, si, so, ha, tk⟩ := s
  unfold stC
  rw [show (10000 : Nat) = 9999 + 1 from rfl, run_equalIn_agg w 9999 40 _ _ (by kernel_rfl) (by kernel_rfl)]
  simp only [Program.fieldsOf, Tryz.underlying40]
  go_simp
theorem h32 (w : World) : (sizeOf 26).run Tryz.prog w = .ok 32 w := by kernel_rfl
theorem p0 (s : Sq) (w : World) : (part 25 (sqC s).toArray 0).run Tryz.prog w = .ok (.int .u32 s.pc) w := by simp [part, isAgg, run_underlying Tryz.underlying25, sqC_pc]
theorem p1 (s : Sq) (h : s.regs.length = 32) (w : World) : (part 26 (sqC s).toArray 1).run Tryz.prog w = .ok (.agg (regL s.regs).toArray) w := by
  have hR : List.take 32 (sqC s).tail = regL s.regs := by
    unfold sqC
    have hl : (regL s.regs).length = 32 := by unfold regL; simp [h]
    simp [hl]
  simp [part, isAgg, run_underlying Tryz.underlying26, h32, hR]
theorem p2 (s : Sq) (h : s.regs.length = 32) (w : World) : (part 9 (sqC s).toArray 33).run Tryz.prog w = .ok (.string s.mem) w := by simp [part, isAgg, run_underlying Tryz.underlying9, sqC_mem h]
theorem p3 (s : Sq) (h : s.regs.length = 32) (w : World) : (part 3 (sqC s).toArray 34).run Tryz.prog w = .ok (.int .i64 s.halt) w := by simp [part, isAgg, run_underlying Tryz.underlying3, sqC_halt h]
theorem q0 (s : Sq) (k : Nat) (w : World) : (Op.equalIn (k + 1 + 1) 25 (.int .u32 s.pc) (.int .u32 s.pc)).run Tryz.prog w = .ok true w := by
  rw [run_equalIn_int w (k + 1) 25 .u32 .u32 _ _ Tryz.underlying25]; simp
theorem q3 (s : Sq) (k : Nat) (w : World) : (Op.equalIn (k + 1 + 1) 3 (.int .i64 s.halt) (.int .i64 s.halt)).run Tryz.prog w = .ok true w := by
  rw [run_equalIn_int w (k + 1) 3 .i64 .i64 _ _ Tryz.underlying3]; simp
theorem q2 (s : Sq) (k : Nat) (w : World) : (Op.equalIn (k + 1 + 1) 9 (.string s.mem) (.string s.mem)).run Tryz.prog w = .ok true w := by
  go_simp
theorem eql_sq_k (s : Sq) (h : s.regs.length = 32) (k : Nat) (w : World) (nm0 nm1 nm2 nm3 g p : String) (b0 b1 b2 b3 : Nat) (h0 : nm0 ≠ "_") (h1 : nm1 ≠ "_") (h2 : nm2 ≠ "_") (h3 : nm3 ≠ "_") :
    (Op.eqFields (k + 1 + 1) (sqC s).toArray (sqC s).toArray [⟨nm0, 25, 0, false, g, p, b0⟩, ⟨nm1, 26, 1, false, g, p, b1⟩, ⟨nm2, 9, 33, false, g, p, b2⟩, ⟨nm3, 3, 34, false, g, p, b3⟩]).run Tryz.prog w = .ok true w := by
  have q1 := eqlIn_regs s.regs h k w
  simp only [Op.eqFields, ne_eq, h0, h1, h2, h3, not_false_eq_true, if_true, Sem.run_bind, p0, p1 s h, p2 s h, p3 s h, q0, q1, q2, q3, Result.andThen_ok, Bool.not_true, Bool.false_eq_true, if_false, Sem.run_pure]
theorem eql_sq (s : Sq) (h : s.regs.length = 32) (w : World) : (Op.equalIn 10000 28 (.agg (sqC s).toArray) (.agg (sqC s).toArray)).run Tryz.prog w = .ok true w := by
  rw [show (10000 : Nat) = 9997 + 1 + 1 + 1 from rfl, run_equalIn_agg w (9997 + 1 + 1) 28 _ _ (by kernel_rfl) (by kernel_rfl)]
  simp only [Program.fieldsOf, Tryz.underlying28]
  exact eql_sq_k s h 9997 w _ _ _ _ _ _ _ _ _ _ (by decide) (by decide) (by decide) (by decide)

theorem below_dr6 (B : Nat) (w : World) (q : Nat) : Below B w (w.drewN q) := ⟨rfl, rfl, rfl, Nat.le_refl _, fun _ _ => rfl⟩
theorem short_any (A : Option Addr) (n c : Nat) (m : ByteArray) (hn : n ≤ c) (hc : c ≤ maxLen) (hm : m.size ≤ maxLen) (w : World) :
    Calls Tryz.prog 4 #[.slice A n c, .string m] w fun e w' => e = .returned (.tuple #[.slice A (min n 64) c, .string (m.extract 0 (min m.size 300))]) ∧ Below w.heap.size w w' := by
  unfold maxLen at hc hm
  obtain ⟨n', hn'⟩ : ∃ k, min n 64 = k := ⟨_, rfl⟩
  obtain ⟨m', hm'⟩ : ∃ k, min m.size 300 = k := ⟨_, rfl⟩
  rw [hn', hm']
  have e1 : (if (64 : Int) < (n : Int) then (64 : Int) else (n : Int)) = (n' : Int) := by split <;> omega
  have e2 : (if (300 : Int) < (m.size : Int) then (300 : Int) else (m.size : Int)) = (m' : Int) := by split <;> omega
  have k1 : n' ≤ 64 := by omega
  have k2 : m' ≤ 300 := by omega
  have k3 : n' ≤ n := by omega
  have k4 : m' ≤ m.size := by omega
  have k5 : (n' : Int) ≤ c := by omega
  have k6 : (m' : Int) ≤ m.size := by omega
  go_enter Tryz.func4, Tryz.ntmps4
  go_wp2
  go_quiet (fail)
  go_wp2_with fail
  go_ret2
  exact ⟨rfl, below_dr6 _ _ _⟩

/-- the function whose answer both laws of the halting run want: a run of the empty program -/
theorem newS_alive : (runS [] 5 (newS ByteArray.empty)).1.halt = 1 ∧ (runS [] 5 (newS ByteArray.empty)).1.mem.size = 16 := by
  decide +kernel
theorem alive06_any (w : World) (htb : TabIs w) (hg : 0 < w.heap.size) : Calls Tryz.prog 7 #[] w fun e w' => e = .returned (.bool true) ∧ Below w.heap.size w w' := by
  have HR := Lib.hid (run_any none 0 0 [] ByteArray.empty 5 (by omega) (by simp) (by decide) (by omega) w htb hg ⟨rfl, fun j x hj => by cases j <;> cases hj⟩)
  have hok : sqOK (runR [] ByteArray.empty 5).1 := runS_ok 5 (newS_ok (by decide))
  have hal : (runR [] ByteArray.empty 5).1.halt = 1 ∧ (runR [] ByteArray.empty 5).1.mem.size = 16 := newS_alive
  obtain ⟨R, hR⟩ : ∃ R, runR [] ByteArray.empty 5 = R := ⟨_, rfl⟩
  rw [hR] at HR hok hal
  obtain ⟨cs, hcs⟩ : ∃ cs, sqC R.1 = cs := ⟨_, rfl⟩
  have hlc : cs.length = 35 := by rw [← hcs]; exact sqC_len hok.2.1
  have hoc := sqC_one R.1
  have c33 := sqC_mem hok.2.1
  have c34 := sqC_halt hok.2.1
  rw [hcs] at hoc c33 c34
  rw [hal.1] at c34
  have hvc : sqV R.1 = .agg cs.toArray := by rw [← hcs]; rfl
  rw [hvc] at HR
  have HI := Lib.hid (show (Tryz.prog.info? 28).map (·.size) = some cs.length by rw [hlc]; exact sq_info)
  have HO := Lib.hid hoc
  have HL := Lib.hid hlc
  have HC := Lib.hid (And.intro c33 c34)
  have HM := Lib.hid hal.2
  have hmem : ((R.1.mem.size : Nat) : Int) = 16 := by rw [hal.2]; rfl
  clear htb hg hok hal hR hcs hlc hoc c33 c34 hvc
  go_enter Tryz.func7, Tryz.ntmps7
  go_wp2_with (first
    | (go_at_call 5; refine HR.out.mono ?_; rintro e w1 ⟨B, c1, rfl, h1, h2, h3, h4, h5⟩; have B1 := Lib.hid h5; clear h1 h2 h3 h4 h5)
    | (refine wpList_store_new rfl 28 (.tmp 1) (.tmp 5) rfl w1.heap.size rfl _ cs _ rfl rfl (by rw [HL.out]; rfl) HI.out HO.out ?_; intro W2 b2 k2 s2
       have p33 := k2.2.1 33 _ HC.out.1
       have p34 := k2.2.1 34 _ HC.out.2
       have B2 := Lib.hid (B1.out.trans (b2.mono B1.out.size))
       clear b2 k2 s2))
  go_ret
  exact ⟨by first | rfl | simp_all, B2.out⟩
theorem wpList_eql_want {P : Program} {ops : Array Oper} {rest : List Oper} {op : Oper} {a : Act} {w : World} {Q : Exit → Act → World → Prop} (ty ty2 : TypeId) (x y : Operand) (ho : op.op = .binOp .eql ty x y ty2) (hw : Region.wanted op (yielded ops a.tmps) = true)
    (u v : Array Value) (hx : a.eval x = .agg u) (hy : a.eval y = .agg v) (r : Bool) (h : ∀ w, (binOp .eql ty (.agg u) (.agg v)).run P w = .ok (.bool r) w)
    (hm : P.eqGuardType P.depth ty = false) (hk : wpList P ops Q rest (a.put op.dst (.bool r)) w) : wpList P ops Q (op :: rest) a w :=
  BigFrame.wpList_want hw fun K hK => Oper.wp_of_quiet (C := fun w' => w' = w) (K := fun a' => K a' w) rfl (fun a' w' e k => by rw [e]; exact k) (quiet_eql ty ty2 x y ho u v hx hy r h hm (hK _ _ hk))
theorem bin_sq (s : Sq) (h : s.regs.length = 32) (w : World) : (binOp .eql 28 (.agg (sqC s).toArray) (.agg (sqC s).toArray)).run Tryz.prog w = .ok (.bool true) w := by
  rw [run_eql_struct, eql_sq s h w]
  rfl
theorem bin_st (s : St) (w : World) : (binOp .eql 40 (.agg (stC s).toArray) (.agg (stC s).toArray)).run Tryz.prog w = .ok (.bool true) w := by
  rw [run_eql_struct, eql_st s w]
  rfl
theorem guard_sq : Tryz.prog.eqGuardType Tryz.prog.depth 28 = false := by kernel_rfl
theorem guard_st : Tryz.prog.eqGuardType Tryz.prog.depth 40 = false := by kernel_rfl
end Go.Proofs.YtkamljmopbocnaaGreatDoor
