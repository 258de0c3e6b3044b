import Derived.Test.YtkamljmopbocnaaDoorOrder
import Derived.Test.YtkamljmopbocnaaDoorOwnB
import Derived.Test.YtkamljmopbocnaaDoorInstRng
import Derived.Test.YtkamljmopbocnaaDoorExecT
import Derived.Test.YtkamljmopbocnaaDoorMemB
import Derived.Test.YtkamljmopbocnaaDoorArgB
import Derived.Deep.QuietTactic
import Derived.BigQuiet
/- A REGION THAT DRAWS ITS ORDER AND WHOSE STORES MAY COME EARLY ('late stores' on one side only): the worlds go by stages, a store leads from one to the next; what may come ahead of a store or behind it has one value at all stages. -/
namespace Go.Proofs.YtkamljmopbocnaaDoor
open Go Go.Sort Go.RowKit
set_option maxRecDepth 100000
set_option linter.unusedVariables false

section
variable {P : Program} {ops : Array Oper} {md : Region.Mode} {C : Nat → World → Prop}

/-- an operation that yields its value in each world of these stages, and stays at its stage -/
def YieldsK (P : Program) (ops : Array Oper) (C : Nat → World → Prop) (S : Nat → Prop) (o : Oper) (v : Value) (a : Act) : Prop := ∀ k, S k → YieldsIn P ops (C k) o v a
/-- an operation that leads from a stage to the next one -/
def loudUpon (C' : World → Prop) (v : Value) : Result Next → Prop
  | .ok (.value u) w' => u = v ∧ C' w'
  | .ok .skip w' => v = undef ∧ C' w'
  | _ => False
def LoudAt (P : Program) (ops : Array Oper) (C : Nat → World → Prop) (k : Nat) (o : Oper) (v : Value) (a : Act) : Prop :=
  Region.wanted o (yielded ops a.tmps) = true ∧ ∀ w, C k w → loudUpon (C (k + 1)) v ((execOp a.eval o).run P w)
theorem YieldsK.of_same {S : Nat → Prop} {o : Oper} {v : Value} {a a' : Act} (hy : YieldsK P ops C S o v a) (he : execOp a'.eval o = execOp a.eval o)
    (hw : Region.wanted o (yielded ops a'.tmps) = Region.wanted o (yielded ops a.tmps)) : YieldsK P ops C S o v a' := fun k hk => (hy k hk).of_same he hw
theorem LoudAt.of_same {k : Nat} {o : Oper} {v : Value} {a a' : Act} (hy : LoudAt P ops C k o v a) (he : execOp a'.eval o = execOp a.eval o)
    (hw : Region.wanted o (yielded ops a'.tmps) = Region.wanted o (yielded ops a.tmps)) : LoudAt P ops C k o v a' := by
  unfold LoudAt at *
  rw [he, hw]
  exact hy

def stg (early : Nat → Bool) (i : Nat) : Nat → Prop := fun k => early i = true → k = 0
def wpAnyK (P : Program) (md : Region.Mode) (ops : Array Oper) (C : Nat → World → Prop) (early loud : Nat → Bool) (Q : Nat → Act → Prop) : Nat → Array Bool → Nat → Act → Prop
  | 0, listed, k, a => Region.ready md ops listed = [] ∧ Q k a
  | f + 1, listed, k, a => (Region.ready md ops listed = [] → Q k a) ∧ ∀ i ∈ Region.ready md ops listed, ∀ o, ops[i]? = some o → ∃ v,
      if loud i = true then LoudAt P ops C k o v a ∧ wpAnyK P md ops C early loud Q f (listed.setIfInBounds i true) (k + 1) (a.put o.dst v)
      else (early i = true → k = 0) ∧ YieldsK P ops C (stg early i) o v a ∧ wpAnyK P md ops C early loud Q f (listed.setIfInBounds i true) k (a.put o.dst v)

theorem wpAny_of_K {early loud : Nat → Bool} {Q : Nat → Act → Prop} {Q' : Exit → Act → World → Prop} (hQ : ∀ k a w, C k w → Q k a → Q' .normal a w) :
    ∀ (f : Nat) (listed : Array Bool) (k : Nat) (a : Act) (w : World), C k w → wpAnyK P md ops C early loud Q f listed k a → wpAny P md ops Q' f listed a w
  | 0, _, _, _, _, hw, h => ⟨h.1, hQ _ _ _ hw h.2⟩
  | f + 1, listed, k, a, w, hw, h => ⟨fun h0 => hQ _ _ _ hw (h.1 h0), fun i hi => by
      obtain ⟨_, o, ho, _⟩ := mem_ready.1 hi
      obtain ⟨v, hv⟩ := h.2 i hi o ho
      unfold wpOp
      simp only [ho]
      by_cases hl : loud i = true
      · rw [if_pos hl] at hv
        obtain ⟨⟨hwt, hr⟩, hK⟩ := hv
        rw [if_pos hwt]
        refine .inl ?_
        have h3 := hr w hw
        unfold Oper.wp
        generalize (execOp a.eval o).run P w = r at *
        cases r with
        | ok n w' =>
          cases n <;> simp only [loudUpon] at h3 <;> simp only [Oper.upon]
          case value u =>
            obtain ⟨e1, e2⟩ := h3
            rw [e1]
            exact wpAny_of_K hQ f _ _ _ _ e2 hK
          case skip =>
            obtain ⟨e1, e2⟩ := h3
            rw [← e1]
            exact wpAny_of_K hQ f _ _ _ _ e2 hK
        | halt x w' => simp only [loudUpon] at h3
      · rw [if_neg hl] at hv
        obtain ⟨he, hy, hK⟩ := hv
        rcases hy k he with ⟨hwt, hr⟩ | ⟨hwt, rfl⟩
        · rw [if_pos hwt]
          exact .inl (Oper.wp_of_quiet (K := wpAnyK P md ops C early loud Q f (listed.setIfInBounds i true) k) hw (fun a w' hw' h => wpAny_of_K hQ f _ _ _ _ hw' h) ⟨v, hr, hK⟩)
        · rw [if_neg (by rw [hwt]; exact Bool.false_ne_true)]
          exact wpAny_of_K hQ f _ _ _ _ hw hK⟩

/-- what is listed has what it waits for listed -/
structure ClosedB (md : Region.Mode) (ops : Array Oper) (listed : Array Bool) : Prop where
  size : listed.size = ops.size
  closed : ∀ j oj, ops[j]? = some oj → listed.getD j false = true → ∀ e ∈ oj.after, Region.binds md e = true → listed.getD e.on false = true
theorem ClosedB.set {i : Nat} {listed : Array Bool} (inv : ClosedB md ops listed) (hi : i ∈ Region.ready md ops listed) : ClosedB md ops (listed.setIfInBounds i true) := by
  obtain ⟨_, oi, hoi, hall⟩ := mem_ready.1 hi
  refine ⟨by simp [inv.size], fun j oj hj hl e he hb => ?_⟩
  by_cases hij : i = j
  · subst hij
    have : oj = oi := Option.some.inj (hj.symm.trans hoi)
    subst this
    exact getD_set_true (hall e he hb)
  · rw [getD_set_ne false hij] at hl
    exact getD_set_true (inv.closed j oj hj hl e he hb)
theorem ready_lt {i : Nat} {listed : Array Bool} (hi : i ∈ Region.ready md ops listed) : i < ops.size := by
  obtain ⟨_, oi, hoi, _⟩ := mem_ready.1 hi
  exact (Array.getElem?_eq_some_iff.1 hoi).1
/-- what waits for something that is not listed is not listed, nor ready -/
theorem waits_un {i j : Nat} {listed : Array Bool} (inv : ClosedB md ops listed) (hw : Region.waitsFor md ops j i = true) (hun : listed.getD i true = false) : listed.getD j true = false ∧ j ∉ Region.ready md ops listed := by
  obtain ⟨oj, hoj, e, he, hb, hon⟩ := Region.waitsFor_spec hw
  have hjs : j < listed.size := by rw [inv.size]; exact (Array.getElem?_eq_some_iff.1 hoj).1
  refine ⟨?_, fun hr => ?_⟩
  · cases hl : listed.getD j false with
    | true =>
      have h2 := inv.closed j oj hoj hl e he hb
      rw [hon, getD_both hun] at h2
      cases h2
    | false => exact getD_in hjs hl
  · obtain ⟨_, o', ho', hall⟩ := mem_ready.1 hr
    have : o' = oj := Option.some.inj (ho'.symm.trans hoj)
    subst this
    have h2 := hall e he hb
    rw [hon, getD_both hun] at h2
    cases h2
theorem chain_un {listed : Array Bool} (inv : ClosedB md ops listed) : ∀ (t : Nat) (r : List Nat), chainT md ops (t :: r) = true → listed.getD t true = false → ∀ x ∈ r, listed.getD x true = false ∧ x ∉ Region.ready md ops listed
  | _, [], _, _, x, hx => by cases hx
  | t, b :: r, hc, hun, x, hx => by
    simp only [chainT, Bool.and_eq_true] at hc
    have hb := waits_un inv hc.1 hun
    rcases List.mem_cons.1 hx with rfl | hx
    · exact hb
    · exact chain_un inv b r hc.2 hb.1 x hx
/-- each early operation is waited for, in the end by the first loud one -/
def sinkE (md : Region.Mode) (ops : Array Oper) (early : List Nat) (t0 : Nat) : Bool :=
  early.all fun i => decide (i < ops.size) && (early.any (fun j => decide (i < j) && Region.waitsFor md ops j i) || Region.waitsFor md ops t0 i)
theorem sink_un {early : List Nat} {t0 : Nat} {r : List Nat} {listed : Array Bool} (hs : sinkE md ops early t0 = true) (hc : chainT md ops (t0 :: r) = true) (inv : ClosedB md ops listed) :
    ∀ (d i : Nat), ops.size - i = d → i ∈ early → listed.getD i true = false → ∀ t ∈ t0 :: r, t ∉ Region.ready md ops listed := by
  intro d
  induction d using Nat.strongRecOn with
  | _ d ih =>
    intro i hd hi hun t ht
    have h1 := List.all_eq_true.1 hs i hi
    simp only [Bool.and_eq_true, Bool.or_eq_true, decide_eq_true_eq] at h1
    obtain ⟨hlt, h1⟩ := h1
    rcases h1 with h1 | h1
    · obtain ⟨j, hj, hj2⟩ := List.any_eq_true.1 h1
      simp only [Bool.and_eq_true, decide_eq_true_eq] at hj2
      have hu := waits_un inv hj2.2 hun
      exact ih (ops.size - j) (by omega) j rfl hj hu.1 t ht
    · have hu := waits_un inv h1 hun
      rcases List.mem_cons.1 ht with rfl | ht
      · exact hu.2
      · exact (chain_un inv t0 r hc hu.1 t ht).2

theorem wpAnyK_quiet {early loud : Nat → Bool} {Q : Nat → Act → Prop} {i : Nat} {oi : Oper} {v : Value} (hi : ops[i]? = some oi) (hsel : ∀ (j : Nat) (o : Oper) cs b, ops[j]? = some o → o.op ≠ .select cs b) (hli : loud i = false)
    (hE : early i = true → ∀ listed, ClosedB md ops listed → listed.getD i true = false → ∀ t, loud t = true → t ∉ Region.ready md ops listed) :
    ∀ (f : Nat) (listed : Array Bool) (k : Nat) (a : Act), ClosedB md ops listed → (early i = true → k = 0) →
      (∀ j oj, ops[j]? = some oj → j ≠ i → listed.getD j true = false → (∀ e ∈ oj.after, Region.binds md e = true → e.on ≠ i) → oi.apart ops oj = true) →
      i ∈ Region.ready md ops listed → YieldsK P ops C (stg early i) oi v a →
      wpAnyK P md ops C early loud Q f (listed.setIfInBounds i true) k (a.put oi.dst v) → wpAnyK P md ops C early loud Q (f + 1) listed k a := by
  intro f
  induction f with
  | zero =>
    intro listed k a inv hk hfree hr hy H
    refine ⟨fun h => (by rw [h] at hr; cases hr), fun j hj o ho => ?_⟩
    by_cases hji : j = i
    · subst hji
      have : o = oi := Option.some.inj (ho.symm.trans hi)
      subst this
      exact ⟨v, by rw [if_neg (by rw [hli]; exact Bool.false_ne_true)]; exact ⟨hk, hy, H⟩⟩
    · have := ready_mono hj hji
      rw [H.1] at this
      cases this
  | succ f ih =>
    intro listed k a inv hk hfree hr hy H
    have hun := (mem_ready.1 hr).1
    refine ⟨fun h => (by rw [h] at hr; cases hr), fun j hj oj hoj => ?_⟩
    by_cases hji : j = i
    · subst hji
      have : oj = oi := Option.some.inj (hoj.symm.trans hi)
      subst this
      exact ⟨v, by rw [if_neg (by rw [hli]; exact Bool.false_ne_true)]; exact ⟨hk, hy, H⟩⟩
    · obtain ⟨u, hu⟩ := H.2 j (ready_mono hj hji) oj hoj
      obtain ⟨hjun, oj', hoj', hall⟩ := mem_ready.1 hj
      have : oj' = oj := Option.some.inj (hoj'.symm.trans hoj)
      subst this
      have hnot : ∀ e ∈ oj'.after, Region.binds md e = true → e.on ≠ i := fun e he hb heq => by
        have h1 := hall e he hb
        rw [heq, getD_both hun] at h1
        cases h1
      have hap := hfree j oj' hoj hji hjun hnot
      obtain ⟨h1, h2, h3⟩ := Oper.apart_spec hap
      have hfree' : ∀ k ok, ops[k]? = some ok → k ≠ i → (listed.setIfInBounds j true).getD k true = false →
          (∀ e ∈ ok.after, Region.binds md e = true → e.on ≠ i) → oi.apart ops ok = true := fun k ok hk hki hun hno => by
        refine hfree k ok hk hki ?_ hno
        by_cases hjk : j = k
        · subst hjk; exact hjun
        · rw [getD_set_ne true hjk] at hun; exact hun
      have hyu : YieldsK P ops C (stg early i) oi v (a.put oj'.dst u) := hy.of_same (execOp_put oi (fun cs b => hsel i oi cs b hi) a oj'.dst u h3) (wanted_put oi a oj'.dst u h3)
      have e1 := execOp_put oj' (fun cs b => hsel j oj' cs b hoj) a oi.dst v h1
      have e2 := wanted_put oj' a oi.dst v h1
      refine ⟨u, ?_⟩
      by_cases hlj : loud j = true
      · rw [if_pos hlj] at hu ⊢
        have hne : early i = true → False := fun he => hE he listed inv hun j hlj hj
        refine ⟨hu.1.of_same e1.symm e2.symm, ih (listed.setIfInBounds j true) (k + 1) _ (inv.set hj) (fun he => absurd he hne) hfree' (ready_mono hr (Ne.symm hji)) hyu ?_⟩
        rw [Array.setIfInBounds_comm _ _ hji, ← Act.put_comm a v u h2]
        exact hu.2
      · rw [if_neg hlj] at hu ⊢
        refine ⟨hu.1, hu.2.1.of_same e1.symm e2.symm, ih (listed.setIfInBounds j true) k _ (inv.set hj) hk hfree' (ready_mono hr (Ne.symm hji)) hyu ?_⟩
        rw [Array.setIfInBounds_comm _ _ hji, ← Act.put_comm a v u h2]
        exact hu.2.2

theorem wpAnyK_loud {early loud : Nat → Bool} {Q : Nat → Act → Prop} {i : Nat} {oi : Oper} {v : Value} (hi : ops[i]? = some oi) (hsel : ∀ (j : Nat) (o : Oper) cs b, ops[j]? = some o → o.op ≠ .select cs b) (hli : loud i = true)
    (hO : ∀ listed, ClosedB md ops listed → listed.getD i true = false → (∀ t, loud t = true → t ∈ Region.ready md ops listed → t = i)) :
    ∀ (f : Nat) (listed : Array Bool) (k : Nat) (a : Act), ClosedB md ops listed →
      (∀ j oj, ops[j]? = some oj → j ≠ i → listed.getD j true = false → (∀ e ∈ oj.after, Region.binds md e = true → e.on ≠ i) → oi.apart ops oj = true) →
      i ∈ Region.ready md ops listed → LoudAt P ops C k oi v a →
      wpAnyK P md ops C early loud Q f (listed.setIfInBounds i true) (k + 1) (a.put oi.dst v) → wpAnyK P md ops C early loud Q (f + 1) listed k a := by
  intro f
  induction f with
  | zero =>
    intro listed k a inv hfree hr hy H
    refine ⟨fun h => (by rw [h] at hr; cases hr), fun j hj o ho => ?_⟩
    by_cases hji : j = i
    · subst hji
      have : o = oi := Option.some.inj (ho.symm.trans hi)
      subst this
      exact ⟨v, by rw [if_pos hli]; exact ⟨hy, H⟩⟩
    · have := ready_mono hj hji
      rw [H.1] at this
      cases this
  | succ f ih =>
    intro listed k a inv hfree hr hy H
    have hun := (mem_ready.1 hr).1
    refine ⟨fun h => (by rw [h] at hr; cases hr), fun j hj oj hoj => ?_⟩
    by_cases hji : j = i
    · subst hji
      have : oj = oi := Option.some.inj (hoj.symm.trans hi)
      subst this
      exact ⟨v, by rw [if_pos hli]; exact ⟨hy, H⟩⟩
    · obtain ⟨u, hu⟩ := H.2 j (ready_mono hj hji) oj hoj
      obtain ⟨hjun, oj', hoj', hall⟩ := mem_ready.1 hj
      have : oj' = oj := Option.some.inj (hoj'.symm.trans hoj)
      subst this
      have hnot : ∀ e ∈ oj'.after, Region.binds md e = true → e.on ≠ i := fun e he hb heq => by
        have h1 := hall e he hb
        rw [heq, getD_both hun] at h1
        cases h1
      have hap := hfree j oj' hoj hji hjun hnot
      obtain ⟨h1, h2, h3⟩ := Oper.apart_spec hap
      have hfree' : ∀ k ok, ops[k]? = some ok → k ≠ i → (listed.setIfInBounds j true).getD k true = false →
          (∀ e ∈ ok.after, Region.binds md e = true → e.on ≠ i) → oi.apart ops ok = true := fun k ok hk hki hun hno => by
        refine hfree k ok hk hki ?_ hno
        by_cases hjk : j = k
        · subst hjk; exact hjun
        · rw [getD_set_ne true hjk] at hun; exact hun
      have hlj : loud j = true → False := fun hl => hji (hO listed inv hun j hl hj)
      rw [if_neg hlj] at hu
      have hyu : LoudAt P ops C k oi v (a.put oj'.dst u) := hy.of_same (execOp_put oi (fun cs b => hsel i oi cs b hi) a oj'.dst u h3) (wanted_put oi a oj'.dst u h3)
      have e1 := execOp_put oj' (fun cs b => hsel j oj' cs b hoj) a oi.dst v h1
      have e2 := wanted_put oj' a oi.dst v h1
      refine ⟨u, ?_⟩
      rw [if_neg hlj]
      have hne : early j = true → False := fun he => by have := hu.1 he; omega
      refine ⟨fun he => absurd he hne, hu.2.1.of_same e1.symm e2.symm, ih (listed.setIfInBounds j true) k _ (inv.set hj) hfree' (ready_mono hr (Ne.symm hji)) hyu ?_⟩
      rw [Array.setIfInBounds_comm _ _ hji, ← Act.put_comm a v u h2]
      exact hu.2.2

/-- the order's Bool: each is ready and free at its turn -/
def planB (md : Region.Mode) (ops : Array Oper) : List Nat → Array Bool → Bool
  | [], listed => (Region.ready md ops listed).isEmpty
  | k :: r, listed => (Region.ready md ops listed).contains k && Region.free md ops listed k && planB md ops r (listed.setIfInBounds k true)
/-- the loud ones, in their order -/
def wpLouds (P : Program) (ops : Array Oper) (C : Nat → World → Prop) (Q : Nat → Act → Prop) : List Nat → Nat → Act → Prop
  | [], k, a => Q k a
  | i :: r, k, a => ∃ o v, ops[i]? = some o ∧ LoudAt P ops C k o v a ∧ wpLouds P ops C Q r (k + 1) (a.put o.dst v)
theorem chainT_tail {t : Nat} {r : List Nat} (h : chainT md ops (t :: r) = true) : chainT md ops r = true := by
  cases r with
  | nil => rfl
  | cons b r => simp only [chainT, Bool.and_eq_true] at h; exact h.2
theorem getD_true_set {i j : Nat} {listed : Array Bool} (h : listed.getD j false = true) : (listed.setIfInBounds i true).getD j false = true := by
  by_cases e : i = j
  · subst e
    by_cases hs : i < listed.size
    · simp [hs]
    · simp [Array.getElem?_eq_none (Nat.le_of_not_lt hs)] at h
  · rw [getD_set_ne false e]; exact h
theorem wpAnyK_louds {early loud : Nat → Bool} {Q : Nat → Act → Prop} (hsel : ∀ (j : Nat) (o : Oper) cs b, ops[j]? = some o → o.op ≠ .select cs b) :
    ∀ (r : List Nat) (pre : List Nat) (listed : Array Bool) (k : Nat) (a : Act), ClosedB md ops listed → (∀ t, loud t = true ↔ t ∈ pre ++ r) → (∀ i ∈ r, i ∉ pre) → r.Nodup → chainT md ops r = true → (∀ t ∈ pre, listed.getD t false = true) →
      planB md ops r listed = true → wpLouds P ops C Q r k a → wpAnyK P md ops C early loud Q r.length listed k a
  | [], pre, listed, k, a, _, _, _, _, _, _, hB, h => ⟨by simpa [planB] using hB, h⟩
  | i :: r, pre, listed, k, a, inv, hl, hnp, hnd, hc, hp, hB, h => by
    obtain ⟨o, v, ho, hL, hK⟩ := h
    simp only [planB, Bool.and_eq_true] at hB
    obtain ⟨⟨hr, hf⟩, hB'⟩ := hB
    have hr' : i ∈ Region.ready md ops listed := by simpa using hr
    have hli : loud i = true := (hl i).2 (by simp)
    -- any listing in which pre is listed; i is the only loud one that may be ready
    have key : ∀ (f : Nat) (L : Array Bool) (k : Nat) (a : Act), ClosedB md ops L → (∀ t ∈ pre, L.getD t false = true) →
        (∀ j oj, ops[j]? = some oj → j ≠ i → L.getD j true = false → (∀ e ∈ oj.after, Region.binds md e = true → e.on ≠ i) → o.apart ops oj = true) →
        i ∈ Region.ready md ops L → LoudAt P ops C k o v a → wpAnyK P md ops C early loud Q f (L.setIfInBounds i true) (k + 1) (a.put o.dst v) → wpAnyK P md ops C early loud Q (f + 1) L k a := by
      intro f
      induction f with
      | zero =>
        intro L k a inv hp hfree hr hy H
        refine ⟨fun h => (by rw [h] at hr; cases hr), fun j hj o' ho' => ?_⟩
        by_cases hji : j = i
        · subst hji
          have : o' = o := Option.some.inj (ho'.symm.trans ho)
          subst this
          exact ⟨v, by rw [if_pos hli]; exact ⟨hy, H⟩⟩
        · have := ready_mono hj hji
          rw [H.1] at this
          cases this
      | succ f ih =>
        intro L k a inv hp hfree hr hy H
        have hun := (mem_ready.1 hr).1
        refine ⟨fun h => (by rw [h] at hr; cases hr), fun j hj oj hoj => ?_⟩
        by_cases hji : j = i
        · subst hji
          have : oj = o := Option.some.inj (hoj.symm.trans ho)
          subst this
          exact ⟨v, by rw [if_pos hli]; exact ⟨hy, H⟩⟩
        · obtain ⟨u, hu⟩ := H.2 j (ready_mono hj hji) oj hoj
          obtain ⟨hjun, oj', hoj', hall⟩ := mem_ready.1 hj
          have : oj' = oj := Option.some.inj (hoj'.symm.trans hoj)
          subst this
          have hnot : ∀ e ∈ oj'.after, Region.binds md e = true → e.on ≠ i := fun e he hb heq => by
            have h1 := hall e he hb
            rw [heq, getD_both hun] at h1
            cases h1
          have hap := hfree j oj' hoj hji hjun hnot
          obtain ⟨h1, h2, h3⟩ := Oper.apart_spec hap
          have hfree' : ∀ k ok, ops[k]? = some ok → k ≠ i → (L.setIfInBounds j true).getD k true = false →
              (∀ e ∈ ok.after, Region.binds md e = true → e.on ≠ i) → o.apart ops ok = true := fun k ok hk hki hun hno => by
            refine hfree k ok hk hki ?_ hno
            by_cases hjk : j = k
            · subst hjk; exact hjun
            · rw [getD_set_ne true hjk] at hun; exact hun
          have hlj : loud j = true → False := fun hlj => by
            rcases List.mem_append.1 ((hl j).1 hlj) with h5 | h5
            · have h6 := hp j h5
              rw [getD_both hjun] at h6
              cases h6
            · rcases List.mem_cons.1 h5 with rfl | h5
              · exact hji rfl
              · exact (chain_un inv i r hc hun j h5).2 hj
          rw [if_neg hlj] at hu
          have hyu : LoudAt P ops C k o v (a.put oj'.dst u) := hy.of_same (execOp_put o (fun cs b => hsel i o cs b ho) a oj'.dst u h3) (wanted_put o a oj'.dst u h3)
          have e1 := execOp_put oj' (fun cs b => hsel j oj' cs b hoj) a o.dst v h1
          have e2 := wanted_put oj' a o.dst v h1
          refine ⟨u, ?_⟩
          rw [if_neg hlj]
          have hne : early j = true → False := fun he => by have := hu.1 he; omega
          refine ⟨fun he => absurd he hne, hu.2.1.of_same e1.symm e2.symm, ih (L.setIfInBounds j true) k _ (inv.set hj) (fun t ht => getD_true_set (hp t ht)) hfree' (ready_mono hr (Ne.symm hji)) hyu ?_⟩
          rw [Array.setIfInBounds_comm _ _ hji, ← Act.put_comm a v u h2]
          exact hu.2.2
    refine key r.length listed k a inv hp (Region.free_spec ho hf) hr' hL (wpAnyK_louds hsel r (pre ++ [i]) _ (k + 1) _ (inv.set hr') (fun t => by rw [hl t]; simp) ?_ (List.nodup_cons.1 hnd).2 (chainT_tail hc) ?_ hB' hK)
    · intro x hx hx2
      rcases List.mem_append.1 hx2 with h5 | h5
      · exact hnp x (by simp [hx]) h5
      · have : x = i := by simpa using h5
        subst this
        exact (List.nodup_cons.1 hnd).1 hx
    · intro t ht
      rcases List.mem_append.1 ht with h5 | h5
      · exact getD_true_set (hp t h5)
      · have : t = i := by simpa using h5
        subst this
        have hs : t < listed.size := by rw [inv.size]; exact ready_lt hr'
        simp [hs]

/-- operations that enter no function -/
def noEnter (o : Oper) : Bool := match o.op with | .move _ | .assign _ | .load _ _ | .binOp _ _ _ _ _ | .unOp _ _ _ | .fieldAddr _ _ _ | .field _ _ _ | .indexAddr _ _ _ | .index _ _ _ | .extract _ _ | .build _ _ | .convert _ _ _ => true | _ => false
theorem noEnter_spec {o : Oper} (h : noEnter o = true) (ρ : Operand → Value) (w w' : World) (f : FuncId) (args : Array Value) : (execOp ρ o).run P w ≠ .ok (.enter f args) w' := by
  have key : ∀ (s : Sem Value), (do pure (Next.value (← s)) : Sem Next).run P w ≠ .ok (.enter f args) w' := by
    intro s
    rw [Sem.run_bind]
    cases s.run P w with
    | ok x w2 => intro h; simp [Result.andThen, Sem.run_pure] at h
    | halt x w2 => intro h; simp [Result.andThen] at h
  unfold noEnter at h
  unfold execOp
  split at h
  all_goals first
    | (rename_i e; rw [e]; first | exact key _ | (intro h; simp [Sem.run_pure] at h))
    | cases h
theorem quietAt_free {o : Oper} {a : Act} {K K' : World → Prop} {w : World} {v : Value} (hn : noEnter o = true) (hw : K' w) (h : o.quietAt P a K w v) : o.quietAt P a K' w v := by
  unfold Oper.quietAt at *
  have hne := noEnter_spec (P := P) hn a.eval w
  generalize (execOp a.eval o).run P w = r at *
  cases r with
  | ok n w' =>
    cases n <;> simp only [Oper.quietUpon] at h ⊢
    case value u => exact h
    case skip => exact h
    case enter f args => exact absurd rfl (hne w' f args)
  | halt x w' => simp only [Oper.quietUpon] at h

/-- the quiet ones, in their order: early ones in the first stage's class, the others in all worlds -/
theorem wpAnyK_early {early loud : Nat → Bool} {Q : Nat → Act → Prop} {L : Act → Prop} {rest : List Nat} (hsel : ∀ (j : Nat) (o : Oper) cs b, ops[j]? = some o → o.op ≠ .select cs b)
    (hE : ∀ i, early i = true → ∀ listed, ClosedB md ops listed → listed.getD i true = false → ∀ t, loud t = true → t ∉ Region.ready md ops listed)
    (hL : ∀ listed a, ClosedB md ops listed → planB md ops rest listed = true → L a → wpAnyK P md ops C early loud Q rest.length listed 0 a) :
    ∀ (hd : List Nat) (listed : Array Bool) (a : Act), (∀ i ∈ hd, early i = true ∧ loud i = false ∧ (ops[i]?).isSome = true) → ClosedB md ops listed → planB md ops (hd ++ rest) listed = true → wpQuiet P ops (C 0) L (opsAt ops hd) a →
      wpAnyK P md ops C early loud Q (hd.length + rest.length) listed 0 a
  | [], listed, a, _, inv, hB, h => by rw [List.length_nil, Nat.zero_add]; exact hL listed a inv (by simpa using hB) h
  | i :: r, listed, a, hd, inv, hB, h => by
    obtain ⟨he, hl, hs⟩ := hd i (by simp)
    obtain ⟨o, ho⟩ := Option.isSome_iff_exists.1 hs
    have hops : opsAt ops (i :: r) = o :: opsAt ops r := by simp [opsAt, ho]
    rw [hops] at h
    simp only [List.cons_append, planB, Bool.and_eq_true] at hB
    obtain ⟨⟨hr, hf⟩, hB'⟩ := hB
    have hr' : i ∈ Region.ready md ops listed := by simpa using hr
    have hst : qOp P ops (C 0) i (wpQuiet P ops (C 0) L (opsAt ops r)) a := by unfold qOp; simp only [ho]; exact h
    obtain ⟨v, hy, hK⟩ := yieldsIn_of_qOp ho hst
    rw [List.length_cons, show r.length + 1 + rest.length = r.length + rest.length + 1 by omega]
    exact wpAnyK_quiet ho hsel hl (hE i) _ listed 0 a inv (fun _ => rfl) (Region.free_spec ho hf) hr' (fun k hk => by rw [hk he]; exact hy)
      (wpAnyK_early hsel hE hL r _ _ (fun x hx => hd x (by simp [hx])) (inv.set hr') hB' hK)
theorem wpAnyK_free {early loud : Nat → Bool} {Q : Nat → Act → Prop} {L : Act → Prop} {rest : List Nat} (hsel : ∀ (j : Nat) (o : Oper) cs b, ops[j]? = some o → o.op ≠ .select cs b)
    (hL : ∀ listed a, ClosedB md ops listed → planB md ops rest listed = true → L a → wpAnyK P md ops C early loud Q rest.length listed 0 a) :
    ∀ (hd : List Nat) (listed : Array Bool) (a : Act), (∀ i ∈ hd, early i = false ∧ loud i = false ∧ ∃ o, ops[i]? = some o ∧ noEnter o = true) → ClosedB md ops listed → planB md ops (hd ++ rest) listed = true → wpQuiet P ops (fun w => ∃ k, C k w) L (opsAt ops hd) a →
      wpAnyK P md ops C early loud Q (hd.length + rest.length) listed 0 a
  | [], listed, a, _, inv, hB, h => by rw [List.length_nil, Nat.zero_add]; exact hL listed a inv (by simpa using hB) h
  | i :: r, listed, a, hd, inv, hB, h => by
    obtain ⟨he, hl, o, ho, hn⟩ := hd i (by simp)
    have hops : opsAt ops (i :: r) = o :: opsAt ops r := by simp [opsAt, ho]
    rw [hops] at h
    simp only [List.cons_append, planB, Bool.and_eq_true] at hB
    obtain ⟨⟨hr, hf⟩, hB'⟩ := hB
    have hr' : i ∈ Region.ready md ops listed := by simpa using hr
    have hst : qOp P ops (fun w => ∃ k, C k w) i (wpQuiet P ops (fun w => ∃ k, C k w) L (opsAt ops r)) a := by unfold qOp; simp only [ho]; exact h
    obtain ⟨v, hy, hK⟩ := yieldsIn_of_qOp ho hst
    rw [List.length_cons, show r.length + 1 + rest.length = r.length + rest.length + 1 by omega]
    refine wpAnyK_quiet ho hsel hl (fun h => by rw [he] at h; cases h) _ listed 0 a inv (fun _ => rfl) (Region.free_spec ho hf) hr' (fun k hk => ?_)
      (wpAnyK_free hsel hL r _ _ (fun x hx => hd x (by simp [hx])) (inv.set hr') hB' hK)
    rcases hy with ⟨hwt, hq⟩ | hy
    · exact .inl ⟨hwt, fun w hw => quietAt_free hn hw (hq w ⟨k, hw⟩)⟩
    · exact .inr hy

def stagesB (ops : Array Oper) (er fr : List Nat) (t0 : Nat) (r : List Nat) : Bool :=
  Region.noSelect ops && sinkE .any ops er t0 && chainT .any ops (t0 :: r) && decide (t0 :: r).Nodup && er.all (fun i => !(t0 :: r).contains i && (ops[i]?).isSome) &&
  fr.all (fun i => !(t0 :: r).contains i && !er.contains i && match ops[i]? with | some o => noEnter o | none => false) && planB .any ops (er ++ (fr ++ (t0 :: r))) (Array.replicate ops.size false)

/-- A REGION THAT DRAWS: early quiet ones (er), free quiet ones (fr), and the stores (t0 :: r), which may come as soon as the early ones are done -/
theorem wp_region_stages {id : Nat} {Q : Exit → Act → World → Prop} {a : Act} {w : World} {l : List Oper} (er fr : List Nat) (t0 : Nat) (r : List Nat) (hm : P.follows .mixedOrders = true) (hB : stagesB l.toArray er fr t0 r = true) (hlen : l.length = er.length + (fr.length + (r.length + 1)))
    (hC : C 0 { w with drawn := w.drawn + 1 })
    (h : wpQuiet P l.toArray (C 0) (fun a => wpQuiet P l.toArray (fun w => ∃ k, C k w) (fun a => wpLouds P l.toArray C (fun k a => ∀ w', C k w' → Q .normal a w') (t0 :: r) 0 a) (opsAt l.toArray fr) a) (opsAt l.toArray er) a) :
    (Code.region id l.toArray true).wp P Q a w := by
  simp only [stagesB, Bool.and_eq_true, decide_eq_true_eq] at hB
  obtain ⟨⟨⟨⟨⟨⟨hsel, hs⟩, hc⟩, hnd⟩, her⟩, hfr⟩, hplan⟩ := hB
  have hsel' := Region.noSelect_spec hsel
  have hE : ∀ i, er.contains i = true → ∀ listed, ClosedB .any l.toArray listed → listed.getD i true = false → ∀ t, (t0 :: r).contains t = true → t ∉ Region.ready .any l.toArray listed := fun i hi listed inv hun t ht =>
    sink_un hs hc inv _ i rfl (by simpa using hi) hun t (by simpa using ht)
  have inv0 : ClosedB .any l.toArray (Array.replicate l.toArray.size false) := ⟨by simp, fun j oj hj hl => by
    exfalso
    by_cases h : j < l.length
    · simp [h] at hl
    · simp [h] at hl⟩
  refine wp_region_any hm ?_
  have := wpAnyK_early (P := P) (md := .any) (C := C) (early := er.contains) (loud := (t0 :: r).contains) (Q := fun k a => ∀ w', C k w' → Q .normal a w') (rest := fr ++ (t0 :: r)) hsel' hE
    (fun listed a inv hpl hL => by
      rw [List.length_append]
      exact wpAnyK_free hsel' (rest := t0 :: r) (fun listed a inv hpl hL => wpAnyK_louds hsel' (t0 :: r) [] listed 0 a inv (fun t => by simp) (by simp) hnd hc (by simp) hpl hL) fr listed a (fun i hi => by
        have := List.all_eq_true.1 hfr i hi
        simp only [Bool.and_eq_true, Bool.not_eq_true'] at this
        obtain ⟨⟨h1, h2⟩, h3⟩ := this
        refine ⟨h2, h1, ?_⟩
        cases ho : l.toArray[i]? with
        | none => rw [ho] at h3; cases h3
        | some o => rw [ho] at h3; exact ⟨o, rfl, h3⟩) inv hpl hL)
    er (Array.replicate l.toArray.size false) a (fun i hi => by
      have := List.all_eq_true.1 her i hi
      simp only [Bool.and_eq_true, Bool.not_eq_true'] at this
      exact ⟨by simpa using hi, this.1, this.2⟩) inv0 hplan h
  have h2 := wpAny_of_K (P := P) (md := .any) (C := C) (Q' := Q) (fun k a w hw h => h w hw) _ _ 0 a { w with drawn := w.drawn + 1 } hC this
  rw [List.length_append, List.length_cons, ← hlen] at h2
  simpa using h2
end
end Go.Proofs.YtkamljmopbocnaaDoor

/- 'return a, b' WITH LATE STORES: a region that draws, whose last operations are stores of two whole structs into the results' blocks; quiet operations beside. -/
namespace Go.Proofs.YtkamljmopbocnaaDoor
open Go Go.Sort Go.RowKit
set_option maxRecDepth 100000
set_option linter.unusedVariables false
set_option linter.unusedSimpArgs false

theorem setCell_grow (W : World) (os : Array Obj) (p : Addr) (v : Value) (h : p.block < W.heap.size) : (grow W os).setCell p v = grow (W.setCell p v) os := by
  unfold grow World.setCell
  congr 1
  apply Array.ext
  · simp
  · intro i h1 h2
    by_cases hi : i < W.heap.size
    · have hi2 : i < (W.heap ++ os).size := by simp; omega
      simp [Array.getElem_modify, Array.getElem_append, hi]
    · simp [Array.getElem_modify, Array.getElem_append, hi, show p.block ≠ i by omega]
theorem setCells_grow (os : Array Obj) (b : Nat) : ∀ (vs : List Value) (o : Nat) (W : World), b < W.heap.size → (grow W os).setCells b o vs = grow (W.setCells b o vs) os
  | [], _, _, _ => rfl
  | v :: r, o, W, h => by
    rw [World.setCells, World.setCells, setCell_grow W os _ v h, setCells_grow os b r (o + 1) _ (by simpa using h)]
theorem setCells_redrawn (d : Nat) (b : Nat) : ∀ (vs : List Value) (o : Nat) (W : World), (redrawn W d).setCells b o vs = redrawn (W.setCells b o vs) d
  | [], _, _ => rfl
  | v :: r, o, W => by
    rw [World.setCells, World.setCells, ← setCells_redrawn d b r (o + 1) _]
    rfl

/-- the worlds by stages: neither stored, the first one, both -/
def stW (W : World) (b1 : Nat) (cs1 : List Value) (b2 : Nat) (cs2 : List Value) : Nat → World
  | 0 => W
  | 1 => W.setCells b1 0 cs1
  | _ => (W.setCells b1 0 cs1).setCells b2 0 cs2
theorem stW_cell {W : World} {p : Addr} {v : Value} (h : W.cell? p = some v) (b1 : Nat) (cs1 : List Value) (b2 : Nat) (cs2 : List Value) (h1 : p.block ≠ b1) (h2 : p.block ≠ b2) (k d : Nat) (os : Array Obj) :
    (grow (redrawn (stW W b1 cs1 b2 cs2 k) d) os).cell? p = some v := by
  refine cell_regrown ?_ d os
  rcases k with _ | _ | k
  · exact h
  · exact (World.cell?_setCells_out b1 cs1 0 W p (fun hb _ => absurd hb h1)).trans h
  · exact ((World.cell?_setCells_out b2 cs2 0 _ p (fun hb _ => absurd hb h2)).trans (World.cell?_setCells_out b1 cs1 0 W p (fun hb _ => absurd hb h1))).trans h
theorem Blk.cells {w : World} {b b' : Nat} {cs vs : List Value} (h : Blk w b cs) (hne : b ≠ b') : Blk (w.setCells b' 0 vs) b cs := by
  refine ⟨by rw [setCells_size]; exact h.1, fun i v hv => ?_, fun i hi => ?_⟩
  · rw [World.cell?_setCells_out b' vs 0 w _ (fun hb _ => absurd hb hne)]
    exact h.2.1 i v hv
  · rw [setCells_frozen]
    exact h.2.2 i hi
theorem Blk.cellsHere {w : World} {b : Nat} {zs cs : List Value} (h : Blk w b zs) (hz : zs.length = cs.length) : Blk (w.setCells b 0 cs) b cs := by
  have hth : w.there b 0 cs.length := fun j hj => by
    rw [Nat.zero_add, h.2.1 j (zs[j]'(by omega)) (List.getElem?_eq_getElem (by omega)), h.2.2 j (by omega)]
    exact ⟨rfl, rfl⟩
  refine ⟨by rw [setCells_size]; exact h.1, fun i v hv => ?_, fun i hi => ?_⟩
  · have := World.rangeAt_setCells_same w b 0 cs hth i v hv
    rwa [Nat.zero_add] at this
  · rw [setCells_frozen]
    exact h.2.2 i (by omega)
theorem Blk.stage {W : World} {b : Nat} {cs : List Value} (h : Blk W b cs) (b1 : Nat) (cs1 : List Value) (b2 : Nat) (cs2 : List Value) (h1 : b ≠ b1) (h2 : b ≠ b2) (k : Nat) : Blk (stW W b1 cs1 b2 cs2 k) b cs := by
  rcases k with _ | _ | k
  · exact h
  · exact h.cells h1
  · exact (h.cells h1).cells h2
theorem there_blk {w : World} {b : Nat} {zs : List Value} (h : Blk w b zs) {n : Nat} (hn : n = zs.length) : w.there b 0 n := fun j hj => by
  rw [Nat.zero_add, h.2.1 j (zs[j]'(by omega)) (List.getElem?_eq_getElem (by omega)), h.2.2 j (by omega)]
  exact ⟨rfl, rfl⟩
section
variable {P : Program} {ops : Array Oper}
/-- a whole struct is stored: one stage on -/
theorem loud_store {C : Nat → World → Prop} {k : Nat} {o : Oper} {a : Act} (hgd : o.guard = none) (ty : TypeId) (x y : Operand) (ho : o.op = .store ty x y) (b : Nat) (zs cs : List Value)
    (hx : a.eval x = .pointer (some ⟨b, 0, none⟩)) (hy : a.eval y = .agg cs.toArray) (hz : zs.length = cs.length) (hi : (P.info? ty).map (·.size) = some cs.length) (h1 : cs.toArray.all (·.oneCell') = true)
    (hB : ∀ w, C k w → Blk w b zs) (hC : ∀ w, C k w → C (k + 1) (w.setCells b 0 cs)) : LoudAt P ops C k o undef a := by
  refine ⟨by simp [Region.wanted, hgd], fun w hw => ?_⟩
  have hs := run_storeAt_mid w b 0 ty cs.toArray (P := P) (there_blk (hB w hw) (by simp [hz])) (by simpa using hi) h1
  unfold execOp
  simp only [ho, hx, hy, Sem.run_bind, hs, Sem.run_pure, Result.andThen_ok]
  exact ⟨rfl, by simpa using hC w hw⟩
def stC' (W : World) (b1 : Nat) (cs1 : List Value) (b2 : Nat) (cs2 : List Value) (k : Nat) (w' : World) : Prop := ∃ p : Regrown, w' = grow (redrawn (stW W b1 cs1 b2 cs2 k) p.d) p.os
/-- a struct read whole, at all stages -/
structure Staged where
  k : Nat
  d : Nat
  os : Array Obj
  deriving Inhabited
theorem quiet_load_stage {op : Oper} {a : Act} {K : Act → Prop} {Wf : Nat → World} (ty : TypeId) (x : Operand) (ho : op.op = .load ty x)
    (b : Nat) (hx : a.eval x = .pointer (some ⟨b, 0, none⟩)) (cs : List Value) (d : TypeDesc) (hc : ∀ k, Blk (Wf k) b cs)
    (hu : P.underlying ty = some d) (hd : d.isRow = true) (hi : (P.info? ty).map (·.size) = some cs.length)
    (hk : K (a.put op.dst (.agg cs.toArray))) : op.quiet P a (fun w' => ∃ p : Staged, w' = grow (redrawn (Wf p.k) p.d) p.os) K := by
  refine ⟨_, ?_, hk⟩
  rintro w' ⟨p, rfl⟩
  have hr := ((hc p.k).below (below_regrown _ p.d p.os) (hc p.k).1).range
  unfold Oper.quietAt execOp
  simp only [ho, hx, Instr.loadAt, Instr.sureAddr, Sem.run_bind, Sem.run_pure, Result.andThen_ok, run_loadVar_mid _ b 0 ty cs d hr hu hd hi]
  exact ⟨rfl, rfl⟩
theorem Oper.quiet_class {C C' : World → Prop} {o : Oper} {a : Act} {K : Act → Prop} (h : ∀ w, C w ↔ C' w) (hh : o.quiet P a C K) : o.quiet P a C' K := by
  have : C = C' := funext fun w => propext (h w)
  rw [← this]; exact hh

/-- from the early ones to the free ones -/
theorem wpQuiet_next {C C2 : World → Prop} {Q : Act → Prop} {l : List Oper} {a : Act} (h : wpQuiet P ops C2 Q l a) : wpQuiet P ops C (fun a => wpQuiet P ops C2 Q l a) [] a := h
/-- TWO STORES OF WHOLE STRUCTS, t1 then t2 -/
theorem wp_region_two {id : Nat} {Q : Exit → Act → World → Prop} {a : Act} {W : World} {l : List Oper} (er fr : List Nat) (t1 t2 : Nat) (o1 o2 : Oper) (b1 b2 : Nat) (zs1 zs2 cs1 cs2 : List Value) (ty1 ty2 : TypeId) (x1 y1 x2 y2 : Operand)
    (hm : P.follows .mixedOrders = true) (hB : stagesB l.toArray er fr t1 [t2] = true) (hlen : l.length = er.length + (fr.length + 2))
    (g1 : l[t1]? = some o1) (g2 : l[t2]? = some o2) (p1 : o1.op = .store ty1 x1 y1 ∧ o1.guard = none ∧ o1.dst = none) (p2 : o2.op = .store ty2 x2 y2 ∧ o2.guard = none ∧ o2.dst = none)
    (hne : b1 ≠ b2) (B1 : Blk W b1 zs1) (B2 : Blk W b2 zs2) (z1 : zs1.length = cs1.length) (z2 : zs2.length = cs2.length)
    (i1 : (P.info? ty1).map (·.size) = some cs1.length) (i2 : (P.info? ty2).map (·.size) = some cs2.length) (c1 : cs1.toArray.all (·.oneCell') = true) (c2 : cs2.toArray.all (·.oneCell') = true)
    (h : wpQuiet P l.toArray (fun w' => ∃ p : Regrown, w' = grow (redrawn W p.d) p.os) (fun a => wpQuiet P l.toArray (fun w' => ∃ p : Staged, w' = grow (redrawn (stW W b1 cs1 b2 cs2 p.k) p.d) p.os) (fun a =>
      (a.eval x1 = .pointer (some ⟨b1, 0, none⟩) ∧ a.eval y1 = .agg cs1.toArray ∧ a.eval x2 = .pointer (some ⟨b2, 0, none⟩) ∧ a.eval y2 = .agg cs2.toArray) ∧
      ∀ w', Blk w' b1 cs1 → Blk w' b2 cs2 → (∀ b cs, b ≠ b1 → b ≠ b2 → Blk W b cs → Blk w' b cs) → (∀ B, B ≤ b1 → B ≤ b2 → Below B W w') → Q .normal a w') (opsAt l.toArray fr) a) (opsAt l.toArray er) a) :
    (Code.region id l.toArray true).wp P Q a W := by
  have hsz : ∀ k, (stW W b1 cs1 b2 cs2 k).heap.size = W.heap.size := fun k => by
    rcases k with _ | _ | k
    · rfl
    · exact setCells_size _ _ _ _
    · exact (setCells_size _ _ _ _).trans (setCells_size _ _ _ _)
  have e2 : ∀ k, stW W b1 cs1 b2 cs2 (k + 2) = stW W b1 cs1 b2 cs2 2 := fun k => rfl
  refine wp_region_stages (C := stC' W b1 cs1 b2 cs2) er fr t1 [t2] hm hB hlen ⟨⟨W.drawn + 1, #[]⟩, by rw [grow_empty]; rfl⟩ ?_
  have hmono : ∀ (C : World → Prop) (l' : List Oper) (a : Act) (K K' : Act → Prop), (∀ a, K a → K' a) → wpQuiet P l.toArray C K l' a → wpQuiet P l.toArray C K' l' a := by
    intro C l'
    induction l' with
    | nil => exact fun a K K' hk h => hk a h
    | cons o r ih =>
      intro a K K' hk h
      unfold wpQuiet at h ⊢
      split
      · rename_i hw; rw [if_pos hw] at h; exact Oper.quiet_mono (fun a h => ih a K K' hk h) h
      · rename_i hw; rw [if_neg hw] at h; exact ih _ K K' hk h
  have hcl : (fun w : World => ∃ k, stC' W b1 cs1 b2 cs2 k w) = (fun w' => ∃ p : Staged, w' = grow (redrawn (stW W b1 cs1 b2 cs2 p.k) p.d) p.os) :=
    funext fun w => propext ⟨fun ⟨k, p, hp⟩ => ⟨⟨k, p.d, p.os⟩, hp⟩, fun ⟨p, hp⟩ => ⟨p.k, ⟨p.d, p.os⟩, hp⟩⟩
  rw [hcl]
  refine hmono _ _ _ _ _ (fun a h => hmono _ _ _ _ _ (fun a ⟨⟨e1, e3, e4, e5⟩, hK⟩ => ?_) h) h
  obtain ⟨q1, q2, q3⟩ := p1
  obtain ⟨r1, r2, r3⟩ := p2
  refine ⟨o1, undef, by simpa using g1, loud_store q2 ty1 x1 y1 q1 b1 zs1 cs1 e1 e3 z1 i1 c1 (fun w ⟨p, hp⟩ => ?_) (fun w ⟨p, hp⟩ => ⟨p, ?_⟩), ?_⟩
  · rw [hp]; exact B1.below (below_regrown _ _ _) B1.1
  · rw [hp, setCells_grow _ _ _ _ _ (by exact B1.1), setCells_redrawn]; rfl
  · rw [q3]
    refine ⟨o2, undef, by simpa using g2, loud_store r2 ty2 x2 y2 r1 b2 zs2 cs2 e4 e5 z2 i2 c2 (fun w ⟨p, hp⟩ => ?_) (fun w ⟨p, hp⟩ => ⟨p, ?_⟩), ?_⟩
    · rw [hp]
      have : Blk (stW W b1 cs1 b2 cs2 1) b2 zs2 := B2.cells (Ne.symm hne)
      exact this.below (below_regrown _ _ _) this.1
    · rw [hp, setCells_grow _ _ _ _ _ (by show b2 < (stW W b1 cs1 b2 cs2 1).heap.size; rw [hsz]; exact B2.1), setCells_redrawn]; rfl
    · rw [r3]
      rintro w' ⟨p, rfl⟩
      have y1 : Blk (stW W b1 cs1 b2 cs2 2) b1 cs1 := (B1.cellsHere z1).cells hne
      have y2 : Blk (stW W b1 cs1 b2 cs2 2) b2 cs2 := Blk.cellsHere (B2.cells (Ne.symm hne)) z2
      have bq := below_regrown (stW W b1 cs1 b2 cs2 2) p.d p.os
      refine hK _ (y1.below bq y1.1) (y2.below bq y2.1) (fun b cs hb1 hb2 hb => ?_) (fun B hb1 hb2 => ?_)
      · have y3 := hb.stage b1 cs1 b2 cs2 hb1 hb2 2
        exact y3.below bq y3.1
      · have y4 : Below B W (stW W b1 cs1 b2 cs2 2) := (setCells_below b1 hb1 cs1 0 W).trans (setCells_below b2 hb2 cs2 0 _)
        by_cases hle : B ≤ W.heap.size
        · exact y4.trans (bq.mono (by rw [hsz]; exact hle))
        · have := B1.1; omega
end
/-- several blocks made, one behind the other -/
def allocsL (w : World) (L : List (List Value × TypeId)) : World := L.foldl (fun w c => w.alloc (.cells c.1.toArray c.2)) w
theorem allocsL_spec : ∀ (L : List (List Value × TypeId)) (w : World), (allocsL w L).heap.size = w.heap.size + L.length ∧ RowKit.Below w.heap.size w (allocsL w L) ∧ ∀ (j : Nat) c, L[j]? = some c → Blk (allocsL w L) (w.heap.size + j) c.1
  | [], w => ⟨rfl, Below.refl _ _, fun j c h => by simp at h⟩
  | x :: r, w => by
    obtain ⟨h1, h2, h3⟩ := allocsL_spec r (w.alloc (.cells x.1.toArray x.2))
    have hs : (w.alloc (.cells x.1.toArray x.2)).heap.size = w.heap.size + 1 := by simp
    have hb : RowKit.Below w.heap.size w (w.alloc (.cells x.1.toArray x.2)) := (Below.refl _ _).alloc (Nat.le_refl _) _
    have e : allocsL w (x :: r) = allocsL (w.alloc (.cells x.1.toArray x.2)) r := rfl
    rw [e]
    refine ⟨by rw [h1, hs, List.length_cons]; omega, hb.trans (h2.mono (by omega)), fun j c hj => ?_⟩
    cases j with
    | zero =>
      simp at hj
      subst hj
      exact (Blk.new w x.2 x.1).below h2 (by omega)
    | succ j =>
      have := h3 j c (by simpa using hj)
      rw [hs] at this
      rw [show w.heap.size + (j + 1) = w.heap.size + 1 + j by omega]
      exact this
theorem wp_allocs {P : Program} {c : Code} {Q : Exit → Act → World → Prop} {a : Act} {w W : World} (L : List (List Value × TypeId)) (hW : allocsL w L = W)
    (h : ∀ W0, W0.heap.size = w.heap.size + L.length → RowKit.Below w.heap.size w W0 → (∀ (j : Nat) c, L[j]? = some c → Blk W0 (w.heap.size + j) c.1) → c.wp P Q a W0) : c.wp P Q a W := by
  subst hW
  obtain ⟨h1, h2, h3⟩ := allocsL_spec L w
  exact h _ h1 h2 h3
end Go.Proofs.YtkamljmopbocnaaDoor

/- 'return a, b' WITH LATE STORES, where the second result lies in a slot: a store of a whole struct, then an assignment; quiet operations beside. -/
namespace Go.Proofs.YtkamljmopbocnaaDoor
open Go Go.Sort Go.RowKit
set_option maxRecDepth 100000
set_option linter.unusedVariables false
set_option linter.unusedSimpArgs false
section
variable {P : Program} {ops : Array Oper}
theorem loud_assign {C : Nat → World → Prop} {k : Nat} {o : Oper} {a : Act} (hgd : o.guard = none) (y : Operand) (ho : o.op = .assign y) (v : Value) (hy : a.eval y = v) (hC : ∀ w, C k w → C (k + 1) w) : LoudAt P ops C k o v a := by
  refine ⟨by simp [Region.wanted, hgd], fun w hw => ?_⟩
  unfold execOp
  simp only [ho, hy, Sem.run_pure]
  exact ⟨rfl, hC w hw⟩
theorem wp_region_one {id : Nat} {Q : Exit → Act → World → Prop} {a : Act} {W : World} {l : List Oper} (er fr : List Nat) (t1 t2 : Nat) (o1 o2 : Oper) (b1 : Nat) (zs1 cs1 : List Value) (ty1 : TypeId) (x1 y1 y2 : Operand) (d2 : Option Tmp) (v2 : Value)
    (hm : P.follows .mixedOrders = true) (hB : stagesB l.toArray er fr t1 [t2] = true) (hlen : l.length = er.length + (fr.length + 2))
    (g1 : l[t1]? = some o1) (g2 : l[t2]? = some o2) (p1 : o1.op = .store ty1 x1 y1 ∧ o1.guard = none ∧ o1.dst = none) (p2 : o2.op = .assign y2 ∧ o2.guard = none ∧ o2.dst = d2)
    (B1 : Blk W b1 zs1) (z1 : zs1.length = cs1.length) (i1 : (P.info? ty1).map (·.size) = some cs1.length) (c1 : cs1.toArray.all (·.oneCell') = true)
    (h : wpQuiet P l.toArray (fun w' => ∃ p : Regrown, w' = grow (redrawn W p.d) p.os) (fun a => wpQuiet P l.toArray (fun w' => ∃ p : Staged, w' = grow (redrawn (stW W b1 cs1 b1 cs1 p.k) p.d) p.os) (fun a =>
      (a.eval x1 = .pointer (some ⟨b1, 0, none⟩) ∧ a.eval y1 = .agg cs1.toArray ∧ a.eval y2 = v2) ∧
      ∀ w', Blk w' b1 cs1 → (∀ b cs, b ≠ b1 → Blk W b cs → Blk w' b cs) → (∀ (p : Addr) v, p.block ≠ b1 → W.cell? p = some v → w'.cell? p = some v) → (∀ (b : Nat) o, b ≠ b1 → W.heap[b]? = some o → w'.heap[b]? = some o) → (∀ B, B ≤ b1 → Below B W w') → Q .normal (a.put d2 v2) w') (opsAt l.toArray fr) a) (opsAt l.toArray er) a) :
    (Code.region id l.toArray true).wp P Q a W := by
  have hsz : ∀ k, (stW W b1 cs1 b1 cs1 k).heap.size = W.heap.size := fun k => by
    rcases k with _ | _ | k
    · rfl
    · exact setCells_size _ _ _ _
    · exact (setCells_size _ _ _ _).trans (setCells_size _ _ _ _)
  -- the stages: not stored, stored, stored
  have e12 : stW W b1 cs1 b1 cs1 2 = (W.setCells b1 0 cs1).setCells b1 0 cs1 := rfl
  refine wp_region_stages (C := fun k w' => ∃ p : Regrown, w' = grow (redrawn (stW W b1 cs1 b1 cs1 (min k 1)) p.d) p.os) er fr t1 [t2] hm hB hlen ⟨⟨W.drawn + 1, #[]⟩, by rw [grow_empty]; rfl⟩ ?_
  have hmono : ∀ (C : World → Prop) (l' : List Oper) (a : Act) (K K' : Act → Prop), (∀ a, K a → K' a) → wpQuiet P l.toArray C K l' a → wpQuiet P l.toArray C K' l' a := by
    intro C l'
    induction l' with
    | nil => exact fun a K K' hk h => hk a h
    | cons o r ih =>
      intro a K K' hk h
      unfold wpQuiet at h ⊢
      split
      · rename_i hw; rw [if_pos hw] at h; exact Oper.quiet_mono (fun a h => ih a K K' hk h) h
      · rename_i hw; rw [if_neg hw] at h; exact ih _ K K' hk h
  have hsub : ∀ (C C' : World → Prop) (l' : List Oper) (a : Act) (K : Act → Prop), (∀ w, C' w → C w) → (∀ o ∈ l', noEnter o = true) → wpQuiet P l.toArray C K l' a → wpQuiet P l.toArray C' K l' a := by
    intro C C' l'
    induction l' with
    | nil => exact fun a K _ _ h => h
    | cons o r ih =>
      intro a K hc hn h
      unfold wpQuiet at h ⊢
      split
      · rename_i hw
        rw [if_pos hw] at h
        obtain ⟨v, h1, h2⟩ := h
        exact ⟨v, fun w hw' => quietAt_free (hn o (by simp)) hw' (h1 w (hc w hw')), ih _ K hc (fun o ho => hn o (by simp [ho])) h2⟩
      · rename_i hw; rw [if_neg hw] at h; exact ih _ K hc (fun o ho => hn o (by simp [ho])) h
  have hno : ∀ o ∈ opsAt l.toArray fr, noEnter o = true := by
    have hB' := hB
    simp only [stagesB, Bool.and_eq_true] at hB'
    have hfr := hB'.1.2
    have key : ∀ fr : List Nat, (∀ i ∈ fr, ∀ o, l.toArray[i]? = some o → noEnter o = true) → ∀ o ∈ opsAt l.toArray fr, noEnter o = true := by
      intro fr
      induction fr with
      | nil => intro _ o ho; cases ho
      | cons i r ih =>
        intro hi o ho
        rcases List.mem_append.1 ho with h | h
        · exact hi i (by simp) o (by simpa using h)
        · exact ih (fun j hj => hi j (by simp [hj])) o h
    refine key fr (fun i hi o ho => ?_)
    have := List.all_eq_true.1 hfr i hi
    rw [ho] at this
    simp only [Bool.and_eq_true] at this
    exact this.2
  refine hmono _ _ _ _ _ (fun a h => hsub _ _ _ _ _ (fun w ⟨k, p, hp⟩ => ⟨⟨min k 1, p.d, p.os⟩, hp⟩) hno (hmono _ _ _ _ _ (fun a ⟨⟨e1, e3, e4⟩, hK⟩ => ?_) h)) h
  obtain ⟨q1, q2, q3⟩ := p1
  obtain ⟨r1, r2, r3⟩ := p2
  refine ⟨o1, undef, by simpa using g1, loud_store q2 ty1 x1 y1 q1 b1 zs1 cs1 e1 e3 z1 i1 c1 (fun w ⟨p, hp⟩ => ?_) (fun w ⟨p, hp⟩ => ⟨p, ?_⟩), ?_⟩
  · rw [hp]; exact B1.below (below_regrown _ _ _) B1.1
  · rw [hp, setCells_grow _ _ _ _ _ (by exact B1.1), setCells_redrawn]; rfl
  · rw [q3]
    refine ⟨o2, v2, by simpa using g2, loud_assign r2 y2 r1 v2 e4 (fun w hw => hw), ?_⟩
    rw [r3]
    rintro w' ⟨p, rfl⟩
    have y1 : Blk (stW W b1 cs1 b1 cs1 1) b1 cs1 := B1.cellsHere z1
    have bq := below_regrown (stW W b1 cs1 b1 cs1 1) p.d p.os
    have hlt : b1 < W.heap.size := B1.1
    refine hK _ (y1.below bq y1.1) (fun b cs hb1 hb => ?_) (fun q v hq hc => ?_) (fun b o hb ho => ?_) (fun B hb1 => ?_)
    · have y3 : Blk (stW W b1 cs1 b1 cs1 1) b cs := hb.cells hb1
      exact y3.below bq y3.1
    · exact stW_cell hc b1 cs1 b1 cs1 hq hq 1 p.d p.os
    · have hbl : b < W.heap.size := (Array.getElem?_eq_some_iff.1 ho).1
      have key : ∀ (vs : List Value) (o' : Nat) (V : World), (V.setCells b1 o' vs).heap[b]? = V.heap[b]? := by
        intro vs
        induction vs with
        | nil => exact fun _ _ => rfl
        | cons v r ih =>
          intro o' V
          show ((V.setCell ⟨b1, o', none⟩ v).setCells b1 (o' + 1) r).heap[b]? = _
          rw [ih]
          simp [World.setCell, Array.getElem?_modify, Ne.symm hb]
      exact (bq.block b (by show b < (stW W b1 cs1 b1 cs1 1).heap.size; rw [hsz]; exact hbl)).trans ((key cs1 0 W).trans ho)
    · have y4 : RowKit.Below B W (stW W b1 cs1 b1 cs1 1) := setCells_below b1 hb1 cs1 0 W
      by_cases hle : B ≤ W.heap.size
      · exact y4.trans (bq.mono (by rw [hsz]; exact hle))
      · omega
end
end Go.Proofs.YtkamljmopbocnaaDoor

/- THE MATHEMATICS of package seq: one instruction, a run of them. -/
namespace Go.Proofs.YtkamljmopbocnaaDoor
open Go.ChangeShapes Go.WideShapes Go.ChangeAt Go.RowKit
set_option maxRecDepth 100000
set_option linter.unusedVariables false

/-- a sequential run -/
structure Sq where
  pc : Int
  regs : List Int
  mem : ByteArray
  halt : Int
def sqC (s : Sq) : List Value := .int .u32 s.pc :: (regL s.regs ++ [.string s.mem, .int .i64 s.halt])
def sqV (s : Sq) : Value := .agg (sqC s).toArray
def sqOK (s : Sq) : Prop := (0 ≤ s.pc ∧ s.pc < 4294967296) ∧ s.regs.length = 32 ∧ (∀ z ∈ s.regs, 0 ≤ z ∧ z < 4294967296) ∧ s.mem.size ≤ 1000
theorem sqC_len {s : Sq} (h : s.regs.length = 32) : (sqC s).length = 35 := by unfold sqC regL; simp [h]
def zeroSt : St := ⟨0, 0, 0, 0, 0, 0, false, 0, 0⟩

/-- an instruction -/
structure Ins where
  op : Int
  rd : Int
  rs1 : Int
  rs2 : Int
  imm : Int
def inC (i : Ins) : List Value := [.int .i64 i.op, .int .i64 i.rd, .int .i64 i.rs1, .int .i64 i.rs2, .int .u32 i.imm]
def inV (i : Ins) : Value := .agg #[.int .i64 i.op, .int .i64 i.rd, .int .i64 i.rs1, .int .i64 i.rs2, .int .u32 i.imm]
/-- what a word tells -/
def insOf (a : Int) : Ins := ⟨(chR a).1, gth a (rdL (chR a).2.1), gth a (rs1L (chR a).2.1), gth a (rs2L (chR a).2.1), numV a (chR a).2.1⟩
def insOK (i : Ins) : Prop := (1 ≤ i.op ∧ i.op ≤ 48) ∧ (0 ≤ i.rd ∧ i.rd ≤ 31) ∧ (0 ≤ i.rs1 ∧ i.rs1 ≤ 31) ∧ (0 ≤ i.rs2 ∧ i.rs2 ≤ 31) ∧ (0 ≤ i.imm ∧ i.imm < 4294967296) ∧ (0 ≤ wrI i.op i.rd ∧ wrI i.op i.rd ≤ 31) ∧ (kindI i.op = 4 → wrI i.op i.rd = 0)
theorem insOf_ok (a : Int) (h : chB a = true) : insOK (insOf a) := by
  have ok := kindW_ok a h
  have hw := wrW_ok a h
  unfold kindOK at ok
  obtain ⟨_, _, _, h4, _, _, _, _, _, _, _, _, _, _, _, _, _, o1, o2⟩ := ok
  have r := rd_range a (chR a).2.1
  unfold insOK insOf
  refine ⟨⟨o1, o2⟩, r, rs1_range a _, rs2_range a _, numV_range a _, by rw [hw]; exact r, fun hk => ?_⟩
  rw [hw]
  simp only at hk
  rw [h4 hk, gth_nil]

/-- how an instruction ends: halted, or written -/
def haltS (s : Sq) (why addr : Int) : Sq × St := ({ s with halt := why }, ⟨s.pc, s.pc, 0, 0, addr, 0, false, why, 0⟩)
def wrote (s : Sq) (op rd next value : Int) (t : St) : Sq × St :=
  ({ s with pc := next, regs := if wrI op rd = 0 then s.regs else s.regs.set (wrI op rd).toNat value },
   { t with pc := s.pc, next := next, rd := wrI op rd, value := if wrI op rd = 0 then t.value else value })
def rg (l : List Int) (k : Int) : Int := l.getD k.toNat 0
/-- a load or a store -/
def accS (s : Sq) (i : Ins) (addr b : Int) : Sq × St :=
  if rtB s.mem.size addr (sizeOp i.op) = false then haltS s (if kindI i.op = 4 then 5 else 4) addr
  else if kindI i.op = 4 then
    wrote { s with mem := if rtB s.mem.size addr (stoS b (sizeOp i.op)).size then wrS s.mem (stoS b (sizeOp i.op)) addr.toNat else ByteArray.empty } i.op i.rd ((s.pc + 4) % 4294967296) 0 ⟨0, 0, 0, stoV b (sizeOp i.op), addr, sizeOp i.op, true, 0, 0⟩
  else wrote s i.op i.rd ((s.pc + 4) % 4294967296) (ldV i.op (s.mem.extract addr.toNat (addr + sizeOp i.op).toNat)) ⟨0, 0, 0, 0, addr, sizeOp i.op, false, 0, 0⟩
/-- an instruction that was fetched -/
def doS (s : Sq) (i : Ins) : Sq × St :=
  let x := rg s.regs i.rs1
  let y := rg s.regs i.rs2
  if kindI i.op = 3 ∨ kindI i.op = 4 then accS s i ((x + i.imm) % 4294967296) y
  else if kindI i.op = 5 then (if nextW i.op i.imm s.pc x y % 4 = 0 then wrote s i.op i.rd (nextW i.op i.imm s.pc x y) (valW i.op i.imm s.pc x y) zeroSt else haltS s 3 0)
  else if kindI i.op = 2 then wrote s i.op i.rd ((s.pc + 4) % 4294967296) (valW i.op i.imm s.pc x y) { zeroSt with took := tookW i.op x y }
  else wrote s i.op i.rd ((s.pc + 4) % 4294967296) (valW i.op i.imm s.pc x y) zeroSt
/-- why nothing is done at a place (0: an instruction is) -/
def whyS (zs : List Int) (pc : Int) : Int :=
  if ftB zs.length pc = false then 1 else if chB (ftV zs zs.length pc) = false then 2
  else if (insOf (ftV zs zs.length pc)).op = 47 then 6 else if (insOf (ftV zs zs.length pc)).op = 48 then 7 else 0
/-- one instruction -/
def stepS (zs : List Int) (s : Sq) : Sq × St :=
  if s.halt ≠ 0 then (s, zeroSt) else if whyS zs s.pc ≠ 0 then haltS s (whyS zs s.pc) 0 else doS s (insOf (ftV zs zs.length s.pc))
/-- so many, until it halts -/
def runS (zs : List Int) : Nat → Sq → Sq × List St
  | 0, s => (s, [])
  | n + 1, s => if s.halt ≠ 0 then (s, []) else ((runS zs n (stepS zs s).1).1, (stepS zs s).2 :: (runS zs n (stepS zs s).1).2)
def newS (m : ByteArray) : Sq := ⟨0, List.replicate 32 0, clS m, 0⟩

theorem runS_halted (zs : List Int) (n : Nat) (s : Sq) (h : s.halt ≠ 0) : runS zs n s = (s, []) := by
  cases n
  · rfl
  · unfold runS; rw [if_pos h]
theorem runS_goes (zs : List Int) (n : Nat) (s : Sq) (h : s.halt = 0) : runS zs (n + 1) s = ((runS zs n (stepS zs s).1).1, (stepS zs s).2 :: (runS zs n (stepS zs s).1).2) := by
  show (if s.halt ≠ 0 then _ else _) = _
  rw [if_neg (by simp [h])]
/-- a run, gone on with -/
theorem runS_add (zs : List Int) : ∀ (n m : Nat) (s : Sq), runS zs (n + m) s = ((runS zs m (runS zs n s).1).1, (runS zs n s).2 ++ (runS zs m (runS zs n s).1).2)
  | 0, m, s => by rw [Nat.zero_add]; rfl
  | n + 1, m, s => by
    by_cases h : s.halt = 0
    · rw [show n + 1 + m = (n + m) + 1 by omega, runS_goes zs _ s h, runS_goes zs _ s h, runS_add zs n m]
      rfl
    · rw [runS_halted zs _ s h, runS_halted zs _ s h, runS_halted zs _ s h]
      rfl
theorem runS_snoc (zs : List Int) (n : Nat) (s : Sq) (h : (runS zs n s).1.halt = 0) : runS zs (n + 1) s = ((stepS zs (runS zs n s).1).1, (runS zs n s).2 ++ [(stepS zs (runS zs n s).1).2]) := by
  rw [runS_add zs n 1 s, runS_goes zs 0 _ h]
  rfl
theorem runS_len (zs : List Int) : ∀ (n : Nat) (s : Sq), (runS zs n s).2.length ≤ n
  | 0, s => Nat.le_refl _
  | n + 1, s => by
    by_cases h : s.halt = 0
    · rw [runS_goes zs n s h]
      simp only [List.length_cons]
      have := runS_len zs n (stepS zs s).1
      omega
    · rw [runS_halted zs _ s h]; simp
/-- a run that goes on has made all steps -/
theorem runS_all (zs : List Int) : ∀ (n : Nat) (s : Sq), (runS zs n s).1.halt = 0 → (runS zs n s).2.length = n
  | 0, s, _ => rfl
  | n + 1, s, h => by
    by_cases h0 : s.halt = 0
    · rw [runS_goes zs n s h0] at h ⊢
      simp only [List.length_cons]
      rw [runS_all zs n _ h]
    · rw [runS_halted zs _ s h0] at h
      exact absurd h h0

theorem haltS_ok {s : Sq} (h : sqOK s) (why addr : Int) : sqOK (haltS s why addr).1 := h
theorem set_bound {l : List Int} (h : ∀ z ∈ l, 0 ≤ z ∧ z < 4294967296) {v : Int} (hv : 0 ≤ v ∧ v < 4294967296) (k : Nat) : ∀ z ∈ l.set k v, 0 ≤ z ∧ z < 4294967296 := by
  intro z hz
  rcases List.mem_or_eq_of_mem_set hz with h1 | rfl
  · exact h z h1
  · exact hv
theorem wrote_ok {s : Sq} (h : sqOK s) (op rd : Int) {next value : Int} (hn : 0 ≤ next ∧ next < 4294967296) (hv : wrI op rd = 0 ∨ (0 ≤ value ∧ value < 4294967296)) (t : St) : sqOK (wrote s op rd next value t).1 := by
  obtain ⟨h1, h2, h3, h4⟩ := h
  unfold wrote sqOK
  refine ⟨hn, ?_, ?_, h4⟩
  · simp only
    split
    · exact h2
    · rw [List.length_set]; exact h2
  · simp only
    split
    · exact h3
    · rename_i hne
      rcases hv with hv | hv
      · exact absurd hv hne
      · exact set_bound h3 hv _
theorem rg_range {l : List Int} (h : ∀ z ∈ l, 0 ≤ z ∧ z < 4294967296) (k : Int) : 0 ≤ rg l k ∧ rg l k < 4294967296 := by
  unfold rg
  rw [List.getD_eq_getElem?_getD]
  cases hk : l[k.toNat]? with
  | none => simp
  | some z => exact h z (List.mem_of_getElem? hk)
end Go.Proofs.YtkamljmopbocnaaDoor

/- THE CONTRACTS of seq.halted, seq.wrote, seq.fetched, seq.New. -/
namespace Go.Proofs.YtkamljmopbocnaaDoor
open Go.ChangeShapes Go.WideShapes Go.ChangeAt Go.RowKit Go.Sort
set_option linter.unusedVariables false
set_option linter.unusedSimpArgs false
set_option maxHeartbeats 2000000
set_option maxRecDepth 100000

theorem sq_info : (Tryd.prog.info? 28).map (·.size) = some 35 := by kernel_rfl
theorem st_info : (Tryd.prog.info? 33).map (·.size) = some 9 := by kernel_rfl
theorem in_info : (Tryd.prog.info? 46).map (·.size) = some 5 := by kernel_rfl
theorem sqC_one (s : Sq) : (sqC s).toArray.all (·.oneCell') = true := all_oneCell_toArray (fun v hv => by
  unfold sqC at hv
  rcases List.mem_cons.1 hv with rfl | hv
  · rfl
  · rcases List.mem_append.1 hv with hv | hv
    · obtain ⟨z, _, rfl⟩ := List.mem_map.1 hv
      rfl
    · simp only [List.mem_cons, List.not_mem_nil, or_false] at hv
      rcases hv with rfl | rfl <;> rfl)
theorem stC_one (s : St) : (stC s).toArray.all (·.oneCell') = true := all_oneCell_toArray (fun v hv => by
  unfold stC at hv
  simp only [List.mem_cons, List.not_mem_nil, or_false] at hv
  rcases hv with rfl | rfl | rfl | rfl | rfl | rfl | rfl | rfl | rfl <;> rfl)
theorem sqC_pc (s : Sq) : (sqC s)[0]? = some (.int .u32 s.pc) := rfl
theorem sqC_reg {s : Sq} (h : s.regs.length = 32) (k : Nat) (hk : k < 32) : (sqC s)[k + 1]? = some (.int .u32 (s.regs.getD k 0)) := by
  unfold sqC regL
  rw [List.getElem?_cons_succ, List.getElem?_append_left (by simp [h, hk]), List.getElem?_map, List.getD_eq_getElem?_getD, List.getElem?_eq_getElem (by omega)]
  rfl
theorem sqC_mem {s : Sq} (h : s.regs.length = 32) : (sqC s)[33]? = some (.string s.mem) := by
  unfold sqC regL
  rw [List.getElem?_cons_succ, List.getElem?_append_right (by simp [h])]
  simp [h]
theorem sqC_halt {s : Sq} (h : s.regs.length = 32) : (sqC s)[34]? = some (.int .i64 s.halt) := by
  unfold sqC regL
  rw [List.getElem?_cons_succ, List.getElem?_append_right (by simp [h])]
  simp [h]
theorem sqC_setHalt {s : Sq} (h : s.regs.length = 32) (v : Int) : (sqC s).set 34 (.int .i64 v) = sqC { s with halt := v } := by
  unfold sqC regL
  rw [List.set_cons_succ, List.set_append_right _ _ (by simp [h])]
  simp [h]
theorem sqC_setMem {s : Sq} (h : s.regs.length = 32) (v : ByteArray) : (sqC s).set 33 (.string v) = sqC { s with mem := v } := by
  unfold sqC regL
  rw [List.set_cons_succ, List.set_append_right _ _ (by simp [h])]
  simp [h]
theorem sqC_setPc (s : Sq) (v : Int) : (sqC s).set 0 (.int .u32 v) = sqC { s with pc := v } := rfl
theorem sqC_setReg {s : Sq} (h : s.regs.length = 32) (k : Nat) (hk : k < 32) (v : Int) : (sqC s).set (k + 1) (.int .u32 v) = sqC { s with regs := s.regs.set k v } := by
  unfold sqC regL
  rw [List.set_cons_succ, List.set_append_left _ _ (by simp [h, hk]), List.map_set]
/-- two results that lie in blocks -/
theorem results_cell_two {P : Program} {fn : Func} {p q : Tmp} {ty tz : TypeId} (h : fn.results = #[.cell p ty, .cell q tz]) (tmps : Array Value) (w : World) (b c : Nat) (cs ds : List Value) (d e : TypeDesc)
    (hp : tmps.getD p undef = .pointer (some ⟨b, 0, none⟩)) (hq : tmps.getD q undef = .pointer (some ⟨c, 0, none⟩)) (hB : Blk w b cs) (hD : Blk w c ds) (hu : P.underlying ty = some d) (hd : d.isRow = true) (hi : (P.info? ty).map (·.size) = some cs.length)
    (hv : P.underlying tz = some e) (he : e.isRow = true) (hj : (P.info? tz).map (·.size) = some ds.length) :
    (results fn tmps).run P w = .ok (.tuple #[.agg cs.toArray, .agg ds.toArray]) w := by
  have hp' : tmps[p]?.getD undef = .pointer (some ⟨b, 0, none⟩) := by simpa using hp
  have hq' : tmps[q]?.getD undef = .pointer (some ⟨c, 0, none⟩) := by simpa using hq
  simp [results, h, hp', hq', asAddr, run_loadVar_mid w b 0 ty cs d hB.range hu hd hi, run_loadVar_mid w c 0 tz ds e hD.range hv he hj]

def z35 : List Value := [.int .u32 0, .int .u32 0, .int .u32 0, .int .u32 0, .int .u32 0, .int .u32 0, .int .u32 0, .int .u32 0, .int .u32 0, .int .u32 0, .int .u32 0, .int .u32 0, .int .u32 0, .int .u32 0, .int .u32 0, .int .u32 0, .int .u32 0, .int .u32 0, .int .u32 0, .int .u32 0, .int .u32 0, .int .u32 0, .int .u32 0, .int .u32 0, .int .u32 0, .int .u32 0, .int .u32 0, .int .u32 0, .int .u32 0, .int .u32 0, .int .u32 0, .int .u32 0, .int .u32 0, .string ⟨#[]⟩, .int .i64 0]
def z9 : List Value := [.int .u32 0, .int .u32 0, .int .i64 0, .int .u32 0, .int .u32 0, .int .i64 0, .bool false, .int .i64 0, .int .i64 0]
theorem three_allocs (w : World) (X Y Z : List Value) (t u v : TypeId) :
    Blk (((w.alloc (.cells X.toArray t)).alloc (.cells Y.toArray u)).alloc (.cells Z.toArray v)) w.heap.size X ∧ Blk (((w.alloc (.cells X.toArray t)).alloc (.cells Y.toArray u)).alloc (.cells Z.toArray v)) (w.heap.size + 1) Y ∧
    Blk (((w.alloc (.cells X.toArray t)).alloc (.cells Y.toArray u)).alloc (.cells Z.toArray v)) (w.heap.size + 1 + 1) Z ∧ Below w.heap.size w (((w.alloc (.cells X.toArray t)).alloc (.cells Y.toArray u)).alloc (.cells Z.toArray v)) := by
  have s1 : (w.alloc (.cells X.toArray t)).heap.size = w.heap.size + 1 := by simp
  have s2 : ((w.alloc (.cells X.toArray t)).alloc (.cells Y.toArray u)).heap.size = w.heap.size + 1 + 1 := by simp
  have b1 : Below (w.heap.size + 1) (w.alloc (.cells X.toArray t)) (((w.alloc (.cells X.toArray t)).alloc (.cells Y.toArray u)).alloc (.cells Z.toArray v)) := (((Below.refl _ _).alloc (by rw [s1]; exact Nat.le_refl _) _).alloc (by rw [s2]; omega) _)
  have b2 : Below (w.heap.size + 1 + 1) ((w.alloc (.cells X.toArray t)).alloc (.cells Y.toArray u)) (((w.alloc (.cells X.toArray t)).alloc (.cells Y.toArray u)).alloc (.cells Z.toArray v)) := (Below.refl _ _).alloc (by rw [s2]; exact Nat.le_refl _) _
  refine ⟨(Blk.new w t X).below b1 (Nat.lt_succ_self _), ?_, ?_, ?_⟩
  · have := Blk.new (w.alloc (.cells X.toArray t)) u Y
    rw [s1] at this
    exact this.below b2 (Nat.lt_succ_self _)
  · have := Blk.new ((w.alloc (.cells X.toArray t)).alloc (.cells Y.toArray u)) v Z
    rwa [s2] at this
  · exact (((Below.refl _ _).alloc (Nat.le_refl _) _).alloc (by rw [s1]; omega) _).alloc (by rw [s2]; omega) _

theorem halted_any (s : Sq) (hs : s.regs.length = 32) (why addr : Int) (w : World) :
    Calls Tryd.prog 86 #[sqV s, .int .i64 why, .int .u32 addr] w fun r w' => r = .returned (.tuple #[sqV (haltS s why addr).1, stV (haltS s why addr).2]) ∧ Below w.heap.size w w' := by
  obtain ⟨cs, hcs⟩ : ∃ cs, sqC s = cs := ⟨_, rfl⟩
  have hl := sqC_len hs
  have h34 := sqC_halt hs
  have h0 := sqC_pc s
  obtain ⟨cs2, hcs2⟩ : ∃ cs2, sqC { s with halt := why } = cs2 := ⟨_, rfl⟩
  have hset := sqC_setHalt hs why
  have hl2 := sqC_len (s := { s with halt := why }) hs
  have ho2 := sqC_one { s with halt := why }
  have h02 := sqC_pc { s with halt := why }
  obtain ⟨ds, hds⟩ : ∃ ds, ds = [Value.int .u32 s.pc, .int .u32 s.pc, .int .i64 0, .int .u32 0, .int .u32 addr, .int .i64 0, .bool false, .int .i64 why, .int .i64 0] := ⟨_, rfl⟩
  have hv : Value.tuple #[sqV (haltS s why addr).1, stV (haltS s why addr).2] = .tuple #[.agg cs2.toArray, .agg ds.toArray] := by rw [← hcs2, hds]; rfl
  rw [hv, show sqV s = .agg cs.toArray by rw [← hcs]; rfl]
  simp only at h02
  generalize s.pc = pc at *
  rw [hcs, hcs2] at hset
  rw [hcs] at hl h34 h0
  rw [hcs2] at hl2 ho2 h02
  clear hv hcs hcs2
  obtain ⟨f1, f2, f3, f4⟩ := three_allocs w cs z35 z9 28 28 33
  have HI := Lib.hid (show (Tryd.prog.info? 28).map (·.size) = some cs2.length by rw [hl2]; exact sq_info)
  have HJ := Lib.hid (show (Tryd.prog.info? 28).map (·.size) = some cs2.toArray.size by rw [List.size_toArray, hl2]; exact sq_info)
  have HZ := Lib.hid (show z35.length = cs2.toArray.size by rw [List.size_toArray, hl2]; rfl)
  have HO := Lib.hid ho2
  have HD := Lib.hid hds
  have H0 := Lib.hid h02
  have HS := Lib.hid hset
  clear ho2 hl2 hds h02 hset
  go_enter Tryd.func86, Tryd.ntmps86
  simp only [z35, z9] at f1 f2 f3 f4
  go_upto_region 1 with fail
  generalize ((w.alloc (.cells cs.toArray 28)).alloc (.cells #[.int .u32 0, .int .u32 0, .int .u32 0, .int .u32 0, .int .u32 0, .int .u32 0, .int .u32 0, .int .u32 0, .int .u32 0, .int .u32 0, .int .u32 0, .int .u32 0, .int .u32 0, .int .u32 0, .int .u32 0, .int .u32 0, .int .u32 0, .int .u32 0, .int .u32 0, .int .u32 0, .int .u32 0, .int .u32 0, .int .u32 0, .int .u32 0, .int .u32 0, .int .u32 0, .int .u32 0, .int .u32 0, .int .u32 0, .int .u32 0, .int .u32 0, .int .u32 0, .int .u32 0, .string ⟨#[]⟩, .int .i64 0] 28)).alloc (.cells #[.int .u32 0, .int .u32 0, .int .i64 0, .int .u32 0, .int .u32 0, .int .i64 0, .bool false, .int .i64 0, .int .i64 0] 33) = W0 at *
  have X1 := Lib.hid f1
  have X2 := Lib.hid f2
  have X3 := Lib.hid f3
  have KB := Lib.hid f4
  clear f1 f2 f3 f4
  have s34 := X1.out.2.1 34 _ h34
  have e34 := X1.out.2.2 34 (by omega)
  go_upto_region 2 with fail
  clear s34 e34
  have z1 := (X1.out).set (i := 34) (v := .int .i64 why) (by omega)
  rw [HS.out] at z1
  have z2 := (X2.out).other (p := ⟨w.heap.size, 34, none⟩) (v := .int .i64 why) (by simp)
  have z3 := (X3.out).other (p := ⟨w.heap.size, 34, none⟩) (v := .int .i64 why) (by simp <;> omega)
  have z4 := (KB.out).setCell (p := ⟨w.heap.size, 34, none⟩) (Nat.le_refl _) (.int .i64 why)
  generalize (World.setCell W0 ⟨w.heap.size, 34, none⟩ (.int .i64 why)) = W1 at *
  clear X1 X2 X3 KB
  have X1 := Lib.hid z1
  have X2 := Lib.hid z2
  have X3 := Lib.hid z3
  have KB := Lib.hid z4
  clear z1 z2 z3 z4
  have q0 := stW_cell (X1.out.2.1 0 _ H0.out) (w.heap.size + 1) cs2 (w.heap.size + 1 + 1) ds (by simp) (by simp <;> omega)
  have XK := Lib.hid (X1.out.stage (w.heap.size + 1) cs2 (w.heap.size + 1 + 1) ds (by omega) (by omega))
  refine wp_region_two [] [0, 1, 2, 3, 4, 5, 6, 7] 8 9 _ _ (w.heap.size + 1) (w.heap.size + 1 + 1) z35 z9 cs2 ds 28 33 (.tmp 6) (.tmp 10) (.tmp 7) (.tmp 17) (by kernel_rfl) (by kernel_rfl) rfl rfl rfl ⟨rfl, rfl, rfl⟩ ⟨rfl, rfl, rfl⟩ (by omega) X2.out X3.out (by rw [HZ.out, List.size_toArray]) (by rw [HD.out]; rfl) HI.out (by rw [HD.out]; exact st_info) HO.out (by rw [HD.out]; exact stC_one ⟨_, _, _, _, _, _, _, _, _⟩) ?_
  simp only [opsAt, List.getElem?_toArray, List.getElem?_cons_zero, List.getElem?_cons_succ, Option.toList_some, List.cons_append, List.nil_append]
  refine wpQuiet_next ?_
  repeat (first
    | (go_big_quiet_want; refine quiet_load_stage 28 (.tmp 3) rfl _ rfl cs2 _ XK.out Tryd.underlying28 rfl HI.out ?_; simp only [Act.put, List.setIfInBounds_toArray, List.set_cons_succ, List.set_cons_zero]; go_big_quiet_on)
    | (go_big_quiet_step (fail)))
  refine wpQuiet_nil ?_
  refine ⟨⟨rfl, rfl, rfl, by rw [HD.out]; rfl⟩, fun w9 n1 n2 n3 n4 => ?_⟩
  go_wp2
  exact bodyPost_ret (v := .tuple #[.agg cs2.toArray, .agg ds.toArray]) (results_cell_two Tryd.results86 _ w9 (w.heap.size + 1) (w.heap.size + 1 + 1) cs2 ds _ _ rfl rfl n1 n2 Tryd.underlying28 rfl HI.out Tryd.underlying33 rfl (by rw [HD.out]; exact st_info)) rfl ⟨rfl, KB.out.trans (n4 _ (by omega) (by omega))⟩

theorem wrote_any (s : Sq) (op rd rs1 rs2 imm next value : Int) (t : St) (hs : s.regs.length = 32) (hw : 0 ≤ wrI op rd ∧ wrI op rd ≤ 31) (w : World) (ht : TabIs w) (hg : 0 < w.heap.size) :
    Calls Tryd.prog 88 #[sqV s, .agg #[.int .i64 op, .int .i64 rd, .int .i64 rs1, .int .i64 rs2, .int .u32 imm], .int .u32 next, .int .u32 value, stV t] w fun r w' => r = .returned (.tuple #[sqV (wrote s op rd next value t).1, stV (wrote s op rd next value t).2]) ∧ Below w.heap.size w w' := by
  have HW := Lib.hid (fun w ht hg => writes_any op rd rs1 rs2 imm w ht hg)
  have HT := Lib.hid ht
  clear ht
  obtain ⟨k, hk⟩ : ∃ k : Nat, wrI op rd = (k : Int) := ⟨(wrI op rd).toNat, by omega⟩
  have hk31 : k ≤ 31 := by omega
  obtain ⟨s2, hs2⟩ : ∃ s2, (wrote s op rd next value t).1 = s2 := ⟨_, rfl⟩
  obtain ⟨t2, ht2⟩ : ∃ t2, (wrote s op rd next value t).2 = t2 := ⟨_, rfl⟩
  rw [hs2, ht2]
  unfold wrote at hs2 ht2
  rw [hk] at hs2 ht2 HW
  simp only [Int.toNat_natCast] at hs2
  clear hk hw
  obtain ⟨cs, hcs⟩ : ∃ cs, sqC s = cs := ⟨_, rfl⟩
  have hl := sqC_len hs
  have h0 := sqC_pc s
  have hR := sqC_reg hs k (by omega)
  have hset := sqC_setReg hs k (by omega) value
  have HN := Lib.hid (fun s : Sq => sqC_setPc s next)
  have hl2 : (sqC s2).length = 35 := sqC_len (by rw [← hs2]; show (if _ then _ else _ : List Int).length = 32; split; exact hs; rw [List.length_set]; exact hs)
  have ho2 := sqC_one s2
  obtain ⟨cs2, hcs2⟩ : ∃ cs2, sqC s2 = cs2 := ⟨_, rfl⟩
  have HS2 := Lib.hid hs2
  have HCS := Lib.hid hcs2
  have hR' : cs[1 + k]? = some (.int .u32 (s.regs.getD k 0)) := by rw [← hcs, Nat.add_comm]; exact hR
  rw [show sqV s = .agg cs.toArray by rw [← hcs]; rfl, show sqV s2 = .agg cs2.toArray by rw [← hcs2]; rfl]
  rw [hcs] at hl h0 hR hset
  rw [hcs2] at hl2 ho2
  have HSET := Lib.hid hset
  have HR := Lib.hid hR'
  have H0 := Lib.hid h0
  clear hR hset hs2 hcs2 hR' h0
  obtain ⟨tpc, tnx, trd, tva, tad, tsi, tso, tha, ttk⟩ := t
  simp only at ht2
  have HT2 := Lib.hid ht2
  clear ht2
  have HI := Lib.hid (show (Tryd.prog.info? 28).map (·.size) = some cs2.length by rw [hl2]; exact sq_info)
  have HZ := Lib.hid (show z35.length = cs2.length by rw [hl2]; rfl)
  have HO := Lib.hid ho2
  have HL := Lib.hid hl
  clear hl2 ho2
  obtain ⟨pc, hpc⟩ : ∃ pc, s.pc = pc := ⟨_, rfl⟩
  rw [hpc] at H0 HT2
  unfold stV
  go_enter Tryd.func88, Tryd.ntmps88
  go_upto_region 1 with fail
  refine wp_allocs [(cs, 28), ([.int .i64 op, .int .i64 rd, .int .i64 rs1, .int .i64 rs2, .int .u32 imm], 46), ([.int .u32 tpc, .int .u32 tnx, .int .i64 trd, .int .u32 tva, .int .u32 tad, .int .i64 tsi, .bool tso, .int .i64 tha, .int .i64 ttk], 33), (z35, 28), (z9, 33)] rfl ?_
  intro W0 y1 KB y3
  have X1 := Lib.hid (show Blk W0 w.heap.size cs from y3 0 _ rfl)
  have X2 := Lib.hid (show Blk W0 (w.heap.size + 1) [.int .i64 op, .int .i64 rd, .int .i64 rs1, .int .i64 rs2, .int .u32 imm] from y3 1 _ rfl)
  have X3 := Lib.hid (show Blk W0 (w.heap.size + 1 + 1) [.int .u32 tpc, .int .u32 tnx, .int .i64 trd, .int .u32 tva, .int .u32 tad, .int .i64 tsi, .bool tso, .int .i64 tha, .int .i64 ttk] from y3 2 _ rfl)
  have X4 := Lib.hid (show Blk W0 (w.heap.size + 1 + 1 + 1) z35 from y3 3 _ rfl)
  have X5 := Lib.hid (show Blk W0 (w.heap.size + 1 + 1 + 1 + 1) z9 from y3 4 _ rfl)
  replace KB := Lib.hid KB
  clear y1 y3
  have s0 := X1.out.2.1 0 _ H0.out
  have t0 := X3.out.2.1 0 _ rfl
  have t1 := X3.out.2.1 1 _ rfl
  have e0 := X3.out.2.2 0 (by simp)
  have e1 := X3.out.2.2 1 (by simp)
  go_upto_region 2 with fail
  clear s0 e0 e1 t0 t1
  have z3 := (X3.out).set (i := 0) (v := .int .u32 pc) (by simp)
  simp only [List.set_cons_succ, List.set_cons_zero] at z3
  have z1 := (X1.out).other (p := ⟨w.heap.size + 1 + 1, 0, none⟩) (v := .int .u32 pc) (by simp <;> omega)
  have z2 := (X2.out).other (p := ⟨w.heap.size + 1 + 1, 0, none⟩) (v := .int .u32 pc) (by simp)
  have z4 := (X4.out).other (p := ⟨w.heap.size + 1 + 1, 0, none⟩) (v := .int .u32 pc) (by simp)
  have z5 := (X5.out).other (p := ⟨w.heap.size + 1 + 1, 0, none⟩) (v := .int .u32 pc) (by simp <;> omega)
  have z6 := (KB.out).setCell (p := ⟨w.heap.size + 1 + 1, 0, none⟩) (by show w.heap.size ≤ w.heap.size + 1 + 1; omega) (.int .u32 pc)
  generalize (World.setCell W0 ⟨w.heap.size + 1 + 1, 0, none⟩ (.int .u32 pc)) = WA at *
  clear X1 X2 X3 X4 X5 KB
  have X1 := Lib.hid z1
  have X2 := Lib.hid z2
  have X3 := Lib.hid z3
  have X4 := Lib.hid z4
  have X5 := Lib.hid z5
  have KB := Lib.hid z6
  clear z1 z2 z3 z4 z5 z6
  have z3 := (X3.out).set (i := 1) (v := .int .u32 next) (by simp)
  simp only [List.set_cons_succ, List.set_cons_zero] at z3
  have z1 := (X1.out).other (p := ⟨w.heap.size + 1 + 1, 1, none⟩) (v := .int .u32 next) (by simp <;> omega)
  have z2 := (X2.out).other (p := ⟨w.heap.size + 1 + 1, 1, none⟩) (v := .int .u32 next) (by simp)
  have z4 := (X4.out).other (p := ⟨w.heap.size + 1 + 1, 1, none⟩) (v := .int .u32 next) (by simp)
  have z5 := (X5.out).other (p := ⟨w.heap.size + 1 + 1, 1, none⟩) (v := .int .u32 next) (by simp <;> omega)
  have z6 := (KB.out).setCell (p := ⟨w.heap.size + 1 + 1, 1, none⟩) (by show w.heap.size ≤ w.heap.size + 1 + 1; omega) (.int .u32 next)
  generalize (World.setCell WA ⟨w.heap.size + 1 + 1, 1, none⟩ (.int .u32 next)) = W1 at *
  clear X1 X2 X3 X4 X5 KB
  have X1 := Lib.hid z1
  have X2 := Lib.hid z2
  have X3 := Lib.hid z3
  have X4 := Lib.hid z4
  have X5 := Lib.hid z5
  have KB := Lib.hid z6
  clear z1 z2 z3 z4 z5 z6
  have a0 := X2.out.2.1 0 _ rfl
  have a1 := X2.out.2.1 1 _ rfl
  have a2 := X2.out.2.1 2 _ rfl
  have a3 := X2.out.2.1 3 _ rfl
  have a4 := X2.out.2.1 4 _ rfl
  go_wp2_with fail
  go_at_call 57
  refine (HW.out _ (HT.out.below KB.out hg) (Nat.lt_of_lt_of_le hg KB.out.size)).mono ?_
  rintro e w2 ⟨rfl, b⟩
  have z1 := X1.out.below b X1.out.1
  have z2 := X2.out.below b X2.out.1
  have z3 := X3.out.below b X3.out.1
  have z4 := X4.out.below b X4.out.1
  have z5 := X5.out.below b X5.out.1
  have z6 := KB.out.trans ((b).mono KB.out.size)
  clear X1 X2 X3 X4 X5 KB
  have X1 := Lib.hid z1
  have X2 := Lib.hid z2
  have X3 := Lib.hid z3
  have X4 := Lib.hid z4
  have X5 := Lib.hid z5
  have KB := Lib.hid z6
  clear z1 z2 z3 z4 z5 z6
  clear b a0 a1 a2 a3 a4
  have t2 := X3.out.2.1 2 _ rfl
  have e2 := X3.out.2.2 2 (by simp)
  go_upto_region 3 with fail
  clear t2 e2
  have z3 := (X3.out).set (i := 2) (v := .int .i64 k) (by simp)
  simp only [List.set_cons_succ, List.set_cons_zero] at z3
  have z1 := (X1.out).other (p := ⟨w.heap.size + 1 + 1, 2, none⟩) (v := .int .i64 k) (by simp <;> omega)
  have z2 := (X2.out).other (p := ⟨w.heap.size + 1 + 1, 2, none⟩) (v := .int .i64 k) (by simp)
  have z4 := (X4.out).other (p := ⟨w.heap.size + 1 + 1, 2, none⟩) (v := .int .i64 k) (by simp)
  have z5 := (X5.out).other (p := ⟨w.heap.size + 1 + 1, 2, none⟩) (v := .int .i64 k) (by simp <;> omega)
  have z6 := (KB.out).setCell (p := ⟨w.heap.size + 1 + 1, 2, none⟩) (by show w.heap.size ≤ w.heap.size + 1 + 1; omega) (.int .i64 k)
  generalize (World.setCell w2 ⟨w.heap.size + 1 + 1, 2, none⟩ (.int .i64 k)) = W3 at *
  clear X1 X2 X3 X4 X5 KB
  have X1 := Lib.hid z1
  have X2 := Lib.hid z2
  have X3 := Lib.hid z3
  have X4 := Lib.hid z4
  have X5 := Lib.hid z5
  have KB := Lib.hid z6
  clear z1 z2 z3 z4 z5 z6
  have c2 := X3.out.2.1 2 _ rfl
  by_cases hz : k = 0
  · have q : ((k : Int) != 0) = false := by simpa using hz
    have HS3 := Lib.hid (show sqC { s with pc := next } = cs2 by rw [← HCS.out, ← HS2.out, if_pos (by omega)])
    have HT3 := Lib.hid (show (⟨pc, next, (k : Int), tva, tad, tsi, tso, tha, ttk⟩ : St) = t2 by rw [← HT2.out, if_pos (by omega)])
    have HN' := HN.out s
    rw [hcs, HS3.out] at HN'
    go_upto_region 6 with fail
    clear c2 q
    have s0 := X1.out.2.1 0 _ H0.out
    have e0 := X1.out.2.2 0 (by have := HL.out; simp <;> omega)
    go_upto_region 7 with fail
    clear s0 e0
    have z1 := (X1.out).set (i := 0) (v := .int .u32 next) (by have := HL.out; simp <;> omega)
    rw [HN'] at z1
    have z2 := (X2.out).other (p := ⟨w.heap.size, 0, none⟩) (v := .int .u32 next) (by simp)
    have z3 := (X3.out).other (p := ⟨w.heap.size, 0, none⟩) (v := .int .u32 next) (by simp <;> omega)
    have z4 := (X4.out).other (p := ⟨w.heap.size, 0, none⟩) (v := .int .u32 next) (by simp <;> omega)
    have z5 := (X5.out).other (p := ⟨w.heap.size, 0, none⟩) (v := .int .u32 next) (by simp <;> omega)
    have z6 := (KB.out).setCell (p := ⟨w.heap.size, 0, none⟩) (Nat.le_refl _) (.int .u32 next)
    generalize (World.setCell W3 ⟨w.heap.size, 0, none⟩ (.int .u32 next)) = W7 at *
    clear X1 X2 X3 X4 X5 KB
    have X1 := Lib.hid z1
    have X2 := Lib.hid z2
    have X3 := Lib.hid z3
    have X4 := Lib.hid z4
    have X5 := Lib.hid z5
    have KB := Lib.hid z6
    clear z1 z2 z3 z4 z5 z6
    obtain ⟨ds, hds⟩ : ∃ ds : List Value, [Value.int .u32 pc, .int .u32 next, .int .i64 k, .int .u32 tva, .int .u32 tad, .int .i64 tsi, .bool tso, .int .i64 tha, .int .i64 ttk] = ds := ⟨_, rfl⟩
    have X3' := X3.out
    rw [hds] at X3'
    have HD := Lib.hid hds
    replace X3 := Lib.hid X3'
    clear hds X3'
    have XK := Lib.hid (X1.out.stage (w.heap.size + 1 + 1 + 1) cs2 (w.heap.size + 1 + 1 + 1 + 1) ds (by omega) (by omega))
    have XT := Lib.hid (X3.out.stage (w.heap.size + 1 + 1 + 1) cs2 (w.heap.size + 1 + 1 + 1 + 1) ds (by omega) (by omega))
    have SI := Lib.hid (show (Tryd.prog.info? 33).map (·.size) = some ds.length by rw [← HD.out]; exact st_info)
    have SO := Lib.hid (show ds.toArray.all (·.oneCell') = true by rw [← HD.out]; exact stC_one ⟨_, _, _, _, _, _, _, _, _⟩)
    refine wp_region_two [] [0, 1] 2 3 _ _ (w.heap.size + 1 + 1 + 1) (w.heap.size + 1 + 1 + 1 + 1) z35 z9 cs2 ds 28 33 (.tmp 10) (.tmp 32) (.tmp 11) (.tmp 33) (by kernel_rfl) (by kernel_rfl) rfl rfl rfl ⟨rfl, rfl, rfl⟩ ⟨rfl, rfl, rfl⟩ (by omega) X4.out X5.out HZ.out (by rw [← HD.out]; rfl) HI.out SI.out HO.out SO.out ?_
    simp only [opsAt, List.getElem?_toArray, List.getElem?_cons_zero, List.getElem?_cons_succ, Option.toList_some, List.cons_append, List.nil_append]
    refine wpQuiet_next ?_
    go_big_quiet_want
    refine quiet_load_stage 28 (.tmp 5) rfl _ rfl cs2 _ XK.out Tryd.underlying28 rfl HI.out ?_
    simp only [Act.put, List.setIfInBounds_toArray, List.set_cons_succ, List.set_cons_zero]
    go_big_quiet_on
    go_big_quiet_want
    refine quiet_load_stage 33 (.tmp 9) rfl _ rfl ds _ XT.out Tryd.underlying33 rfl SI.out ?_
    simp only [Act.put, List.setIfInBounds_toArray, List.set_cons_succ, List.set_cons_zero]
    go_big_quiet_on
    refine wpQuiet_nil ?_
    refine ⟨⟨rfl, rfl, rfl, rfl⟩, fun w9 n1 n2 n3 n4 => ?_⟩
    go_wp2
    exact bodyPost_ret (v := .tuple #[.agg cs2.toArray, .agg ds.toArray]) (results_cell_two Tryd.results88 _ w9 (w.heap.size + 1 + 1 + 1) (w.heap.size + 1 + 1 + 1 + 1) cs2 ds _ _ rfl rfl n1 n2 Tryd.underlying28 rfl HI.out Tryd.underlying33 rfl SI.out) rfl ⟨by rw [← HD.out, ← HT3.out], KB.out.trans (n4 _ (by omega) (by omega))⟩
  · have q : ((k : Int) != 0) = true := by simpa using hz
    have HS3 := Lib.hid (show sqC { s with pc := next, regs := s.regs.set k value } = cs2 by rw [← HCS.out, ← HS2.out, if_neg (by omega)])
    have HT3 := Lib.hid (show (⟨pc, next, (k : Int), value, tad, tsi, tso, tha, ttk⟩ : St) = t2 by rw [← HT2.out, if_neg (by omega)])
    have HN' := HN.out { s with regs := s.regs.set k value }
    rw [← HSET.out, HS3.out, Nat.add_comm] at HN'
    have r1 := X1.out.2.1 (1 + k) _ HR.out
    have f1 := X1.out.2.2 (1 + k) (by have := HL.out; omega)
    have hk31' : (k : Int) < 32 := by omega
    go_upto_region 5 with fail
    clear r1 f1 q c2
    have z1 := (X1.out).set (i := 1 + k) (v := .int .u32 value) (by have := HL.out; omega)
    have z2 := (X2.out).other (p := ⟨w.heap.size, 1 + k, none⟩) (v := .int .u32 value) (by simp)
    have z3 := (X3.out).other (p := ⟨w.heap.size, 1 + k, none⟩) (v := .int .u32 value) (by simp <;> omega)
    have z4 := (X4.out).other (p := ⟨w.heap.size, 1 + k, none⟩) (v := .int .u32 value) (by simp <;> omega)
    have z5 := (X5.out).other (p := ⟨w.heap.size, 1 + k, none⟩) (v := .int .u32 value) (by simp <;> omega)
    have z6 := (KB.out).setCell (p := ⟨w.heap.size, 1 + k, none⟩) (Nat.le_refl _) (.int .u32 value)
    generalize (World.setCell W3 ⟨w.heap.size, 1 + k, none⟩ (.int .u32 value)) = W5 at *
    clear X1 X2 X3 X4 X5 KB
    have X1 := Lib.hid z1
    have X2 := Lib.hid z2
    have X3 := Lib.hid z3
    have X4 := Lib.hid z4
    have X5 := Lib.hid z5
    have KB := Lib.hid z6
    clear z1 z2 z3 z4 z5 z6
    have c3 := X3.out.2.1 3 _ rfl
    have e3 := X3.out.2.2 3 (by simp)
    go_upto_region 6 with fail
    clear c3 e3
    have z3 := (X3.out).set (i := 3) (v := .int .u32 value) (by simp)
    simp only [List.set_cons_succ, List.set_cons_zero] at z3
    have z1 := (X1.out).other (p := ⟨w.heap.size + 1 + 1, 3, none⟩) (v := .int .u32 value) (by simp <;> omega)
    have z2 := (X2.out).other (p := ⟨w.heap.size + 1 + 1, 3, none⟩) (v := .int .u32 value) (by simp)
    have z4 := (X4.out).other (p := ⟨w.heap.size + 1 + 1, 3, none⟩) (v := .int .u32 value) (by simp)
    have z5 := (X5.out).other (p := ⟨w.heap.size + 1 + 1, 3, none⟩) (v := .int .u32 value) (by simp <;> omega)
    have z6 := (KB.out).setCell (p := ⟨w.heap.size + 1 + 1, 3, none⟩) (by show w.heap.size ≤ w.heap.size + 1 + 1; omega) (.int .u32 value)
    generalize (World.setCell W5 ⟨w.heap.size + 1 + 1, 3, none⟩ (.int .u32 value)) = W6 at *
    clear X1 X2 X3 X4 X5 KB
    have X1 := Lib.hid z1
    have X2 := Lib.hid z2
    have X3 := Lib.hid z3
    have X4 := Lib.hid z4
    have X5 := Lib.hid z5
    have KB := Lib.hid z6
    clear z1 z2 z3 z4 z5 z6
    have s0 := X1.out.2.1 0 _ (by rw [List.getElem?_set_ne (by omega)]; exact H0.out)
    have e0 := X1.out.2.2 0 (by have := HL.out; simp <;> omega)
    go_upto_region 7 with fail
    clear s0 e0
    have z1 := (X1.out).set (i := 0) (v := .int .u32 next) (by have := HL.out; simp <;> omega)
    rw [HN'] at z1
    have z2 := (X2.out).other (p := ⟨w.heap.size, 0, none⟩) (v := .int .u32 next) (by simp)
    have z3 := (X3.out).other (p := ⟨w.heap.size, 0, none⟩) (v := .int .u32 next) (by simp <;> omega)
    have z4 := (X4.out).other (p := ⟨w.heap.size, 0, none⟩) (v := .int .u32 next) (by simp <;> omega)
    have z5 := (X5.out).other (p := ⟨w.heap.size, 0, none⟩) (v := .int .u32 next) (by simp <;> omega)
    have z6 := (KB.out).setCell (p := ⟨w.heap.size, 0, none⟩) (Nat.le_refl _) (.int .u32 next)
    generalize (World.setCell W6 ⟨w.heap.size, 0, none⟩ (.int .u32 next)) = W7 at *
    clear X1 X2 X3 X4 X5 KB
    have X1 := Lib.hid z1
    have X2 := Lib.hid z2
    have X3 := Lib.hid z3
    have X4 := Lib.hid z4
    have X5 := Lib.hid z5
    have KB := Lib.hid z6
    clear z1 z2 z3 z4 z5 z6
    obtain ⟨ds, hds⟩ : ∃ ds : List Value, [Value.int .u32 pc, .int .u32 next, .int .i64 k, .int .u32 value, .int .u32 tad, .int .i64 tsi, .bool tso, .int .i64 tha, .int .i64 ttk] = ds := ⟨_, rfl⟩
    have X3' := X3.out
    rw [hds] at X3'
    have HD := Lib.hid hds
    replace X3 := Lib.hid X3'
    clear hds X3'
    have XK := Lib.hid (X1.out.stage (w.heap.size + 1 + 1 + 1) cs2 (w.heap.size + 1 + 1 + 1 + 1) ds (by omega) (by omega))
    have XT := Lib.hid (X3.out.stage (w.heap.size + 1 + 1 + 1) cs2 (w.heap.size + 1 + 1 + 1 + 1) ds (by omega) (by omega))
    have SI := Lib.hid (show (Tryd.prog.info? 33).map (·.size) = some ds.length by rw [← HD.out]; exact st_info)
    have SO := Lib.hid (show ds.toArray.all (·.oneCell') = true by rw [← HD.out]; exact stC_one ⟨_, _, _, _, _, _, _, _, _⟩)
    refine wp_region_two [] [0, 1] 2 3 _ _ (w.heap.size + 1 + 1 + 1) (w.heap.size + 1 + 1 + 1 + 1) z35 z9 cs2 ds 28 33 (.tmp 10) (.tmp 32) (.tmp 11) (.tmp 33) (by kernel_rfl) (by kernel_rfl) rfl rfl rfl ⟨rfl, rfl, rfl⟩ ⟨rfl, rfl, rfl⟩ (by omega) X4.out X5.out HZ.out (by rw [← HD.out]; rfl) HI.out SI.out HO.out SO.out ?_
    simp only [opsAt, List.getElem?_toArray, List.getElem?_cons_zero, List.getElem?_cons_succ, Option.toList_some, List.cons_append, List.nil_append]
    refine wpQuiet_next ?_
    go_big_quiet_want
    refine quiet_load_stage 28 (.tmp 5) rfl _ rfl cs2 _ XK.out Tryd.underlying28 rfl HI.out ?_
    simp only [Act.put, List.setIfInBounds_toArray, List.set_cons_succ, List.set_cons_zero]
    go_big_quiet_on
    go_big_quiet_want
    refine quiet_load_stage 33 (.tmp 9) rfl _ rfl ds _ XT.out Tryd.underlying33 rfl SI.out ?_
    simp only [Act.put, List.setIfInBounds_toArray, List.set_cons_succ, List.set_cons_zero]
    go_big_quiet_on
    refine wpQuiet_nil ?_
    refine ⟨⟨rfl, rfl, rfl, rfl⟩, fun w9 n1 n2 n3 n4 => ?_⟩
    go_wp2
    exact bodyPost_ret (v := .tuple #[.agg cs2.toArray, .agg ds.toArray]) (results_cell_two Tryd.results88 _ w9 (w.heap.size + 1 + 1 + 1) (w.heap.size + 1 + 1 + 1 + 1) cs2 ds _ _ rfl rfl n1 n2 Tryd.underlying28 rfl HI.out Tryd.underlying33 rfl SI.out) rfl ⟨by rw [← HD.out, ← HT3.out], KB.out.trans (n4 _ (by omega) (by omega))⟩
end Go.Proofs.YtkamljmopbocnaaDoor

/- THE CONTRACT of seq.fetched. -/
namespace Go.Proofs.YtkamljmopbocnaaDoor
open Go.ChangeShapes Go.WideShapes Go.ChangeAt Go.RowKit Go.Sort
set_option linter.unusedVariables false
set_option linter.unusedSimpArgs false
set_option maxHeartbeats 2000000
set_option maxRecDepth 100000

/-- a result that lies in a block, and one in a slot -/
theorem results_cell_slot {P : Program} {fn : Func} {p q : Tmp} {ty : TypeId} (h : fn.results = #[.cell p ty, .tmp q]) (tmps : Array Value) (w : World) (b : Nat) (cs : List Value) (d : TypeDesc) (v : Value)
    (hp : tmps.getD p undef = .pointer (some ⟨b, 0, none⟩)) (hq : tmps.getD q undef = v) (hB : Blk w b cs) (hu : P.underlying ty = some d) (hd : d.isRow = true) (hi : (P.info? ty).map (·.size) = some cs.length) :
    (results fn tmps).run P w = .ok (.tuple #[.agg cs.toArray, v]) w := by
  have hp' : tmps[p]?.getD undef = .pointer (some ⟨b, 0, none⟩) := by simpa using hp
  have hq' : tmps[q]?.getD undef = v := by simpa using hq
  simp [results, h, hp', hq', asAddr, run_loadVar_mid w b 0 ty cs d hB.range hu hd hi]
def fetV (zs : List Int) (pc : Int) : Value := if whyS zs pc = 1 ∨ whyS zs pc = 2 then zeroAgg else inV (insOf (ftV zs zs.length pc))
theorem decV_in (a : Int) (h : chB a = true) : decV a = inV (insOf a) := by rw [(decV_yes h).1]; rfl
theorem ftV_range {zs : List Int} (h : ∀ z ∈ zs, 0 ≤ z ∧ z < 4294967296) (n : Nat) (pc : Int) : 0 ≤ ftV zs n pc ∧ ftV zs n pc < 4294967296 := by
  unfold ftV
  split
  · rw [List.getD_eq_getElem?_getD]
    cases hk : zs[(pc / 4).toNat]? with
    | none => simp
    | some z => exact h z (List.mem_of_getElem? hk)
  · omega
theorem in5_one (i : Ins) : (inC i).toArray.all (·.oneCell') = true := all_oneCell_toArray (fun v hv => by
  unfold inC at hv
  simp only [List.mem_cons, List.not_mem_nil, or_false] at hv
  rcases hv with rfl | rfl | rfl | rfl | rfl <;> rfl)
def z5 : List Value := [.int .i64 0, .int .i64 0, .int .i64 0, .int .i64 0, .int .u32 0]

theorem fetched_any (A : Option Addr) (n cap : Nat) (zs : List Int) (pc : Int) (hn : n ≤ 200) (hz : ∀ z ∈ zs, 0 ≤ z ∧ z < 4294967296) (h0 : 0 ≤ pc) (h1 : pc < 4294967296) (w : World) (ht : TabIs w) (hg : 0 < w.heap.size) (h : IntsAt w A n .u32 zs) :
    Calls Tryd.prog 85 #[.slice A n cap, .int .u32 pc] w fun r w' => r = .returned (.tuple #[fetV zs pc, .int .i64 (whyS zs pc)]) ∧ Below w.heap.size w w' := by
  have hl := h.1
  have HF := Lib.hid (fun (W : World) (hb : Below w.heap.size w W) => fetch_any (cap := cap) (h.below hb) hn pc h0 h1)
  have hr := ftV_range hz n pc
  have HD := Lib.hid (fun (W : World) (hb : Below w.heap.size w W) => decode_any (ftV zs n pc) hr.1 hr.2 W (ht.below hb hg) (Nat.lt_of_lt_of_le hg hb.size))
  obtain ⟨V, hV⟩ : ∃ V, fetV zs pc = V := ⟨_, rfl⟩
  obtain ⟨Y, hY⟩ : ∃ Y, whyS zs pc = Y := ⟨_, rfl⟩
  rw [hV, hY]
  unfold fetV at hV
  rw [hY] at hV
  unfold whyS at hY
  rw [hl] at hV hY
  clear h ht hr hz hl
  obtain ⟨a, ha⟩ : ∃ a, ftV zs n pc = a := ⟨_, rfl⟩
  rw [ha] at HF HD hV hY
  clear ha
  cases hb : ftB n pc
  · rw [hb] at HF hY
    rw [if_pos rfl] at hY
    subst hY
    rw [if_pos (Or.inl rfl)] at hV
    have HV := Lib.hid hV
    clear hV hb
    go_enter Tryd.func85, Tryd.ntmps85
    go_upto_region 1 with fail
    refine wp_allocs [(z5, 46)] rfl ?_
    intro W0 y1 KB y3
    have X1 := Lib.hid (show Blk W0 w.heap.size z5 from y3 0 _ rfl)
    replace KB := Lib.hid KB
    clear y1 y3
    go_upto_region 3 with (first
                            | (go_at_call 107; refine (HF.out _ KB.out).mono ?_; rintro e w1 ⟨rfl, rfl⟩)
                            | (go_at_call 108; refine (HD.out _ KB.out).mono ?_; rintro e w1 ⟨rfl, b⟩; have X1' := X1.out.below b X1.out.1; have KB1 := KB.out.trans (b.mono KB.out.size); replace X1 := Lib.hid X1'; replace KB := Lib.hid KB1; clear b X1' KB1))
    go_wp2_with ((refine wpList_store_blk rfl 46 (.tmp 4) (.tmp 18) rfl w.heap.size z5 z5.toArray X1.out rfl rfl rfl in_info (in5_one ⟨0, 0, 0, 0, 0⟩) ?_; intro W8 hB8 hO8 hbl8 hs8))
    exact bodyPost_ret (v := .tuple #[.agg (z5).toArray, .int .i64 1]) (results_cell_slot Tryd.results85 _ W8 w.heap.size z5 _ _ rfl rfl hB8 Tryd.underlying46 rfl (by first | exact HI.out | exact in_info)) rfl ⟨by first | (rw [HV.out, ← HX.out]; done) | (rw [← HV.out]; rfl), KB.out.trans (hbl8 _ (Nat.le_refl _))⟩
  · rw [hb] at HF hY
    rw [if_neg (by simp)] at hY
    cases hc : chB a
    · rw [hc, if_pos rfl] at hY
      subst hY
      rw [if_pos (Or.inr rfl)] at hV
      rw [(decV_no hc).1, (decV_no hc).2] at HD
      have HV := Lib.hid hV
      clear hV hb hc
      go_enter Tryd.func85, Tryd.ntmps85
      go_upto_region 1 with fail
      refine wp_allocs [(z5, 46)] rfl ?_
      intro W0 y1 KB y3
      have X1 := Lib.hid (show Blk W0 w.heap.size z5 from y3 0 _ rfl)
      replace KB := Lib.hid KB
      clear y1 y3
      go_upto_region 6 with (first | (first
                                       | (go_at_call 107; refine (HF.out _ KB.out).mono ?_; rintro e w1 ⟨rfl, rfl⟩)
                                       | (go_at_call 108; refine (HD.out _ KB.out).mono ?_; rintro e w1 ⟨rfl, b⟩; have X1' := X1.out.below b X1.out.1; have KB1 := KB.out.trans (b.mono KB.out.size); replace X1 := Lib.hid X1'; replace KB := Lib.hid KB1; clear b X1' KB1)) | (refine wpList_store_new rfl 46 (.tmp 8) (.tmp 22) rfl w1.heap.size rfl _ z5 _ rfl rfl (by first | rfl | (rw [H5.out]; rfl)) (by first | exact HI.out | exact in_info) (by first | exact HO.out | exact in5_one ⟨0, 0, 0, 0, 0⟩) ?_; intro W2 hb2 hB2 hs2; have X1' := X1.out.below hb2 X1.out.1; have KB1 := KB.out.trans (hb2.mono KB.out.size); have X2 := Lib.hid hB2; replace X1 := Lib.hid X1'; replace KB := Lib.hid KB1; clear hb2 hB2 X1' KB1))
      go_wp2_with ((refine wpList_store_blk rfl 46 (.tmp 4) (.tmp 27) rfl w.heap.size z5 z5.toArray X1.out rfl rfl rfl in_info (in5_one ⟨0, 0, 0, 0, 0⟩) ?_; intro W8 hB8 hO8 hbl8 hs8))
      exact bodyPost_ret (v := .tuple #[.agg (z5).toArray, .int .i64 2]) (results_cell_slot Tryd.results85 _ W8 w.heap.size z5 _ _ rfl rfl hB8 Tryd.underlying46 rfl (by first | exact HI.out | exact in_info)) rfl ⟨by first | (rw [HV.out, ← HX.out]; done) | (rw [← HV.out]; rfl), KB.out.trans (hbl8 _ (Nat.le_refl _))⟩
    · rw [hc, if_neg (by simp)] at hY
      rw [decV_in a hc, (decV_yes hc).2] at HD
      obtain ⟨⟨op, rd, r1, r2, im⟩, hI⟩ : ∃ I, insOf a = I := ⟨_, rfl⟩
      rw [hI] at HD hY hV
      clear hb hc hI
      simp only at hY
      have hV' : V = .agg #[.int .i64 op, .int .i64 rd, .int .i64 r1, .int .i64 r2, .int .u32 im] := by
        rw [← hV, if_neg]
        · rfl
        · rw [← hY]; split <;> (try split) <;> omega
      have HV := Lib.hid hV'
      clear hV hV'
      obtain ⟨xs, hxs⟩ : ∃ xs : List Value, [Value.int .i64 op, .int .i64 rd, .int .i64 r1, .int .i64 r2, .int .u32 im] = xs := ⟨_, rfl⟩
      have hx5 : xs.length = 5 := by rw [← hxs]; rfl
      have hxo : xs.toArray.all (·.oneCell') = true := by rw [← hxs]; exact in5_one ⟨op, rd, r1, r2, im⟩
      have hx0 : xs[0]? = some (.int .i64 op) := by rw [← hxs]; rfl
      have hxv : inV ⟨op, rd, r1, r2, im⟩ = .agg xs.toArray := by rw [← hxs]; rfl
      rw [hxv] at HD
      have HX := Lib.hid hxs
      have H0 := Lib.hid hx0
      have HO := Lib.hid hxo
      have H5 := Lib.hid hx5
      have HI := Lib.hid (show (Tryd.prog.info? 46).map (·.size) = some xs.length by rw [hx5]; exact in_info)
      clear hxs hxo hxv hx0 hx5
      by_cases h47 : op = 47
      · rw [if_pos h47] at hY
        subst hY
        subst h47
        go_enter Tryd.func85, Tryd.ntmps85
        go_upto_region 1 with fail
        refine wp_allocs [(z5, 46)] rfl ?_
        intro W0 y1 KB y3
        have X1 := Lib.hid (show Blk W0 w.heap.size z5 from y3 0 _ rfl)
        replace KB := Lib.hid KB
        clear y1 y3
        go_upto_region 7 with (first | (first
                                         | (go_at_call 107; refine (HF.out _ KB.out).mono ?_; rintro e w1 ⟨rfl, rfl⟩)
                                         | (go_at_call 108; refine (HD.out _ KB.out).mono ?_; rintro e w1 ⟨rfl, b⟩; have X1' := X1.out.below b X1.out.1; have KB1 := KB.out.trans (b.mono KB.out.size); replace X1 := Lib.hid X1'; replace KB := Lib.hid KB1; clear b X1' KB1)) | (refine wpList_store_new rfl 46 (.tmp 8) (.tmp 22) rfl w1.heap.size rfl _ xs _ rfl rfl (by first | rfl | (rw [H5.out]; rfl)) (by first | exact HI.out | exact in_info) (by first | exact HO.out | exact in5_one ⟨0, 0, 0, 0, 0⟩) ?_; intro W2 hb2 hB2 hs2; have X1' := X1.out.below hb2 X1.out.1; have KB1 := KB.out.trans (hb2.mono KB.out.size); have X2 := Lib.hid hB2; replace X1 := Lib.hid X1'; replace KB := Lib.hid KB1; clear hb2 hB2 X1' KB1))
        have c0 := X2.out.2.1 0 _ H0.out
        go_upto_region 8 with fail
        clear c0
        go_wp2_with (first | (refine wpList_load_mid rfl 46 (.tmp 8) rfl _ 0 rfl xs _ X2.out.range Tryd.underlying46 rfl HI.out ?_) | (refine wpList_store_blk rfl 46 (.tmp 4) (.tmp 32) rfl w.heap.size z5 xs.toArray X1.out (by rw [List.size_toArray, H5.out]; rfl) rfl rfl (by simpa using HI.out) HO.out ?_; intro W8 hB8 hO8 hbl8 hs8))
        exact bodyPost_ret (v := .tuple #[.agg (xs).toArray, .int .i64 6]) (results_cell_slot Tryd.results85 _ W8 w.heap.size xs _ _ rfl rfl hB8 Tryd.underlying46 rfl (by first | exact HI.out | exact in_info)) rfl ⟨by first | (rw [HV.out, ← HX.out]; done) | (rw [← HV.out]; rfl), KB.out.trans (hbl8 _ (Nat.le_refl _))⟩
      · rw [if_neg h47] at hY
        have q1 : (op == 47) = false := by simpa using h47
        by_cases h48 : op = 48
        · rw [if_pos h48] at hY
          subst hY
          subst h48
          go_enter Tryd.func85, Tryd.ntmps85
          go_upto_region 1 with fail
          refine wp_allocs [(z5, 46)] rfl ?_
          intro W0 y1 KB y3
          have X1 := Lib.hid (show Blk W0 w.heap.size z5 from y3 0 _ rfl)
          replace KB := Lib.hid KB
          clear y1 y3
          go_upto_region 7 with (first | (first
                                           | (go_at_call 107; refine (HF.out _ KB.out).mono ?_; rintro e w1 ⟨rfl, rfl⟩)
                                           | (go_at_call 108; refine (HD.out _ KB.out).mono ?_; rintro e w1 ⟨rfl, b⟩; have X1' := X1.out.below b X1.out.1; have KB1 := KB.out.trans (b.mono KB.out.size); replace X1 := Lib.hid X1'; replace KB := Lib.hid KB1; clear b X1' KB1)) | (refine wpList_store_new rfl 46 (.tmp 8) (.tmp 22) rfl w1.heap.size rfl _ xs _ rfl rfl (by first | rfl | (rw [H5.out]; rfl)) (by first | exact HI.out | exact in_info) (by first | exact HO.out | exact in5_one ⟨0, 0, 0, 0, 0⟩) ?_; intro W2 hb2 hB2 hs2; have X1' := X1.out.below hb2 X1.out.1; have KB1 := KB.out.trans (hb2.mono KB.out.size); have X2 := Lib.hid hB2; replace X1 := Lib.hid X1'; replace KB := Lib.hid KB1; clear hb2 hB2 X1' KB1))
          have c0 := X2.out.2.1 0 _ H0.out
          go_upto_region 10 with fail
          clear c0
          go_wp2_with (first | (refine wpList_load_mid rfl 46 (.tmp 8) rfl _ 0 rfl xs _ X2.out.range Tryd.underlying46 rfl HI.out ?_) | (refine wpList_store_blk rfl 46 (.tmp 4) (.tmp 37) rfl w.heap.size z5 xs.toArray X1.out (by rw [List.size_toArray, H5.out]; rfl) rfl rfl (by simpa using HI.out) HO.out ?_; intro W8 hB8 hO8 hbl8 hs8))
          exact bodyPost_ret (v := .tuple #[.agg (xs).toArray, .int .i64 7]) (results_cell_slot Tryd.results85 _ W8 w.heap.size xs _ _ rfl rfl hB8 Tryd.underlying46 rfl (by first | exact HI.out | exact in_info)) rfl ⟨by first | (rw [HV.out, ← HX.out]; done) | (rw [← HV.out]; rfl), KB.out.trans (hbl8 _ (Nat.le_refl _))⟩
        · rw [if_neg h48] at hY
          subst hY
          have q2 : (op == 48) = false := by simpa using h48
          go_enter Tryd.func85, Tryd.ntmps85
          go_upto_region 1 with fail
          refine wp_allocs [(z5, 46)] rfl ?_
          intro W0 y1 KB y3
          have X1 := Lib.hid (show Blk W0 w.heap.size z5 from y3 0 _ rfl)
          replace KB := Lib.hid KB
          clear y1 y3
          go_upto_region 7 with (first | (first
                                           | (go_at_call 107; refine (HF.out _ KB.out).mono ?_; rintro e w1 ⟨rfl, rfl⟩)
                                           | (go_at_call 108; refine (HD.out _ KB.out).mono ?_; rintro e w1 ⟨rfl, b⟩; have X1' := X1.out.below b X1.out.1; have KB1 := KB.out.trans (b.mono KB.out.size); replace X1 := Lib.hid X1'; replace KB := Lib.hid KB1; clear b X1' KB1)) | (refine wpList_store_new rfl 46 (.tmp 8) (.tmp 22) rfl w1.heap.size rfl _ xs _ rfl rfl (by first | rfl | (rw [H5.out]; rfl)) (by first | exact HI.out | exact in_info) (by first | exact HO.out | exact in5_one ⟨0, 0, 0, 0, 0⟩) ?_; intro W2 hb2 hB2 hs2; have X1' := X1.out.below hb2 X1.out.1; have KB1 := KB.out.trans (hb2.mono KB.out.size); have X2 := Lib.hid hB2; replace X1 := Lib.hid X1'; replace KB := Lib.hid KB1; clear hb2 hB2 X1' KB1))
          have c0 := X2.out.2.1 0 _ H0.out
          go_upto_region 11 with fail
          clear c0
          go_wp2_with (first | (refine wpList_load_mid rfl 46 (.tmp 8) rfl _ 0 rfl xs _ X2.out.range Tryd.underlying46 rfl HI.out ?_) | (refine wpList_store_blk rfl 46 (.tmp 4) (.tmp 38) rfl w.heap.size z5 xs.toArray X1.out (by rw [List.size_toArray, H5.out]; rfl) rfl rfl (by simpa using HI.out) HO.out ?_; intro W8 hB8 hO8 hbl8 hs8))
          exact bodyPost_ret (v := .tuple #[.agg (xs).toArray, .int .i64 0]) (results_cell_slot Tryd.results85 _ W8 w.heap.size xs _ _ rfl rfl hB8 Tryd.underlying46 rfl (by first | exact HI.out | exact in_info)) rfl ⟨by first | (rw [HV.out, ← HX.out]; done) | (rw [← HV.out]; rfl), KB.out.trans (hbl8 _ (Nat.le_refl _))⟩
end Go.Proofs.YtkamljmopbocnaaDoor

/- THE CONTRACT of seq.access. -/
namespace Go.Proofs.YtkamljmopbocnaaDoor
open Go.ChangeShapes Go.WideShapes Go.ChangeAt Go.RowKit Go.Sort
set_option linter.unusedVariables false
set_option linter.unusedSimpArgs false
set_option maxHeartbeats 4000000
set_option maxRecDepth 100000

theorem stoS_small (b n : Int) : (stoS b n).size ≤ 4 := by
  unfold stoS
  split
  · rename_i h
    have h1 : (strOfNums (bytL b n.toNat)).size = n.toNat := by simp [strOfNums, bytL, ByteArray.size]
    omega
  · simp
theorem wrote_len {s : Sq} (h : s.regs.length = 32) (op rd next value : Int) (t : St) : (wrote s op rd next value t).1.regs.length = 32 := by
  unfold wrote
  show (if _ then _ else _ : List Int).length = 32
  split
  · exact h
  · rw [List.length_set]; exact h
theorem accS_len {s : Sq} (h : s.regs.length = 32) (i : Ins) (addr b : Int) : (accS s i addr b).1.regs.length = 32 := by
  unfold accS
  split
  · exact h
  · split
    · exact wrote_len (by exact h) _ _ _ _ _
    · exact wrote_len h _ _ _ _ _
theorem access_any (s : Sq) (i : Ins) (addr b : Int) (hs : sqOK s) (hw : 0 ≤ wrI i.op i.rd ∧ wrI i.op i.rd ≤ 31) (a0 : 0 ≤ addr) (a1 : addr < 4294967296) (b0 : 0 ≤ b) (b1 : b < 4294967296) (w : World) (ht : TabIs w) (hg : 0 < w.heap.size) :
    Calls Tryd.prog 87 #[sqV s, inV i, .int .u32 addr, .int .u32 b] w fun r w' => r = .returned (.tuple #[sqV (accS s i addr b).1, stV (accS s i addr b).2]) ∧ Below w.heap.size w w' := by
  obtain ⟨hp, hrl, hrr, hm⟩ := hs
  have HT := Lib.hid ht
  clear ht
  obtain ⟨op, rd, r1, r2, im⟩ := i
  simp only at hw
  have HSZ := Lib.hid (fun w => size_any op rd r1 r2 im w)
  have HK := Lib.hid (fun w => kind_any op rd r1 r2 im w)
  have HRD := Lib.hid (fun w => read_any s.mem addr (sizeOp op) (by unfold maxLen; omega) a0 a1 w)
  have HH := Lib.hid (fun why w => halted_any s hrl why addr w)
  obtain ⟨s2, hs2⟩ : ∃ s2, (accS s ⟨op, rd, r1, r2, im⟩ addr b).1 = s2 := ⟨_, rfl⟩
  obtain ⟨t2, ht2⟩ : ∃ t2, (accS s ⟨op, rd, r1, r2, im⟩ addr b).2 = t2 := ⟨_, rfl⟩
  rw [hs2, ht2]
  have HL2 := Lib.hid (show s2.regs.length = 32 by rw [← hs2]; exact accS_len hrl _ _ _)
  unfold accS at hs2 ht2
  simp only at hs2 ht2
  obtain ⟨cs, hcs⟩ : ∃ cs, sqC s = cs := ⟨_, rfl⟩
  have hl := sqC_len hrl
  have h0 := sqC_pc s
  have h33 := sqC_mem hrl
  rw [hcs] at hl h0 h33
  have hsv : sqV s = .agg cs.toArray := by rw [← hcs]; rfl
  rw [hsv] at HH ⊢
  obtain ⟨xs, hxs⟩ : ∃ xs : List Value, [Value.int .i64 op, .int .i64 rd, .int .i64 r1, .int .i64 r2, .int .u32 im] = xs := ⟨_, rfl⟩
  have hx5 : xs.length = 5 := by rw [← hxs]; rfl
  have hx0 : xs[0]? = some (.int .i64 op) := by rw [← hxs]; rfl
  have hxv : (.agg #[.int .i64 op, .int .i64 rd, .int .i64 r1, .int .i64 r2, .int .u32 im] : Value) = .agg xs.toArray := by rw [← hxs]
  rw [hxv] at HSZ HK
  rw [show inV ⟨op, rd, r1, r2, im⟩ = .agg xs.toArray from hxv]
  have HX := Lib.hid (show (Tryd.prog.info? 46).map (·.size) = some xs.length by rw [hx5]; exact in_info)
  have HI := Lib.hid (show (Tryd.prog.info? 28).map (·.size) = some cs.length by rw [hl]; exact sq_info)
  have H0 := Lib.hid h0
  have H33 := Lib.hid h33
  have X0 := Lib.hid hx0
  have HL := Lib.hid hl
  have HCS := Lib.hid hcs
  have HXV := Lib.hid hxv
  clear hl h0 h33 hx0 hx5 hxs hcs hsv hxv
  obtain ⟨m, hmm⟩ : ∃ m, s.mem = m := ⟨_, rfl⟩
  rw [hmm] at HRD H33 hs2 ht2
  obtain ⟨sz, hsz⟩ : ∃ sz, sizeOp op = sz := ⟨_, rfl⟩
  rw [hsz] at HSZ HRD hs2 ht2
  obtain ⟨kd, hkd⟩ : ∃ kd, kindI op = kd := ⟨_, rfl⟩
  rw [hkd] at HK hs2 ht2
  obtain ⟨cs2, hcs2⟩ : ∃ cs2, sqC s2 = cs2 := ⟨_, rfl⟩
  obtain ⟨ds2, hds2⟩ : ∃ ds2, stC t2 = ds2 := ⟨_, rfl⟩
  have hl2 : cs2.length = 35 := by rw [← hcs2]; exact sqC_len HL2.out
  have hl3 : ds2.length = 9 := by rw [← hds2]; rfl
  have ho2 := sqC_one s2
  have ho3 := stC_one t2
  rw [hcs2] at ho2
  rw [hds2] at ho3
  have HI2 := Lib.hid (show (Tryd.prog.info? 28).map (·.size) = some cs2.toArray.size by rw [List.size_toArray, hl2]; exact sq_info)
  have HZ2 := Lib.hid (show z35.length = cs2.toArray.size by rw [List.size_toArray, hl2]; rfl)
  have HI3 := Lib.hid (show (Tryd.prog.info? 33).map (·.size) = some ds2.toArray.size by rw [List.size_toArray, hl3]; exact st_info)
  have HZ3 := Lib.hid (show z9.length = ds2.toArray.size by rw [List.size_toArray, hl3]; rfl)
  have HO2 := Lib.hid ho2
  have HO3 := Lib.hid ho3
  have hv2 : sqV s2 = .agg cs2.toArray := by rw [← hcs2]; rfl
  have hv3 : stV t2 = .agg ds2.toArray := by rw [← hds2]; rfl
  rw [hv2, hv3]
  go_enter Tryd.func87, Tryd.ntmps87
  go_upto_region 1 with fail
  refine wp_allocs [(cs, 28), (xs, 46), (z35, 28), (z9, 33)] rfl ?_
  intro W0 y1 KB y3
  have X1 := Lib.hid (show Blk W0 w.heap.size cs from y3 0 _ rfl)
  have X2 := Lib.hid (show Blk W0 (w.heap.size + 1) xs from y3 1 _ rfl)
  have X3 := Lib.hid (show Blk W0 (w.heap.size + 1 + 1) z35 from y3 2 _ rfl)
  have X4 := Lib.hid (show Blk W0 (w.heap.size + 1 + 1 + 1) z9 from y3 3 _ rfl)
  replace KB := Lib.hid KB
  clear y1 y3
  refine wp_region_quiet_below (by kernel_rfl) (by kernel_rfl) ?_
  repeat (first
    | (go_big_quiet_want; refine quiet_load_mid 46 (.tmp 5) rfl _ rfl xs _ X2.out Tryd.underlying46 rfl HX.out ?_; simp only [Act.put, List.setIfInBounds_toArray, List.set_cons_succ, List.set_cons_zero]; go_big_quiet_on)
    | (go_big_quiet_step (first
      | (go_at_call 48; exact Calls.regrown_of (HSZ.out _))
      | (go_at_call 46; exact Calls.regrown_of (HK.out _)))))
  refine wpQuiet_nil ?_
  intro _ hw'
  obtain ⟨⟨nq, osq⟩, hw''⟩ := hw'
  subst hw''
  have bq := below_regrown W0 nq osq
  have z1 := X1.out.below bq X1.out.1
  have z2 := X2.out.below bq X2.out.1
  have z3 := X3.out.below bq X3.out.1
  have z4 := X4.out.below bq X4.out.1
  have z5 := KB.out.trans ((bq).mono KB.out.size)
  clear X1 X2 X3 X4 KB
  have X1 := Lib.hid z1
  have X2 := Lib.hid z2
  have X3 := Lib.hid z3
  have X4 := Lib.hid z4
  have KB := Lib.hid z5
  clear z1 z2 z3 z4 z5
  clear bq
  generalize grow (redrawn W0 nq) osq = W1 at *
  have s33 := X1.out.2.1 33 _ H33.out
  clear HSZ HK
  cases hrt : rtB m.size addr sz
  · rw [hrt] at HRD hs2 ht2
    rw [if_pos rfl] at hs2 ht2
    simp only [Bool.false_eq_true, if_false] at HRD
    by_cases hk4 : kd = 4
    · rw [if_pos hk4] at hs2 ht2
      replace HH := Lib.hid (HH.out 5)
      rw [hs2, ht2] at HH
      rw [hv2, hv3] at HH
      have q : (kd == 4) = true := by simpa using hk4
      rw [q]
      clear hs2 ht2 hk4 hrt q hkd hsz hcs2 hds2 hl2 hl3 ho2 ho3 hv2 hv3
      go_upto_region 4 with (go_at_call 109; refine (HRD.out _).mono ?_; rintro e w2 ⟨rfl, rfl⟩)
      clear s33
      go_wp2_with (first
        | (refine wpList_load_mid rfl 28 (.tmp 4) rfl _ 0 rfl cs _ X1.out.range Tryd.underlying28 rfl HI.out ?_)
        | (refine wpList_store_blk rfl 28 (.tmp 8) (.tmp 37) rfl (w.heap.size + 1 + 1) z35 cs2.toArray X3.out HZ2.out rfl rfl HI2.out HO2.out ?_; intro W7 hB7 hO7 hbl7 hs7; have X4' := hO7 _ _ (by omega) X4.out; replace X4 := Lib.hid X4'; clear X4')
        | (refine wpList_store_blk rfl 33 (.tmp 9) (.tmp 38) rfl (w.heap.size + 1 + 1 + 1) z9 ds2.toArray X4.out HZ3.out rfl rfl HI3.out HO3.out ?_; intro W8 hB8 hO8 hbl8 hs8)
        | (go_at_call 86
           refine (HH.out _).mono ?_
           rintro e w3 ⟨rfl, b⟩
           have z1 := X1.out.below b X1.out.1
           have z2 := X2.out.below b X2.out.1
           have z3 := X3.out.below b X3.out.1
           have z4 := X4.out.below b X4.out.1
           have z5 := KB.out.trans ((b).mono KB.out.size)
           clear X1 X2 X3 X4 KB
           have X1 := Lib.hid z1
           have X2 := Lib.hid z2
           have X3 := Lib.hid z3
           have X4 := Lib.hid z4
           have KB := Lib.hid z5
           clear z1 z2 z3 z4 z5
           clear b))
      exact bodyPost_ret (v := .tuple #[.agg cs2.toArray, .agg ds2.toArray]) (results_cell_two Tryd.results87 _ W8 (w.heap.size + 1 + 1) (w.heap.size + 1 + 1 + 1) cs2 ds2 _ _ rfl rfl (hO8 _ _ (by omega) hB7) hB8 Tryd.underlying28 rfl (by simpa using HI2.out) Tryd.underlying33 rfl (by simpa using HI3.out)) rfl ⟨rfl, (KB.out.trans (hbl7 _ (by omega))).trans (hbl8 _ (by omega))⟩
    · rw [if_neg hk4] at hs2 ht2
      replace HH := Lib.hid (HH.out 4)
      rw [hs2, ht2] at HH
      rw [hv2, hv3] at HH
      have q : (kd == 4) = false := by simpa using hk4
      rw [q]
      clear hs2 ht2 hk4 hrt q hkd hsz hcs2 hds2 hl2 hl3 ho2 ho3 hv2 hv3
      go_upto_region 6 with (go_at_call 109; refine (HRD.out _).mono ?_; rintro e w2 ⟨rfl, rfl⟩)
      clear s33
      go_wp2_with (first
        | (refine wpList_load_mid rfl 28 (.tmp 4) rfl _ 0 rfl cs _ X1.out.range Tryd.underlying28 rfl HI.out ?_)
        | (refine wpList_store_blk rfl 28 (.tmp 8) (.tmp 45) rfl (w.heap.size + 1 + 1) z35 cs2.toArray X3.out HZ2.out rfl rfl HI2.out HO2.out ?_; intro W7 hB7 hO7 hbl7 hs7; have X4' := hO7 _ _ (by omega) X4.out; replace X4 := Lib.hid X4'; clear X4')
        | (refine wpList_store_blk rfl 33 (.tmp 9) (.tmp 46) rfl (w.heap.size + 1 + 1 + 1) z9 ds2.toArray X4.out HZ3.out rfl rfl HI3.out HO3.out ?_; intro W8 hB8 hO8 hbl8 hs8)
        | (go_at_call 86
           refine (HH.out _).mono ?_
           rintro e w3 ⟨rfl, b⟩
           have z1 := X1.out.below b X1.out.1
           have z2 := X2.out.below b X2.out.1
           have z3 := X3.out.below b X3.out.1
           have z4 := X4.out.below b X4.out.1
           have z5 := KB.out.trans ((b).mono KB.out.size)
           clear X1 X2 X3 X4 KB
           have X1 := Lib.hid z1
           have X2 := Lib.hid z2
           have X3 := Lib.hid z3
           have X4 := Lib.hid z4
           have KB := Lib.hid z5
           clear z1 z2 z3 z4 z5
           clear b))
      exact bodyPost_ret (v := .tuple #[.agg cs2.toArray, .agg ds2.toArray]) (results_cell_two Tryd.results87 _ W8 (w.heap.size + 1 + 1) (w.heap.size + 1 + 1 + 1) cs2 ds2 _ _ rfl rfl (hO8 _ _ (by omega) hB7) hB8 Tryd.underlying28 rfl (by simpa using HI2.out) Tryd.underlying33 rfl (by simpa using HI3.out)) rfl ⟨rfl, (KB.out.trans (hbl7 _ (by omega))).trans (hbl8 _ (by omega))⟩
  · rw [hrt] at HRD hs2 ht2
    rw [if_neg (by simp)] at hs2 ht2
    simp only [if_true] at HRD
    obtain ⟨S, hS⟩ : ∃ S, m.extract addr.toNat (addr + sz).toNat = S := ⟨_, rfl⟩
    rw [hS] at HRD hs2 ht2
    have hSs : S.size ≤ 9223372036854775807 := by
      have h1 : S.data.toList.length ≤ m.data.toList.length := by rw [← hS, ex_data]; simp; omega
      have h2 : S.data.toList.length = S.size := rfl
      have h3 : m.data.toList.length = m.size := rfl
      rw [hmm] at hm
      omega
    clear hS
    obtain ⟨pc, hpc⟩ : ∃ pc, s.pc = pc := ⟨_, rfl⟩
    rw [hpc] at H0 hs2 ht2 hp
    by_cases hk4 : kd = 4
    · rw [if_pos hk4] at hs2 ht2
      have q : (kd == 4) = true := by simpa using hk4
      rw [q]
      have HBy := Lib.hid (fun w => bytes_any b sz b0 b1 w)
      have HJ := Lib.hid (fun w => join_any (stoS b sz) (stoS_size _ _) w)
      unfold stoV at hs2 ht2
      have hDs := stoS_small b sz
      obtain ⟨D, hD⟩ : ∃ D, stoS b sz = D := ⟨_, rfl⟩
      rw [hD] at HJ hs2 ht2 hDs
      have hD' : (if 0 ≤ sz ∧ sz ≤ 4 then strOfNums (bytL b sz.toNat) else ByteArray.empty) = D := hD
      rw [hD'] at HBy
      obtain ⟨VV, hVV⟩ : ∃ VV : Int, ((if D.size ≤ 4 then joinN D.data.toList else 0 : Nat) : Int) = VV := ⟨_, rfl⟩
      rw [hVV] at HJ hs2 ht2
      obtain ⟨E1, hE1⟩ : ∃ E1 : Int, (if 0 ≤ sz ∧ sz ≤ 4 then 0 else 1) = E1 := ⟨_, rfl⟩
      rw [hE1] at HBy
      obtain ⟨E2, hE2⟩ : ∃ E2 : Int, (if D.size ≤ 4 then 0 else 2) = E2 := ⟨_, rfl⟩
      rw [hE2] at HJ
      have HWt := Lib.hid (fun w => write_any m addr D (by rw [← hmm]; exact hm) (by omega) a0 a1 w)
      obtain ⟨M, hM⟩ : ∃ M, (if rtB m.size addr D.size = true then wrS m D addr.toNat else ByteArray.empty) = M := ⟨_, rfl⟩
      rw [hM] at HWt hs2 ht2
      obtain ⟨E3, hE3⟩ : ∃ E3 : Int, (if rtB m.size addr D.size = true then 0 else 1) = E3 := ⟨_, rfl⟩
      rw [hE3] at HWt
      have hset := sqC_setMem hrl M
      rw [HCS.out, hpc] at hset
      have HWR := Lib.hid (fun w ht hg => wrote_any ⟨pc, s.regs, M, s.halt⟩ op rd r1 r2 im ((pc + 4) % 4294967296) 0 ⟨0, 0, 0, VV, addr, sz, true, 0, 0⟩ hrl hw w ht hg)
      rw [hs2, ht2, hv2, hv3, HXV.out, show sqV ⟨pc, s.regs, M, s.halt⟩ = .agg (cs.set 33 (.string M)).toArray by rw [hset]; rfl] at HWR
      obtain ⟨us, hus⟩ : ∃ us, stC ⟨0, 0, 0, VV, addr, sz, true, 0, 0⟩ = us := ⟨_, rfl⟩
      have hu9 : us.length = 9 := by rw [← hus]; rfl
      have UI := Lib.hid (show (Tryd.prog.info? 33).map (·.size) = some us.length by rw [hu9]; exact st_info)
      rw [show stV ⟨0, 0, 0, VV, addr, sz, true, 0, 0⟩ = .agg us.toArray by rw [← hus]; rfl] at HWR
      obtain ⟨ts, hts⟩ : ∃ ts, stC ⟨0, 0, 0, 0, addr, sz, true, 0, 0⟩ = ts := ⟨_, rfl⟩
      have hts3 : ts[3]? = some (.int .u32 0) := by rw [← hts]; rfl
      have htu : ts.set 3 (.int .u32 VV) = us := by rw [← hts, ← hus]; rfl
      have T3 := Lib.hid hts3
      have TU := Lib.hid htu
      obtain ⟨cs3, hcs3⟩ : ∃ cs3, cs.set 33 (.string M) = cs3 := ⟨_, rfl⟩
      have hl33 : cs3.length = 35 := by rw [← hcs3, List.length_set, HL.out]
      rw [hcs3] at HWR
      have C3 := Lib.hid hcs3
      have HI' := Lib.hid (show (Tryd.prog.info? 28).map (·.size) = some cs3.length by rw [hl33]; exact sq_info)
      have h30 : cs3[0]? = some (.int .u32 pc) := by rw [← hcs3, List.getElem?_set_ne (by omega)]; exact H0.out
      have H30 := Lib.hid h30
      clear hts3 htu hcs3 hl33 h30 hset hM hE3 hE2 hE1 hVV hD hD' hus hu9
      have hto : ts.toArray.all (·.oneCell') = true := by rw [← hts]; exact stC_one _
      have ht9 : ts.length = 9 := by rw [← hts]; rfl
      have TI := Lib.hid (show (Tryd.prog.info? 33).map (·.size) = some ts.length by rw [ht9]; exact st_info)
      have TO := Lib.hid hto
      have T9 := Lib.hid ht9
      have TS := Lib.hid hts
      have htv : stV ⟨0, 0, 0, 0, addr, sz, true, 0, 0⟩ = .agg ts.toArray := by rw [← hts]; rfl
      (try rw [htv] at HWR)
      have htb : (.agg #[.int .u32 0, .int .u32 0, .int .i64 0, .int .u32 0, .int .u32 addr, .int .i64 sz, .bool true, .int .i64 0, .int .i64 0] : Value) = .agg ts.toArray := htv
      have TV := Lib.hid htb
      clear hto ht9 hts htv htb
      clear hs2 ht2 hk4 hrt q hkd hsz hcs2 hds2 hl2 hl3 ho2 ho3 hv2 hv3
      have HB5 := Lib.hid X4.out.1
      go_upto_region 10 with (first
        | (go_at_call 109; refine (HRD.out _).mono ?_; rintro e w2 ⟨rfl, rfl⟩)
        | (refine wpList_store_new rfl 33 (.tmp 14) (.tmp 50) rfl _ rfl _ ts _ rfl TV.out (by rw [T9.out]; rfl) TI.out TO.out ?_
           intro W2 hb2 hB2 hs2
           have z1 := X1.out.below hb2 X1.out.1
           have z2 := X2.out.below hb2 X2.out.1
           have z3 := X3.out.below hb2 X3.out.1
           have z4 := X4.out.below hb2 X4.out.1
           have z5 := KB.out.trans ((hb2).mono KB.out.size)
           clear X1 X2 X3 X4 KB
           have X1 := Lib.hid z1
           have X2 := Lib.hid z2
           have X3 := Lib.hid z3
           have X4 := Lib.hid z4
           have KB := Lib.hid z5
           clear z1 z2 z3 z4 z5
           have X5 := Lib.hid hB2
           clear hb2 hB2))
      clear s33
      go_upto_region 11 with (go_at_call 54
                              refine (HBy.out _).mono ?_
                              rintro e w3 ⟨rfl, b⟩
                              have z1 := X1.out.below b X1.out.1
                              have z2 := X2.out.below b X2.out.1
                              have z3 := X3.out.below b X3.out.1
                              have z4 := X4.out.below b X4.out.1
                              have z5 := KB.out.trans ((b).mono KB.out.size)
                              clear X1 X2 X3 X4 KB
                              have X1 := Lib.hid z1
                              have X2 := Lib.hid z2
                              have X3 := Lib.hid z3
                              have X4 := Lib.hid z4
                              have KB := Lib.hid z5
                              clear z1 z2 z3 z4 z5
                              have X5' := X5.out.below b X5.out.1
                              replace X5 := Lib.hid X5'
                              clear b X5')
      clear HBy
      go_wp2_with fail
      go_at_call 55
      refine (HJ.out _).mono ?_
      rintro e w4 ⟨rfl, b⟩
      have z1 := X1.out.below b X1.out.1
      have z2 := X2.out.below b X2.out.1
      have z3 := X3.out.below b X3.out.1
      have z4 := X4.out.below b X4.out.1
      have z5 := KB.out.trans ((b).mono KB.out.size)
      clear X1 X2 X3 X4 KB
      have X1 := Lib.hid z1
      have X2 := Lib.hid z2
      have X3 := Lib.hid z3
      have X4 := Lib.hid z4
      have KB := Lib.hid z5
      clear z1 z2 z3 z4 z5
      have X5' := X5.out.below b X5.out.1
      replace X5 := Lib.hid X5'
      clear b X5'
      have hb5 := HB5.out
      obtain ⟨B5, hB5⟩ : ∃ B5, W1.heap.size = B5 := ⟨_, rfl⟩
      rw [hB5] at X5 hb5 ⊢
      have c3 := X5.out.2.1 3 _ T3.out
      have f3 := X5.out.2.2 3 (by have := T9.out; omega)
      go_upto_region 12 with fail
      clear c3 f3
      have y5 := (X5.out).set (i := 3) (v := .int .u32 VV) (by have := T9.out; omega)
      rw [TU.out] at y5
      have z1 := (X1.out).other (p := ⟨B5, 3, none⟩) (v := .int .u32 VV) (by simp <;> omega)
      have z2 := (X2.out).other (p := ⟨B5, 3, none⟩) (v := .int .u32 VV) (by simp <;> omega)
      have z3 := (X3.out).other (p := ⟨B5, 3, none⟩) (v := .int .u32 VV) (by simp <;> omega)
      have z4 := (X4.out).other (p := ⟨B5, 3, none⟩) (v := .int .u32 VV) (by simp <;> omega)
      have z5 := (KB.out).setCell (p := ⟨B5, 3, none⟩) (by show w.heap.size ≤ B5; omega) (.int .u32 VV)
      generalize (World.setCell w4 ⟨B5, 3, none⟩ (.int .u32 VV)) = W5 at *
      clear X1 X2 X3 X4 KB
      have X1 := Lib.hid z1
      have X2 := Lib.hid z2
      have X3 := Lib.hid z3
      have X4 := Lib.hid z4
      have KB := Lib.hid z5
      clear z1 z2 z3 z4 z5
      replace X5 := Lib.hid y5
      clear y5
      have s33 := X1.out.2.1 33 _ H33.out
      go_wp2_with fail
      go_at_call 110
      refine (HWt.out _).mono ?_
      rintro e w6 ⟨rfl, b⟩
      have z1 := X1.out.below b X1.out.1
      have z2 := X2.out.below b X2.out.1
      have z3 := X3.out.below b X3.out.1
      have z4 := X4.out.below b X4.out.1
      have z5 := KB.out.trans ((b).mono KB.out.size)
      clear X1 X2 X3 X4 KB
      have X1 := Lib.hid z1
      have X2 := Lib.hid z2
      have X3 := Lib.hid z3
      have X4 := Lib.hid z4
      have KB := Lib.hid z5
      clear z1 z2 z3 z4 z5
      have X5' := X5.out.below b X5.out.1
      replace X5 := Lib.hid X5'
      clear b X5' s33
      have s33 := X1.out.2.1 33 _ H33.out
      have e33 := X1.out.2.2 33 (by have := HL.out; omega)
      go_upto_region 13 with fail
      clear s33 e33
      have y5 := (X5.out).other (p := ⟨w.heap.size, 33, none⟩) (v := .string M) (by simp <;> omega)
      have z1 := (X1.out).set (i := 33) (v := .string M) (by have := HL.out; omega)
      rw [C3.out] at z1
      have z2 := (X2.out).other (p := ⟨w.heap.size, 33, none⟩) (v := .string M) (by simp <;> omega)
      have z3 := (X3.out).other (p := ⟨w.heap.size, 33, none⟩) (v := .string M) (by simp <;> omega)
      have z4 := (X4.out).other (p := ⟨w.heap.size, 33, none⟩) (v := .string M) (by simp <;> omega)
      have z5 := (KB.out).setCell (p := ⟨w.heap.size, 33, none⟩) (Nat.le_refl _) (.string M)
      generalize (World.setCell w6 ⟨w.heap.size, 33, none⟩ (.string M)) = W7 at *
      clear X1 X2 X3 X4 KB
      have X1 := Lib.hid z1
      have X2 := Lib.hid z2
      have X3 := Lib.hid z3
      have X4 := Lib.hid z4
      have KB := Lib.hid z5
      clear z1 z2 z3 z4 z5
      replace X5 := Lib.hid y5
      clear y5
      have c0 := X1.out.2.1 0 _ H30.out
      have TB := Lib.hid (HT.out.below KB.out hg)
      have GB := Lib.hid (Nat.lt_of_lt_of_le hg KB.out.size)
      replace HI := HI'
      obtain ⟨cs0, hcs0⟩ : ∃ cs0, cs0 = cs := ⟨_, rfl⟩
      go_wp2_with (first
        | (refine wpList_load_mid rfl 28 (.tmp 4) rfl _ 0 rfl cs3 _ X1.out.range Tryd.underlying28 rfl HI'.out ?_)
        | (refine wpList_load_mid rfl 46 (.tmp 5) rfl _ 0 rfl xs _ X2.out.range Tryd.underlying46 rfl HX.out ?_)
        | (refine wpList_load_mid rfl 33 (.tmp 14) rfl _ 0 rfl us _ X5.out.range Tryd.underlying33 rfl UI.out ?_)
        | (refine wpList_store_blk rfl 28 (.tmp 8) (.tmp 94) rfl (w.heap.size + 1 + 1) z35 cs2.toArray X3.out HZ2.out rfl rfl HI2.out HO2.out ?_; intro W7 hB7 hO7 hbl7 hs7; have X4' := hO7 _ _ (by omega) X4.out; replace X4 := Lib.hid X4'; clear X4')
        | (refine wpList_store_blk rfl 33 (.tmp 9) (.tmp 95) rfl (w.heap.size + 1 + 1 + 1) z9 ds2.toArray X4.out HZ3.out rfl rfl HI3.out HO3.out ?_; intro W8 hB8 hO8 hbl8 hs8)
        | (go_at_call 88
           refine (HWR.out _ TB.out GB.out).mono ?_
           rintro e w8 ⟨rfl, b⟩
           have z1 := X1.out.below b X1.out.1
           have z2 := X2.out.below b X2.out.1
           have z3 := X3.out.below b X3.out.1
           have z4 := X4.out.below b X4.out.1
           have z5 := KB.out.trans ((b).mono KB.out.size)
           clear X1 X2 X3 X4 KB
           have X1 := Lib.hid z1
           have X2 := Lib.hid z2
           have X3 := Lib.hid z3
           have X4 := Lib.hid z4
           have KB := Lib.hid z5
           clear z1 z2 z3 z4 z5
           clear b))
      exact bodyPost_ret (v := .tuple #[.agg cs2.toArray, .agg ds2.toArray]) (results_cell_two Tryd.results87 _ W8 (w.heap.size + 1 + 1) (w.heap.size + 1 + 1 + 1) cs2 ds2 _ _ rfl rfl (hO8 _ _ (by omega) hB7) hB8 Tryd.underlying28 rfl (by simpa using HI2.out) Tryd.underlying33 rfl (by simpa using HI3.out)) rfl ⟨rfl, (KB.out.trans (hbl7 _ (by omega))).trans (hbl8 _ (by omega))⟩
    · rw [if_neg hk4] at hs2 ht2
      have q : (kd == 4) = false := by simpa using hk4
      rw [q]
      have HLD := Lib.hid (fun w => load_any op S hSs w)
      have HWR := Lib.hid (fun w ht hg => wrote_any s op rd r1 r2 im ((pc + 4) % 4294967296) (ldV op S) ⟨0, 0, 0, 0, addr, sz, false, 0, 0⟩ hrl hw w ht hg)
      rw [hs2, ht2, hv2, hv3, HXV.out, show sqV s = .agg cs.toArray by rw [← HCS.out]; rfl] at HWR
      obtain ⟨ts, hts⟩ : ∃ ts, stC ⟨0, 0, 0, 0, addr, sz, false, 0, 0⟩ = ts := ⟨_, rfl⟩
      have hto : ts.toArray.all (·.oneCell') = true := by rw [← hts]; exact stC_one _
      have ht9 : ts.length = 9 := by rw [← hts]; rfl
      have TI := Lib.hid (show (Tryd.prog.info? 33).map (·.size) = some ts.length by rw [ht9]; exact st_info)
      have TO := Lib.hid hto
      have T9 := Lib.hid ht9
      have TS := Lib.hid hts
      have htv : stV ⟨0, 0, 0, 0, addr, sz, false, 0, 0⟩ = .agg ts.toArray := by rw [← hts]; rfl
      (try rw [htv] at HWR)
      have htb : (.agg #[.int .u32 0, .int .u32 0, .int .i64 0, .int .u32 0, .int .u32 addr, .int .i64 sz, .bool false, .int .i64 0, .int .i64 0] : Value) = .agg ts.toArray := htv
      have TV := Lib.hid htb
      clear hto ht9 hts htv htb
      clear hs2 ht2 hk4 hrt q hkd hsz hcs2 hds2 hl2 hl3 ho2 ho3 hv2 hv3
      go_upto_region 9 with (first
        | (go_at_call 109; refine (HRD.out _).mono ?_; rintro e w2 ⟨rfl, rfl⟩)
        | (refine wpList_store_new rfl 33 (.tmp 14) (.tmp 50) rfl _ rfl _ ts _ rfl TV.out (by rw [T9.out]; rfl) TI.out TO.out ?_
           intro W2 hb2 hB2 hs2
           have z1 := X1.out.below hb2 X1.out.1
           have z2 := X2.out.below hb2 X2.out.1
           have z3 := X3.out.below hb2 X3.out.1
           have z4 := X4.out.below hb2 X4.out.1
           have z5 := KB.out.trans ((hb2).mono KB.out.size)
           clear X1 X2 X3 X4 KB
           have X1 := Lib.hid z1
           have X2 := Lib.hid z2
           have X3 := Lib.hid z3
           have X4 := Lib.hid z4
           have KB := Lib.hid z5
           clear z1 z2 z3 z4 z5
           have X5 := Lib.hid hB2
           clear hb2 hB2))
      clear s33
      have TB := Lib.hid (HT.out.below KB.out hg)
      have GB := Lib.hid (Nat.lt_of_lt_of_le hg KB.out.size)
      have c0 := X1.out.2.1 0 _ H0.out
      have q0 := fun d os => cell_regrown c0 d os
      have c1 := X2.out.2.1 0 _ X0.out
      have q1 := fun d os => cell_regrown c1 d os
      refine wp_region_two [0, 1, 2, 3, 4, 5, 6, 7, 8, 9, 10, 11, 12] [] 13 14 _ _ (w.heap.size + 1 + 1) (w.heap.size + 1 + 1 + 1) z35 z9 cs2 ds2 28 33 (.tmp 8) (.tmp 64) (.tmp 9) (.tmp 65) (by kernel_rfl) (by kernel_rfl) rfl rfl rfl ⟨rfl, rfl, rfl⟩ ⟨rfl, rfl, rfl⟩ (by omega) X3.out X4.out (by simpa using HZ2.out) (by simpa using HZ3.out) (by simpa using HI2.out) (by simpa using HI3.out) HO2.out HO3.out ?_
      simp only [opsAt, List.getElem?_toArray, List.getElem?_cons_zero, List.getElem?_cons_succ, Option.toList_some, List.cons_append, List.nil_append]
      repeat (first
        | (go_big_quiet_want; refine quiet_load_mid 28 (.tmp 4) rfl _ rfl cs _ X1.out Tryd.underlying28 rfl HI.out ?_; simp only [Act.put, List.setIfInBounds_toArray, List.set_cons_succ, List.set_cons_zero]; go_big_quiet_on)
        | (go_big_quiet_want; refine quiet_load_mid 46 (.tmp 5) rfl _ rfl xs _ X2.out Tryd.underlying46 rfl HX.out ?_; simp only [Act.put, List.setIfInBounds_toArray, List.set_cons_succ, List.set_cons_zero]; go_big_quiet_on)
        | (go_big_quiet_want; refine quiet_load_mid 33 (.tmp 14) rfl _ rfl ts _ X5.out Tryd.underlying33 rfl TI.out ?_; simp only [Act.put, List.setIfInBounds_toArray, List.set_cons_succ, List.set_cons_zero]; go_big_quiet_on)
        | (go_big_quiet_step (first
          | (go_at_call 53; exact Calls.regrown_of (HLD.out _))
          | (go_at_call 88; exact Calls.regrown_of (HWR.out _ (TB.out.below (below_regrown _ _ _) GB.out) (Nat.lt_of_lt_of_le GB.out (below_regrown _ _ _).size))))))
      refine wpQuiet_nil ?_
      refine wpQuiet_nil ?_
      refine ⟨⟨rfl, rfl, rfl, rfl⟩, fun w9 n1 n2 n3 n4 => ?_⟩
      go_wp2
      exact bodyPost_ret (v := .tuple #[.agg cs2.toArray, .agg ds2.toArray]) (results_cell_two Tryd.results87 _ w9 (w.heap.size + 1 + 1) (w.heap.size + 1 + 1 + 1) cs2 ds2 _ _ rfl rfl n1 n2 Tryd.underlying28 rfl (by simpa using HI2.out) Tryd.underlying33 rfl (by simpa using HI3.out)) rfl ⟨rfl, KB.out.trans (n4 _ (by omega) (by omega))⟩
end Go.Proofs.YtkamljmopbocnaaDoor

/- THE CONTRACT of seq.Step. -/
namespace Go.Proofs.YtkamljmopbocnaaDoor
open Go.ChangeShapes Go.WideShapes Go.ChangeAt Go.RowKit Go.Sort
set_option linter.unusedVariables false
set_option linter.unusedSimpArgs false
set_option maxHeartbeats 4000000
set_option maxRecDepth 100000

theorem doS_len {s : Sq} (h : s.regs.length = 32) (i : Ins) : (doS s i).1.regs.length = 32 := by
  unfold doS
  simp only
  split
  · exact accS_len h _ _ _
  · split
    · split
      · exact wrote_len h _ _ _ _ _
      · exact h
    · split
      · exact wrote_len h _ _ _ _ _
      · exact wrote_len h _ _ _ _ _
theorem stepS_len {s : Sq} (h : s.regs.length = 32) (zs : List Int) : (stepS zs s).1.regs.length = 32 := by
  unfold stepS
  split
  · exact h
  · split
    · exact h
    · exact doS_len h _
theorem step_any (A : Option Addr) (n cap : Nat) (zs : List Int) (s : Sq) (hs : sqOK s) (hn : n ≤ 200) (hz : ∀ z ∈ zs, 0 ≤ z ∧ z < 4294967296) (w : World) (ht : TabIs w) (hg : 0 < w.heap.size) (h : IntsAt w A n .u32 zs) :
    Calls Tryd.prog 59 #[.slice A n cap, sqV s] w fun r w' => r = .returned (.tuple #[sqV (stepS zs s).1, stV (stepS zs s).2]) ∧ Below w.heap.size w w' := by
  have hs0 := hs
  obtain ⟨hp, hrl, hrr, hm⟩ := hs
  have HFE := Lib.hid (fun (W : World) (hb : Below w.heap.size w W) => fetched_any A n cap zs s.pc hn hz hp.1 hp.2 W (ht.below hb hg) (Nat.lt_of_lt_of_le hg hb.size) (h.below hb))
  have HT := Lib.hid ht
  have hl0 := h.1
  clear ht h
  have HH := Lib.hid (fun why w => halted_any s hrl why 0 w)
  obtain ⟨s2, hs2⟩ : ∃ s2, (stepS zs s).1 = s2 := ⟨_, rfl⟩
  obtain ⟨t2, ht2⟩ : ∃ t2, (stepS zs s).2 = t2 := ⟨_, rfl⟩
  rw [hs2, ht2]
  have HL2 := Lib.hid (show s2.regs.length = 32 by rw [← hs2]; exact stepS_len hrl _)
  unfold stepS at hs2 ht2
  obtain ⟨cs, hcs⟩ : ∃ cs, sqC s = cs := ⟨_, rfl⟩
  have hl := sqC_len hrl
  have h0 := sqC_pc s
  have h34 := sqC_halt hrl
  rw [hcs] at hl h0 h34
  have hsv : sqV s = .agg cs.toArray := by rw [← hcs]; rfl
  rw [hsv] at HH ⊢
  have HI := Lib.hid (show (Tryd.prog.info? 28).map (·.size) = some cs.length by rw [hl]; exact sq_info)
  have H0 := Lib.hid h0
  have H34 := Lib.hid h34
  have HL := Lib.hid hl
  have HCS := Lib.hid hcs
  clear hl h0 h34 hcs
  obtain ⟨cs2, hcs2⟩ : ∃ cs2, sqC s2 = cs2 := ⟨_, rfl⟩
  obtain ⟨ds2, hds2⟩ : ∃ ds2, stC t2 = ds2 := ⟨_, rfl⟩
  have hl2 : cs2.length = 35 := by rw [← hcs2]; exact sqC_len HL2.out
  have hl3 : ds2.length = 9 := by rw [← hds2]; rfl
  have ho2 := sqC_one s2
  have ho3 := stC_one t2
  rw [hcs2] at ho2
  rw [hds2] at ho3
  have HI2 := Lib.hid (show (Tryd.prog.info? 28).map (·.size) = some cs2.toArray.size by rw [List.size_toArray, hl2]; exact sq_info)
  have HZ2 := Lib.hid (show z35.length = cs2.toArray.size by rw [List.size_toArray, hl2]; rfl)
  have HI3 := Lib.hid (show (Tryd.prog.info? 33).map (·.size) = some ds2.toArray.size by rw [List.size_toArray, hl3]; exact st_info)
  have HZ3 := Lib.hid (show z9.length = ds2.toArray.size by rw [List.size_toArray, hl3]; rfl)
  have HO2 := Lib.hid ho2
  have HO3 := Lib.hid ho3
  have hv2 : sqV s2 = .agg cs2.toArray := by rw [← hcs2]; rfl
  have hv3 : stV t2 = .agg ds2.toArray := by rw [← hds2]; rfl
  rw [hv2, hv3]
  go_enter Tryd.func59, Tryd.ntmps59
  go_upto_region 1 with fail
  refine wp_allocs [(cs, 28), (z35, 28), (z9, 33)] rfl ?_
  intro W0 y1 KB y3
  have X1 := Lib.hid (show Blk W0 w.heap.size cs from y3 0 _ rfl)
  have X3 := Lib.hid (show Blk W0 (w.heap.size + 1) z35 from y3 1 _ rfl)
  have X4 := Lib.hid (show Blk W0 (w.heap.size + 1 + 1) z9 from y3 2 _ rfl)
  replace KB := Lib.hid KB
  clear y1 y3
  have s34 := X1.out.2.1 34 _ H34.out
  by_cases hh : s.halt = 0
  · rw [if_neg (by simpa using hh)] at hs2 ht2
    rw [hh] at s34
    obtain ⟨Y, hY⟩ : ∃ Y, whyS zs s.pc = Y := ⟨_, rfl⟩
    have hfv : fetV zs s.pc = if Y = 1 ∨ Y = 2 then zeroAgg else inV (insOf (ftV zs zs.length s.pc)) := by unfold fetV; rw [hY]
    rw [hY] at hs2 ht2 HFE
    by_cases hy : Y = 0
    · rw [if_neg (by simpa using hy)] at hs2 ht2
      subst hy
      rw [if_neg (by omega)] at hfv
      rw [hfv] at HFE
      obtain ⟨a, ha⟩ : ∃ a, ftV zs zs.length s.pc = a := ⟨_, rfl⟩
      rw [ha] at HFE hs2 ht2
      have hcb : chB a = true := by
        unfold whyS at hY
        rw [ha] at hY
        cases hc : chB a
        · rw [hc] at hY
          split at hY
          · omega
          · simp at hY
        · rfl
      have hok := insOf_ok a hcb
      obtain ⟨I, hI⟩ : ∃ I, insOf a = I := ⟨_, rfl⟩
      rw [hI] at HFE hs2 ht2 hok
      clear hfv hY ha hI hcb
      obtain ⟨op, rd, r1, r2, im⟩ := I
      obtain ⟨ho, hrd, h1, h2, him, hw, hw4⟩ := hok
      simp only at ho hrd h1 h2 him hw hw4
      obtain ⟨k1, rfl⟩ : ∃ k : Nat, r1 = (k : Int) := ⟨r1.toNat, by omega⟩
      obtain ⟨k2, rfl⟩ : ∃ k : Nat, r2 = (k : Int) := ⟨r2.toNat, by omega⟩
      unfold doS at hs2 ht2
      have rg1 : rg s.regs (k1 : Int) = s.regs.getD k1 0 := by unfold rg; rw [Int.toNat_natCast]
      have rg2 : rg s.regs (k2 : Int) = s.regs.getD k2 0 := by unfold rg; rw [Int.toNat_natCast]
      have x01 := rg_range hrr (k1 : Int)
      have y01 := rg_range hrr (k2 : Int)
      simp only at hs2 ht2
      rw [rg1, rg2] at hs2 ht2
      rw [rg1] at x01
      rw [rg2] at y01
      have hg1 := sqC_reg hrl k1 (by omega)
      have hg2 := sqC_reg hrl k2 (by omega)
      rw [HCS.out, Nat.add_comm] at hg1 hg2
      obtain ⟨x, hx⟩ : ∃ x, s.regs.getD k1 0 = x := ⟨_, rfl⟩
      obtain ⟨y, hy⟩ : ∃ y, s.regs.getD k2 0 = y := ⟨_, rfl⟩
      rw [hx] at hs2 ht2 hg1 x01
      rw [hy] at hs2 ht2 hg2 y01
      have G1 := Lib.hid hg1
      have G2 := Lib.hid hg2
      have HPC := Lib.hid hp
      obtain ⟨pc, hpc⟩ : ∃ pc, s.pc = pc := ⟨_, rfl⟩
      rw [hpc] at hs2 ht2 H0 HPC HFE
      have hk1 : (k1 : Int) < 32 := by omega
      have hk2 : (k2 : Int) < 32 := by omega
      clear hg1 hg2 rg1 rg2 hx hy h1 h2
      obtain ⟨I, hI⟩ : ∃ I : Ins, I = ⟨op, rd, (k1 : Int), (k2 : Int), im⟩ := ⟨_, rfl⟩
      rw [← hI] at HFE
      have HI0 := Lib.hid (show (inC I)[0]? = some (.int .i64 op) by rw [hI]; rfl)
      have HI2' := Lib.hid (show (inC I)[2]? = some (.int .i64 (k1 : Int)) by rw [hI]; rfl)
      have HI3' := Lib.hid (show (inC I)[3]? = some (.int .i64 (k2 : Int)) by rw [hI]; rfl)
      have HI4 := Lib.hid (show (inC I)[4]? = some (.int .u32 im) by rw [hI]; rfl)
      obtain ⟨xs, hxs⟩ : ∃ xs, inC I = xs := ⟨_, rfl⟩
      have hx5 : xs.length = 5 := by rw [← hxs]; rfl
      have hxo := in5_one I
      rw [hxs] at hxo
      rw [show inV I = .agg xs.toArray by rw [← hxs]; rfl] at HFE
      have HX := Lib.hid (show (Tryd.prog.info? 46).map (·.size) = some xs.length by rw [hx5]; exact in_info)
      have HXO := Lib.hid hxo
      have HX5 := Lib.hid hx5
      have HXS := Lib.hid hxs
      have P0 := Lib.hid (X1.out.2.1 0 _ H0.out)
      clear hxs hx5 hxo
      have s0 := P0.out
      rw [HXS.out] at HI0 HI2' HI3' HI4
      have HXV := Lib.hid (show (.agg #[.int .i64 op, .int .i64 rd, .int .i64 (k1 : Int), .int .i64 (k2 : Int), .int .u32 im] : Value) = .agg xs.toArray by rw [← HXS.out, hI]; rfl)
      have HK := Lib.hid (fun w => kind_any op rd k1 k2 im w)
      have HVA := Lib.hid (fun w => value_any op rd k1 k2 im pc x y him.1 him.2 x01.1 x01.2 y01.1 y01.2 w)
      have HTA := Lib.hid (fun w => target_any op rd k1 k2 im pc x y w)
      have HTK := Lib.hid (fun w => divTook_any op x y x01.1 x01.2 y01.1 y01.2 w)
      rw [HXV.out] at HK HVA HTA
      obtain ⟨kd, hkd⟩ : ∃ kd, kindI op = kd := ⟨_, rfl⟩
      rw [hkd] at HK hs2 ht2
      have HS0 := Lib.hid hs0
      have HS2 := Lib.hid hs2
      have HT2 := Lib.hid ht2
      have HIX := Lib.hid hI
      have HW := Lib.hid hw
      have HXY := Lib.hid (And.intro x01 y01)
      have HIM := Lib.hid him
      have HRL := Lib.hid hrl
      have HV2 := Lib.hid (And.intro hv2 hv3)
      have HKD := Lib.hid hkd
      clear him hrd hw4 ho hkd hs2 ht2 hI hw x01 y01 hrl hrr hm hp hs0 hz hpc hh hv2 hv3 ho2 ho3 hl2 hl3 hcs2 hds2 hsv hl0 hn
      go_upto_region 6 with (first
        | (go_at_call 85
           refine (HFE.out _ KB.out).mono ?_
           rintro e w1 ⟨rfl, b⟩
           have z1 := X1.out.below b X1.out.1
           have z3 := X3.out.below b X3.out.1
           have z4 := X4.out.below b X4.out.1
           have z5 := KB.out.trans ((b).mono KB.out.size)
           clear X1 X3 X4 KB
           have X1 := Lib.hid z1
           have X3 := Lib.hid z3
           have X4 := Lib.hid z4
           have KB := Lib.hid z5
           clear z1 z3 z4 z5
           clear b s0 s34 P0)
        | (refine wpList_store_new rfl 46 (.tmp 6) (.tmp 22) rfl w1.heap.size rfl _ xs _ rfl rfl (by rw [HX5.out]; rfl) HX.out HXO.out ?_
           intro W2 hb2 hB2 hs2
           have z1 := X1.out.below hb2 X1.out.1
           have z3 := X3.out.below hb2 X3.out.1
           have z4 := X4.out.below hb2 X4.out.1
           have z5 := KB.out.trans ((hb2).mono KB.out.size)
           clear X1 X3 X4 KB
           have X1 := Lib.hid z1
           have X3 := Lib.hid z3
           have X4 := Lib.hid z4
           have KB := Lib.hid z5
           clear z1 z3 z4 z5
           have X2 := Lib.hid hB2
           clear hb2 hB2))
      have c2 := X2.out.2.1 2 _ HI2'.out
      have c3 := X2.out.2.1 3 _ HI3'.out
      have d1 := X1.out.2.1 (1 + k1) _ G1.out
      have d2 := X1.out.2.1 (1 + k2) _ G2.out
      have q2 := fun d os => cell_regrown c2 d os
      have q3 := fun d os => cell_regrown c3 d os
      have p1 := fun d os => cell_regrown d1 d os
      have p2 := fun d os => cell_regrown d2 d os
      refine wp_region_quiet_below (by kernel_rfl) (by kernel_rfl) ?_
      repeat (go_big_quiet_step (fail))
      refine wpQuiet_nil ?_
      intro _ hw'
      obtain ⟨⟨nq, osq⟩, hw''⟩ := hw'
      subst hw''
      have bq := below_regrown W2 nq osq
      have z1 := X1.out.below bq X1.out.1
      have z2 := X2.out.below bq X2.out.1
      have z3 := X3.out.below bq X3.out.1
      have z4 := X4.out.below bq X4.out.1
      have z5 := KB.out.trans ((bq).mono KB.out.size)
      clear X1 X2 X3 X4 KB
      have X1 := Lib.hid z1
      have X2 := Lib.hid z2
      have X3 := Lib.hid z3
      have X4 := Lib.hid z4
      have KB := Lib.hid z5
      clear z1 z2 z3 z4 z5
      clear bq c2 c3 d1 d2 q2 q3 p1 p2
      generalize grow (redrawn W2 nq) osq = W3 at *
      go_upto_region 8 with (first
        | (refine wpList_load_mid rfl 46 (.tmp 6) rfl _ 0 rfl xs _ X2.out.range Tryd.underlying46 rfl HX.out ?_)
        | (go_at_call 46
           refine (HK.out _).mono ?_
           rintro e w4 ⟨rfl, b⟩
           have z1 := X1.out.below b X1.out.1
           have z2 := X2.out.below b X2.out.1
           have z3 := X3.out.below b X3.out.1
           have z4 := X4.out.below b X4.out.1
           have z5 := KB.out.trans ((b).mono KB.out.size)
           clear X1 X2 X3 X4 KB
           have X1 := Lib.hid z1
           have X2 := Lib.hid z2
           have X3 := Lib.hid z3
           have X4 := Lib.hid z4
           have KB := Lib.hid z5
           clear z1 z2 z3 z4 z5
           clear b))
      have HSV := Lib.hid (show sqV s = .agg cs.toArray by rw [← HCS.out]; rfl)
      clear HK hs2
      by_cases hls : kd = 3 ∨ kd = 4
      · have hs2 := HS2.out
        have ht2 := HT2.out
        rw [if_pos hls] at hs2 ht2
        have HAC := Lib.hid (fun w ht hg => access_any s ⟨op, rd, (k1 : Int), (k2 : Int), im⟩ ((x + im) % 4294967296) y HS0.out HW.out (Int.emod_nonneg _ (by decide)) (Int.emod_lt_of_pos _ (by decide)) HXY.out.2.1 HXY.out.2.2 w ht hg)
        rw [hs2, ht2, HV2.out.1, HV2.out.2, HSV.out, show inV ⟨op, rd, (k1 : Int), (k2 : Int), im⟩ = .agg xs.toArray from HXV.out] at HAC
        have c4 := X2.out.2.1 4 _ HI4.out
        have TB := Lib.hid (HT.out.below KB.out hg)
        have GB := Lib.hid (Nat.lt_of_lt_of_le hg KB.out.size)
        clear hs2 ht2 HVA HTA HTK HH HFE
        rcases hls with rfl | rfl
        all_goals
          go_upto_region 10 with fail
          go_wp2_with (first
            | (refine wpList_load_mid rfl 28 (.tmp 3) rfl _ 0 rfl cs _ X1.out.range Tryd.underlying28 rfl HI.out ?_)
            | (refine wpList_load_mid rfl 46 (.tmp 6) rfl _ 0 rfl xs _ X2.out.range Tryd.underlying46 rfl HX.out ?_)
            | (refine wpList_store_blk rfl 28 (.tmp 4) (.tmp 54) rfl (w.heap.size + 1) z35 cs2.toArray X3.out HZ2.out rfl rfl HI2.out HO2.out ?_; intro W7 hB7 hO7 hbl7 hs7; have X4' := hO7 _ _ (by omega) X4.out; replace X4 := Lib.hid X4'; clear X4')
            | (refine wpList_store_blk rfl 33 (.tmp 5) (.tmp 55) rfl (w.heap.size + 1 + 1) z9 ds2.toArray X4.out HZ3.out rfl rfl HI3.out HO3.out ?_; intro W8 hB8 hO8 hbl8 hs8)
            | (go_at_call 87
               refine (HAC.out _ TB.out GB.out).mono ?_
               rintro e w8 ⟨rfl, b⟩
               have z1 := X1.out.below b X1.out.1
               have z3 := X3.out.below b X3.out.1
               have z4 := X4.out.below b X4.out.1
               have z5 := KB.out.trans ((b).mono KB.out.size)
               clear X1 X3 X4 KB
               have X1 := Lib.hid z1
               have X3 := Lib.hid z3
               have X4 := Lib.hid z4
               have KB := Lib.hid z5
               clear z1 z3 z4 z5
               clear b c4))
          exact bodyPost_ret (v := .tuple #[.agg cs2.toArray, .agg ds2.toArray]) (results_cell_two Tryd.results59 _ W8 (w.heap.size + 1) (w.heap.size + 1 + 1) cs2 ds2 _ _ rfl rfl (hO8 _ _ (by omega) hB7) hB8 Tryd.underlying28 rfl (by simpa using HI2.out) Tryd.underlying33 rfl (by simpa using HI3.out)) rfl ⟨rfl, (KB.out.trans (hbl7 _ (by omega))).trans (hbl8 _ (by omega))⟩
      · have q3 : (kd == 3) = false := by simp; omega
        have q4 : (kd == 4) = false := by simp; omega
        have HS3 := Lib.hid (HS2.out.symm.trans (by rw [if_neg hls]))
        have HT3 := Lib.hid (HT2.out.symm.trans (by rw [if_neg hls]))
        clear HS2 HT2 hls
        have c0 := X1.out.2.1 0 _ H0.out
        have q0 := fun d os => cell_regrown c0 d os
        have c1 := X2.out.2.1 0 _ HI0.out
        have q1 := fun d os => cell_regrown c1 d os
        by_cases h5 : kd = 5
        · subst h5
          have hs2 := HS3.out.symm
          have ht2 := HT3.out.symm
          rw [if_pos rfl] at hs2 ht2
          by_cases hn4 : nextW op im pc x y % 4 = 0
          · rw [if_pos hn4] at hs2 ht2
            rw [decide_eq_true hn4] at HTA
            have HWR := Lib.hid (fun w ht hg => wrote_any s op rd k1 k2 im (nextW op im pc x y) (valW op im pc x y) zeroSt HRL.out HW.out w ht hg)
            rw [hs2, ht2, HV2.out.1, HV2.out.2, HSV.out, HXV.out, show stV zeroSt = .agg #[.int .u32 0, .int .u32 0, .int .i64 0, .int .u32 0, .int .u32 0, .int .i64 0, .bool false, .int .i64 0, .int .i64 0] from rfl] at HWR
            obtain ⟨V, hV⟩ : ∃ V, valW op im pc x y = V := ⟨_, rfl⟩
            obtain ⟨K, hK⟩ : ∃ K, nextW op im pc x y = K := ⟨_, rfl⟩
            rw [hV] at HVA HWR
            rw [hK] at HTA HWR
            clear hs2 ht2 HH HFE hV hK HS3 HT3 HTK hn4 q0 q1 c1
            go_upto_region 15 with (first
              | (refine wpList_load_mid rfl 46 (.tmp 6) rfl _ 0 rfl xs _ X2.out.range Tryd.underlying46 rfl HX.out ?_)
              | (go_at_call 52
                 refine (HTA.out _).mono ?_
                 rintro e w8 ⟨rfl, b⟩
                 have z1 := X1.out.below b X1.out.1
                 have z2 := X2.out.below b X2.out.1
                 have z3 := X3.out.below b X3.out.1
                 have z4 := X4.out.below b X4.out.1
                 have z5 := KB.out.trans ((b).mono KB.out.size)
                 clear X1 X2 X3 X4 KB
                 have X1 := Lib.hid z1
                 have X2 := Lib.hid z2
                 have X3 := Lib.hid z3
                 have X4 := Lib.hid z4
                 have KB := Lib.hid z5
                 clear z1 z2 z3 z4 z5
                 clear b c0))
            have c0 := X1.out.2.1 0 _ H0.out
            have q0 := fun d os => cell_regrown c0 d os
            have TB := Lib.hid (HT.out.below KB.out hg)
            have GB := Lib.hid (Nat.lt_of_lt_of_le hg KB.out.size)
            refine wp_region_two [0, 1, 2, 3, 4, 5, 6, 7, 8, 9, 10, 11, 12] [] 13 14 _ _ (w.heap.size + 1) (w.heap.size + 1 + 1) z35 z9 cs2 ds2 28 33 (.tmp 4) (.tmp 84) (.tmp 5) (.tmp 85) (by kernel_rfl) (by kernel_rfl) rfl rfl rfl ⟨rfl, rfl, rfl⟩ ⟨rfl, rfl, rfl⟩ (by omega) X3.out X4.out (by simpa using HZ2.out) (by simpa using HZ3.out) (by simpa using HI2.out) (by simpa using HI3.out) HO2.out HO3.out ?_
            simp only [opsAt, List.getElem?_toArray, List.getElem?_cons_zero, List.getElem?_cons_succ, Option.toList_some, List.cons_append, List.nil_append]
            repeat (first
              | (go_big_quiet_want; refine quiet_load_mid 28 (.tmp 3) rfl _ rfl cs _ X1.out Tryd.underlying28 rfl HI.out ?_; simp only [Act.put, List.setIfInBounds_toArray, List.set_cons_succ, List.set_cons_zero]; go_big_quiet_on)
              | (go_big_quiet_want; refine quiet_load_mid 46 (.tmp 6) rfl _ rfl xs _ X2.out Tryd.underlying46 rfl HX.out ?_; simp only [Act.put, List.setIfInBounds_toArray, List.set_cons_succ, List.set_cons_zero]; go_big_quiet_on)
              | (go_big_quiet_step (first
                | (go_at_call 50; exact Calls.regrown_of (HVA.out _))
                | (go_at_call 51;  exact Calls.regrown_of ((HTK.out _).mono fun e w' h => ⟨h.1, by rw [← h.2]; exact Below.refl _ _⟩))
                | (go_at_call 88; exact Calls.regrown_of (HWR.out _ (TB.out.below (below_regrown _ _ _) GB.out) (Nat.lt_of_lt_of_le GB.out (below_regrown _ _ _).size))))))
            refine wpQuiet_nil ?_
            refine wpQuiet_nil ?_
            refine ⟨⟨rfl, rfl, rfl, rfl⟩, fun w9 n1 n2 n3 n4 => ?_⟩
            go_wp2
            exact bodyPost_ret (v := .tuple #[.agg cs2.toArray, .agg ds2.toArray]) (results_cell_two Tryd.results59 _ w9 (w.heap.size + 1) (w.heap.size + 1 + 1) cs2 ds2 _ _ rfl rfl n1 n2 Tryd.underlying28 rfl (by simpa using HI2.out) Tryd.underlying33 rfl (by simpa using HI3.out)) rfl ⟨rfl, KB.out.trans (n4 _ (by omega) (by omega))⟩
          · rw [if_neg hn4] at hs2 ht2
            rw [decide_eq_false hn4] at HTA
            replace HH := Lib.hid (HH.out 3)
            rw [hs2, ht2, HV2.out.1, HV2.out.2] at HH
            clear hs2 ht2 HFE HS3 HT3 HTK hn4 q0 q1 c1 HVA
            obtain ⟨K, hK⟩ : ∃ K, nextW op im pc x y = K := ⟨_, rfl⟩
            rw [hK] at HTA
            clear hK
            go_upto_region 14 with (first
              | (refine wpList_load_mid rfl 46 (.tmp 6) rfl _ 0 rfl xs _ X2.out.range Tryd.underlying46 rfl HX.out ?_)
              | (go_at_call 52
                 refine (HTA.out _).mono ?_
                 rintro e w8 ⟨rfl, b⟩
                 have z1 := X1.out.below b X1.out.1
                 have z2 := X2.out.below b X2.out.1
                 have z3 := X3.out.below b X3.out.1
                 have z4 := X4.out.below b X4.out.1
                 have z5 := KB.out.trans ((b).mono KB.out.size)
                 clear X1 X2 X3 X4 KB
                 have X1 := Lib.hid z1
                 have X2 := Lib.hid z2
                 have X3 := Lib.hid z3
                 have X4 := Lib.hid z4
                 have KB := Lib.hid z5
                 clear z1 z2 z3 z4 z5
                 clear b c0))
            go_wp2_with (first
              | (refine wpList_load_mid rfl 28 (.tmp 3) rfl _ 0 rfl cs _ X1.out.range Tryd.underlying28 rfl HI.out ?_)
              | (refine wpList_store_blk rfl 28 (.tmp 4) (.tmp 71) rfl (w.heap.size + 1) z35 cs2.toArray X3.out HZ2.out rfl rfl HI2.out HO2.out ?_; intro W7 hB7 hO7 hbl7 hs7; have X4' := hO7 _ _ (by omega) X4.out; replace X4 := Lib.hid X4'; clear X4')
              | (refine wpList_store_blk rfl 33 (.tmp 5) (.tmp 72) rfl (w.heap.size + 1 + 1) z9 ds2.toArray X4.out HZ3.out rfl rfl HI3.out HO3.out ?_; intro W8 hB8 hO8 hbl8 hs8)
              | (go_at_call 86
                 refine (HH.out _).mono ?_
                 rintro e w3 ⟨rfl, b⟩
                 have z1 := X1.out.below b X1.out.1
                 have z3 := X3.out.below b X3.out.1
                 have z4 := X4.out.below b X4.out.1
                 have z5 := KB.out.trans ((b).mono KB.out.size)
                 clear X1 X3 X4 KB
                 have X1 := Lib.hid z1
                 have X3 := Lib.hid z3
                 have X4 := Lib.hid z4
                 have KB := Lib.hid z5
                 clear z1 z3 z4 z5
                 clear b))
            exact bodyPost_ret (v := .tuple #[.agg cs2.toArray, .agg ds2.toArray]) (results_cell_two Tryd.results59 _ W8 (w.heap.size + 1) (w.heap.size + 1 + 1) cs2 ds2 _ _ rfl rfl (hO8 _ _ (by omega) hB7) hB8 Tryd.underlying28 rfl (by simpa using HI2.out) Tryd.underlying33 rfl (by simpa using HI3.out)) rfl ⟨rfl, (KB.out.trans (hbl7 _ (by omega))).trans (hbl8 _ (by omega))⟩
        · have q5 : (kd == 5) = false := by simpa using h5
          by_cases h2 : kd = 2
          · subst h2
            have hs2 := HS3.out.symm
            have ht2 := HT3.out.symm
            rw [if_neg (by decide), if_pos rfl] at hs2 ht2
            have HWR := Lib.hid (fun w ht hg => wrote_any s op rd k1 k2 im ((pc + 4) % 4294967296) (valW op im pc x y) { zeroSt with took := tookW op x y } HRL.out HW.out w ht hg)
            rw [hs2, ht2, HV2.out.1, HV2.out.2, HSV.out, HXV.out, show stV { zeroSt with took := tookW op x y } = .agg #[.int .u32 0, .int .u32 0, .int .i64 0, .int .u32 0, .int .u32 0, .int .i64 0, .bool false, .int .i64 0, .int .i64 (tookW op x y)] from rfl] at HWR
            obtain ⟨V, hV⟩ : ∃ V, valW op im pc x y = V := ⟨_, rfl⟩
            obtain ⟨K, hK⟩ : ∃ K, tookW op x y = K := ⟨_, rfl⟩
            rw [hV] at HVA HWR
            rw [hK] at HTK HWR
            clear hs2 ht2 HTA HH HFE hV hK HS3 HT3 h5
            go_upto_region 17 with fail
            have TB := Lib.hid (HT.out.below KB.out hg)
            have GB := Lib.hid (Nat.lt_of_lt_of_le hg KB.out.size)
            refine wp_region_two [0, 1, 2, 3, 4, 5, 6, 7, 8, 9, 10, 11, 12, 13, 14, 15, 16, 17, 18, 19] [] 20 21 _ _ (w.heap.size + 1) (w.heap.size + 1 + 1) z35 z9 cs2 ds2 28 33 (.tmp 4) (.tmp 106) (.tmp 5) (.tmp 107) (by kernel_rfl) (by kernel_rfl) rfl rfl rfl ⟨rfl, rfl, rfl⟩ ⟨rfl, rfl, rfl⟩ (by omega) X3.out X4.out (by simpa using HZ2.out) (by simpa using HZ3.out) (by simpa using HI2.out) (by simpa using HI3.out) HO2.out HO3.out ?_
            simp only [opsAt, List.getElem?_toArray, List.getElem?_cons_zero, List.getElem?_cons_succ, Option.toList_some, List.cons_append, List.nil_append]
            repeat (first
              | (go_big_quiet_want; refine quiet_load_mid 28 (.tmp 3) rfl _ rfl cs _ X1.out Tryd.underlying28 rfl HI.out ?_; simp only [Act.put, List.setIfInBounds_toArray, List.set_cons_succ, List.set_cons_zero]; go_big_quiet_on)
              | (go_big_quiet_want; refine quiet_load_mid 46 (.tmp 6) rfl _ rfl xs _ X2.out Tryd.underlying46 rfl HX.out ?_; simp only [Act.put, List.setIfInBounds_toArray, List.set_cons_succ, List.set_cons_zero]; go_big_quiet_on)
              | (go_big_quiet_step (first
                | (go_at_call 50; exact Calls.regrown_of (HVA.out _))
                | (go_at_call 51;  exact Calls.regrown_of ((HTK.out _).mono fun e w' h => ⟨h.1, by rw [← h.2]; exact Below.refl _ _⟩))
                | (go_at_call 88; exact Calls.regrown_of (HWR.out _ (TB.out.below (below_regrown _ _ _) GB.out) (Nat.lt_of_lt_of_le GB.out (below_regrown _ _ _).size))))))
            refine wpQuiet_nil ?_
            refine wpQuiet_nil ?_
            refine ⟨⟨rfl, rfl, rfl, rfl⟩, fun w9 n1 n2 n3 n4 => ?_⟩
            go_wp2
            exact bodyPost_ret (v := .tuple #[.agg cs2.toArray, .agg ds2.toArray]) (results_cell_two Tryd.results59 _ w9 (w.heap.size + 1) (w.heap.size + 1 + 1) cs2 ds2 _ _ rfl rfl n1 n2 Tryd.underlying28 rfl (by simpa using HI2.out) Tryd.underlying33 rfl (by simpa using HI3.out)) rfl ⟨rfl, KB.out.trans (n4 _ (by omega) (by omega))⟩
          · have q2 : (kd == 2) = false := by simpa using h2
            have hs2 := HS3.out.symm
            have ht2 := HT3.out.symm
            rw [if_neg h5, if_neg h2] at hs2 ht2
            have HWR := Lib.hid (fun w ht hg => wrote_any s op rd k1 k2 im ((pc + 4) % 4294967296) (valW op im pc x y) zeroSt HRL.out HW.out w ht hg)
            rw [hs2, ht2, HV2.out.1, HV2.out.2, HSV.out, HXV.out, show stV zeroSt = .agg #[.int .u32 0, .int .u32 0, .int .i64 0, .int .u32 0, .int .u32 0, .int .i64 0, .bool false, .int .i64 0, .int .i64 0] from rfl] at HWR
            obtain ⟨V, hV⟩ : ∃ V, valW op im pc x y = V := ⟨_, rfl⟩
            rw [hV] at HVA HWR
            clear hs2 ht2 HTA HH HFE hV HS3 HT3 h5 h2 HTK q1 c1
            go_upto_region 18 with fail
            have TB := Lib.hid (HT.out.below KB.out hg)
            have GB := Lib.hid (Nat.lt_of_lt_of_le hg KB.out.size)
            refine wp_region_two [0, 1, 2, 3, 4, 5, 6, 7, 8, 9, 10, 11, 12, 13, 14] [] 15 16 _ _ (w.heap.size + 1) (w.heap.size + 1 + 1) z35 z9 cs2 ds2 28 33 (.tmp 4) (.tmp 121) (.tmp 5) (.tmp 122) (by kernel_rfl) (by kernel_rfl) rfl rfl rfl ⟨rfl, rfl, rfl⟩ ⟨rfl, rfl, rfl⟩ (by omega) X3.out X4.out (by simpa using HZ2.out) (by simpa using HZ3.out) (by simpa using HI2.out) (by simpa using HI3.out) HO2.out HO3.out ?_
            simp only [opsAt, List.getElem?_toArray, List.getElem?_cons_zero, List.getElem?_cons_succ, Option.toList_some, List.cons_append, List.nil_append]
            repeat (first
              | (go_big_quiet_want; refine quiet_load_mid 28 (.tmp 3) rfl _ rfl cs _ X1.out Tryd.underlying28 rfl HI.out ?_; simp only [Act.put, List.setIfInBounds_toArray, List.set_cons_succ, List.set_cons_zero]; go_big_quiet_on)
              | (go_big_quiet_want; refine quiet_load_mid 46 (.tmp 6) rfl _ rfl xs _ X2.out Tryd.underlying46 rfl HX.out ?_; simp only [Act.put, List.setIfInBounds_toArray, List.set_cons_succ, List.set_cons_zero]; go_big_quiet_on)
              | (go_big_quiet_step (first
                | (go_at_call 50; exact Calls.regrown_of (HVA.out _))
                | (go_at_call 51;  exact Calls.regrown_of ((HTK.out _).mono fun e w' h => ⟨h.1, by rw [← h.2]; exact Below.refl _ _⟩))
                | (go_at_call 88; exact Calls.regrown_of (HWR.out _ (TB.out.below (below_regrown _ _ _) GB.out) (Nat.lt_of_lt_of_le GB.out (below_regrown _ _ _).size))))))
            refine wpQuiet_nil ?_
            refine wpQuiet_nil ?_
            refine ⟨⟨rfl, rfl, rfl, rfl⟩, fun w9 n1 n2 n3 n4 => ?_⟩
            go_wp2
            exact bodyPost_ret (v := .tuple #[.agg cs2.toArray, .agg ds2.toArray]) (results_cell_two Tryd.results59 _ w9 (w.heap.size + 1) (w.heap.size + 1 + 1) cs2 ds2 _ _ rfl rfl n1 n2 Tryd.underlying28 rfl (by simpa using HI2.out) Tryd.underlying33 rfl (by simpa using HI3.out)) rfl ⟨rfl, KB.out.trans (n4 _ (by omega) (by omega))⟩
    · rw [if_pos (by simpa using hy)] at hs2 ht2
      have q : (Y != 0) = true := by simpa using hy
      replace HH := Lib.hid (HH.out Y)
      rw [hs2, ht2, hv2, hv3] at HH
      obtain ⟨I, hI⟩ : ∃ I : Ins, fetV zs s.pc = inV I := by
        rw [hfv]
        split
        · exact ⟨⟨0, 0, 0, 0, 0⟩, rfl⟩
        · exact ⟨_, rfl⟩
      rw [hI] at HFE
      clear hs2 ht2 hcs2 hds2 hl2 hl3 ho2 ho3 hv2 hv3 hy hfv hY hI
      obtain ⟨xs, hxs⟩ : ∃ xs, inC I = xs := ⟨_, rfl⟩
      have hx5 : xs.length = 5 := by rw [← hxs]; rfl
      have hxo := in5_one I
      rw [hxs] at hxo
      rw [show inV I = .agg xs.toArray by rw [← hxs]; rfl] at HFE
      have HX := Lib.hid (show (Tryd.prog.info? 46).map (·.size) = some xs.length by rw [hx5]; exact in_info)
      have HXO := Lib.hid hxo
      have HX5 := Lib.hid hx5
      have HXS := Lib.hid hxs
      have P0 := Lib.hid (X1.out.2.1 0 _ H0.out)
      clear hxs hx5 hxo
      have s0 := P0.out
      go_upto_region 5 with (first
        | (go_at_call 85
           refine (HFE.out _ KB.out).mono ?_
           rintro e w1 ⟨rfl, b⟩
           have z1 := X1.out.below b X1.out.1
           have z3 := X3.out.below b X3.out.1
           have z4 := X4.out.below b X4.out.1
           have z5 := KB.out.trans ((b).mono KB.out.size)
           clear X1 X3 X4 KB
           have X1 := Lib.hid z1
           have X3 := Lib.hid z3
           have X4 := Lib.hid z4
           have KB := Lib.hid z5
           clear z1 z3 z4 z5
           clear b s0 s34 P0)
        | (refine wpList_store_new rfl 46 (.tmp 6) (.tmp 22) rfl w1.heap.size rfl _ xs _ rfl rfl (by rw [HX5.out]; rfl) HX.out HXO.out ?_
           intro W2 hb2 hB2 hs2
           have z1 := X1.out.below hb2 X1.out.1
           have z3 := X3.out.below hb2 X3.out.1
           have z4 := X4.out.below hb2 X4.out.1
           have z5 := KB.out.trans ((hb2).mono KB.out.size)
           clear X1 X3 X4 KB
           have X1 := Lib.hid z1
           have X3 := Lib.hid z3
           have X4 := Lib.hid z4
           have KB := Lib.hid z5
           clear z1 z3 z4 z5
           have X2 := Lib.hid hB2
           clear hb2 hB2))
      go_wp2_with (first
        | (refine wpList_load_mid rfl 28 (.tmp 3) rfl _ 0 rfl cs _ X1.out.range Tryd.underlying28 rfl HI.out ?_)
        | (refine wpList_store_blk rfl 28 (.tmp 4) (.tmp 29) rfl (w.heap.size + 1) z35 cs2.toArray X3.out HZ2.out rfl rfl HI2.out HO2.out ?_; intro W7 hB7 hO7 hbl7 hs7; have X4' := hO7 _ _ (by omega) X4.out; replace X4 := Lib.hid X4'; clear X4')
        | (refine wpList_store_blk rfl 33 (.tmp 5) (.tmp 30) rfl (w.heap.size + 1 + 1) z9 ds2.toArray X4.out HZ3.out rfl rfl HI3.out HO3.out ?_; intro W8 hB8 hO8 hbl8 hs8)
        | (go_at_call 86
           refine (HH.out _).mono ?_
           rintro e w3 ⟨rfl, b⟩
           have z1 := X1.out.below b X1.out.1
           have z3 := X3.out.below b X3.out.1
           have z4 := X4.out.below b X4.out.1
           have z5 := KB.out.trans ((b).mono KB.out.size)
           clear X1 X3 X4 KB
           have X1 := Lib.hid z1
           have X3 := Lib.hid z3
           have X4 := Lib.hid z4
           have KB := Lib.hid z5
           clear z1 z3 z4 z5
           clear b))
      exact bodyPost_ret (v := .tuple #[.agg cs2.toArray, .agg ds2.toArray]) (results_cell_two Tryd.results59 _ W8 (w.heap.size + 1) (w.heap.size + 1 + 1) cs2 ds2 _ _ rfl rfl (hO8 _ _ (by omega) hB7) hB8 Tryd.underlying28 rfl (by simpa using HI2.out) Tryd.underlying33 rfl (by simpa using HI3.out)) rfl ⟨rfl, (KB.out.trans (hbl7 _ (by omega))).trans (hbl8 _ (by omega))⟩
  · rw [if_pos hh] at hs2 ht2
    have q : (s.halt != 0) = true := by simpa using hh
    have hcc : cs2 = cs := by rw [← hcs2, ← hs2]; exact HCS.out
    have hdd : ds2 = z9 := by rw [← hds2, ← ht2]; rfl
    clear hs2 ht2 hcs2 hds2 hl2 hl3 ho2 ho3 hv2 hv3
    go_upto_region 2 with fail
    clear s34
    subst hcc
    subst hdd
    go_wp2_with (first
      | (refine wpList_load_mid rfl 28 (.tmp 3) rfl _ 0 rfl cs2 _ X1.out.range Tryd.underlying28 rfl HI.out ?_)
      | (refine wpList_store_blk rfl 28 (.tmp 4) (.tmp 15) rfl (w.heap.size + 1) z35 cs2.toArray X3.out HZ2.out rfl rfl HI2.out HO2.out ?_; intro W7 hB7 hO7 hbl7 hs7; have X4' := hO7 _ _ (by omega) X4.out; replace X4 := Lib.hid X4'; clear X4')
      | (refine wpList_store_blk rfl 33 (.tmp 5) (.tmp 16) rfl (w.heap.size + 1 + 1) z9 z9.toArray X4.out HZ3.out rfl rfl HI3.out HO3.out ?_; intro W8 hB8 hO8 hbl8 hs8))
    exact bodyPost_ret (v := .tuple #[.agg cs2.toArray, .agg z9.toArray]) (results_cell_two Tryd.results59 _ W8 (w.heap.size + 1) (w.heap.size + 1 + 1) cs2 z9 _ _ rfl rfl (hO8 _ _ (by omega) hB7) hB8 Tryd.underlying28 rfl (by simpa using HI2.out) Tryd.underlying33 rfl (by simpa using HI3.out)) rfl ⟨rfl, (KB.out.trans (hbl7 _ (by omega))).trans (hbl8 _ (by omega))⟩
end Go.Proofs.YtkamljmopbocnaaDoor

/- THE MATHEMATICS of package seq, further: what a run keeps; its steps with the runs behind them. -/
namespace Go.Proofs.YtkamljmopbocnaaDoor
open Go.ChangeShapes Go.WideShapes Go.ChangeAt Go.RowKit
set_option maxRecDepth 100000
set_option linter.unusedVariables false

theorem mulW_range (op a b : Int) (ha : 0 ≤ a) (ha' : a < 4294967296) (hb : 0 ≤ b) (hb' : b < 4294967296) : 0 ≤ mulW op a b ∧ mulW op a b < 4294967296 := by
  unfold mulW
  have := prod_lt a b ha ha' hb hb'
  repeat' split
  all_goals omega
theorem valW_range (op imm pc a b : Int) (hi : 0 ≤ imm) (hi' : imm < 4294967296) (ha : 0 ≤ a) (ha' : a < 4294967296) (hb : 0 ≤ b) (hb' : b < 4294967296) : 0 ≤ valW op imm pc a b ∧ valW op imm pc a b < 4294967296 := by
  unfold valW
  have h1 := mulW_range op a b ha ha' hb hb'
  have h2 := divW_range op a b ha ha' hb hb'
  have h3 := aluDo_range (b := imm) op ha ha' hi hi'
  have h4 := aluDo_range (b := b) op ha ha' hb hb'
  repeat' split
  all_goals first | omega | exact h3 | exact h4
theorem nextW_range (op imm pc a b : Int) : 0 ≤ nextW op imm pc a b ∧ nextW op imm pc a b < 4294967296 := by
  unfold nextW
  repeat' split
  all_goals omega
theorem ldV_range (op : Int) (s : ByteArray) : 0 ≤ ldV op s ∧ ldV op s < 4294967296 := by
  unfold ldV
  split
  · rename_i h
    have h4 : s.data.toList.length ≤ 4 := by
      have h1 : s.data.toList.length = s.size := rfl
      have : sizeOp op ≤ 4 := by unfold sizeOp; split; omega; split; omega; split <;> omega
      omega
    have hj := joinN_lt32 h4
    split
    · have := sxt_lt (joinN s.data.toList : Nat) (8 * (s.size : Int)) (by omega)
      omega
    · omega
  · omega
theorem stoV_range (b n : Int) : 0 ≤ stoV b n ∧ stoV b n < 4294967296 := by
  unfold stoV
  split
  · rename_i h
    have hj := joinN_lt32 (l := (stoS b n).data.toList) h
    omega
  · omega
theorem wrote_fst (s : Sq) (op rd next value : Int) (t : St) : (wrote s op rd next value t).1.mem = s.mem ∧ (wrote s op rd next value t).1.halt = s.halt ∧ (wrote s op rd next value t).1.pc = next := ⟨rfl, rfl, rfl⟩
/-- a store keeps the size -/
theorem store_size (m D : ByteArray) (addr : Int) (h0 : 0 ≤ addr) : (if rtB m.size addr D.size = true then wrS m D addr.toNat else ByteArray.empty).size ≤ m.size ∧ (rtB m.size addr D.size = true → (if rtB m.size addr D.size = true then wrS m D addr.toNat else ByteArray.empty).size = m.size) := by
  cases h : rtB m.size addr D.size
  · simp
  · obtain ⟨_, _, h3⟩ := rtB_facts h
    simp only [if_true]
    rw [wr_size m D addr.toNat (by omega)]
    exact ⟨Nat.le_refl _, fun _ => rfl⟩
theorem accS_ok {s : Sq} (h : sqOK s) {i : Ins} (hi : insOK i) (addr b : Int) (h0 : 0 ≤ addr) : sqOK (accS s i addr b).1 := by
  obtain ⟨⟨p0, p1⟩, h2, h3, h4⟩ := h
  unfold accS
  split
  · exact ⟨⟨p0, p1⟩, h2, h3, h4⟩
  · split
    · rename_i hk
      have hq : sqOK { s with mem := (if rtB s.mem.size addr (stoS b (sizeOp i.op)).size then wrS s.mem (stoS b (sizeOp i.op)) addr.toNat else ByteArray.empty) } := ⟨⟨p0, p1⟩, h2, h3, Nat.le_trans (store_size s.mem _ addr h0).1 h4⟩
      exact wrote_ok hq _ _ ⟨by omega, by omega⟩ (Or.inl (hi.2.2.2.2.2.2 hk)) _
    · exact wrote_ok ⟨⟨p0, p1⟩, h2, h3, h4⟩ _ _ ⟨by omega, by omega⟩ (Or.inr (ldV_range _ _)) _
theorem doS_ok {s : Sq} (h : sqOK s) {i : Ins} (hi : insOK i) : sqOK (doS s i).1 := by
  have hx := rg_range h.2.2.1 i.rs1
  have hy := rg_range h.2.2.1 i.rs2
  have hv := valW_range i.op i.imm s.pc (rg s.regs i.rs1) (rg s.regs i.rs2) hi.2.2.2.2.1.1 hi.2.2.2.2.1.2 hx.1 hx.2 hy.1 hy.2
  have hn := nextW_range i.op i.imm s.pc (rg s.regs i.rs1) (rg s.regs i.rs2)
  unfold doS
  simp only
  split
  · exact accS_ok h hi _ _ (by omega)
  · split
    · split
      · exact wrote_ok h _ _ hn (Or.inr hv) _
      · exact h
    · split
      · exact wrote_ok h _ _ ⟨by omega, by omega⟩ (Or.inr hv) _
      · exact wrote_ok h _ _ ⟨by omega, by omega⟩ (Or.inr hv) _
theorem why_zero {zs : List Int} {pc : Int} (h : whyS zs pc = 0) : ftB zs.length pc = true ∧ chB (ftV zs zs.length pc) = true ∧ (insOf (ftV zs zs.length pc)).op ≠ 47 ∧ (insOf (ftV zs zs.length pc)).op ≠ 48 := by
  unfold whyS at h
  cases h1 : ftB zs.length pc
  · rw [h1] at h; simp at h
  · rw [h1] at h
    cases h2 : chB (ftV zs zs.length pc)
    · rw [h2] at h; simp at h
    · rw [h2, if_neg (by simp), if_neg (by simp)] at h
      refine ⟨rfl, rfl, fun h3 => ?_, fun h3 => ?_⟩
      · rw [if_pos h3] at h; omega
      · rw [h3] at h; simp at h
theorem stepS_ok {zs : List Int} {s : Sq} (h : sqOK s) : sqOK (stepS zs s).1 := by
  unfold stepS
  split
  · exact h
  · split
    · exact h
    · rename_i hy
      exact doS_ok h (insOf_ok _ (why_zero (by simpa using hy)).2.1)
theorem runS_ok {zs : List Int} : ∀ (n : Nat) {s : Sq}, sqOK s → sqOK (runS zs n s).1
  | 0, _, h => h
  | n + 1, s, h => by
    by_cases h0 : s.halt = 0
    · rw [runS_goes zs n s h0]; exact runS_ok n (stepS_ok h)
    · rw [runS_halted zs _ s h0]; exact h
theorem newS_ok {m : ByteArray} (hm : m.size ≤ 1000) : sqOK (newS m) := by
  refine ⟨⟨Int.le_refl 0, by show (0 : Int) < 4294967296; decide⟩, by simp [newS], fun z hz => ?_, ?_⟩
  · have := List.eq_of_mem_replicate hz
    subst this
    decide
  · show (clS m).size ≤ 1000
    rw [clS_size]
    have := clN_of (min m.size 256)
    omega
/-- the steps with the runs behind them -/
def pairS (zs : List Int) : Nat → Sq → List (Sq × St)
  | 0, _ => []
  | n + 1, s => if s.halt ≠ 0 then [] else stepS zs s :: pairS zs n (stepS zs s).1
theorem pairS_halted (zs : List Int) (n : Nat) (s : Sq) (h : s.halt ≠ 0) : pairS zs n s = [] := by
  cases n
  · rfl
  · unfold pairS; rw [if_pos h]
theorem pairS_goes (zs : List Int) (n : Nat) (s : Sq) (h : s.halt = 0) : pairS zs (n + 1) s = stepS zs s :: pairS zs n (stepS zs s).1 := by
  show (if s.halt ≠ 0 then _ else _) = _
  rw [if_neg (by simp [h])]
theorem pairS_add (zs : List Int) : ∀ (n m : Nat) (s : Sq), pairS zs (n + m) s = pairS zs n s ++ pairS zs m (runS zs n s).1
  | 0, m, s => by rw [Nat.zero_add]; rfl
  | n + 1, m, s => by
    by_cases h : s.halt = 0
    · rw [show n + 1 + m = (n + m) + 1 by omega, pairS_goes zs _ s h, pairS_goes zs _ s h, pairS_add zs n m, runS_goes zs n s h]
      rfl
    · rw [pairS_halted zs _ s h, pairS_halted zs _ s h, runS_halted zs _ s h, pairS_halted zs _ s h]
      rfl
theorem pairS_snoc (zs : List Int) (n : Nat) (s : Sq) (h : (runS zs n s).1.halt = 0) : pairS zs (n + 1) s = pairS zs n s ++ [stepS zs (runS zs n s).1] := by
  rw [pairS_add zs n 1 s, pairS_goes zs 0 _ h]
  rfl
theorem pairS_prefix (zs : List Int) (n m : Nat) (s : Sq) (h : n ≤ m) : pairS zs n s <+: pairS zs m s := by
  rw [show m = n + (m - n) by omega, pairS_add]
  exact List.prefix_append _ _
theorem pairS_stop (zs : List Int) (n m : Nat) (s : Sq) (h : n ≤ m) (hh : (runS zs n s).1.halt ≠ 0) : pairS zs m s = pairS zs n s := by
  rw [show m = n + (m - n) by omega, pairS_add, pairS_halted zs _ _ hh, List.append_nil]
theorem pairS_steps (zs : List Int) : ∀ (n : Nat) (s : Sq), (pairS zs n s).map (·.2) = (runS zs n s).2
  | 0, _ => rfl
  | n + 1, s => by
    by_cases h : s.halt = 0
    · rw [pairS_goes zs n s h, runS_goes zs n s h, List.map_cons, pairS_steps zs n]
    · rw [pairS_halted zs _ s h, runS_halted zs _ s h]; rfl
theorem pairS_len (zs : List Int) (n : Nat) (s : Sq) : (pairS zs n s).length ≤ n := by
  have := congrArg List.length (pairS_steps zs n s)
  rw [List.length_map] at this
  rw [this]
  exact runS_len zs n s
/-- the run behind the last of them -/
def lastS (s : Sq) : List (Sq × St) → Sq
  | [] => s
  | x :: r => lastS x.1 r
theorem lastS_snoc (s : Sq) (x : Sq × St) : ∀ l, lastS s (l ++ [x]) = x.1
  | [] => rfl
  | y :: r => by show lastS y.1 (r ++ [x]) = x.1; exact lastS_snoc y.1 x r
theorem lastS_pairS (zs : List Int) : ∀ (n : Nat) (s : Sq), lastS s (pairS zs n s) = (runS zs n s).1
  | 0, _ => rfl
  | n + 1, s => by
    by_cases h : s.halt = 0
    · rw [pairS_goes zs n s h, runS_goes zs n s h]
      exact lastS_pairS zs n _
    · rw [pairS_halted zs _ s h, runS_halted zs _ s h]; rfl
theorem pairS_ok {zs : List Int} : ∀ (n : Nat) {s : Sq}, sqOK s → ∀ x ∈ pairS zs n s, sqOK x.1
  | 0, _, _, x, hx => by cases hx
  | n + 1, s, h, x, hx => by
    by_cases h0 : s.halt = 0
    · rw [pairS_goes zs n s h0] at hx
      rcases List.mem_cons.1 hx with rfl | hx
      · exact stepS_ok h
      · exact pairS_ok n (stepS_ok h) x hx
    · rw [pairS_halted zs _ s h0] at hx
      cases hx
end Go.Proofs.YtkamljmopbocnaaDoor
