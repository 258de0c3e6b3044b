import Derived.Test.YtcgahdmacngipaaOrder
import Derived.Test.YtcgahdmacngipaaOwnB
/- A REGION THAT DRAWS ITS ORDER AND WHOSE STORES MAY COME EARLY ('late stores' on one side only): the worlds go by stages, a store leads from one to the next; what may come ahead of a store or behind it has one value at all stages. -/
namespace Go.Proofs.Ytcgahdmacngipaa
open Go Go.Sort Go.RowKit
set_option maxRecDepth 100000
set_option linter.unusedVariables false

section
variable {P : Program} {ops : Array Oper} {md : Region.Mode} {C : Nat → World → Prop}

/-- an operation that yields its value in each world of these stages, and stays at its stage -/
def YieldsK (P : Program) (ops : Array Oper) (C : Nat → World → Prop) (S : Nat → Prop) (o : Oper) (v : Value) (a : Act) : Prop := ∀ k, S k → YieldsIn P ops (C k) o v a
/-- an operation that leads from a stage to the next one -/
def loudUpon (C' : World → Prop) (v : Value) : Result Next → Prop
  | .ok (.value u) w' => u = v ∧ C' w'
  | .ok .skip w' => v = undef ∧ C' w'
  | _ => False
def LoudAt (P : Program) (ops : Array Oper) (C : Nat → World → Prop) (k : Nat) (o : Oper) (v : Value) (a : Act) : Prop :=
  Region.wanted o (yielded ops a.tmps) = true ∧ ∀ w, C k w → loudUpon (C (k + 1)) v ((execOp a.eval o).run P w)
theorem YieldsK.of_same {S : Nat → Prop} {o : Oper} {v : Value} {a a' : Act} (hy : YieldsK P ops C S o v a) (he : execOp a'.eval o = execOp a.eval o)
    (hw : Region.wanted o (yielded ops a'.tmps) = Region.wanted o (yielded ops a.tmps)) : YieldsK P ops C S o v a' := fun k hk => (hy k hk).of_same he hw
theorem LoudAt.of_same {k : Nat} {o : Oper} {v : Value} {a a' : Act} (hy : LoudAt P ops C k o v a) (he : execOp a'.eval o = execOp a.eval o)
    (hw : Region.wanted o (yielded ops a'.tmps) = Region.wanted o (yielded ops a.tmps)) : LoudAt P ops C k o v a' := by
  unfold LoudAt at *
  rw [he, hw]
  exact hy

def stg (early : Nat → Bool) (i : Nat) : Nat → Prop := fun k => early i = true → k = 0
def wpAnyK (P : Program) (md : Region.Mode) (ops : Array Oper) (C : Nat → World → Prop) (early loud : Nat → Bool) (Q : Nat → Act → Prop) : Nat → Array Bool → Nat → Act → Prop
  | 0, listed, k, a => Region.ready md ops listed = [] ∧ Q k a
  | f + 1, listed, k, a => (Region.ready md ops listed = [] → Q k a) ∧ ∀ i ∈ Region.ready md ops listed, ∀ o, ops[i]? = some o → ∃ v,
      if loud i = true then LoudAt P ops C k o v a ∧ wpAnyK P md ops C early loud Q f (listed.setIfInBounds i true) (k + 1) (a.put o.dst v)
      else (early i = true → k = 0) ∧ YieldsK P ops C (stg early i) o v a ∧ wpAnyK P md ops C early loud Q f (listed.setIfInBounds i true) k (a.put o.dst v)

theorem wpAny_of_K {early loud : Nat → Bool} {Q : Nat → Act → Prop} {Q' : Exit → Act → World → Prop} (hQ : ∀ k a w, C k w → Q k a → Q' .normal a w) :
    ∀ (f : Nat) (listed : Array Bool) (k : Nat) (a : Act) (w : World), C k w → wpAnyK P md ops C early loud Q f listed k a → wpAny P md ops Q' f listed a w
  | 0, _, _, _, _, hw, h => ⟨h.1, hQ _ _ _ hw h.2⟩
  | f + 1, listed, k, a, w, hw, h => ⟨fun h0 => hQ _ _ _ hw (h.1 h0), fun i hi => by
      obtain ⟨_, o, ho, _⟩ := mem_ready.1 hi
      obtain ⟨v, hv⟩ := h.2 i hi o ho
      unfold wpOp
      simp only [ho]
      by_cases hl : loud i = true
      · rw [if_pos hl] at hv
        obtain ⟨⟨hwt, hr⟩, hK⟩ := hv
        rw [if_pos hwt]
        refine .inl ?_
        have h3 := hr w hw
        unfold Oper.wp
        generalize (execOp a.eval o).run P w = r at *
        cases r with
        | ok n w' =>
          cases n <;> simp only [loudUpon] at h3 <;> simp only [Oper.upon]
          case value u =>
            obtain ⟨e1, e2⟩ := h3
            rw [e1]
            exact wpAny_of_K hQ f _ _ _ _ e2 hK
          case skip =>
            obtain ⟨e1, e2⟩ := h3
            rw [← e1]
            exact wpAny_of_K hQ f _ _ _ _ e2 hK
        | halt x w' => simp only [loudUpon] at h3
      · rw [if_neg hl] at hv
        obtain ⟨he, hy, hK⟩ := hv
        rcases hy k he with ⟨hwt, hr⟩ | ⟨hwt, rfl⟩
        · rw [if_pos hwt]
          exact .inl (Oper.wp_of_quiet (K := wpAnyK P md ops C early loud Q f (listed.setIfInBounds i true) k) hw (fun a w' hw' h => wpAny_of_K hQ f _ _ _ _ hw' h) ⟨v, hr, hK⟩)
        · rw [if_neg (by rw [hwt]; exact Bool.false_ne_true)]
          exact wpAny_of_K hQ f _ _ _ _ hw hK⟩

/-- what is listed has what it waits for listed -/
structure ClosedB (md : Region.Mode) (ops : Array Oper) (listed : Array Bool) : Prop where
  size : listed.size = ops.size
  closed : ∀ j oj, ops[j]? = some oj → listed.getD j false = true → ∀ e ∈ oj.after, Region.binds md e = true → listed.getD e.on false = true
theorem ClosedB.set {i : Nat} {listed : Array Bool} (inv : ClosedB md ops listed) (hi : i ∈ Region.ready md ops listed) : ClosedB md ops (listed.setIfInBounds i true) := by
  obtain ⟨_, oi, hoi, hall⟩ := mem_ready.1 hi
  refine ⟨by simp [inv.size], fun j oj hj hl e he hb => ?_⟩
  by_cases hij : i = j
  · subst hij
    have : oj = oi := Option.some.inj (hj.symm.trans hoi)
    subst this
    exact getD_set_true (hall e he hb)
  · rw [getD_set_ne false hij] at hl
    exact getD_set_true (inv.closed j oj hj hl e he hb)
theorem ready_lt {i : Nat} {listed : Array Bool} (hi : i ∈ Region.ready md ops listed) : i < ops.size := by
  obtain ⟨_, oi, hoi, _⟩ := mem_ready.1 hi
  exact (Array.getElem?_eq_some_iff.1 hoi).1
/-- what waits for something that is not listed is not listed, nor ready -/
theorem waits_un {i j : Nat} {listed : Array Bool} (inv : ClosedB md ops listed) (hw : Region.waitsFor md ops j i = true) (hun : listed.getD i true = false) : listed.getD j true = false ∧ j ∉ Region.ready md ops listed := by
  obtain ⟨oj, hoj, e, he, hb, hon⟩ := Region.waitsFor_spec hw
  have hjs : j < listed.size := by rw [inv.size]; exact (Array.getElem?_eq_some_iff.1 hoj).1
  refine ⟨?_, fun hr => ?_⟩
  · cases hl : listed.getD j false with
    | true =>
      have h2 := inv.closed j oj hoj hl e he hb
      rw [hon, getD_both hun] at h2
      cases h2
    | false => exact getD_in hjs hl
  · obtain ⟨_, o', ho', hall⟩ := mem_ready.1 hr
    have : o' = oj := Option.some.inj (ho'.symm.trans hoj)
    subst this
    have h2 := hall e he hb
    rw [hon, getD_both hun] at h2
    cases h2
theorem chain_un {listed : Array Bool} (inv : ClosedB md ops listed) : ∀ (t : Nat) (r : List Nat), chainT md ops (t :: r) = true → listed.getD t true = false → ∀ x ∈ r, listed.getD x true = false ∧ x ∉ Region.ready md ops listed
  | _, [], _, _, x, hx => by cases hx
  | t, b :: r, hc, hun, x, hx => by
    simp only [chainT, Bool.and_eq_true] at hc
    have hb := waits_un inv hc.1 hun
    rcases List.mem_cons.1 hx with rfl | hx
    · exact hb
    · exact chain_un inv b r hc.2 hb.1 x hx
/-- each early operation is waited for, in the end by the first loud one -/
def sinkE (md : Region.Mode) (ops : Array Oper) (early : List Nat) (t0 : Nat) : Bool :=
  early.all fun i => decide (i < ops.size) && (early.any (fun j => decide (i < j) && Region.waitsFor md ops j i) || Region.waitsFor md ops t0 i)
theorem sink_un {early : List Nat} {t0 : Nat} {r : List Nat} {listed : Array Bool} (hs : sinkE md ops early t0 = true) (hc : chainT md ops (t0 :: r) = true) (inv : ClosedB md ops listed) :
    ∀ (d i : Nat), ops.size - i = d → i ∈ early → listed.getD i true = false → ∀ t ∈ t0 :: r, t ∉ Region.ready md ops listed := by
  intro d
  induction d using Nat.strongRecOn with
  | _ d ih =>
    intro i hd hi hun t ht
    have h1 := List.all_eq_true.1 hs i hi
    simp only [Bool.and_eq_true, Bool.or_eq_true, decide_eq_true_eq] at h1
    obtain ⟨hlt, h1⟩ := h1
    rcases h1 with h1 | h1
    · obtain ⟨j, hj, hj2⟩ := List.any_eq_true.1 h1
      simp only [Bool.and_eq_true, decide_eq_true_eq] at hj2
      have hu := waits_un inv hj2.2 hun
      exact ih (ops.size - j) (by omega) j rfl hj hu.1 t ht
    · have hu := waits_un inv h1 hun
      rcases List.mem_cons.1 ht with rfl | ht
      · exact hu.2
      · exact (chain_un inv t0 r hc hu.1 t ht).2

theorem wpAnyK_quiet {early loud : Nat → Bool} {Q : Nat → Act → Prop} {i : Nat} {oi : Oper} {v : Value} (hi : ops[i]? = some oi) (hsel : ∀ (j : Nat) (o : Oper) cs b, ops[j]? = some o → o.op ≠ .select cs b) (hli : loud i = false)
    (hE : early i = true → ∀ listed, ClosedB md ops listed → listed.getD i true = false → ∀ t, loud t = true → t ∉ Region.ready md ops listed) :
    ∀ (f : Nat) (listed : Array Bool) (k : Nat) (a : Act), ClosedB md ops listed → (early i = true → k = 0) →
      (∀ j oj, ops[j]? = some oj → j ≠ i → listed.getD j true = false → (∀ e ∈ oj.after, Region.binds md e = true → e.on ≠ i) → oi.apart ops oj = true) →
      i ∈ Region.ready md ops listed → YieldsK P ops C (stg early i) oi v a →
      wpAnyK P md ops C early loud Q f (listed.setIfInBounds i true) k (a.put oi.dst v) → wpAnyK P md ops C early loud Q (f + 1) listed k a := by
  intro f
  induction f with
  | zero =>
    intro listed k a inv hk hfree hr hy H
    refine ⟨fun h => (by rw [h] at hr; cases hr), fun j hj o ho => ?_⟩
    by_cases hji : j = i
    · subst hji
      have : o = oi := Option.some.inj (ho.symm.trans hi)
      subst this
      exact ⟨v, by rw [if_neg (by rw [hli]; exact Bool.false_ne_true)]; exact ⟨hk, hy, H⟩⟩
    · have := ready_mono hj hji
      rw [H.1] at this
      cases this
  | succ f ih =>
    intro listed k a inv hk hfree hr hy H
    have hun := (mem_ready.1 hr).1
    refine ⟨fun h => (by rw [h] at hr; cases hr), fun j hj oj hoj => ?_⟩
    by_cases hji : j = i
    · subst hji
      have : oj = oi := Option.some.inj (hoj.symm.trans hi)
      subst this
      exact ⟨v, by rw [if_neg (by rw [hli]; exact Bool.false_ne_true)]; exact ⟨hk, hy, H⟩⟩
    · obtain ⟨u, hu⟩ := H.2 j (ready_mono hj hji) oj hoj
      obtain ⟨hjun, oj', hoj', hall⟩ := mem_ready.1 hj
      have : oj' = oj := Option.some.inj (hoj'.symm.trans hoj)
      subst this
      have hnot : ∀ e ∈ oj'.after, Region.binds md e = true → e.on ≠ i := fun e he hb heq => by
        have h1 := hall e he hb
        rw [heq, getD_both hun] at h1
        cases h1
      have hap := hfree j oj' hoj hji hjun hnot
      obtain ⟨h1, h2, h3⟩ := Oper.apart_spec hap
      have hfree' : ∀ k ok, ops[k]? = some ok → k ≠ i → (listed.setIfInBounds j true).getD k true = false →
          (∀ e ∈ ok.after, Region.binds md e = true → e.on ≠ i) → oi.apart ops ok = true := fun k ok hk hki hun hno => by
        refine hfree k ok hk hki ?_ hno
        by_cases hjk : j = k
        · subst hjk; exact hjun
        · rw [getD_set_ne true hjk] at hun; exact hun
      have hyu : YieldsK P ops C (stg early i) oi v (a.put oj'.dst u) := hy.of_same (execOp_put oi (fun cs b => hsel i oi cs b hi) a oj'.dst u h3) (wanted_put oi a oj'.dst u h3)
      have e1 := execOp_put oj' (fun cs b => hsel j oj' cs b hoj) a oi.dst v h1
      have e2 := wanted_put oj' a oi.dst v h1
      refine ⟨u, ?_⟩
      by_cases hlj : loud j = true
      · rw [if_pos hlj] at hu ⊢
        have hne : early i = true → False := fun he => hE he listed inv hun j hlj hj
        refine ⟨hu.1.of_same e1.symm e2.symm, ih (listed.setIfInBounds j true) (k + 1) _ (inv.set hj) (fun he => absurd he hne) hfree' (ready_mono hr (Ne.symm hji)) hyu ?_⟩
        rw [Array.setIfInBounds_comm _ _ hji, ← Act.put_comm a v u h2]
        exact hu.2
      · rw [if_neg hlj] at hu ⊢
        refine ⟨hu.1, hu.2.1.of_same e1.symm e2.symm, ih (listed.setIfInBounds j true) k _ (inv.set hj) hk hfree' (ready_mono hr (Ne.symm hji)) hyu ?_⟩
        rw [Array.setIfInBounds_comm _ _ hji, ← Act.put_comm a v u h2]
        exact hu.2.2

theorem wpAnyK_loud {early loud : Nat → Bool} {Q : Nat → Act → Prop} {i : Nat} {oi : Oper} {v : Value} (hi : ops[i]? = some oi) (hsel : ∀ (j : Nat) (o : Oper) cs b, ops[j]? = some o → o.op ≠ .select cs b) (hli : loud i = true)
    (hO : ∀ listed, ClosedB md ops listed → listed.getD i true = false → (∀ t, loud t = true → t ∈ Region.ready md ops listed → t = i)) :
    ∀ (f : Nat) (listed : Array Bool) (k : Nat) (a : Act), ClosedB md ops listed →
      (∀ j oj, ops[j]? = some oj → j ≠ i → listed.getD j true = false → (∀ e ∈ oj.after, Region.binds md e = true → e.on ≠ i) → oi.apart ops oj = true) →
      i ∈ Region.ready md ops listed → LoudAt P ops C k oi v a →
      wpAnyK P md ops C early loud Q f (listed.setIfInBounds i true) (k + 1) (a.put oi.dst v) → wpAnyK P md ops C early loud Q (f + 1) listed k a := by
  intro f
  induction f with
  | zero =>
    intro listed k a inv hfree hr hy H
    refine ⟨fun h => (by rw [h] at hr; cases hr), fun j hj o ho => ?_⟩
    by_cases hji : j = i
    · subst hji
      have : o = oi := Option.some.inj (ho.symm.trans hi)
      subst this
      exact ⟨v, by rw [if_pos hli]; exact ⟨hy, H⟩⟩
    · have := ready_mono hj hji
      rw [H.1] at this
      cases this
  | succ f ih =>
    intro listed k a inv hfree hr hy H
    have hun := (mem_ready.1 hr).1
    refine ⟨fun h => (by rw [h] at hr; cases hr), fun j hj oj hoj => ?_⟩
    by_cases hji : j = i
    · subst hji
      have : oj = oi := Option.some.inj (hoj.symm.trans hi)
      subst this
      exact ⟨v, by rw [if_pos hli]; exact ⟨hy, H⟩⟩
    · obtain ⟨u, hu⟩ := H.2 j (ready_mono hj hji) oj hoj
      obtain ⟨hjun, oj', hoj', hall⟩ := mem_ready.1 hj
      have : oj' = oj := Option.some.inj (hoj'.symm.trans hoj)
      subst this
      have hnot : ∀ e ∈ oj'.after, Region.binds md e = true → e.on ≠ i := fun e he hb heq => by
        have h1 := hall e he hb
        rw [heq, getD_both hun] at h1
        cases h1
      have hap := hfree j oj' hoj hji hjun hnot
      obtain ⟨h1, h2, h3⟩ := Oper.apart_spec hap
      have hfree' : ∀ k ok, ops[k]? = some ok → k ≠ i → (listed.setIfInBounds j true).getD k true = false →
          (∀ e ∈ ok.after, Region.binds md e = true → e.on ≠ i) → oi.apart ops ok = true := fun k ok hk hki hun hno => by
        refine hfree k ok hk hki ?_ hno
        by_cases hjk : j = k
        · subst hjk; exact hjun
        · rw [getD_set_ne true hjk] at hun; exact hun
      have hlj : loud j = true → False := fun hl => hji (hO listed inv hun j hl hj)
      rw [if_neg hlj] at hu
      have hyu : LoudAt P ops C k oi v (a.put oj'.dst u) := hy.of_same (execOp_put oi (fun cs b => hsel i oi cs b hi) a oj'.dst u h3) (wanted_put oi a oj'.dst u h3)
      have e1 := execOp_put oj' (fun cs b => hsel j oj' cs b hoj) a oi.dst v h1
      have e2 := wanted_put oj' a oi.dst v h1
      refine ⟨u, ?_⟩
      rw [if_neg hlj]
      have hne : early j = true → False := fun he => by have := hu.1 he; omega
      refine ⟨fun he => absurd he hne, hu.2.1.of_same e1.symm e2.symm, ih (listed.setIfInBounds j true) k _ (inv.set hj) hfree' (ready_mono hr (Ne.symm hji)) hyu ?_⟩
      rw [Array.setIfInBounds_comm _ _ hji, ← Act.put_comm a v u h2]
      exact hu.2.2

/-- the order's Bool: each is ready and free at its turn -/
def planB (md : Region.Mode) (ops : Array Oper) : List Nat → Array Bool → Bool
  | [], listed => (Region.ready md ops listed).isEmpty
  | k :: r, listed => (Region.ready md ops listed).contains k && Region.free md ops listed k && planB md ops r (listed.setIfInBounds k true)
/-- the loud ones, in their order -/
def wpLouds (P : Program) (ops : Array Oper) (C : Nat → World → Prop) (Q : Nat → Act → Prop) : List Nat → Nat → Act → Prop
  | [], k, a => Q k a
  | i :: r, k, a => ∃ o v, ops[i]? = some o ∧ LoudAt P ops C k o v a ∧ wpLouds P ops C Q r (k + 1) (a.put o.dst v)
theorem chainT_tail {t : Nat} {r : List Nat} (h : chainT md ops (t :: r) = true) : chainT md ops r = true := by
  cases r with
  | nil => rfl
  | cons b r => simp only [chainT, Bool.and_eq_true] at h; exact h.2
theorem getD_true_set {i j : Nat} {listed : Array Bool} (h : listed.getD j false = true) : (listed.setIfInBounds i true).getD j false = true := by
  by_cases e : i = j
  · subst e
    by_cases hs : i < listed.size
    · simp [hs]
    · simp [Array.getElem?_eq_none (Nat.le_of_not_lt hs)] at h
  · rw [getD_set_ne false e]; exact h
theorem wpAnyK_louds {early loud : Nat → Bool} {Q : Nat → Act → Prop} (hsel : ∀ (j : Nat) (o : Oper) cs b, ops[j]? = some o → o.op ≠ .select cs b) :
    ∀ (r : List Nat) (pre : List Nat) (listed : Array Bool) (k : Nat) (a : Act), ClosedB md ops listed → (∀ t, loud t = true ↔ t ∈ pre ++ r) → (∀ i ∈ r, i ∉ pre) → r.Nodup → chainT md ops r = true → (∀ t ∈ pre, listed.getD t false = true) →
      planB md ops r listed = true → wpLouds P ops C Q r k a → wpAnyK P md ops C early loud Q r.length listed k a
  | [], pre, listed, k, a, _, _, _, _, _, _, hB, h => ⟨by simpa [planB] using hB, h⟩
  | i :: r, pre, listed, k, a, inv, hl, hnp, hnd, hc, hp, hB, h => by
    obtain ⟨o, v, ho, hL, hK⟩ := h
    simp only [planB, Bool.and_eq_true] at hB
    obtain ⟨⟨hr, hf⟩, hB'⟩ := hB
    have hr' : i ∈ Region.ready md ops listed := by simpa using hr
    have hli : loud i = true := (hl i).2 (by simp)
    -- any listing in which pre is listed; i is the only loud one that may be ready
    have key : ∀ (f : Nat) (L : Array Bool) (k : Nat) (a : Act), ClosedB md ops L → (∀ t ∈ pre, L.getD t false = true) →
        (∀ j oj, ops[j]? = some oj → j ≠ i → L.getD j true = false → (∀ e ∈ oj.after, Region.binds md e = true → e.on ≠ i) → o.apart ops oj = true) →
        i ∈ Region.ready md ops L → LoudAt P ops C k o v a → wpAnyK P md ops C early loud Q f (L.setIfInBounds i true) (k + 1) (a.put o.dst v) → wpAnyK P md ops C early loud Q (f + 1) L k a := by
      intro f
      induction f with
      | zero =>
        intro L k a inv hp hfree hr hy H
        refine ⟨fun h => (by rw [h] at hr; cases hr), fun j hj o' ho' => ?_⟩
        by_cases hji : j = i
        · subst hji
          have : o' = o := Option.some.inj (ho'.symm.trans ho)
          subst this
          exact ⟨v, by rw [if_pos hli]; exact ⟨hy, H⟩⟩
        · have := ready_mono hj hji
          rw [H.1] at this
          cases this
      | succ f ih =>
        intro L k a inv hp hfree hr hy H
        have hun := (mem_ready.1 hr).1
        refine ⟨fun h => (by rw [h] at hr; cases hr), fun j hj oj hoj => ?_⟩
        by_cases hji : j = i
        · subst hji
          have : oj = o := Option.some.inj (hoj.symm.trans ho)
          subst this
          exact ⟨v, by rw [if_pos hli]; exact ⟨hy, H⟩⟩
        · obtain ⟨u, hu⟩ := H.2 j (ready_mono hj hji) oj hoj
          obtain ⟨hjun, oj', hoj', hall⟩ := mem_ready.1 hj
          have : oj' = oj := Option.some.inj (hoj'.symm.trans hoj)
          subst this
          have hnot : ∀ e ∈ oj'.after, Region.binds md e = true → e.on ≠ i := fun e he hb heq => by
            have h1 := hall e he hb
            rw [heq, getD_both hun] at h1
            cases h1
          have hap := hfree j oj' hoj hji hjun hnot
          obtain ⟨h1, h2, h3⟩ := Oper.apart_spec hap
          have hfree' : ∀ k ok, ops[k]? = some ok → k ≠ i → (L.setIfInBounds j true).getD k true = false →
              (∀ e ∈ ok.after, Region.binds md e = true → e.on ≠ i) → o.apart ops ok = true := fun k ok hk hki hun hno => by
            refine hfree k ok hk hki ?_ hno
            by_cases hjk : j = k
            · subst hjk; exact hjun
            · rw [getD_set_ne true hjk] at hun; exact hun
          have hlj : loud j = true → False := fun hlj => by
            rcases List.mem_append.1 ((hl j).1 hlj) with h5 | h5
            · have h6 := hp j h5
              rw [getD_both hjun] at h6
              cases h6
            · rcases List.mem_cons.1 h5 with rfl | h5
              · exact hji rfl
              · exact (chain_un inv i r hc hun j h5).2 hj
          rw [if_neg hlj] at hu
          have hyu : LoudAt P ops C k o v (a.put oj'.dst u) := hy.of_same (execOp_put o (fun cs b => hsel i o cs b ho) a oj'.dst u h3) (wanted_put o a oj'.dst u h3)
          have e1 := execOp_put oj' (fun cs b => hsel j oj' cs b hoj) a o.dst v h1
          have e2 := wanted_put oj' a o.dst v h1
          refine ⟨u, ?_⟩
          rw [if_neg hlj]
          have hne : early j = true → False := fun he => by have := hu.1 he; omega
          refine ⟨fun he => absurd he hne, hu.2.1.of_same e1.symm e2.symm, ih (L.setIfInBounds j true) k _ (inv.set hj) (fun t ht => getD_true_set (hp t ht)) hfree' (ready_mono hr (Ne.symm hji)) hyu ?_⟩
          rw [Array.setIfInBounds_comm _ _ hji, ← Act.put_comm a v u h2]
          exact hu.2.2
    refine key r.length listed k a inv hp (Region.free_spec ho hf) hr' hL (wpAnyK_louds hsel r (pre ++ [i]) _ (k + 1) _ (inv.set hr') (fun t => by rw [hl t]; simp) ?_ (List.nodup_cons.1 hnd).2 (chainT_tail hc) ?_ hB' hK)
    · intro x hx hx2
      rcases List.mem_append.1 hx2 with h5 | h5
      · exact hnp x (by simp [hx]) h5
      · have : x = i := by simpa using h5
        subst this
        exact (List.nodup_cons.1 hnd).1 hx
    · intro t ht
      rcases List.mem_append.1 ht with h5 | h5
      · exact getD_true_set (hp t h5)
      · have : t = i := by simpa using h5
        subst this
        have hs : t < listed.size := by rw [inv.size]; exact ready_lt hr'
        simp [hs]

/-- operations that enter no function -/
def noEnter (o : Oper) : Bool := match o.op with | .move _ | .assign _ | .load _ _ | .binOp _ _ _ _ _ | .unOp _ _ _ | .fieldAddr _ _ _ | .field _ _ _ | .indexAddr _ _ _ | .index _ _ _ | .extract _ _ | .build _ _ | .convert _ _ _ => true | _ => false
theorem noEnter_spec {o : Oper} (h : noEnter o = true) (ρ : Operand → Value) (w w' : World) (f : FuncId) (args : Array Value) : (execOp ρ o).run P w ≠ .ok (.enter f args) w' := by
  have key : ∀ (s : Sem Value), (do pure (Next.value (← s)) : Sem Next).run P w ≠ .ok (.enter f args) w' := by
    intro s
    rw [Sem.run_bind]
    cases s.run P w with
    | ok x w2 => intro h; simp [Result.andThen, Sem.run_pure] at h
    | halt x w2 => intro h; simp [Result.andThen] at h
  unfold noEnter at h
  unfold execOp
  split at h
  all_goals first
    | (rename_i e; rw [e]; first | exact key _ | (intro h; simp [Sem.run_pure] at h))
    | cases h
theorem quietAt_free {o : Oper} {a : Act} {K K' : World → Prop} {w : World} {v : Value} (hn : noEnter o = true) (hw : K' w) (h : o.quietAt P a K w v) : o.quietAt P a K' w v := by
  unfold Oper.quietAt at *
  have hne := noEnter_spec (P := P) hn a.eval w
  generalize (execOp a.eval o).run P w = r at *
  cases r with
  | ok n w' =>
    cases n <;> simp only [Oper.quietUpon] at h ⊢
    case value u => exact h
    case skip => exact h
    case enter f args => exact absurd rfl (hne w' f args)
  | halt x w' => simp only [Oper.quietUpon] at h

/-- the quiet ones, in their order: early ones in the first stage's class, the others in all worlds -/
theorem wpAnyK_early {early loud : Nat → Bool} {Q : Nat → Act → Prop} {L : Act → Prop} {rest : List Nat} (hsel : ∀ (j : Nat) (o : Oper) cs b, ops[j]? = some o → o.op ≠ .select cs b)
    (hE : ∀ i, early i = true → ∀ listed, ClosedB md ops listed → listed.getD i true = false → ∀ t, loud t = true → t ∉ Region.ready md ops listed)
    (hL : ∀ listed a, ClosedB md ops listed → planB md ops rest listed = true → L a → wpAnyK P md ops C early loud Q rest.length listed 0 a) :
    ∀ (hd : List Nat) (listed : Array Bool) (a : Act), (∀ i ∈ hd, early i = true ∧ loud i = false ∧ (ops[i]?).isSome = true) → ClosedB md ops listed → planB md ops (hd ++ rest) listed = true → wpQuiet P ops (C 0) L (opsAt ops hd) a →
      wpAnyK P md ops C early loud Q (hd.length + rest.length) listed 0 a
  | [], listed, a, _, inv, hB, h => by rw [List.length_nil, Nat.zero_add]; exact hL listed a inv (by simpa using hB) h
  | i :: r, listed, a, hd, inv, hB, h => by
    obtain ⟨he, hl, hs⟩ := hd i (by simp)
    obtain ⟨o, ho⟩ := Option.isSome_iff_exists.1 hs
    have hops : opsAt ops (i :: r) = o :: opsAt ops r := by simp [opsAt, ho]
    rw [hops] at h
    simp only [List.cons_append, planB, Bool.and_eq_true] at hB
    obtain ⟨⟨hr, hf⟩, hB'⟩ := hB
    have hr' : i ∈ Region.ready md ops listed := by simpa using hr
    have hst : qOp P ops (C 0) i (wpQuiet P ops (C 0) L (opsAt ops r)) a := by unfold qOp; simp only [ho]; exact h
    obtain ⟨v, hy, hK⟩ := yieldsIn_of_qOp ho hst
    rw [List.length_cons, show r.length + 1 + rest.length = r.length + rest.length + 1 by omega]
    exact wpAnyK_quiet ho hsel hl (hE i) _ listed 0 a inv (fun _ => rfl) (Region.free_spec ho hf) hr' (fun k hk => by rw [hk he]; exact hy)
      (wpAnyK_early hsel hE hL r _ _ (fun x hx => hd x (by simp [hx])) (inv.set hr') hB' hK)
theorem wpAnyK_free {early loud : Nat → Bool} {Q : Nat → Act → Prop} {L : Act → Prop} {rest : List Nat} (hsel : ∀ (j : Nat) (o : Oper) cs b, ops[j]? = some o → o.op ≠ .select cs b)
    (hL : ∀ listed a, ClosedB md ops listed → planB md ops rest listed = true → L a → wpAnyK P md ops C early loud Q rest.length listed 0 a) :
    ∀ (hd : List Nat) (listed : Array Bool) (a : Act), (∀ i ∈ hd, early i = false ∧ loud i = false ∧ ∃ o, ops[i]? = some o ∧ noEnter o = true) → ClosedB md ops listed → planB md ops (hd ++ rest) listed = true → wpQuiet P ops (fun w => ∃ k, C k w) L (opsAt ops hd) a →
      wpAnyK P md ops C early loud Q (hd.length + rest.length) listed 0 a
  | [], listed, a, _, inv, hB, h => by rw [List.length_nil, Nat.zero_add]; exact hL listed a inv (by simpa using hB) h
  | i :: r, listed, a, hd, inv, hB, h => by
    obtain ⟨he, hl, o, ho, hn⟩ := hd i (by simp)
    have hops : opsAt ops (i :: r) = o :: opsAt ops r := by simp [opsAt, ho]
    rw [hops] at h
    simp only [List.cons_append, planB, Bool.and_eq_true] at hB
    obtain ⟨⟨hr, hf⟩, hB'⟩ := hB
    have hr' : i ∈ Region.ready md ops listed := by simpa using hr
    have hst : qOp P ops (fun w => ∃ k, C k w) i (wpQuiet P ops (fun w => ∃ k, C k w) L (opsAt ops r)) a := by unfold qOp; simp only [ho]; exact h
    obtain ⟨v, hy, hK⟩ := yieldsIn_of_qOp ho hst
    rw [List.length_cons, show r.length + 1 + rest.length = r.length + rest.length + 1 by omega]
    refine wpAnyK_quiet ho hsel hl (fun h => by rw [he] at h; cases h) _ listed 0 a inv (fun _ => rfl) (Region.free_spec ho hf) hr' (fun k hk => ?_)
      (wpAnyK_free hsel hL r _ _ (fun x hx => hd x (by simp [hx])) (inv.set hr') hB' hK)
    rcases hy with ⟨hwt, hq⟩ | hy
    · exact .inl ⟨hwt, fun w hw => quietAt_free hn hw (hq w ⟨k, hw⟩)⟩
    · exact .inr hy

def stagesB (ops : Array Oper) (er fr : List Nat) (t0 : Nat) (r : List Nat) : Bool :=
  Region.noSelect ops && sinkE .any ops er t0 && chainT .any ops (t0 :: r) && decide (t0 :: r).Nodup && er.all (fun i => !(t0 :: r).contains i && (ops[i]?).isSome) &&
  fr.all (fun i => !(t0 :: r).contains i && !er.contains i && match ops[i]? with | some o => noEnter o | none => false) && planB .any ops (er ++ (fr ++ (t0 :: r))) (Array.replicate ops.size false)

/-- A REGION THAT DRAWS: early quiet ones (er), free quiet ones (fr), and the stores (t0 :: r), which may come as soon as the early ones are done -/
theorem wp_region_stages {id : Nat} {Q : Exit → Act → World → Prop} {a : Act} {w : World} {l : List Oper} (er fr : List Nat) (t0 : Nat) (r : List Nat) (hm : P.follows .mixedOrders = true) (hB : stagesB l.toArray er fr t0 r = true) (hlen : l.length = er.length + (fr.length + (r.length + 1)))
    (hC : C 0 { w with drawn := w.drawn + 1 })
    (h : wpQuiet P l.toArray (C 0) (fun a => wpQuiet P l.toArray (fun w => ∃ k, C k w) (fun a => wpLouds P l.toArray C (fun k a => ∀ w', C k w' → Q .normal a w') (t0 :: r) 0 a) (opsAt l.toArray fr) a) (opsAt l.toArray er) a) :
    (Code.region id l.toArray true).wp P Q a w := by
  simp only [stagesB, Bool.and_eq_true, decide_eq_true_eq] at hB
  obtain ⟨⟨⟨⟨⟨⟨hsel, hs⟩, hc⟩, hnd⟩, her⟩, hfr⟩, hplan⟩ := hB
  have hsel' := Region.noSelect_spec hsel
  have hE : ∀ i, er.contains i = true → ∀ listed, ClosedB .any l.toArray listed → listed.getD i true = false → ∀ t, (t0 :: r).contains t = true → t ∉ Region.ready .any l.toArray listed := fun i hi listed inv hun t ht =>
    sink_un hs hc inv _ i rfl (by simpa using hi) hun t (by simpa using ht)
  have inv0 : ClosedB .any l.toArray (Array.replicate l.toArray.size false) := ⟨by simp, fun j oj hj hl => by
    exfalso
    by_cases h : j < l.length
    · simp [h] at hl
    · simp [h] at hl⟩
  refine wp_region_any hm ?_
  have := wpAnyK_early (P := P) (md := .any) (C := C) (early := er.contains) (loud := (t0 :: r).contains) (Q := fun k a => ∀ w', C k w' → Q .normal a w') (rest := fr ++ (t0 :: r)) hsel' hE
    (fun listed a inv hpl hL => by
      rw [List.length_append]
      exact wpAnyK_free hsel' (rest := t0 :: r) (fun listed a inv hpl hL => wpAnyK_louds hsel' (t0 :: r) [] listed 0 a inv (fun t => by simp) (by simp) hnd hc (by simp) hpl hL) fr listed a (fun i hi => by
        have := List.all_eq_true.1 hfr i hi
        simp only [Bool.and_eq_true, Bool.not_eq_true'] at this
        obtain ⟨⟨h1, h2⟩, h3⟩ := this
        refine ⟨h2, h1, ?_⟩
        cases ho : l.toArray[i]? with
        | none => rw [ho] at h3; cases h3
        | some o => rw [ho] at h3; exact ⟨o, rfl, h3⟩) inv hpl hL)
    er (Array.replicate l.toArray.size false) a (fun i hi => by
      have := List.all_eq_true.1 her i hi
      simp only [Bool.and_eq_true, Bool.not_eq_true'] at this
      exact ⟨by simpa using hi, this.1, this.2⟩) inv0 hplan h
  have h2 := wpAny_of_K (P := P) (md := .any) (C := C) (Q' := Q) (fun k a w hw h => h w hw) _ _ 0 a { w with drawn := w.drawn + 1 } hC this
  rw [List.length_append, List.length_cons, ← hlen] at h2
  simpa using h2
end
end Go.Proofs.Ytcgahdmacngipaa

/- 'return a, b' WITH LATE STORES: a region that draws, whose last operations are stores of two whole structs into the results' blocks; quiet operations beside. -/
namespace Go.Proofs.Ytcgahdmacngipaa
open Go Go.Sort Go.RowKit
set_option maxRecDepth 100000
set_option linter.unusedVariables false
set_option linter.unusedSimpArgs false

theorem setCell_grow (W : World) (os : Array Obj) (p : Addr) (v : Value) (h : p.block < W.heap.size) : (grow W os).setCell p v = grow (W.setCell p v) os := by
  unfold grow World.setCell
  congr 1
  apply Array.ext
  · simp
  · intro i h1 h2
    by_cases hi : i < W.heap.size
    · have hi2 : i < (W.heap ++ os).size := by simp; omega
      simp [Array.getElem_modify, Array.getElem_append, hi]
    · simp [Array.getElem_modify, Array.getElem_append, hi, show p.block ≠ i by omega]
theorem setCells_grow (os : Array Obj) (b : Nat) : ∀ (vs : List Value) (o : Nat) (W : World), b < W.heap.size → (grow W os).setCells b o vs = grow (W.setCells b o vs) os
  | [], _, _, _ => rfl
  | v :: r, o, W, h => by
    rw [World.setCells, World.setCells, setCell_grow W os _ v h, setCells_grow os b r (o + 1) _ (by simpa using h)]
theorem setCells_redrawn (d : Nat) (b : Nat) : ∀ (vs : List Value) (o : Nat) (W : World), (redrawn W d).setCells b o vs = redrawn (W.setCells b o vs) d
  | [], _, _ => rfl
  | v :: r, o, W => by
    rw [World.setCells, World.setCells, ← setCells_redrawn d b r (o + 1) _]
    rfl

/-- the worlds by stages: neither stored, the first one, both -/
def stW (W : World) (b1 : Nat) (cs1 : List Value) (b2 : Nat) (cs2 : List Value) : Nat → World
  | 0 => W
  | 1 => W.setCells b1 0 cs1
  | _ => (W.setCells b1 0 cs1).setCells b2 0 cs2
theorem stW_cell {W : World} {p : Addr} {v : Value} (h : W.cell? p = some v) (b1 : Nat) (cs1 : List Value) (b2 : Nat) (cs2 : List Value) (h1 : p.block ≠ b1) (h2 : p.block ≠ b2) (k d : Nat) (os : Array Obj) :
    (grow (redrawn (stW W b1 cs1 b2 cs2 k) d) os).cell? p = some v := by
  refine cell_regrown ?_ d os
  rcases k with _ | _ | k
  · exact h
  · exact (World.cell?_setCells_out b1 cs1 0 W p (fun hb _ => absurd hb h1)).trans h
  · exact ((World.cell?_setCells_out b2 cs2 0 _ p (fun hb _ => absurd hb h2)).trans (World.cell?_setCells_out b1 cs1 0 W p (fun hb _ => absurd hb h1))).trans h
theorem Blk.cells {w : World} {b b' : Nat} {cs vs : List Value} (h : Blk w b cs) (hne : b ≠ b') : Blk (w.setCells b' 0 vs) b cs := by
  refine ⟨by rw [setCells_size]; exact h.1, fun i v hv => ?_, fun i hi => ?_⟩
  · rw [World.cell?_setCells_out b' vs 0 w _ (fun hb _ => absurd hb hne)]
    exact h.2.1 i v hv
  · rw [setCells_frozen]
    exact h.2.2 i hi
theorem Blk.cellsHere {w : World} {b : Nat} {zs cs : List Value} (h : Blk w b zs) (hz : zs.length = cs.length) : Blk (w.setCells b 0 cs) b cs := by
  have hth : w.there b 0 cs.length := fun j hj => by
    rw [Nat.zero_add, h.2.1 j (zs[j]'(by omega)) (List.getElem?_eq_getElem (by omega)), h.2.2 j (by omega)]
    exact ⟨rfl, rfl⟩
  refine ⟨by rw [setCells_size]; exact h.1, fun i v hv => ?_, fun i hi => ?_⟩
  · have := World.rangeAt_setCells_same w b 0 cs hth i v hv
    rwa [Nat.zero_add] at this
  · rw [setCells_frozen]
    exact h.2.2 i (by omega)
theorem Blk.stage {W : World} {b : Nat} {cs : List Value} (h : Blk W b cs) (b1 : Nat) (cs1 : List Value) (b2 : Nat) (cs2 : List Value) (h1 : b ≠ b1) (h2 : b ≠ b2) (k : Nat) : Blk (stW W b1 cs1 b2 cs2 k) b cs := by
  rcases k with _ | _ | k
  · exact h
  · exact h.cells h1
  · exact (h.cells h1).cells h2
theorem there_blk {w : World} {b : Nat} {zs : List Value} (h : Blk w b zs) {n : Nat} (hn : n = zs.length) : w.there b 0 n := fun j hj => by
  rw [Nat.zero_add, h.2.1 j (zs[j]'(by omega)) (List.getElem?_eq_getElem (by omega)), h.2.2 j (by omega)]
  exact ⟨rfl, rfl⟩
section
variable {P : Program} {ops : Array Oper}
/-- a whole struct is stored: one stage on -/
theorem loud_store {C : Nat → World → Prop} {k : Nat} {o : Oper} {a : Act} (hgd : o.guard = none) (ty : TypeId) (x y : Operand) (ho : o.op = .store ty x y) (b : Nat) (zs cs : List Value)
    (hx : a.eval x = .pointer (some ⟨b, 0, none⟩)) (hy : a.eval y = .agg cs.toArray) (hz : zs.length = cs.length) (hi : (P.info? ty).map (·.size) = some cs.length) (h1 : cs.toArray.all (·.oneCell') = true)
    (hB : ∀ w, C k w → Blk w b zs) (hC : ∀ w, C k w → C (k + 1) (w.setCells b 0 cs)) : LoudAt P ops C k o undef a := by
  refine ⟨by simp [Region.wanted, hgd], fun w hw => ?_⟩
  have hs := run_storeAt_mid w b 0 ty cs.toArray (P := P) (there_blk (hB w hw) (by simp [hz])) (by simpa using hi) h1
  unfold execOp
  simp only [ho, hx, hy, Sem.run_bind, hs, Sem.run_pure, Result.andThen_ok]
  exact ⟨rfl, by simpa using hC w hw⟩
def stC' (W : World) (b1 : Nat) (cs1 : List Value) (b2 : Nat) (cs2 : List Value) (k : Nat) (w' : World) : Prop := ∃ p : Regrown, w' = grow (redrawn (stW W b1 cs1 b2 cs2 k) p.d) p.os
/-- a struct read whole, at all stages -/
structure Staged where
  k : Nat
  d : Nat
  os : Array Obj
  deriving Inhabited
theorem quiet_load_stage {op : Oper} {a : Act} {K : Act → Prop} {Wf : Nat → World} (ty : TypeId) (x : Operand) (ho : op.op = .load ty x)
    (b : Nat) (hx : a.eval x = .pointer (some ⟨b, 0, none⟩)) (cs : List Value) (d : TypeDesc) (hc : ∀ k, Blk (Wf k) b cs)
    (hu : P.underlying ty = some d) (hd : d.isRow = true) (hi : (P.info? ty).map (·.size) = some cs.length)
    (hk : K (a.put op.dst (.agg cs.toArray))) : op.quiet P a (fun w' => ∃ p : Staged, w' = grow (redrawn (Wf p.k) p.d) p.os) K := by
  refine ⟨_, ?_, hk⟩
  rintro w' ⟨p, rfl⟩
  have hr := ((hc p.k).below (below_regrown _ p.d p.os) (hc p.k).1).range
  unfold Oper.quietAt execOp
  simp only [ho, hx, Instr.loadAt, Instr.sureAddr, Sem.run_bind, Sem.run_pure, Result.andThen_ok, run_loadVar_mid _ b 0 ty cs d hr hu hd hi]
  exact ⟨rfl, rfl⟩
theorem Oper.quiet_class {C C' : World → Prop} {o : Oper} {a : Act} {K : Act → Prop} (h : ∀ w, C w ↔ C' w) (hh : o.quiet P a C K) : o.quiet P a C' K := by
  have : C = C' := funext fun w => propext (h w)
  rw [← this]; exact hh

/-- from the early ones to the free ones -/
theorem wpQuiet_next {C C2 : World → Prop} {Q : Act → Prop} {l : List Oper} {a : Act} (h : wpQuiet P ops C2 Q l a) : wpQuiet P ops C (fun a => wpQuiet P ops C2 Q l a) [] a := h
/-- TWO STORES OF WHOLE STRUCTS, t1 then t2 -/
theorem wp_region_two {id : Nat} {Q : Exit → Act → World → Prop} {a : Act} {W : World} {l : List Oper} (er fr : List Nat) (t1 t2 : Nat) (o1 o2 : Oper) (b1 b2 : Nat) (zs1 zs2 cs1 cs2 : List Value) (ty1 ty2 : TypeId) (x1 y1 x2 y2 : Operand)
    (hm : P.follows .mixedOrders = true) (hB : stagesB l.toArray er fr t1 [t2] = true) (hlen : l.length = er.length + (fr.length + 2))
    (g1 : l[t1]? = some o1) (g2 : l[t2]? = some o2) (p1 : o1.op = .store ty1 x1 y1 ∧ o1.guard = none ∧ o1.dst = none) (p2 : o2.op = .store ty2 x2 y2 ∧ o2.guard = none ∧ o2.dst = none)
    (hne : b1 ≠ b2) (B1 : Blk W b1 zs1) (B2 : Blk W b2 zs2) (z1 : zs1.length = cs1.length) (z2 : zs2.length = cs2.length)
    (i1 : (P.info? ty1).map (·.size) = some cs1.length) (i2 : (P.info? ty2).map (·.size) = some cs2.length) (c1 : cs1.toArray.all (·.oneCell') = true) (c2 : cs2.toArray.all (·.oneCell') = true)
    (h : wpQuiet P l.toArray (fun w' => ∃ p : Regrown, w' = grow (redrawn W p.d) p.os) (fun a => wpQuiet P l.toArray (fun w' => ∃ p : Staged, w' = grow (redrawn (stW W b1 cs1 b2 cs2 p.k) p.d) p.os) (fun a =>
      (a.eval x1 = .pointer (some ⟨b1, 0, none⟩) ∧ a.eval y1 = .agg cs1.toArray ∧ a.eval x2 = .pointer (some ⟨b2, 0, none⟩) ∧ a.eval y2 = .agg cs2.toArray) ∧
      ∀ w', Blk w' b1 cs1 → Blk w' b2 cs2 → (∀ b cs, b ≠ b1 → b ≠ b2 → Blk W b cs → Blk w' b cs) → (∀ B, B ≤ b1 → B ≤ b2 → Below B W w') → Q .normal a w') (opsAt l.toArray fr) a) (opsAt l.toArray er) a) :
    (Code.region id l.toArray true).wp P Q a W := by
  have hsz : ∀ k, (stW W b1 cs1 b2 cs2 k).heap.size = W.heap.size := fun k => by
    rcases k with _ | _ | k
    · rfl
    · exact setCells_size _ _ _ _
    · exact (setCells_size _ _ _ _).trans (setCells_size _ _ _ _)
  have e2 : ∀ k, stW W b1 cs1 b2 cs2 (k + 2) = stW W b1 cs1 b2 cs2 2 := fun k => rfl
  refine wp_region_stages (C := stC' W b1 cs1 b2 cs2) er fr t1 [t2] hm hB hlen ⟨⟨W.drawn + 1, #[]⟩, by rw [grow_empty]; rfl⟩ ?_
  have hmono : ∀ (C : World → Prop) (l' : List Oper) (a : Act) (K K' : Act → Prop), (∀ a, K a → K' a) → wpQuiet P l.toArray C K l' a → wpQuiet P l.toArray C K' l' a := by
    intro C l'
    induction l' with
    | nil => exact fun a K K' hk h => hk a h
    | cons o r ih =>
      intro a K K' hk h
      unfold wpQuiet at h ⊢
      split
      · rename_i hw; rw [if_pos hw] at h; exact Oper.quiet_mono (fun a h => ih a K K' hk h) h
      · rename_i hw; rw [if_neg hw] at h; exact ih _ K K' hk h
  have hcl : (fun w : World => ∃ k, stC' W b1 cs1 b2 cs2 k w) = (fun w' => ∃ p : Staged, w' = grow (redrawn (stW W b1 cs1 b2 cs2 p.k) p.d) p.os) :=
    funext fun w => propext ⟨fun ⟨k, p, hp⟩ => ⟨⟨k, p.d, p.os⟩, hp⟩, fun ⟨p, hp⟩ => ⟨p.k, ⟨p.d, p.os⟩, hp⟩⟩
  rw [hcl]
  refine hmono _ _ _ _ _ (fun a h => hmono _ _ _ _ _ (fun a ⟨⟨e1, e3, e4, e5⟩, hK⟩ => ?_) h) h
  obtain ⟨q1, q2, q3⟩ := p1
  obtain ⟨r1, r2, r3⟩ := p2
  refine ⟨o1, undef, by simpa using g1, loud_store q2 ty1 x1 y1 q1 b1 zs1 cs1 e1 e3 z1 i1 c1 (fun w ⟨p, hp⟩ => ?_) (fun w ⟨p, hp⟩ => ⟨p, ?_⟩), ?_⟩
  · rw [hp]; exact B1.below (below_regrown _ _ _) B1.1
  · rw [hp, setCells_grow _ _ _ _ _ (by exact B1.1), setCells_redrawn]; rfl
  · rw [q3]
    refine ⟨o2, undef, by simpa using g2, loud_store r2 ty2 x2 y2 r1 b2 zs2 cs2 e4 e5 z2 i2 c2 (fun w ⟨p, hp⟩ => ?_) (fun w ⟨p, hp⟩ => ⟨p, ?_⟩), ?_⟩
    · rw [hp]
      have : Blk (stW W b1 cs1 b2 cs2 1) b2 zs2 := B2.cells (Ne.symm hne)
      exact this.below (below_regrown _ _ _) this.1
    · rw [hp, setCells_grow _ _ _ _ _ (by show b2 < (stW W b1 cs1 b2 cs2 1).heap.size; rw [hsz]; exact B2.1), setCells_redrawn]; rfl
    · rw [r3]
      rintro w' ⟨p, rfl⟩
      have y1 : Blk (stW W b1 cs1 b2 cs2 2) b1 cs1 := (B1.cellsHere z1).cells hne
      have y2 : Blk (stW W b1 cs1 b2 cs2 2) b2 cs2 := Blk.cellsHere (B2.cells (Ne.symm hne)) z2
      have bq := below_regrown (stW W b1 cs1 b2 cs2 2) p.d p.os
      refine hK _ (y1.below bq y1.1) (y2.below bq y2.1) (fun b cs hb1 hb2 hb => ?_) (fun B hb1 hb2 => ?_)
      · have y3 := hb.stage b1 cs1 b2 cs2 hb1 hb2 2
        exact y3.below bq y3.1
      · have y4 : Below B W (stW W b1 cs1 b2 cs2 2) := (setCells_below b1 hb1 cs1 0 W).trans (setCells_below b2 hb2 cs2 0 _)
        by_cases hle : B ≤ W.heap.size
        · exact y4.trans (bq.mono (by rw [hsz]; exact hle))
        · have := B1.1; omega
end
/-- several blocks made, one behind the other -/
def allocsL (w : World) (L : List (List Value × TypeId)) : World := L.foldl (fun w c => w.alloc (.cells c.1.toArray c.2)) w
theorem allocsL_spec : ∀ (L : List (List Value × TypeId)) (w : World), (allocsL w L).heap.size = w.heap.size + L.length ∧ RowKit.Below w.heap.size w (allocsL w L) ∧ ∀ (j : Nat) c, L[j]? = some c → Blk (allocsL w L) (w.heap.size + j) c.1
  | [], w => ⟨rfl, Below.refl _ _, fun j c h => by simp at h⟩
  | x :: r, w => by
    obtain ⟨h1, h2, h3⟩ := allocsL_spec r (w.alloc (.cells x.1.toArray x.2))
    have hs : (w.alloc (.cells x.1.toArray x.2)).heap.size = w.heap.size + 1 := by simp
    have hb : RowKit.Below w.heap.size w (w.alloc (.cells x.1.toArray x.2)) := (Below.refl _ _).alloc (Nat.le_refl _) _
    have e : allocsL w (x :: r) = allocsL (w.alloc (.cells x.1.toArray x.2)) r := rfl
    rw [e]
    refine ⟨by rw [h1, hs, List.length_cons]; omega, hb.trans (h2.mono (by omega)), fun j c hj => ?_⟩
    cases j with
    | zero =>
      simp at hj
      subst hj
      exact (Blk.new w x.2 x.1).below h2 (by omega)
    | succ j =>
      have := h3 j c (by simpa using hj)
      rw [hs] at this
      rw [show w.heap.size + (j + 1) = w.heap.size + 1 + j by omega]
      exact this
theorem wp_allocs {P : Program} {c : Code} {Q : Exit → Act → World → Prop} {a : Act} {w W : World} (L : List (List Value × TypeId)) (hW : allocsL w L = W)
    (h : ∀ W0, W0.heap.size = w.heap.size + L.length → RowKit.Below w.heap.size w W0 → (∀ (j : Nat) c, L[j]? = some c → Blk W0 (w.heap.size + j) c.1) → c.wp P Q a W0) : c.wp P Q a W := by
  subst hW
  obtain ⟨h1, h2, h3⟩ := allocsL_spec L w
  exact h _ h1 h2 h3
end Go.Proofs.Ytcgahdmacngipaa

/- 'return a, b' WITH LATE STORES, where the second result lies in a slot: a store of a whole struct, then an assignment; quiet operations beside. -/
namespace Go.Proofs.Ytcgahdmacngipaa
open Go Go.Sort Go.RowKit
set_option maxRecDepth 100000
set_option linter.unusedVariables false
set_option linter.unusedSimpArgs false
section
variable {P : Program} {ops : Array Oper}
theorem loud_assign {C : Nat → World → Prop} {k : Nat} {o : Oper} {a : Act} (hgd : o.guard = none) (y : Operand) (ho : o.op = .assign y) (v : Value) (hy : a.eval y = v) (hC : ∀ w, C k w → C (k + 1) w) : LoudAt P ops C k o v a := by
  refine ⟨by simp [Region.wanted, hgd], fun w hw => ?_⟩
  unfold execOp
  simp only [ho, hy, Sem.run_pure]
  exact ⟨rfl, hC w hw⟩
theorem wp_region_one {id : Nat} {Q : Exit → Act → World → Prop} {a : Act} {W : World} {l : List Oper} (er fr : List Nat) (t1 t2 : Nat) (o1 o2 : Oper) (b1 : Nat) (zs1 cs1 : List Value) (ty1 : TypeId) (x1 y1 y2 : Operand) (d2 : Option Tmp) (v2 : Value)
    (hm : P.follows .mixedOrders = true) (hB : stagesB l.toArray er fr t1 [t2] = true) (hlen : l.length = er.length + (fr.length + 2))
    (g1 : l[t1]? = some o1) (g2 : l[t2]? = some o2) (p1 : o1.op = .store ty1 x1 y1 ∧ o1.guard = none ∧ o1.dst = none) (p2 : o2.op = .assign y2 ∧ o2.guard = none ∧ o2.dst = d2)
    (B1 : Blk W b1 zs1) (z1 : zs1.length = cs1.length) (i1 : (P.info? ty1).map (·.size) = some cs1.length) (c1 : cs1.toArray.all (·.oneCell') = true)
    (h : wpQuiet P l.toArray (fun w' => ∃ p : Regrown, w' = grow (redrawn W p.d) p.os) (fun a => wpQuiet P l.toArray (fun w' => ∃ p : Staged, w' = grow (redrawn (stW W b1 cs1 b1 cs1 p.k) p.d) p.os) (fun a =>
      (a.eval x1 = .pointer (some ⟨b1, 0, none⟩) ∧ a.eval y1 = .agg cs1.toArray ∧ a.eval y2 = v2) ∧
      ∀ w', Blk w' b1 cs1 → (∀ b cs, b ≠ b1 → Blk W b cs → Blk w' b cs) → (∀ (p : Addr) v, p.block ≠ b1 → W.cell? p = some v → w'.cell? p = some v) → (∀ (b : Nat) o, b ≠ b1 → W.heap[b]? = some o → w'.heap[b]? = some o) → (∀ B, B ≤ b1 → Below B W w') → Q .normal (a.put d2 v2) w') (opsAt l.toArray fr) a) (opsAt l.toArray er) a) :
    (Code.region id l.toArray true).wp P Q a W := by
  have hsz : ∀ k, (stW W b1 cs1 b1 cs1 k).heap.size = W.heap.size := fun k => by
    rcases k with _ | _ | k
    · rfl
    · exact setCells_size _ _ _ _
    · exact (setCells_size _ _ _ _).trans (setCells_size _ _ _ _)
  -- the stages: not stored, stored, stored
  have e12 : stW W b1 cs1 b1 cs1 2 = (W.setCells b1 0 cs1).setCells b1 0 cs1 := rfl
  refine wp_region_stages (C := fun k w' => ∃ p : Regrown, w' = grow (redrawn (stW W b1 cs1 b1 cs1 (min k 1)) p.d) p.os) er fr t1 [t2] hm hB hlen ⟨⟨W.drawn + 1, #[]⟩, by rw [grow_empty]; rfl⟩ ?_
  have hmono : ∀ (C : World → Prop) (l' : List Oper) (a : Act) (K K' : Act → Prop), (∀ a, K a → K' a) → wpQuiet P l.toArray C K l' a → wpQuiet P l.toArray C K' l' a := by
    intro C l'
    induction l' with
    | nil => exact fun a K K' hk h => hk a h
    | cons o r ih =>
      intro a K K' hk h
      unfold wpQuiet at h ⊢
      split
      · rename_i hw; rw [if_pos hw] at h; exact Oper.quiet_mono (fun a h => ih a K K' hk h) h
      · rename_i hw; rw [if_neg hw] at h; exact ih _ K K' hk h
  have hsub : ∀ (C C' : World → Prop) (l' : List Oper) (a : Act) (K : Act → Prop), (∀ w, C' w → C w) → (∀ o ∈ l', noEnter o = true) → wpQuiet P l.toArray C K l' a → wpQuiet P l.toArray C' K l' a := by
    intro C C' l'
    induction l' with
    | nil => exact fun a K _ _ h => h
    | cons o r ih =>
      intro a K hc hn h
      unfold wpQuiet at h ⊢
      split
      · rename_i hw
        rw [if_pos hw] at h
        obtain ⟨v, h1, h2⟩ := h
        exact ⟨v, fun w hw' => quietAt_free (hn o (by simp)) hw' (h1 w (hc w hw')), ih _ K hc (fun o ho => hn o (by simp [ho])) h2⟩
      · rename_i hw; rw [if_neg hw] at h; exact ih _ K hc (fun o ho => hn o (by simp [ho])) h
  have hno : ∀ o ∈ opsAt l.toArray fr, noEnter o = true := by
    have hB' := hB
    simp only [stagesB, Bool.and_eq_true] at hB'
    have hfr := hB'.1.2
    have key : ∀ fr : List Nat, (∀ i ∈ fr, ∀ o, l.toArray[i]? = some o → noEnter o = true) → ∀ o ∈ opsAt l.toArray fr, noEnter o = true := by
      intro fr
      induction fr with
      | nil => intro _ o ho; cases ho
      | cons i r ih =>
        intro hi o ho
        rcases List.mem_append.1 ho with h | h
        · exact hi i (by simp) o (by simpa using h)
        · exact ih (fun j hj => hi j (by simp [hj])) o h
    refine key fr (fun i hi o ho => ?_)
    have := List.all_eq_true.1 hfr i hi
    rw [ho] at this
    simp only [Bool.and_eq_true] at this
    exact this.2
  refine hmono _ _ _ _ _ (fun a h => hsub _ _ _ _ _ (fun w ⟨k, p, hp⟩ => ⟨⟨min k 1, p.d, p.os⟩, hp⟩) hno (hmono _ _ _ _ _ (fun a ⟨⟨e1, e3, e4⟩, hK⟩ => ?_) h)) h
  obtain ⟨q1, q2, q3⟩ := p1
  obtain ⟨r1, r2, r3⟩ := p2
  refine ⟨o1, undef, by simpa using g1, loud_store q2 ty1 x1 y1 q1 b1 zs1 cs1 e1 e3 z1 i1 c1 (fun w ⟨p, hp⟩ => ?_) (fun w ⟨p, hp⟩ => ⟨p, ?_⟩), ?_⟩
  · rw [hp]; exact B1.below (below_regrown _ _ _) B1.1
  · rw [hp, setCells_grow _ _ _ _ _ (by exact B1.1), setCells_redrawn]; rfl
  · rw [q3]
    refine ⟨o2, v2, by simpa using g2, loud_assign r2 y2 r1 v2 e4 (fun w hw => hw), ?_⟩
    rw [r3]
    rintro w' ⟨p, rfl⟩
    have y1 : Blk (stW W b1 cs1 b1 cs1 1) b1 cs1 := B1.cellsHere z1
    have bq := below_regrown (stW W b1 cs1 b1 cs1 1) p.d p.os
    have hlt : b1 < W.heap.size := B1.1
    refine hK _ (y1.below bq y1.1) (fun b cs hb1 hb => ?_) (fun q v hq hc => ?_) (fun b o hb ho => ?_) (fun B hb1 => ?_)
    · have y3 : Blk (stW W b1 cs1 b1 cs1 1) b cs := hb.cells hb1
      exact y3.below bq y3.1
    · exact stW_cell hc b1 cs1 b1 cs1 hq hq 1 p.d p.os
    · have hbl : b < W.heap.size := (Array.getElem?_eq_some_iff.1 ho).1
      have key : ∀ (vs : List Value) (o' : Nat) (V : World), (V.setCells b1 o' vs).heap[b]? = V.heap[b]? := by
        intro vs
        induction vs with
        | nil => exact fun _ _ => rfl
        | cons v r ih =>
          intro o' V
          show ((V.setCell ⟨b1, o', none⟩ v).setCells b1 (o' + 1) r).heap[b]? = _
          rw [ih]
          simp [World.setCell, Array.getElem?_modify, Ne.symm hb]
      exact (bq.block b (by show b < (stW W b1 cs1 b1 cs1 1).heap.size; rw [hsz]; exact hbl)).trans ((key cs1 0 W).trans ho)
    · have y4 : RowKit.Below B W (stW W b1 cs1 b1 cs1 1) := setCells_below b1 hb1 cs1 0 W
      by_cases hle : B ≤ W.heap.size
      · exact y4.trans (bq.mono (by rw [hsz]; exact hle))
      · omega
end
end Go.Proofs.Ytcgahdmacngipaa
