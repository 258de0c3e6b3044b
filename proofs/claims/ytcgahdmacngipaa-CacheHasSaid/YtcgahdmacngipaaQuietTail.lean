/- A REGION THAT DRAWS ITS ORDER: a head of quiet operations (in any class of worlds), then a tail in forced order, walked as it stands. (The library's two theorems, wp_region_quiet and wp_region_still_tail, joined.) -/
import Derived.StillTail
import Derived.Deep.Quiet
import Derived.Lib.QuietBelow
import Derived.Laws.StructEq
import Derived.Test.YtcgahdmacngipaaOwnB
namespace Go.Proofs.Ytcgahdmacngipaa
open Go Go.Sort Go.RowKit
set_option maxRecDepth 100000
set_option linter.unusedVariables false

section
variable {P : Program} {ops : Array Oper} {md : Region.Mode} {C : World → Prop}

def wpAnyQL (P : Program) (md : Region.Mode) (ops : Array Oper) (C : World → Prop) (n : Nat) (L : Array Bool → Act → Prop) : Nat → Array Bool → Act → Prop
  | 0, listed, a => L listed a
  | f + 1, listed, a =>
    Region.ready md ops listed ≠ [] ∧ ∀ i ∈ Region.ready md ops listed, i < n ∧ qOp P ops C i (wpAnyQL P md ops C n L f (listed.setIfInBounds i true)) a

theorem wpAny_of_headQ {n g : Nat} {L : Array Bool → Act → Prop} {Q' : Exit → Act → World → Prop} (hL : ∀ listed a w, C w → L listed a → wpAny P md ops Q' g listed a w) :
    ∀ (f : Nat) (listed : Array Bool) (a : Act) (w : World), C w → wpAnyQL P md ops C n L f listed a → wpAny P md ops Q' (f + g) listed a w
  | 0, listed, a, w, hw, h => by rw [Nat.zero_add]; exact hL _ _ _ hw h
  | f + 1, listed, a, w, hw, h => by
    rw [show f + 1 + g = (f + g) + 1 by omega]
    exact ⟨fun h0 => absurd h0 h.1, fun i hi => wpOp_of_qOp hw (fun a' w' hw' h' => wpAny_of_headQ hL f _ a' w' hw' h') (h.2 i hi).2⟩

/-- the tail ends ahead of N; what stands from N on is listed from the start -/
structure HeadInvN (md : Region.Mode) (ops : Array Oper) (n N : Nat) (listed : Array Bool) : Prop where
  size : listed.size = ops.size
  closed : ∀ j oj, ops[j]? = some oj → listed.getD j false = true → ∀ e ∈ oj.after, Region.binds md e = true → listed.getD e.on false = true
  tail : ∀ t, n ≤ t → t < N → listed.getD t true = false
  past : ∀ t, N ≤ t → listed.getD t true = true
def chainN (md : Region.Mode) (ops : Array Oper) (n N : Nat) : Bool :=
  (List.range N).all fun t => decide (t ≤ n) || Region.waitsFor md ops t (t - 1)
theorem HeadInvN.set {n N i : Nat} {listed : Array Bool} (inv : HeadInvN md ops n N listed) (hi : i ∈ Region.ready md ops listed) (hin : i < n) : HeadInvN md ops n N (listed.setIfInBounds i true) := by
  obtain ⟨_, oi, hoi, hall⟩ := mem_ready.1 hi
  refine ⟨by simp [inv.size], fun j oj hj hl e he hb => ?_, fun t ht ht' => by rw [getD_set_ne true (by omega)]; exact inv.tail t ht ht', fun t ht => ?_⟩
  · by_cases hij : i = j
    · subst hij
      have : oj = oi := Option.some.inj (hj.symm.trans hoi)
      subst this
      exact getD_set_true (hall e he hb)
    · rw [getD_set_ne false hij] at hl
      exact getD_set_true (inv.closed j oj hj hl e he hb)
  · by_cases hij : i = t
    · subst hij
      have h0 := (mem_ready.1 hi).1
      rw [inv.past i ht] at h0
      cases h0
    · rw [getD_set_ne true hij]; exact inv.past t ht
theorem tail_waitsN {n N : Nat} {listed : Array Bool} (hs : Region.sinkB md ops n = true) (hc : chainN md ops n N = true) (hn : n < N) (hN : N ≤ ops.size) (inv : HeadInvN md ops n N listed) :
    ∀ (d i : Nat), n - i = d → i < n → listed.getD i true = false → ∀ t, n ≤ t → t ∉ Region.ready md ops listed := by
  intro d
  induction d using Nat.strongRecOn with
  | _ d ih =>
    intro i hd hi hun t ht hr
    obtain ⟨hunt, ot, hot, hall⟩ := mem_ready.1 hr
    have htlt : t < N := by
      rcases Nat.lt_or_ge t N with h | h
      · exact h
      · rw [inv.past t h] at hunt; cases hunt
    by_cases htn : t = n
    · subst htn
      have h1 := List.all_eq_true.1 hs i (List.mem_range.2 hi)
      obtain ⟨j, hj, hj2⟩ := List.any_eq_true.1 h1
      simp only [Bool.and_eq_true, decide_eq_true_eq] at hj2
      obtain ⟨oj, hoj, e, he, hb, hon⟩ := Region.waitsFor_spec hj2.2
      have hjle : j ≤ t := by have := List.mem_range.1 hj; omega
      by_cases hjt : j = t
      · subst hjt
        have : oj = ot := Option.some.inj (hoj.symm.trans hot)
        subst this
        have h2 := hall e he hb
        rw [hon, getD_both hun] at h2
        cases h2
      · cases hl : listed.getD j false with
        | true =>
          have h2 := inv.closed j oj hoj hl e he hb
          rw [hon, getD_both hun] at h2
          cases h2
        | false =>
          have hjs : j < listed.size := by rw [inv.size]; omega
          exact ih (t - j) (by omega) j rfl (by omega) (getD_in hjs hl) t (Nat.le_refl _) hr
    · have h1 := List.all_eq_true.1 hc t (List.mem_range.2 htlt)
      simp only [Bool.or_eq_true, decide_eq_true_eq] at h1
      rcases h1 with h1 | h1
      · omega
      · obtain ⟨o', ho', e, he, hb, hon⟩ := Region.waitsFor_spec h1
        have : o' = ot := Option.some.inj (ho'.symm.trans hot)
        subst this
        have h2 := hall e he hb
        rw [hon, getD_both (inv.tail (t - 1) (by omega) (by omega))] at h2
        cases h2

theorem wpAnyQL_first {n N i : Nat} {oi : Oper} {v : Value} {L : Array Bool → Act → Prop} (hi : ops[i]? = some oi) (hsel : ∀ (j : Nat) (o : Oper) cs b, ops[j]? = some o → o.op ≠ .select cs b)
    (hs : Region.sinkB md ops n = true) (hc : chainN md ops n N = true) (hn : n < N) (hN : N ≤ ops.size) (hin : i < n)
    (hdone : ∀ listed a, L listed a → ∀ j ∈ Region.ready md ops listed, n ≤ j) :
    ∀ (f : Nat) (listed : Array Bool) (a : Act), HeadInvN md ops n N listed →
      (∀ j oj, ops[j]? = some oj → j ≠ i → listed.getD j true = false → (∀ e ∈ oj.after, Region.binds md e = true → e.on ≠ i) → oi.apart ops oj = true) →
      i ∈ Region.ready md ops listed → YieldsIn P ops C oi v a →
      wpAnyQL P md ops C n L f (listed.setIfInBounds i true) (a.put oi.dst v) → wpAnyQL P md ops C n L (f + 1) listed a := by
  intro f
  induction f with
  | zero =>
    intro listed a inv _ hr hy H
    have hun := (mem_ready.1 hr).1
    refine ⟨fun h => (by rw [h] at hr; cases hr), fun j hj => ?_⟩
    have hjn : j < n := by
      rcases Nat.lt_or_ge j n with h | h
      · exact h
      · exact absurd hj (tail_waitsN hs hc hn hN inv _ i rfl hin hun j h)
    refine ⟨hjn, ?_⟩
    by_cases hji : j = i
    · subst hji; exact hy.qOp hi H
    · have := hdone _ _ H j (ready_mono hj hji)
      omega
  | succ f ih =>
    intro listed a inv hfree hr hy H
    have hun := (mem_ready.1 hr).1
    refine ⟨fun h => (by rw [h] at hr; cases hr), fun j hj => ?_⟩
    have hjn : j < n := by
      rcases Nat.lt_or_ge j n with h | h
      · exact h
      · exact absurd hj (tail_waitsN hs hc hn hN inv _ i rfl hin hun j h)
    refine ⟨hjn, ?_⟩
    by_cases hji : j = i
    · subst hji; exact hy.qOp hi H
    · have h1 := (H.2 j (ready_mono hj hji)).2
      obtain ⟨hjun, oj, hoj, hall⟩ := mem_ready.1 hj
      have hnot : ∀ e ∈ oj.after, Region.binds md e = true → e.on ≠ i := fun e he hb heq => by
        have h1 := hall e he hb
        rw [heq, getD_both hun] at h1
        cases h1
      have h2 := qOp_put hoj (hfree j oj hoj hji hjun hnot) (fun cs b => hsel i oi cs b hi) (fun cs b => hsel j oj cs b hoj) hy h1
      have hfree' : ∀ k ok, ops[k]? = some ok → k ≠ i → (listed.setIfInBounds j true).getD k true = false →
          (∀ e ∈ ok.after, Region.binds md e = true → e.on ≠ i) → oi.apart ops ok = true := fun k ok hk hki hun hno => by
        refine hfree k ok hk hki ?_ hno
        by_cases hjk : j = k
        · subst hjk; exact hjun
        · rw [getD_set_ne true hjk] at hun; exact hun
      refine qOp_mono (fun a' h3 => ih (listed.setIfInBounds j true) a' (inv.set hj hjn) hfree' (ready_mono hr (Ne.symm hji)) h3.1 ?_) h2
      rw [Array.setIfInBounds_comm _ _ hji]
      exact h3.2

theorem wpAnyQL_lex {n N g : Nat} {Lq : Act → Prop} (hsel : Region.noSelect ops = true) (hs : Region.sinkB md ops n = true) (hc : chainN md ops n N = true) (hn : n < N) (hN : N ≤ ops.size) :
    ∀ (l : List Oper) (k : Nat) (listed : Array Bool) (a : Act), (∀ j, j < l.length → l[j]? = ops[k + j]?) → k + l.length = n → HeadInvN md ops n N listed →
    Region.lexHead md ops g l.length k listed = true → wpQuiet P ops C Lq l a →
    wpAnyQL P md ops C n (fun listed' a' => Region.seqB md ops g n listed' = true ∧ Lq a') l.length listed a
  | [], k, listed, a, _, hk, _, hB, h => by
    have : k = n := by simpa using hk
    subst this
    exact ⟨by simpa [Region.lexHead] using hB, h⟩
  | o :: l, k, listed, a, hl, hk, inv, hB, h => by
    have h0 : ops[k]? = some o := by simpa using (hl 0 (by simp)).symm
    simp only [List.length_cons, Region.lexHead, Bool.and_eq_true] at hB
    obtain ⟨⟨hr, hf⟩, hB'⟩ := hB
    have hkn : k < n := by simp only [List.length_cons] at hk; omega
    have hr' : k ∈ Region.ready md ops listed := by simpa using hr
    have hst : qOp P ops C k (wpQuiet P ops C Lq l) a := by unfold qOp; simp only [h0]; exact h
    obtain ⟨v, hy, hK⟩ := yieldsIn_of_qOp h0 hst
    exact wpAnyQL_first h0 (Region.noSelect_spec hsel) hs hc hn hN hkn (fun listed' a' hL => seqB_ready hL.1) l.length listed a inv (Region.free_spec h0 hf) hr' hy
      (wpAnyQL_lex hsel hs hc hn hN l (k + 1) _ _ (fun j hj => by have := hl (j + 1) (by simp; omega); simpa [Nat.add_assoc, Nat.add_comm 1 j] using this) (by simp only [List.length_cons] at hk; omega) (inv.set hr' hkn) hB' hK)

theorem wpAny_of_seqN {Q' : Exit → Act → World → Prop} : ∀ (l : List Oper) (k : Nat) (listed : Array Bool) (a : Act) (w : World), (∀ j, j < l.length → l[j]? = ops[k + j]?) →
    Region.seqB md ops l.length k listed = true → wpList P ops Q' l a w → wpAny P md ops Q' l.length listed a w
  | [], k, _, _, _, _, hB, h => ⟨by simpa [Region.seqB] using hB, h⟩
  | o :: l, k, listed, a, w, hl, hB, h => by
    have h0 : ops[k]? = some o := by simpa using (hl 0 (by simp)).symm
    simp only [List.length_cons, Region.seqB, Bool.and_eq_true, decide_eq_true_eq] at hB
    refine ⟨fun h1 => (by rw [hB.1] at h1; cases h1), fun i hi => ?_⟩
    rw [hB.1] at hi
    have hik : i = k := by simpa using hi
    subst hik
    have hw : wpOp P ops Q' i (wpList P ops Q' l) a w := by unfold wpOp; simp only [h0]; exact h
    exact wpOp_mono (fun a' w' h' => wpAny_of_seqN l (i + 1) _ a' w' (fun j hj => by have := hl (j + 1) (by simp; omega); simpa [Nat.add_assoc, Nat.add_comm 1 j] using this) hB.2 h') hw

/-- from N on all is listed; ahead of N nothing is -/
def preN (size N : Nat) : Array Bool := (List.range size |>.map fun j => decide (N ≤ j)).toArray
theorem preN_getD (size N j : Nat) (d : Bool) (hj : j < size) : (preN size N).getD j d = decide (N ≤ j) := by
  simp [preN, hj]
theorem preN_past (size N j : Nat) (hj : N ≤ j) : (preN size N).getD j true = true := by
  by_cases h : j < size
  · rw [preN_getD size N j true h]; simpa using hj
  · simp [preN, h]
def lexTailN (md : Region.Mode) (ops : Array Oper) (n N : Nat) : Bool :=
  Region.noSelect ops && decide (n < N) && decide (N ≤ ops.size) && Region.sinkB md ops n && chainN md ops n N &&
  ((List.range ops.size).all fun j => decide (j < N) || match ops[j]? with | some o => o.after.all (fun e => !Region.binds md e) | none => true) &&
  Region.lexHead md ops (N - n) n 0 (preN ops.size N)

/-- from a state in which all from N on is done: a quiet head, a tail in forced order -/
theorem wpAny_head_tail {Q : Exit → Act → World → Prop} {a : Act} {w : World} {l : List Oper} (n N : Nat) (hB : lexTailN .any l.toArray n N = true) (hC : C w)
    (h : wpQuiet P l.toArray C (fun a' => ∀ w', C w' → wpList P l.toArray Q ((l.take N).drop n) a' w') (l.take n) a) : wpAny P .any l.toArray Q N (preN l.length N) a w := by
  simp only [lexTailN, Bool.and_eq_true, decide_eq_true_eq] at hB
  obtain ⟨⟨⟨⟨⟨⟨hsel, hn⟩, hN⟩, hs⟩, hc⟩, hp⟩, hlex⟩ := hB
  have hN' : N ≤ l.length := by simpa using hN
  have htl : (l.take n).length = n := by simp; omega
  have hdl : ((l.take N).drop n).length = N - n := by simp; omega
  have inv0 : HeadInvN .any l.toArray n N (preN l.length N) := by
    refine ⟨by simp [preN], fun j oj hj hl e he hb => ?_, fun t _ ht => by rw [preN_getD _ _ _ _ (by omega)]; simpa using ht, fun t ht => preN_past _ _ _ ht⟩
    have hjl : j < l.length := by have := (Array.getElem?_eq_some_iff.1 hj).1; simpa using this
    rw [preN_getD _ _ _ _ hjl] at hl
    have h1 := List.all_eq_true.1 hp j (List.mem_range.2 (by simpa using hjl))
    simp only [hj, Bool.or_eq_true, decide_eq_true_eq] at h1
    have hNj : N ≤ j := by simpa using hl
    rcases h1 with h1 | h1
    · omega
    · have h2 := Array.all_eq_true_iff_forall_mem.1 h1 e he
      simp [hb] at h2
  have hlex' : Region.lexHead .any l.toArray (N - n) n 0 (preN l.length N) = true := by simpa using hlex
  have H := wpAnyQL_lex (md := .any) (C := C) (g := N - n) hsel hs hc hn hN (l.take n) 0 _ a (fun j hj => by
    have hj' : j < n := by rw [htl] at hj; exact hj
    simp [hj']) (by simpa using htl) inv0 (by rw [htl]; exact hlex') h
  have := wpAny_of_headQ (Q' := Q) (g := N - n) (fun listed a' w' hw' hL => by
    have := wpAny_of_seqN (md := .any) (Q' := Q) ((l.take N).drop n) n listed a' w' (fun j hjl => by
      rw [hdl] at hjl
      rw [List.getElem?_drop, List.getElem?_take]
      by_cases hj : n + j < N
      · rw [if_pos hj]; simp
      · omega) (by rw [hdl]; exact hL.1) (hL.2 w' hw')
    rwa [hdl] at this) _ _ _ _ hC H
  rw [htl, show n + (N - n) = N by omega] at this
  exact this

theorem preN_all (n : Nat) : preN n n = Array.replicate n false := by
  apply Array.ext
  · simp [preN]
  · intro i h1 h2
    simp [preN] at h1 ⊢
    omega
theorem preN_one (n : Nat) : preN (n + 1) n = (Array.replicate (n + 1) false).setIfInBounds n true := by
  apply Array.ext
  · simp [preN]
  · intro i h1 h2
    simp [preN] at h1 ⊢
    have h3 : i < n + 1 := h1
    rw [Array.getElem_setIfInBounds (by simpa using h3)]
    by_cases e : n = i
    · subst e; simp
    · rw [if_neg e]
      simp
      omega

/-- A REGION THAT DRAWS: a quiet head of n operations, a tail in forced order -/
theorem wp_region_quiet_tail {id : Nat} {Q : Exit → Act → World → Prop} {a : Act} {w : World} {l : List Oper} (n : Nat) (hm : P.follows .mixedOrders = true) (hB : lexTailN .any l.toArray n l.length = true) (hC : C { w with drawn := w.drawn + 1 })
    (h : wpQuiet P l.toArray C (fun a' => ∀ w', C w' → wpList P l.toArray Q (l.drop n) a' w') (l.take n) a) : (Code.region id l.toArray true).wp P Q a w := by
  refine wp_region_any hm ?_
  have := wpAny_head_tail (Q := Q) n l.length hB hC (by rw [List.take_length]; exact h)
  rw [preN_all] at this
  simpa using this
/-- .. whose last operation waits for none and is pure: it is taken first -/
theorem wp_region_quiet_tail1 {id : Nat} {Q : Exit → Act → World → Prop} {a : Act} {w : World} {l : List Oper} {o : Oper} (n : Nat) (v : Value) (hm : P.follows .mixedOrders = true) (hB : lexTailN .any (l ++ [o]).toArray n l.length = true)
    (hf : Region.free .any (l ++ [o]).toArray (Array.replicate (l.length + 1) false) l.length = true) (hQ : ∀ c a w, Q (.panic c) (a.put o.dst v) w → Q (.panic c) a w) (hy : Yields P (l ++ [o]).toArray o v a)
    (hC : C { w with drawn := w.drawn + 1 })
    (h : wpQuiet P (l ++ [o]).toArray C (fun a' => ∀ w', C w' → wpList P (l ++ [o]).toArray Q (l.drop n) a' w') (l.take n) (a.put o.dst v)) : (Code.region id (l ++ [o]).toArray true).wp P Q a w := by
  refine wp_region_any hm ?_
  have hB' := hB
  simp only [lexTailN, Bool.and_eq_true, decide_eq_true_eq] at hB'
  obtain ⟨⟨⟨⟨⟨⟨hsel, hn⟩, hN⟩, hs⟩, hc⟩, hp⟩, hlex⟩ := hB'
  have h1 := wpAny_head_tail (Q := Q) (l := l ++ [o]) n l.length hB hC (by rw [List.take_left' rfl, List.take_append_of_le_length (by omega)]; exact h)
  rw [List.length_append, List.length_singleton, preN_one] at h1
  have h0 : (l ++ [o]).toArray[l.length]? = some o := by simp
  have hr : (Region.ready .any (l ++ [o]).toArray (Array.replicate (l.length + 1) false)).contains l.length = true := by
    rw [List.contains_iff_mem, mem_ready]
    refine ⟨by simp, o, h0, fun e he hb => ?_⟩
    have h2 := List.all_eq_true.1 hp l.length (List.mem_range.2 (by simp))
    simp only [h0, Bool.or_eq_true, decide_eq_true_eq] at h2
    rcases h2 with h2 | h2
    · omega
    · have h3 := Array.all_eq_true_iff_forall_mem.1 h2 e he
      simp [hb] at h3
  have := wpAny_take (Q := Q) h0 hsel hf hr hQ hy h1
  simpa using this
/-- at the class 'Below' -/
theorem wp_region_below_tail {id : Nat} {Q : Exit → Act → World → Prop} {a : Act} {w : World} {l : List Oper} (n : Nat) (hm : P.follows .mixedOrders = true) (hB : lexTailN .any l.toArray n l.length = true)
    (h : wpQuiet P l.toArray (fun w' => ∃ p : Regrown, w' = grow (redrawn w p.d) p.os) (fun a' => ∀ w', (∃ p : Regrown, w' = grow (redrawn w p.d) p.os) → wpList P l.toArray Q (l.drop n) a' w') (l.take n) a) : (Code.region id l.toArray true).wp P Q a w :=
  wp_region_quiet_tail (C := fun w' => ∃ p : Regrown, w' = grow (redrawn w p.d) p.os) n hm hB ⟨⟨w.drawn + 1, #[]⟩, by rw [grow_empty]; rfl⟩ h
theorem wp_region_below_tail1 {id : Nat} {Q : Exit → Act → World → Prop} {a : Act} {w : World} {l : List Oper} {o : Oper} (n : Nat) (v : Value) (hm : P.follows .mixedOrders = true) (hB : lexTailN .any (l ++ [o]).toArray n l.length = true)
    (hf : Region.free .any (l ++ [o]).toArray (Array.replicate (l.length + 1) false) l.length = true) (hQ : ∀ c a w, Q (.panic c) (a.put o.dst v) w → Q (.panic c) a w) (hy : Yields P (l ++ [o]).toArray o v a)
    (h : wpQuiet P (l ++ [o]).toArray (fun w' => ∃ p : Regrown, w' = grow (redrawn w p.d) p.os) (fun a' => ∀ w', (∃ p : Regrown, w' = grow (redrawn w p.d) p.os) → wpList P (l ++ [o]).toArray Q (l.drop n) a' w') (l.take n) (a.put o.dst v)) : (Code.region id (l ++ [o]).toArray true).wp P Q a w :=
  wp_region_quiet_tail1 (C := fun w' => ∃ p : Regrown, w' = grow (redrawn w p.d) p.os) n v hm hB hf hQ hy ⟨⟨w.drawn + 1, #[]⟩, by rw [grow_empty]; rfl⟩ h

/-- .. as a walk asks for it: n head operations, the tail up to N, then one that is taken first -/
theorem wp_region_below_tailN {id : Nat} {Q : Exit → Act → World → Prop} {a : Act} {w : World} {l : List Oper} {o : Oper} (n N : Nat) (v : Value) (hm : P.follows .mixedOrders = true) (ho : l[N]? = some o) (hl : l.length = N + 1) (hB : lexTailN .any l.toArray n N = true)
    (hf : Region.free .any l.toArray (Array.replicate (N + 1) false) N = true) (hQ : ∀ c a w, Q (.panic c) (a.put o.dst v) w → Q (.panic c) a w) (hy : Yields P l.toArray o v a)
    (h : wpQuiet P l.toArray (fun w' => ∃ p : Regrown, w' = grow (redrawn w p.d) p.os) (fun a' => ∀ w', (∃ p : Regrown, w' = grow (redrawn w p.d) p.os) → wpList P l.toArray Q ((l.take N).drop n) a' w') (l.take n) (a.put o.dst v)) : (Code.region id l.toArray true).wp P Q a w := by
  have hN : n < N := by
    simp only [lexTailN, Bool.and_eq_true, decide_eq_true_eq] at hB
    exact hB.1.1.1.1.1.2
  have e : l = l.take N ++ [o] := by
    rw [List.getElem?_eq_getElem (by omega)] at ho
    have ho' : l[N] = o := Option.some.inj ho
    rw [← ho', List.take_append_getElem, List.take_of_length_le (by omega)]
  obtain ⟨l', hl'⟩ : ∃ l', l.take N = l' := ⟨_, rfl⟩
  have hlt : l'.length = N := by rw [← hl']; simp; omega
  rw [hl'] at e h
  have et : l.take n = l'.take n := by rw [← hl', List.take_take]; congr 1; omega
  rw [et] at h
  subst e
  subst hlt
  exact wp_region_below_tail1 n v hm hB hf hQ hy h
/-- what quiet regions lack: a big struct loaded, structs compared -/
theorem quiet_load_mid {op : Oper} {a : Act} {K : Act → Prop} {w : World} (ty : TypeId) (x : Operand) (ho : op.op = .load ty x)
    (b : Nat) (hx : a.eval x = .pointer (some ⟨b, 0, none⟩)) (cs : List Value) (d : TypeDesc) (hc : Blk w b cs)
    (hu : P.underlying ty = some d) (hd : d.isRow = true) (hi : (P.info? ty).map (·.size) = some cs.length)
    (hk : K (a.put op.dst (.agg cs.toArray))) : op.quiet P a (fun w' => ∃ p : Regrown, w' = grow (redrawn w p.d) p.os) K := by
  refine ⟨_, ?_, hk⟩
  rintro w' ⟨p, rfl⟩
  have hr := (hc.below (below_regrown w p.d p.os) hc.1).range
  unfold Oper.quietAt execOp
  simp only [ho, hx, Instr.loadAt, Instr.sureAddr, Sem.run_bind, Sem.run_pure, Result.andThen_ok, run_loadVar_mid _ b 0 ty cs d hr hu hd hi]
  exact ⟨rfl, rfl⟩
theorem quiet_eql {op : Oper} {a : Act} {K : Act → Prop} (ty ty2 : TypeId) (x y : Operand) (ho : op.op = .binOp .eql ty x y ty2)
    (u v : Array Value) (hx : a.eval x = .agg u) (hy : a.eval y = .agg v) (r : Bool) (h : ∀ w, (binOp .eql ty (.agg u) (.agg v)).run P w = .ok (.bool r) w)
    (hm : P.eqGuardType P.depth ty = false)
    (hk : K (a.put op.dst (.bool r))) : op.quiet P a C K := by
  refine ⟨_, ?_, hk⟩
  intro w' _
  unfold Oper.quietAt execOp
  simp only [ho, hx, hy, Sem.run_bind, Sem.run_pure, Result.andThen_ok, h, run_eqGuard_agg w' .eql ty x y u v hm]
  exact ⟨rfl, rfl⟩
theorem quiet_neq {op : Oper} {a : Act} {K : Act → Prop} (ty ty2 : TypeId) (x y : Operand) (ho : op.op = .binOp .neq ty x y ty2)
    (u v : Array Value) (hx : a.eval x = .agg u) (hy : a.eval y = .agg v) (r : Bool) (h : ∀ w, (Op.equalIn 10000 ty (.agg u) (.agg v)).run P w = .ok r w)
    (hm : P.eqGuardType P.depth ty = false)
    (hk : K (a.put op.dst (.bool (!r)))) : op.quiet P a C K := by
  refine ⟨_, ?_, hk⟩
  intro w' _
  unfold Oper.quietAt execOp
  simp only [ho, hx, hy, Sem.run_bind, Sem.run_pure, Result.andThen_ok, run_neq_struct, h, run_eqGuard_agg w' .neq ty x y u v hm]
  exact ⟨rfl, rfl⟩
end
end Go.Proofs.Ytcgahdmacngipaa
