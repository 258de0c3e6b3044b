/- A REGION THAT DRAWS ITS ORDER: some pure operations are taken first, then a head of quiet ones, then a tail in forced order, told by its numbers. (XQuietTail, for tails in which pure operations stand.) -/
import Derived.Test.YtcgahdmacngipaaQuietTail
namespace Go.Proofs.Ytcgahdmacngipaa
open Go Go.Sort Go.RowKit
set_option maxRecDepth 100000
set_option linter.unusedVariables false

section
variable {P : Program} {ops : Array Oper} {md : Region.Mode} {C : World → Prop}

/-- the tail's operations are not listed; beside the head and the tail all is listed -/
structure HeadInvT (md : Region.Mode) (ops : Array Oper) (n : Nat) (tl : List Nat) (listed : Array Bool) : Prop where
  size : listed.size = ops.size
  closed : ∀ j oj, ops[j]? = some oj → listed.getD j false = true → ∀ e ∈ oj.after, Region.binds md e = true → listed.getD e.on false = true
  tail : ∀ t ∈ tl, listed.getD t true = false
  past : ∀ t, n ≤ t → t ∉ tl → listed.getD t true = true
/-- each of the tail waits for the one ahead of it -/
def chainT (md : Region.Mode) (ops : Array Oper) : List Nat → Bool
  | a :: b :: r => Region.waitsFor md ops b a && chainT md ops (b :: r)
  | _ => true
def sinkT (md : Region.Mode) (ops : Array Oper) (n t0 : Nat) : Bool :=
  (List.range n).all fun i => ((List.range n).any fun j => decide (i < j) && Region.waitsFor md ops j i) || Region.waitsFor md ops t0 i
theorem HeadInvT.set {n i : Nat} {tl : List Nat} {listed : Array Bool} (inv : HeadInvT md ops n tl listed) (htl : ∀ t ∈ tl, n ≤ t) (hi : i ∈ Region.ready md ops listed) (hin : i < n) : HeadInvT md ops n tl (listed.setIfInBounds i true) := by
  obtain ⟨_, oi, hoi, hall⟩ := mem_ready.1 hi
  refine ⟨by simp [inv.size], fun j oj hj hl e he hb => ?_, fun t ht => by rw [getD_set_ne true (by have := htl t ht; omega)]; exact inv.tail t ht, fun t ht ht' => by rw [getD_set_ne true (by omega)]; exact inv.past t ht ht'⟩
  by_cases hij : i = j
  · subst hij
    have : oj = oi := Option.some.inj (hj.symm.trans hoi)
    subst this
    exact getD_set_true (hall e he hb)
  · rw [getD_set_ne false hij] at hl
    exact getD_set_true (inv.closed j oj hj hl e he hb)
theorem chainT_ready {listed : Array Bool} : ∀ (tl : List Nat) (hc : chainT md ops tl = true) (ht : ∀ t ∈ tl, listed.getD t true = false) (t0 : Nat) (r : List Nat), tl = t0 :: r → ∀ t ∈ r, t ∉ Region.ready md ops listed
  | [], _, _, _, _, h => by cases h
  | [a], _, _, _, _, h => by cases h; intro t ht; cases ht
  | a :: b :: r, hc, ht, t0, r0, h => by
    cases h
    simp only [chainT, Bool.and_eq_true] at hc
    intro t htr hr
    rcases List.mem_cons.1 htr with rfl | htr'
    · obtain ⟨o', ho', e, he, hb, hon⟩ := Region.waitsFor_spec hc.1
      obtain ⟨_, ot, hot, hall⟩ := mem_ready.1 hr
      have : o' = ot := Option.some.inj (ho'.symm.trans hot)
      subst this
      have h2 := hall e he hb
      rw [hon, getD_both (ht a (by simp))] at h2
      cases h2
    · exact chainT_ready (b :: r) hc.2 (fun t ht' => ht t (List.mem_cons_of_mem _ ht')) b r rfl t htr' hr
theorem tail_waitsT {n t0 : Nat} {r : List Nat} {listed : Array Bool} (hs : sinkT md ops n t0 = true) (hc : chainT md ops (t0 :: r) = true) (htl : ∀ t ∈ t0 :: r, n ≤ t) (inv : HeadInvT md ops n (t0 :: r) listed) :
    ∀ (d i : Nat), n - i = d → i < n → listed.getD i true = false → ∀ t, n ≤ t → t ∉ Region.ready md ops listed := by
  intro d
  induction d using Nat.strongRecOn with
  | _ d ih =>
    intro i hd hi hun t ht hr
    obtain ⟨hunt, ot, hot, hall⟩ := mem_ready.1 hr
    by_cases htt : t ∈ t0 :: r
    · rcases List.mem_cons.1 htt with rfl | htr
      · have h1 := List.all_eq_true.1 hs i (List.mem_range.2 hi)
        rw [Bool.or_eq_true] at h1
        rcases h1 with h1 | h1
        · obtain ⟨j, hj, hj2⟩ := List.any_eq_true.1 h1
          simp only [Bool.and_eq_true, decide_eq_true_eq] at hj2
          obtain ⟨oj, hoj, e, he, hb, hon⟩ := Region.waitsFor_spec hj2.2
          have hjn : j < n := List.mem_range.1 hj
          cases hl : listed.getD j false with
          | true =>
            have h2 := inv.closed j oj hoj hl e he hb
            rw [hon, getD_both hun] at h2
            cases h2
          | false =>
            have hjs : j < listed.size := by
              rw [inv.size]
              exact (Array.getElem?_eq_some_iff.1 hoj).1
            exact ih (n - j) (by omega) j rfl hjn (getD_in hjs hl) t ht hr
        · obtain ⟨o', ho', e, he, hb, hon⟩ := Region.waitsFor_spec h1
          have : o' = ot := Option.some.inj (ho'.symm.trans hot)
          subst this
          have h2 := hall e he hb
          rw [hon, getD_both hun] at h2
          cases h2
      · exact chainT_ready _ hc inv.tail t0 r rfl t htr hr
    · rw [inv.past t ht htt] at hunt
      cases hunt

theorem wpAnyQL_firstT {n t0 i : Nat} {r : List Nat} {oi : Oper} {v : Value} {L : Array Bool → Act → Prop} (hi : ops[i]? = some oi) (hsel : ∀ (j : Nat) (o : Oper) cs b, ops[j]? = some o → o.op ≠ .select cs b)
    (hs : sinkT md ops n t0 = true) (hc : chainT md ops (t0 :: r) = true) (htl : ∀ t ∈ t0 :: r, n ≤ t) (hin : i < n)
    (hdone : ∀ listed a, L listed a → ∀ j ∈ Region.ready md ops listed, n ≤ j) :
    ∀ (f : Nat) (listed : Array Bool) (a : Act), HeadInvT md ops n (t0 :: r) listed →
      (∀ j oj, ops[j]? = some oj → j ≠ i → listed.getD j true = false → (∀ e ∈ oj.after, Region.binds md e = true → e.on ≠ i) → oi.apart ops oj = true) →
      i ∈ Region.ready md ops listed → YieldsIn P ops C oi v a →
      wpAnyQL P md ops C n L f (listed.setIfInBounds i true) (a.put oi.dst v) → wpAnyQL P md ops C n L (f + 1) listed a := by
  intro f
  induction f with
  | zero =>
    intro listed a inv _ hr hy H
    have hun := (mem_ready.1 hr).1
    refine ⟨fun h => (by rw [h] at hr; cases hr), fun j hj => ?_⟩
    have hjn : j < n := by
      rcases Nat.lt_or_ge j n with h | h
      · exact h
      · exact absurd hj (tail_waitsT hs hc htl inv _ i rfl hin hun j h)
    refine ⟨hjn, ?_⟩
    by_cases hji : j = i
    · subst hji; exact hy.qOp hi H
    · have := hdone _ _ H j (ready_mono hj hji)
      omega
  | succ f ih =>
    intro listed a inv hfree hr hy H
    have hun := (mem_ready.1 hr).1
    refine ⟨fun h => (by rw [h] at hr; cases hr), fun j hj => ?_⟩
    have hjn : j < n := by
      rcases Nat.lt_or_ge j n with h | h
      · exact h
      · exact absurd hj (tail_waitsT hs hc htl inv _ i rfl hin hun j h)
    refine ⟨hjn, ?_⟩
    by_cases hji : j = i
    · subst hji; exact hy.qOp hi H
    · have h1 := (H.2 j (ready_mono hj hji)).2
      obtain ⟨hjun, oj, hoj, hall⟩ := mem_ready.1 hj
      have hnot : ∀ e ∈ oj.after, Region.binds md e = true → e.on ≠ i := fun e he hb heq => by
        have h1 := hall e he hb
        rw [heq, getD_both hun] at h1
        cases h1
      have h2 := qOp_put hoj (hfree j oj hoj hji hjun hnot) (fun cs b => hsel i oi cs b hi) (fun cs b => hsel j oj cs b hoj) hy h1
      have hfree' : ∀ k ok, ops[k]? = some ok → k ≠ i → (listed.setIfInBounds j true).getD k true = false →
          (∀ e ∈ ok.after, Region.binds md e = true → e.on ≠ i) → oi.apart ops ok = true := fun k ok hk hki hun hno => by
        refine hfree k ok hk hki ?_ hno
        by_cases hjk : j = k
        · subst hjk; exact hjun
        · rw [getD_set_ne true hjk] at hun; exact hun
      refine qOp_mono (fun a' h3 => ih (listed.setIfInBounds j true) a' (inv.set htl hj hjn) hfree' (ready_mono hr (Ne.symm hji)) h3.1 ?_) h2
      rw [Array.setIfInBounds_comm _ _ hji]
      exact h3.2

def seqT (md : Region.Mode) (ops : Array Oper) : List Nat → Array Bool → Bool
  | [], listed => (Region.ready md ops listed).isEmpty
  | k :: r, listed => decide (Region.ready md ops listed = [k]) && seqT md ops r (listed.setIfInBounds k true)
def lexHeadT (md : Region.Mode) (ops : Array Oper) (tl : List Nat) : Nat → Nat → Array Bool → Bool
  | 0, k, listed => seqT md ops tl listed
  | f + 1, k, listed => (Region.ready md ops listed).contains k && Region.free md ops listed k && lexHeadT md ops tl f (k + 1) (listed.setIfInBounds k true)
theorem seqT_ready {tl : List Nat} {n : Nat} (htl : ∀ t ∈ tl, n ≤ t) {listed : Array Bool} (h : seqT md ops tl listed = true) : ∀ j ∈ Region.ready md ops listed, n ≤ j := by
  cases tl with
  | nil => intro j hj; simp only [seqT, List.isEmpty_iff] at h; rw [h] at hj; cases hj
  | cons k r =>
    intro j hj
    simp only [seqT, Bool.and_eq_true, decide_eq_true_eq] at h
    rw [h.1] at hj
    have : j = k := by simpa using hj
    subst this
    exact htl j (by simp)

theorem wpAnyQL_lexT {n t0 : Nat} {r : List Nat} {Lq : Act → Prop} (hsel : Region.noSelect ops = true) (hs : sinkT md ops n t0 = true) (hc : chainT md ops (t0 :: r) = true) (htl : ∀ t ∈ t0 :: r, n ≤ t) :
    ∀ (l : List Oper) (k : Nat) (listed : Array Bool) (a : Act), (∀ j, j < l.length → l[j]? = ops[k + j]?) → k + l.length = n → HeadInvT md ops n (t0 :: r) listed →
    lexHeadT md ops (t0 :: r) l.length k listed = true → wpQuiet P ops C Lq l a →
    wpAnyQL P md ops C n (fun listed' a' => seqT md ops (t0 :: r) listed' = true ∧ Lq a') l.length listed a
  | [], k, listed, a, _, hk, _, hB, h => ⟨by simpa [lexHeadT] using hB, h⟩
  | o :: l, k, listed, a, hl, hk, inv, hB, h => by
    have h0 : ops[k]? = some o := by simpa using (hl 0 (by simp)).symm
    simp only [List.length_cons, lexHeadT, Bool.and_eq_true] at hB
    obtain ⟨⟨hr, hf⟩, hB'⟩ := hB
    have hkn : k < n := by simp only [List.length_cons] at hk; omega
    have hr' : k ∈ Region.ready md ops listed := by simpa using hr
    have hst : qOp P ops C k (wpQuiet P ops C Lq l) a := by unfold qOp; simp only [h0]; exact h
    obtain ⟨v, hy, hK⟩ := yieldsIn_of_qOp h0 hst
    exact wpAnyQL_firstT h0 (Region.noSelect_spec hsel) hs hc htl hkn (fun listed' a' hL => seqT_ready htl hL.1) l.length listed a inv (Region.free_spec h0 hf) hr' hy
      (wpAnyQL_lexT hsel hs hc htl l (k + 1) _ _ (fun j hj => by have := hl (j + 1) (by simp; omega); simpa [Nat.add_assoc, Nat.add_comm 1 j] using this) (by simp only [List.length_cons] at hk; omega) (inv.set htl hr' hkn) hB' hK)

/-- the operations of these numbers -/
def opsAt (ops : Array Oper) : List Nat → List Oper
  | [] => []
  | t :: r => (ops[t]?).toList ++ opsAt ops r
theorem wpAny_of_seqT {Q' : Exit → Act → World → Prop} : ∀ (tl : List Nat) (listed : Array Bool) (a : Act) (w : World), (∀ t ∈ tl, (ops[t]?).isSome = true) →
    seqT md ops tl listed = true → wpList P ops Q' (opsAt ops tl) a w → wpAny P md ops Q' tl.length listed a w
  | [], _, _, _, _, hB, h => ⟨by simpa [seqT] using hB, h⟩
  | k :: r, listed, a, w, hin, hB, h => by
    obtain ⟨o, h0⟩ := Option.isSome_iff_exists.1 (hin k (by simp))
    simp only [seqT, Bool.and_eq_true, decide_eq_true_eq] at hB
    refine ⟨fun h1 => (by rw [hB.1] at h1; cases h1), fun i hi => ?_⟩
    rw [hB.1] at hi
    have hik : i = k := by simpa using hi
    subst hik
    have hops : opsAt ops (i :: r) = o :: opsAt ops r := by simp [opsAt, h0]
    rw [hops] at h
    have hw : wpOp P ops Q' i (wpList P ops Q' (opsAt ops r)) a w := by unfold wpOp; simp only [h0]; exact h
    exact wpOp_mono (fun a' w' h' => wpAny_of_seqT r _ a' w' (fun t ht => hin t (by simp [ht])) hB.2 h') hw

/-- listed: all beside the head (below n) and the tail -/
def preT (size n : Nat) (tl : List Nat) : Array Bool := (List.range size |>.map fun j => decide (n ≤ j) && !tl.contains j).toArray
theorem preT_getD (size n j : Nat) (tl : List Nat) (d : Bool) (hj : j < size) : (preT size n tl).getD j d = (decide (n ≤ j) && !tl.contains j) := by
  simp [preT, hj]
def lexTailT (md : Region.Mode) (ops : Array Oper) (n : Nat) (tl : List Nat) : Bool :=
  Region.noSelect ops && decide (n ≤ ops.size) && tl.all (fun t => decide (n ≤ t) && decide (t < ops.size)) && sinkT md ops n (tl.headD 0) && chainT md ops tl &&
  ((List.range ops.size).all fun j => decide (j < n) || tl.contains j || match ops[j]? with | some o => o.after.all (fun e => !Region.binds md e || (preT ops.size n tl).getD e.on false) | none => true) &&
  lexHeadT md ops tl n 0 (preT ops.size n tl)

theorem wpAny_head_tailT {Q : Exit → Act → World → Prop} {a : Act} {w : World} {l : List Oper} (n t0 : Nat) (r : List Nat) (hB : lexTailT .any l.toArray n (t0 :: r) = true) (hC : C w)
    (h : wpQuiet P l.toArray C (fun a' => ∀ w', C w' → wpList P l.toArray Q (opsAt l.toArray (t0 :: r)) a' w') (l.take n) a) : wpAny P .any l.toArray Q (n + (r.length + 1)) (preT l.length n (t0 :: r)) a w := by
  simp only [lexTailT, Bool.and_eq_true, decide_eq_true_eq] at hB
  obtain ⟨⟨⟨⟨⟨⟨hsel, hn⟩, ht⟩, hs⟩, hc⟩, hp⟩, hlex⟩ := hB
  have htl : ∀ t ∈ t0 :: r, n ≤ t ∧ t < l.length := fun t htm => by
    have := List.all_eq_true.1 ht t htm
    simpa using this
  have hs' : sinkT .any l.toArray n t0 = true := by simpa using hs
  have hnl : (l.take n).length = n := by have : n ≤ l.length := by simpa using hn
                                         simp; omega
  have inv0 : HeadInvT .any l.toArray n (t0 :: r) (preT l.length n (t0 :: r)) := by
    refine ⟨by simp [preT], fun j oj hj hl e he hb => ?_, fun t htm => ?_, fun t htn hto => ?_⟩
    · have hjl : j < l.length := by have := (Array.getElem?_eq_some_iff.1 hj).1; simpa using this
      rw [preT_getD _ _ _ _ _ hjl] at hl
      have h1 := List.all_eq_true.1 hp j (List.mem_range.2 (by simpa using hjl))
      simp only [hj, Bool.or_eq_true, decide_eq_true_eq] at h1
      simp only [Bool.and_eq_true, decide_eq_true_eq, Bool.not_eq_true'] at hl
      rcases h1 with (h1 | h1) | h1
      · omega
      · rw [h1] at hl; cases hl.2
      · have h2 := Array.all_eq_true_iff_forall_mem.1 h1 e he
        simpa [hb] using h2
    · rw [preT_getD _ _ _ _ _ (htl t htm).2]
      simp only [Bool.and_eq_false_iff, Bool.not_eq_false']
      exact Or.inr (by simpa using htm)
    · by_cases htl' : t < l.length
      · rw [preT_getD _ _ _ _ _ htl']
        simp only [Bool.and_eq_true, decide_eq_true_eq, Bool.not_eq_true']
        exact ⟨htn, by simpa using hto⟩
      · simp [preT, htl']
  have H := wpAnyQL_lexT (P := P) (md := .any) (C := C) hsel hs' hc (fun t htm => (htl t htm).1) (l.take n) 0 _ a (fun j hj => by
    have hj' : j < n := by rw [hnl] at hj; exact hj
    simp [hj']) (by rw [hnl, Nat.zero_add]) inv0 (by rw [hnl]; simpa using hlex) h
  have := wpAny_of_headQ (Q' := Q) (g := r.length + 1) (fun listed a' w' hw' hL => by
    exact wpAny_of_seqT (P := P) (md := .any) (Q' := Q) (t0 :: r) listed a' w' (fun t htm => by simp [(htl t htm).2]) hL.1 (hL.2 w' hw')) _ _ _ _ hC H
  rw [hnl] at this
  exact this

/-- pure operations, one behind the other, taken first -/
def firstT (P : Program) (ops : Array Oper) : List (Nat × Value) → Act → (Act → Prop) → Prop
  | [], a, K => K a
  | (i, v) :: r, a, K => ∃ o, ops[i]? = some o ∧ Yields P ops o v a ∧ firstT P ops r (a.put o.dst v) K
def okFirst (ops : Array Oper) : List Nat → Array Bool → Bool
  | [], _ => true
  | i :: r, listed => Region.free .any ops listed i && (Region.ready .any ops listed).contains i && okFirst ops r (listed.setIfInBounds i true)
def endFirst : List Nat → Array Bool → Array Bool
  | [], l => l
  | i :: r, l => endFirst r (l.setIfInBounds i true)
theorem wpAny_firstT {Q : Exit → Act → World → Prop} {w : World} (hsel : Region.noSelect ops = true) (hQ : ∀ c (a b : Act) w, Q (.panic c) a w → Q (.panic c) b w) :
    ∀ (fs : List (Nat × Value)) (listed : Array Bool) (a : Act) (g : Nat), okFirst ops (fs.map (·.1)) listed = true →
      firstT P ops fs a (fun a' => wpAny P .any ops Q g (endFirst (fs.map (·.1)) listed) a' w) → wpAny P .any ops Q (fs.length + g) listed a w
  | [], listed, a, g, _, h => by simpa [firstT, endFirst] using h
  | (i, v) :: r, listed, a, g, hB, h => by
    obtain ⟨o, ho, hy, hK⟩ := h
    simp only [List.map_cons, okFirst, Bool.and_eq_true] at hB
    obtain ⟨⟨hf, hr⟩, hB'⟩ := hB
    have := wpAny_take (Q := Q) ho hsel hf hr (fun c a w h => hQ c _ _ w h) hy (wpAny_firstT hsel hQ r _ _ g hB' hK)
    rw [List.length_cons, show r.length + 1 + g = r.length + g + 1 by omega]
    exact this

/-- A REGION THAT DRAWS: pure operations fs first, then n quiet ones, then the tail tl in its forced order -/
theorem wp_region_below_first {id : Nat} {Q : Exit → Act → World → Prop} {a : Act} {w : World} {l : List Oper} (fs : List (Nat × Value)) (n t0 : Nat) (r : List Nat) (hm : P.follows .mixedOrders = true)
    (hB : lexTailT .any l.toArray n (t0 :: r) = true) (hF : okFirst l.toArray (fs.map (·.1)) (Array.replicate l.length false) = true) (hE : endFirst (fs.map (·.1)) (Array.replicate l.length false) = preT l.length n (t0 :: r)) (hL : l.length = fs.length + (n + (r.length + 1)))
    (hQ : ∀ c (a b : Act) w, Q (.panic c) a w → Q (.panic c) b w)
    (h : firstT P l.toArray fs a (fun a => wpQuiet P l.toArray (fun w' => ∃ p : Regrown, w' = grow (redrawn w p.d) p.os) (fun a' => ∀ w', (∃ p : Regrown, w' = grow (redrawn w p.d) p.os) → wpList P l.toArray Q (opsAt l.toArray (t0 :: r)) a' w') (l.take n) a)) : (Code.region id l.toArray true).wp P Q a w := by
  have hsel : Region.noSelect l.toArray = true := by
    simp only [lexTailT, Bool.and_eq_true] at hB
    exact hB.1.1.1.1.1.1
  refine wp_region_any hm ?_
  have := wpAny_firstT (P := P) (Q := Q) (w := { w with drawn := w.drawn + 1 }) hsel hQ fs (Array.replicate l.length false) a (n + (r.length + 1)) hF (by
    rw [hE]
    have hmono : ∀ (fs : List (Nat × Value)) (a : Act) (K K' : Act → Prop), (∀ a, K a → K' a) → firstT P l.toArray fs a K → firstT P l.toArray fs a K' := by
      intro fs
      induction fs with
      | nil => exact fun a K K' hk h => hk a h
      | cons x r ih => exact fun a K K' hk h => by obtain ⟨o, h1, h2, h3⟩ := h; exact ⟨o, h1, h2, ih _ _ _ hk h3⟩
    exact hmono _ _ _ _ (fun a' h' => wpAny_head_tailT (C := fun w' => ∃ p : Regrown, w' = grow (redrawn w p.d) p.os) n t0 r hB ⟨⟨w.drawn + 1, #[]⟩, by rw [grow_empty]; rfl⟩ h') h)
  rw [← hL] at this
  simpa using this
end
end Go.Proofs.Ytcgahdmacngipaa
