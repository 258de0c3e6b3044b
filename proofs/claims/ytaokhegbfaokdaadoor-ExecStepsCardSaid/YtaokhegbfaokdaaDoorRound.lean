/- A ROUND OF A RANGE OVER A FUNCTION: a region without a defer statement goes there as anywhere: the plain walk of it serves. -/
import Derived.RangeFuncNested
import Derived.RangeFuncBound
import Derived.RangeFuncCalls
import Derived.RangeFuncLeaves
import Derived.Lib.QuietBelow
import Derived.Deep.Quiet
import Derived.Tactics
namespace Go.Proofs.YtaokhegbfaokdaaDoor
open Go Go.Sort Go.RowKit
set_option linter.unusedVariables false

def noDefer (ops : List Oper) : Bool := ops.all fun o => match o.op with | .defer _ => false | _ => true
theorem noDefer_at {ops : List Oper} (h : noDefer ops = true) {i : Nat} {o : Oper} (hi : ops[i]? = some o) : ∀ c, o.op ≠ .defer c := by
  intro c hc
  have := List.all_eq_true.1 h o (List.mem_of_getElem? hi)
  simp [hc] at this
theorem rows_in {P : Program} {n l : Nat} {row : String} {args : Array Value} {w : World} {R : Value → World → Prop} (h : Rows P row args w R) : RowsIn (Fence.wide.inRound l) n P row args w R :=
  fun c cs _ => let ⟨v, w', r, s⟩ := h c cs; ⟨v, w', r, by rw [fenced_inRound]; exact stepsIn_wide.2 s⟩
theorem wpOpsIn_round {P : Program} {ops : List Oper} {Q : Exit → Act → World → Prop} {n l : Nat} (hd : noDefer ops = true) (hno : ¬ LetsOut Q) :
    ∀ (is : List Nat) (a : Act) (w : World), wpOps P ops.toArray Q is a w → wpOpsIn (Fence.wide.inRound l) n P ops.toArray Q is a w
  | [], _, _, h => h
  | i :: rest, a, w, h => by
    unfold wpOps at h
    unfold wpOpsIn
    cases ho : ops.toArray[i]? with
    | none =>
      simp only [ho] at h ⊢
      exact wpOpsIn_round hd hno rest a w h
    | some o =>
      simp only [ho] at h ⊢
      by_cases hw : Region.wanted o (yielded ops.toArray a.tmps) = true
      · rw [if_pos hw] at h ⊢
        rcases h with h | h
        · refine ⟨fun _ _ => trivial, ?_⟩
          have hs : o.semAt (Fence.wide.inRound l).round a.eval = execOp a.eval o := Oper.semAt_eq _ _ _ (noDefer_at hd (by simpa using ho))
          rw [hs]
          unfold Oper.wp at h
          have hdep : ∀ m : Nat, (Fence.wide.inRound l).depth.isSome = true → 1 ≤ m := fun m hm => by simp [Fence.wide, Fence.inRound] at hm
          generalize (execOp a.eval o).run P w = r at h
          cases r with
          | ok nx w' =>
            cases nx with
            | value v => exact wpOpsIn_round hd hno rest _ _ h
            | skip => exact wpOpsIn_round hd hno rest _ _ h
            | defer d => exact wpOpsIn_round hd hno rest _ _ h
            | enter f args =>
              refine ⟨hdep _, CallsIn.inRound l (callsIn_wide.2 ?_)⟩
              refine Calls.mono h fun e w'' he => ?_
              cases e with
              | returned v => exact wpOpsIn_round hd hno rest _ _ he
              | panicked c => exact he
              | outgrown => exact he
            | row row args =>
              refine ⟨hdep _, rows_in ?_⟩
              exact Rows.mono h fun v w'' he => wpOpsIn_round hd hno rest _ _ he
            | _ => exact h.elim
          | halt x w' =>
            cases x with
            | panic v => exact h
            | _ => exact h.elim
        · exact absurd h.2 hno
      · rw [if_neg hw] at h ⊢
        exact ⟨fun _ _ => trivial, wpOpsIn_round hd hno rest _ _ h⟩
/-- a region of a round, by its plain walk -/
theorem wpIn_region_round {P : Program} {id n l : Nat} {Q : Exit → Act → World → Prop} {a : Act} {w : World} {ops : List Oper} (hd : noDefer ops = true) (hno : ¬ LetsOut Q)
    (h : wpList P ops.toArray Q ops a w) : (Code.region id ops.toArray false).wpIn (Fence.wide.inRound l) n P Q a w := by
  refine wpIn_region (wpOpsIn_round hd hno _ _ _ ?_)
  rw [List.range_eq_range', ← Array.length_toList, wpOps_eq_wpList ops.toArray.toList 0 (by simp)]
  simpa using h
/-- .. that draws its order -/
theorem wpIn_region_round_any {P : Program} {id n l : Nat} {Q : Exit → Act → World → Prop} {a : Act} {w : World} {ops : List Oper} (hm : P.follows .mixedOrders = true) (hd : noDefer ops = true) (hno : ¬ LetsOut Q)
    (h : wpAny P .any ops.toArray Q ops.toArray.size (Array.replicate ops.toArray.size false) a { w with drawn := w.drawn + 1 }) : (Code.region id ops.toArray true).wpIn (Fence.wide.inRound l) n P Q a w :=
  wpIn_region_draw fun t => wpOpsIn_round hd hno _ _ _ (by
    simp only [Region.schedule, hm, Bool.true_or, if_true]
    exact wpAny_sound ops.toArray.size t _ a _ h)
/-- .. whose operations are quiet -/
theorem wpIn_region_round_quiet {P : Program} {id n l : Nat} {Q : Exit → Act → World → Prop} {a : Act} {w : World} {ops : List Oper} (hm : P.follows .mixedOrders = true) (hB : Region.lexB .any ops.toArray = true) (hd : noDefer ops = true) (hno : ¬ LetsOut Q)
    (h : wpQuiet P ops.toArray (fun w' => ∃ p : Regrown, w' = grow (redrawn w p.d) p.os) (fun a' => ∀ w', (∃ p : Regrown, w' = grow (redrawn w p.d) p.os) → Q .normal a' w') ops a) : (Code.region id ops.toArray true).wpIn (Fence.wide.inRound l) n P Q a w := by
  simp only [Region.lexB, Bool.and_eq_true] at hB
  refine wpIn_region_round_any hm hd hno (wpAny_of_quiet (C := fun w' => ∃ p : Regrown, w' = grow (redrawn w p.d) p.os) (Q := fun a' => ∀ w', (∃ p : Regrown, w' = grow (redrawn w p.d) p.os) → Q .normal a' w') (fun _ w' hw' h => h w' hw') _ _ _ _ ⟨⟨w.drawn + 1, #[]⟩, by rw [grow_empty]; rfl⟩ ?_)
  have := wpAnyQ_lex (C := fun w' => ∃ p : Regrown, w' = grow (redrawn w p.d) p.os) (md := .any) hB.1 ops 0 (Array.replicate ops.toArray.size false) a (by simp) (by simpa using hB.2) h
  simpa using this
theorem zip2 (T : Array Value) (p q : Nat) (u v : Value) : Array.foldl (fun (t : Array Value) (x : Nat × Value) => match x with | (p, v) => t.setIfInBounds p v) T ((#[p, q] : Array Nat).zip #[u, v]) = (T.setIfInBounds p u).setIfInBounds q v := by
  have : (#[p, q] : Array Nat).zip #[u, v] = #[(p, u), (q, v)] := by simp
  rw [this]
  simp
theorem wpIn_block_k {F : Fence} {n : Nat} {P : Program} {id : Nat} {c : Code} {Q : Exit → Act → World → Prop} {a : Act} {w : World} (h : c.wpIn F n P (Exit.inBlock id Q) a w) : (Code.block id c).wpIn F n P Q a w := wpIn_block h
end Go.Proofs.YtaokhegbfaokdaaDoor
