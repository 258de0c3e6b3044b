/- PLAIN MATHEMATICS of a row of requests of which one after the other is done. -/
import Derived.Test.YtebeelphilfjhaaBusL
namespace Go.Proofs.Ytebeelphilfjhaa
open Go.ChangeShapes Go.WideShapes Go.ChangeAt Go.RowKit
set_option linter.unusedVariables false

/-- how long the i-th takes; when all before the k-th are done -/
def nth (zs : List Int) (i : Nat) : Int := if zs.getD i 0 < 1 then 1 else if 20 < zs.getD i 0 then 20 else zs.getD i 0
def sumN (zs : List Int) : Nat → Int
  | 0 => 0
  | k + 1 => sumN zs k + nth zs k
def rsOf (zs : List Int) (k : Nat) : List Req := (List.range k).map fun i : Nat => (⟨1, 16 * (i : Int), nth zs i, ByteArray.mk #[]⟩ : Req)
def qAt (zs : List Int) (N d : Nat) (c : Int) : List Req := if d < N then ⟨1, 16 * (d : Int), sumN zs (d + 1) - (c - 1), ByteArray.mk #[]⟩ :: (rsOf zs N).drop (d + 1) else []
theorem nth_range (zs : List Int) (i : Nat) : 1 ≤ nth zs i ∧ nth zs i ≤ 20 := by unfold nth; split; omega; split <;> omega
theorem sumN_range (zs : List Int) : ∀ k : Nat, 0 ≤ sumN zs k ∧ sumN zs k ≤ 20 * k
  | 0 => by simp [sumN]
  | k + 1 => by
    have := sumN_range zs k
    have := nth_range zs k
    simp only [sumN]
    omega
theorem sumN_mono (zs : List Int) : ∀ (k m : Nat), k ≤ m → sumN zs k ≤ sumN zs m
  | k, 0, h => by obtain rfl : k = 0 := by omega
                  exact Int.le_refl _
  | k, m + 1, h => by
    by_cases e : k = m + 1
    · subst e; exact Int.le_refl _
    · have := sumN_mono zs k m (by omega)
      have := nth_range zs m
      simp only [sumN]
      omega
theorem rsOf_len (zs : List Int) (k : Nat) : (rsOf zs k).length = k := by simp [rsOf]
theorem rsOf_snoc (zs : List Int) (k : Nat) : rsOf zs (k + 1) = rsOf zs k ++ [⟨1, 16 * (k : Int), nth zs k, ByteArray.mk #[]⟩] := by simp [rsOf, List.range_succ]
theorem qAt_start (zs : List Int) (N : Nat) : qAt zs N 0 1 = rsOf zs N := by
  unfold qAt
  cases N with
  | zero => simp [rsOf]
  | succ N =>
    rw [if_pos (by omega)]
    unfold rsOf
    rw [List.range_succ_eq_map]
    simp [sumN]
theorem qAt_len (zs : List Int) (N d : Nat) (c : Int) (h : d ≤ N) : (qAt zs N d c).length = N - d := by
  unfold qAt
  split
  · simp [rsOf_len]; omega
  · simp; omega
theorem drop_rs (zs : List Int) (N d : Nat) (h : d < N) : (rsOf zs N).drop d = ⟨1, 16 * (d : Int), nth zs d, ByteArray.mk #[]⟩ :: (rsOf zs N).drop (d + 1) := by
  rw [List.drop_eq_getElem_cons (by rw [rsOf_len]; exact h)]
  simp [rsOf]
/-- a cycle of it -/
theorem qAt_tick (zs : List Int) (N d : Nat) (c : Int) (hN : N ≤ 12) (hd : d < N) (h1 : sumN zs d ≤ c - 1) (h2 : c - 1 < sumN zs (d + 1)) :
    tickR (qAt zs N d c) = if c = sumN zs (d + 1) then (qAt zs N (d + 1) (c + 1), ⟨1, 16 * (d : Int), 0, ByteArray.mk #[]⟩, true) else (qAt zs N d (c + 1), req0, false) := by
  have hn := nth_range zs d
  have hs := sumN_range zs (d + 1)
  have hs0 := sumN_range zs d
  have he : sumN zs (d + 1) = sumN zs d + nth zs d := rfl
  have hw : wrap64 (sumN zs (d + 1) - (c - 1) - 1) = sumN zs (d + 1) - (c - 1) - 1 := by unfold wrap64; omega
  have hq : qAt zs N d c = ⟨1, 16 * (d : Int), sumN zs (d + 1) - (c - 1), ByteArray.mk #[]⟩ :: (rsOf zs N).drop (d + 1) := if_pos hd
  rw [hq]
  unfold tickR
  simp only [hw]
  by_cases e : c = sumN zs (d + 1)
  · rw [if_neg (by omega), if_pos e]
    congr 1
    · unfold qAt
      by_cases hd1 : d + 1 < N
      · rw [if_pos hd1, drop_rs zs N (d + 1) hd1]
        congr 2
        have : sumN zs (d + 1 + 1) = sumN zs (d + 1) + nth zs (d + 1) := rfl
        omega
      · rw [if_neg hd1, List.drop_eq_nil_of_le (by rw [rsOf_len]; omega)]
    · congr 2
      omega
  · rw [if_pos (by omega), if_neg e]
    congr 1
    unfold qAt
    rw [if_pos hd]
    congr 2
    omega
theorem qAt_end (zs : List Int) (N : Nat) (c : Int) : qAt zs N N c = [] := if_neg (by omega)

/-- a row of the call's own, as numbers -/
theorem ints_own {w : World} {B e n : Nat} {v : Value} {zs : List Int} (h : w.ownsRow B e 1 v n (zs.map (Value.int .i64))) (hn : zs.length = n) :
    ∃ A cap, v = .slice A n cap ∧ n ≤ cap ∧ cap ≤ maxLen ∧ IntsAt w A n .i64 zs := by
  rcases h.2 with ⟨rfl, h0⟩ | ⟨g, cap, cur, rfl, hg, hh, h1, h2, h3, h4⟩
  · subst h0
    obtain rfl : zs = [] := List.length_eq_zero_iff.1 hn
    exact ⟨none, 0, rfl, Nat.le_refl _, Nat.zero_le _, nil_ints _ _ _⟩
  · refine ⟨some ⟨g, 0, none⟩, cap, rfl, h1, h2, hn, fun j z hj => ⟨_, rfl, ?_, ?_⟩⟩
    · rcases Nat.lt_or_ge g w.heap.size with h' | h'
      · exact h'
      · rw [Array.getElem?_eq_none h'] at hh; cases hh
    · have hjl : j < n := by have := (List.getElem?_eq_some_iff.1 hj).1; omega
      rw [Addr.add_lit, Nat.zero_add, h.cellAt _ (by omega), List.getElem?_map, hj]
      rfl

theorem cell_new1 (w : World) (x : Value) (t : TypeId) : ∀ j u, [x][j]? = some u → (w.alloc (.cells #[x] t)).cell? ((⟨w.heap.size, 0, none⟩ : Addr).add j) = some u := by
  intro j u hj
  match j, hj with
  | 0, hj =>
    simp at hj
    subst hj
    show (w.alloc (.cells #[x] t)).cell? ⟨w.heap.size, 0, none⟩ = some x
    rw [World.cell?_alloc_at _ _ _ _ rfl]
    rfl
theorem one_int (k : IntKind) (x : Int) : ∀ u ∈ [Value.int k x], u.oneCell' = true := by
  intro u hu
  simp at hu
  subst hu
  rfl

theorem own_below {w w2 : World} {B e size n : Nat} {v : Value} {xs : List Value} (h : w.ownsRow B e size v n xs) (hb : Below w.heap.size w w2) : w2.ownsRow B e size v n xs := by
  refine ⟨h.1, ?_⟩
  rcases h.2 with h0 | ⟨g, cap, cur, hv, hg, hh, r⟩
  · exact .inl h0
  · have hlt : g < w.heap.size := by
      rcases Nat.lt_or_ge g w.heap.size with h' | h'
      · exact h'
      · rw [Array.getElem?_eq_none (by omega)] at hh; cases hh
    exact .inr ⟨g, cap, cur, hv, hg, by rw [hb.block g hlt]; exact hh, r⟩
/-- what is appended elsewhere leaves a row as it is -/
theorem reqs_grown {w w' : World} {o : Obj} {A : Option Addr} {n B : Nat} {rs : List Req} {row : Option Nat} (h : ReqsAt w A n rs) (hg : (w.alloc o).grownBy w' row) (hr : ∀ g, row = some g → g < B) (hA : ∀ a, A = some a → B ≤ a.block) : ReqsAt w' A n rs := by
  have h' : ReqsAt (w.alloc o) A n rs := h.below (alloc_below w o)
  refine ⟨h'.1, fun j c hc => ?_⟩
  obtain ⟨e, a, ha, hl, hv⟩ := h'.2 j c hc
  have hne : some a.block ≠ row := fun e => by
    have h1 := hr a.block e.symm
    have h2 := hA a ha
    omega
  refine ⟨e, a, ha, Nat.lt_of_lt_of_le hl hg.size, fun i v hi => ?_⟩
  have := hv i v hi
  exact hg.cell this (by rw [block_add]; exact hne)
set_option maxHeartbeats 1000000
set_option maxRecDepth 100000
theorem push_new (A : Option Addr) (n cap : Nat) (rs : List Req) (kind line left : Int) (data : ByteArray) (hn : n ≤ 100) (w : World) (h : ReqsAt w A n rs) :
    Calls Try.prog 36 #[.slice A n cap, .int .i64 kind, .int .u32 line, .int .i64 left, .string data] w fun e w' =>
      ∃ A' cap', e = .returned (.slice A' (n + 1) cap') ∧ n + 1 ≤ cap' ∧ cap' ≤ maxLen ∧ ReqsAt w' A' (n + 1) (rs ++ [⟨kind, line, if left < 1 then 1 else left, data⟩]) ∧ (∀ a, A' = some a → w.heap.size ≤ a.block) ∧ Below w.heap.size w w' := by
  obtain ⟨i0, hi, hz0, hz1, hz2⟩ := info_parts info_req
  have hl := Lib.hid h.len
  have HC := Lib.hid (clone_any A n cap rs (by omega) w h)
  clear h
  by_cases hle : left < 1
  · rw [if_pos hle]
    go_enter Try.func36, Try.ntmps36
    go_wp2_with fail
    refine HC.out.mono ?_
    rintro e w1 ⟨v, rfl, hown, hbel⟩
    go_wp2_with (at_builtin; refine wpList_append_own _ rfl (.tmp 12) (.tmp 19) 36 rfl w.heap.size 39 i0 _ 4 40 Try.underlying36 hi hz0 hz1 hz2 rfl (by decide) _ _ _ rfl (hown.alloc _) ⟨w1.heap.size, 0, none⟩ 1 1 (reqC ⟨kind, line, 1, data⟩) rfl rfl (cell_new4 _ _ _ _ _ _) (by have := reqC_one [⟨kind, line, 1, data⟩]; simpa using this) (by unfold maxLen; omega) (by omega) (by have := hbel.size; simp; omega) ?_; intro v' w2 hown' hgrow _)
    have hb1 := below_app hbel (Nat.le_refl _) hown hgrow
    rw [← flat_snoc] at hown'
    clear hgrow hown
    obtain ⟨A', cap', rfl, g1, g2, g3⟩ := ReqsAt.own hown' (by simp [hl.out])
    have hfr : ∀ a, A' = some a → w.heap.size ≤ a.block := fun a ha => by
      subst ha
      exact (hown'.lt a.block rfl).1
    go_ret
    exact ⟨_, _, rfl, g1, g2, g3, hfr, hb1⟩
  · rw [if_neg hle]
    have hge : 1 ≤ left := by omega
    clear hle
    go_enter Try.func36, Try.ntmps36
    go_wp2_with fail
    refine HC.out.mono ?_
    rintro e w1 ⟨v, rfl, hown, hbel⟩
    go_wp2_with (at_builtin; refine wpList_append_own _ rfl (.tmp 12) (.tmp 19) 36 rfl w.heap.size 39 i0 _ 4 40 Try.underlying36 hi hz0 hz1 hz2 rfl (by decide) _ _ _ rfl (hown.alloc _) ⟨w1.heap.size, 0, none⟩ 1 1 (reqC ⟨kind, line, left, data⟩) rfl rfl (cell_new4 _ _ _ _ _ _) (by have := reqC_one [⟨kind, line, left, data⟩]; simpa using this) (by unfold maxLen; omega) (by omega) (by have := hbel.size; simp; omega) ?_; intro v' w2 hown' hgrow _)
    have hb1 := below_app hbel (Nat.le_refl _) hown hgrow
    rw [← flat_snoc] at hown'
    clear hgrow hown
    obtain ⟨A', cap', rfl, g1, g2, g3⟩ := ReqsAt.own hown' (by simp [hl.out])
    have hfr : ∀ a, A' = some a → w.heap.size ≤ a.block := fun a ha => by
      subst ha
      exact (hown'.lt a.block rfl).1
    go_ret
    exact ⟨_, _, rfl, g1, g2, g3, hfr, hb1⟩

end Go.Proofs.Ytebeelphilfjhaa
