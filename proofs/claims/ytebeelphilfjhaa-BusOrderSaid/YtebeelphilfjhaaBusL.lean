/- Like of auspexref09; few and alive of auspexlaw09; appending a row of requests. -/
import Derived.Test.YtebeelphilfjhaaBusT
import Derived.Laws.StructEq
namespace Go.Proofs.Ytebeelphilfjhaa
open Go.ChangeShapes Go.WideShapes Go.ChangeAt Go.RowKit
set_option linter.unusedVariables false
set_option linter.unusedSimpArgs false

theorem wpList_append_reqs {w : World} {ops : Array Oper} {rest : List Oper} {o : Oper} {a : Act} {Q : Exit → Act → World → Prop} (hgd : o.guard = none) (s x : Operand)
    (ho : o.op = .call { callee := .builtin .append, args := #[s, x], argTypes := #[36, 36] }) (base : Nat)
    (v : Value) (n : Nat) (xs : List Value) (hs : a.eval s = v) (hown : w.ownsRow base 39 4 v n xs) (A : Option Addr) (m c : Nat) (rs : List Req) (hx : a.eval x = .slice A m c) (hr : ReqsAt w A m rs) (hA : A = none → c = 0)
    (hnm : n + m ≤ 100000) (hbase : base ≤ w.heap.size)
    (h : ∀ v' w', w'.ownsRow base 39 4 v' (n + m) (xs ++ (rs.map reqC).flatten) → w.grownBy w' v.ownBlock → wpList Try.prog ops Q rest (a.put o.dst v') w') : wpList Try.prog ops Q (o :: rest) a w := by
  obtain ⟨i0, hi, hz0, hz1, hz2⟩ := info_parts info_req
  cases A with
  | none =>
    obtain rfl : m = 0 := by
      rcases Nat.eq_zero_or_pos m with e | e
      · exact e
      · obtain ⟨r, hr'⟩ : ∃ r, rs[0]? = some r := ⟨_, List.getElem?_eq_getElem (by rw [hr.len]; exact e)⟩
        obtain ⟨a, ha, _⟩ := hr.at_ hr'
        cases ha
    obtain rfl : rs = [] := List.length_eq_zero_iff.1 hr.len
    obtain rfl : c = 0 := hA rfl
    exact wpList_append_own_none hgd s x 36 ho base 39 i0 4 Try.underlying36 hi v n xs hs hown hx (h v w (by simpa using hown) (World.grownBy.refl _ _))
  | some b =>
    have hnews := RowsAt.news hr (by decide)
    exact wpList_append_own w hgd s x 36 ho base 39 i0 _ 4 40 Try.underlying36 hi hz0 hz1 hz2 rfl (by decide) v n xs hs hown b m c _ hx hnews.1 hnews.2 (reqC_one rs) (by unfold maxLen; omega) (by omega) hbase (fun v' w' h1 h2 _ => h v' w' h1 h2)

set_option maxHeartbeats 1000000
theorem few09_any (A : Option Addr) (n cap : Nat) (hn : n ≤ cap) (hm : cap ≤ maxLen) (w : World) :
    Calls Try.prog 39 #[.slice A n cap] w fun e w' => e = .returned (.slice A (min n 40) cap) ∧ w = w' := by
  unfold maxLen at hm
  by_cases h : n ≤ 40
  · rw [Nat.min_eq_left h]
    have h2 : (n : Int) ≤ 40 := by omega
    go_enter Try.func39, Try.ntmps39
    go_wp2
    go_ret
    exact ⟨rfl, rfl⟩
  · rw [Nat.min_eq_right (by omega)]
    have h2 : 40 < (n : Int) := by omega
    have h3 : 40 < cap := by omega
    clear h
    go_enter Try.func39, Try.ntmps39
    go_wp2
    go_ret
    exact ⟨rfl, rfl⟩

theorem one_ints (w : World) (x : Int) : IntsAt (w.alloc (.cells #[.int .i64 x] 3)) (some ⟨w.heap.size, 0, none⟩) 1 .i64 [x] :=
  ⟨rfl, fun j z hz => by
    match j, hz with
    | 0, hz =>
      obtain rfl : x = z := by simpa using hz
      exact ⟨_, rfl, by simp, by rw [Addr.add_lit, World.cell?_alloc_at _ _ _ _ rfl]; rfl⟩⟩
theorem two_ints (w : World) (x y : Int) : IntsAt (w.alloc (.cells #[.int .i64 x, .int .i64 y] 3)) (some ⟨w.heap.size, 0, none⟩) 2 .i64 [x, y] :=
  ⟨rfl, fun j z hz => by
    match j, hz with
    | 0, hz =>
      obtain rfl : x = z := by simpa using hz
      exact ⟨_, rfl, by simp, by rw [Addr.add_lit, World.cell?_alloc_at _ _ _ _ rfl]; rfl⟩
    | 1, hz =>
      obtain rfl : y = z := by simpa using hz
      exact ⟨_, rfl, by simp, by rw [Addr.add_lit, World.cell?_alloc_at _ _ _ _ rfl]; rfl⟩⟩
theorem reqs_nil (w : World) (A : Option Addr) : ReqsAt w A 0 [] := RowsAt.nil _ _ _
theorem alive09_any (w : World) : Calls Try.prog 38 #[] w fun e w' => e = .returned (.bool true) ∧ Below w.heap.size w w' := by
  go_enter Try.func38, Try.ntmps38
  go_wp2_with fail
  refine (push_any none 0 0 [] 1 16 1 (ByteArray.mk #[]) (by omega) _ (reqs_nil _ _)).mono ?_
  rintro e w1 ⟨A, c, rfl, h1, h2, h3, hb⟩
  have h4 := h3.below ((Below.refl w1.heap.size w1).alloc (Nat.le_refl _) (.cells #[.int .i64 1] 3))
  have hk := one_ints w1 1
  go_wp2_with fail
  refine (has_any A _ 1 c 1 1 _ 16 [1] (by omega) (by omega) _ h4 hk).mono ?_
  rintro e w2 ⟨rfl, hb2⟩
  have hb3 := (hb.alloc hb.size (.cells #[.int .i64 1] 3)).trans (hb2.mono (by have := hb.size; simp; omega))
  go_wp2
  go_ret
  exact ⟨rfl, hb3⟩

theorem below_drewN {B : Nat} {a w : World} (h : Below B a w) (n : Nat) : Below B a (w.drewN n) := ⟨h.os, h.tape, h.output, h.size, h.block⟩
theorem eq_req (x y : Req) : (x = y) ↔ (x.kind = y.kind ∧ x.line = y.line ∧ x.left = y.left ∧ x.data = y.data) := by
  cases x; cases y; simp
theorem fieldsOf_eq {P : Program} {t : TypeId} {fs : Array Field} (h : P.underlying t = some (.struct fs)) : P.fieldsOf t = fs := by unfold Program.fieldsOf; rw [h]
theorem run_neq_req (x y : Req) (t : Bool) (ht : t = true ↔ x = y) (w : World) : (binOp .neq 39 (.agg #[.int .i64 x.kind, .int .u32 x.line, .int .i64 x.left, .string x.data]) (.agg #[.int .i64 y.kind, .int .u32 y.line, .int .i64 y.left, .string y.data])).run Try.prog w = .ok (.bool (!t)) w := by
  have hf := fieldsOf_eq Try.underlying39
  rw [run_neq_struct, run_equalIn_agg w 9999 39 _ _ (by rw [hf]; exact Try.underlying39) (by kernel_rfl), hf]
  simp [Op.eqFields, go_sem, Try.underlying3, Try.underlying30, Try.underlying9, run_equalIn_int _ _ _ _ _ _ _ Try.underlying3, run_equalIn_int _ _ _ _ _ _ _ Try.underlying30, run_equalIn_string _ _ _ _ _ Try.underlying9]
  have hd : (x.data.toList = y.data.toList) ↔ x.data = y.data := by
    rw [ByteArray.toList_eq, ByteArray.toList_eq]
    refine ⟨fun h => ?_, fun h => by rw [h]⟩
    have : x.data.data = y.data.data := Array.ext' h
    cases hx : x.data; cases hy : y.data
    rw [hx, hy] at this
    congr
  rw [eq_req] at ht
  by_cases c1 : x.kind = y.kind
  · by_cases c2 : x.line = y.line
    · by_cases c3 : x.left = y.left
      · by_cases c4 : x.data = y.data
        · obtain rfl : t = true := ht.2 ⟨c1, c2, c3, c4⟩
          simp [c1, c2, c3, hd, c4]
        · obtain rfl : t = false := by cases t; rfl; exact absurd (ht.1 rfl).2.2.2 c4
          simp [c1, c2, c3, hd, c4]
      · obtain rfl : t = false := by cases t; rfl; exact absurd (ht.1 rfl).2.2.1 c3
        simp [c1, c2, c3]
    · obtain rfl : t = false := by cases t; rfl; exact absurd (ht.1 rfl).2.1 c2
      simp [c1, c2]
  · obtain rfl : t = false := by cases t; rfl; exact absurd (ht.1 rfl).1 c1
    simp [c1]
theorem like_step {a b : List Req} {k : Nat} (hl : a.length = b.length) (x y : Req) (hx : a[k]? = some x) (hy : b[k]? = some y) (h : a.take k = b.take k) : (x = y → a.take (k + 1) = b.take (k + 1)) ∧ (x ≠ y → a ≠ b) := by
  refine ⟨fun e => ?_, fun e h => ?_⟩
  · rw [List.take_add_one, List.take_add_one, h, hx, hy, e]
  · rw [h, hy] at hx
    exact e (Option.some.inj hx).symm
theorem like_any (A B : Option Addr) (n m ca cb : Nat) (a b : List Req) (hn : n ≤ 1000) (hm : m ≤ 1000) (w : World) (ha : ReqsAt w A n a) (hb : ReqsAt w B m b) :
    Calls Try.prog 40 #[.slice A n ca, .slice B m cb] w fun e w' => ∃ t : Bool, e = .returned (.bool t) ∧ (t = true ↔ a = b) ∧ Below w.heap.size w w' := by
  have la := Lib.hid ha.len
  have lb := Lib.hid hb.len
  by_cases hnm : n = m
  · subst hnm
    go_enter Try.func40, Try.ntmps40
    go_wp2
    go_loopw [13] (fun i wr => ∃ k : Nat, k ≤ n ∧ i = .int .i64 k ∧ a.take k = b.take k ∧ Below w.heap.size w wr) (fun i _ => n - (intOf i).toNat)
    case atStart => exact ⟨0, Nat.zero_le _, rfl, rfl, Below.refl _ _⟩
    case round =>
      obtain ⟨k, hk, rfl, htk, hbel⟩ := hrel
      by_cases hkn : k < n
      · obtain ⟨x, hx⟩ : ∃ r, a[k]? = some r := ⟨_, List.getElem?_eq_getElem (by rw [la.out]; exact hkn)⟩
        obtain ⟨y, hy⟩ : ∃ r, b[k]? = some r := ⟨_, List.getElem?_eq_getElem (by rw [lb.out]; exact hkn)⟩
        obtain ⟨s1, s2⟩ := like_step (by rw [la.out, lb.out]) x y hx hy htk
        have S1 := Lib.hid s1
        have S2 := Lib.hid s2
        obtain ⟨pa, rfl, _, a0, a1, a2, a3⟩ := (ha.below hbel).at_ hx
        obtain ⟨pb, rfl, _, b0, b1, b2, b3⟩ := (hb.below hbel).at_ hy
        clear hx hy htk s1 s2
        by_cases e : x = y
        · have hq := fun wx => run_neq_req x y true (by simp [e]) wx
          simp only [Bool.not_true] at hq
          have HN := Lib.hid (S1.out e)
          clear e S1 S2
          go_wp2
          go_quiet (fail)
          go_wp2
          go_roundw
          case rel => exact ⟨k + 1, by omega, by go_num, HN.out, below_drewN hbel _⟩
          case measure => simp [intOf]; omega
        · have hq := fun wx => run_neq_req x y false (by simp [e]) wx
          simp only [Bool.not_false] at hq
          have HN := Lib.hid (S2.out e)
          clear e S1 S2
          go_wp2
          go_quiet (fail)
          go_wp2
          go_ret
          exact ⟨false, rfl, by simp [HN.out], below_drewN hbel _⟩
      · have hkn' : k = n := by omega
        have HN := Lib.hid (show a = b by rw [hkn', List.take_of_length_le (by rw [la.out]; exact Nat.le_refl _), List.take_of_length_le (by rw [lb.out]; exact Nat.le_refl _)] at htk; exact htk)
        clear htk
        subst hkn'
        go_wp2
        go_ret
        exact ⟨true, rfl, by simp [HN.out], hbel⟩
  · have hnm' : ((n : Int) != m) = true := by simp; omega
    have HN := Lib.hid (show a ≠ b from fun e => hnm (by rw [← la.out, ← lb.out, e]))
    go_enter Try.func40, Try.ntmps40
    go_wp2
    go_ret
    exact ⟨false, rfl, by simp [HN.out], Below.refl _ _⟩

theorem like_same (A B : Option Addr) (n ca cb : Nat) (a : List Req) (hn : n ≤ 1000) (w : World) (ha : ReqsAt w A n a) (hb : ReqsAt w B n a) :
    Calls Try.prog 40 #[.slice A n ca, .slice B n cb] w fun e w' => e = .returned (.bool true) ∧ Below w.heap.size w w' := by
  refine (like_any A B n n ca cb a a hn hn w ha hb).mono ?_
  rintro e w' ⟨t, rfl, ht, b⟩
  obtain rfl : t = true := ht.2 rfl
  exact ⟨rfl, b⟩
theorem tick_no {p : List Req} (h : (tickR p).2.2 = false) : (tickR p).1.length = p.length ∧ (tickR p).1.drop 1 = p.drop 1 := by
  cases p with
  | nil => exact ⟨rfl, rfl⟩
  | cons r tl =>
    unfold tickR at h ⊢
    by_cases c : 0 < wrap64 (r.left - 1)
    · simp only [if_pos c]; exact ⟨rfl, rfl⟩
    · simp [if_neg c] at h
theorem tick_yes {p : List Req} (h : (tickR p).2.2 = true) : 0 < p.length ∧ (tickR p).1 = p.drop 1 ∧ (tickR p).2.1.left ≤ 0 := by
  cases p with
  | nil => cases h
  | cons r tl =>
    unfold tickR at h ⊢
    by_cases c : 0 < wrap64 (r.left - 1)
    · simp [if_pos c] at h
    · simp only [if_neg c]; exact ⟨by simp, rfl, by omega⟩
theorem alloc_below (w : World) (o : Obj) : Below w.heap.size w (w.alloc o) := (Below.refl _ _).alloc (Nat.le_refl _) o
theorem alloc_then {w w' : World} {o : Obj} (b : Below (w.alloc o).heap.size (w.alloc o) w') : Below w.heap.size w w' := (alloc_below w o).trans (b.mono (by simp))
theorem nil_ints (w : World) (A : Option Addr) (k : IntKind) : IntsAt w A 0 k [] := ⟨rfl, fun j z hz => by simp at hz⟩
theorem has_app (p q : List Req) (l : Int) (ks : List Int) : hasB (p ++ q) l ks = (hasB p l ks || hasB q l ks) := by unfold hasB; rw [List.any_append]
theorem reads_app (p q : List Req) : readsN (p ++ q) = readsN p + readsN q := by unfold readsN; rw [List.filter_append, List.length_append]
theorem reads_le (p : List Req) : readsN p ≤ p.length := List.length_filter_le _ _
theorem has_none (p : List Req) (l : Int) : hasB p l [] = false := by unfold hasB; simp
theorem has_two (p : List Req) (l k : Int) : hasB p l [k, k] = hasB p l [k] := by unfold hasB; simp
theorem has_push (p : List Req) (k l f : Int) (s : ByteArray) : hasB (p ++ [⟨k, l, f, s⟩]) l [k] = true := by rw [has_app]; unfold hasB; simp

end Go.Proofs.Ytebeelphilfjhaa
