import Derived.Test.YtkamljmopbocnaaDoorChecked
import Derived.Test.YtkamljmopbocnaaDoorArgB
import Derived.WalkKit
import Derived.ProofKit
import Derived.WalkLawsBesides
import Derived.Test.YtkamljmopbocnaaDoorOwnB
import Derived.Laws.StructEq
/- ROWS OF EVENTS, as lists: how many two have in common. -/
namespace Go.Proofs.YtkamljmopbocnaaDoor
set_option maxRecDepth 100000

def sameL {α : Type} [DecidableEq α] : List α → List α → Nat
  | x :: a, y :: b => if x = y then sameL a b + 1 else 0
  | _, _ => 0
theorem sameL_comm {α : Type} [DecidableEq α] : ∀ (a b : List α), sameL a b = sameL b a
  | [], [] => rfl
  | [], y :: b => rfl
  | x :: a, [] => rfl
  | x :: a, y :: b => by
    unfold sameL
    by_cases h : x = y
    · subst h; rw [if_pos rfl, if_pos rfl, sameL_comm a b]
    · rw [if_neg h, if_neg (fun e => h e.symm)]
theorem sameL_le {α : Type} [DecidableEq α] : ∀ (a b : List α), sameL a b ≤ a.length ∧ sameL a b ≤ b.length
  | [], b => ⟨Nat.zero_le _, Nat.zero_le _⟩
  | x :: a, [] => ⟨Nat.zero_le _, Nat.zero_le _⟩
  | x :: a, y :: b => by
    have := sameL_le a b
    unfold sameL
    simp only [List.length_cons]
    split <;> omega
theorem sameL_self {α : Type} [DecidableEq α] : ∀ (a : List α), sameL a a = a.length
  | [] => rfl
  | x :: a => by unfold sameL; rw [if_pos rfl, sameL_self a]; rfl
/-- where the common part ends -/
theorem sameL_at {α : Type} [DecidableEq α] : ∀ (k : Nat) (a b : List α), (∀ j, j < k → a[j]? = b[j]? ∧ a[j]? ≠ none) → (a[k]? = none ∨ b[k]? = none ∨ a[k]? ≠ b[k]?) → sameL a b = k
  | 0, a, b, _, h => by
    match a, b, h with
    | [], _, _ => rfl
    | _ :: _, [], _ => rfl
    | x :: a, y :: b, h =>
      unfold sameL
      rw [if_neg (fun e => by subst e; simp at h)]
  | k + 1, a, b, hall, h => by
    match a, b, hall with
    | [], _, hall => exact absurd rfl (hall 0 (by omega)).2
    | x :: a, [], hall => have := (hall 0 (by omega)).1; simp at this
    | x :: a, y :: b, hall =>
      have h0 := (hall 0 (by omega)).1
      have e : x = y := by simpa using h0
      unfold sameL
      rw [if_pos e, sameL_at k a b (fun j hj => by have := hall (j + 1) (by omega); simpa using this) (by simpa using h)]
theorem sameL_eq {α : Type} [DecidableEq α] (a b : List α) (h : a.length = b.length) : sameL a b = a.length ↔ a = b := by
  constructor
  · intro hs
    induction a generalizing b with
    | nil => exact (List.length_eq_zero_iff.1 h.symm).symm
    | cons x a ih =>
      match b, h with
      | y :: b, h =>
        unfold sameL at hs
        by_cases e : x = y
        · rw [if_pos e] at hs
          rw [e, ih b (by simpa using h) (by simpa using hs)]
        · rw [if_neg e] at hs; simp at hs
  · rintro rfl; exact sameL_self _

end Go.Proofs.YtkamljmopbocnaaDoor

/- THE CONTRACTS of trace.event and of auspexref07's Event. -/
namespace Go.Proofs.YtkamljmopbocnaaDoor
open Go.ChangeShapes Go.WideShapes Go.ChangeAt Go.RowKit
set_option maxRecDepth 100000
set_option linter.unusedVariables false
set_option linter.unusedSimpArgs false
set_option maxHeartbeats 4000000
theorem ret_int {k : IntKind} {a b : Int} (h : a = b) : Ending.returned (.int k a) = .returned (.int k b) := by rw [h]
theorem ret_bool {a b : Bool} (h : a = b) : Ending.returned (.bool a) = .returned (.bool b) := by rw [h]

/-- what a step tells -/
def evOf (b : Bool) (s : St) : Ev := ⟨s.pc, s.addr, s.size, s.took, if (b && !s.store && decide (0 < s.size)) = true then s.value else 0, s.halt⟩
theorem event_any (s : St) (b : Bool) (w : World) : Calls Tryd.prog 30 #[stV s, .bool b] w fun e w' => e = .returned (evV (evOf b s)) ∧ Below w.heap.size w w' := by
  obtain ⟨pc, next, rd, value, addr, size, store, halt, took⟩ := s
  have he : evOf b ⟨pc, next, rd, value, addr, size, store, halt, took⟩ = ⟨pc, addr, size, took, if (b && !store && decide (0 < size)) = true then value else 0, halt⟩ := rfl
  unfold stV
  by_cases hs : 0 < size
  · have hd : decide (0 < size) = true := decide_eq_true hs
    rw [hd] at he
    clear hd
    cases b <;> cases store
    · rw [if_neg (by simp)] at he
      have HE := Lib.hid he
      clear he
      go_enter Tryd.func30, Tryd.ntmps30
      go_wp2
      refine bodyPost_ret (v := evV ⟨pc, addr, size, took, 0, halt⟩) (by simp [results, Tryd.results30, go_sem, evV]) rfl ⟨?_, ?_⟩
      · rw [HE.out]
      · repeat (first | exact Below.refl _ _ | refine Below.alloc ?_ (by first | (simp; done) | (simp; omega)) _)
    · rw [if_neg (by simp)] at he
      have HE := Lib.hid he
      clear he
      go_enter Tryd.func30, Tryd.ntmps30
      go_wp2
      refine bodyPost_ret (v := evV ⟨pc, addr, size, took, 0, halt⟩) (by simp [results, Tryd.results30, go_sem, evV]) rfl ⟨?_, ?_⟩
      · rw [HE.out]
      · repeat (first | exact Below.refl _ _ | refine Below.alloc ?_ (by first | (simp; done) | (simp; omega)) _)
    · rw [if_pos (by simp)] at he
      have HE := Lib.hid he
      clear he
      go_enter Tryd.func30, Tryd.ntmps30
      go_wp2
      refine bodyPost_ret (v := evV ⟨pc, addr, size, took, value, halt⟩) (by simp [results, Tryd.results30, go_sem, evV]) rfl ⟨?_, ?_⟩
      · rw [HE.out]
      · repeat (first | exact Below.refl _ _ | refine Below.alloc ?_ (by first | (simp; done) | (simp; omega)) _)
    · rw [if_neg (by simp)] at he
      have HE := Lib.hid he
      clear he
      go_enter Tryd.func30, Tryd.ntmps30
      go_wp2
      refine bodyPost_ret (v := evV ⟨pc, addr, size, took, 0, halt⟩) (by simp [results, Tryd.results30, go_sem, evV]) rfl ⟨?_, ?_⟩
      · rw [HE.out]
      · repeat (first | exact Below.refl _ _ | refine Below.alloc ?_ (by first | (simp; done) | (simp; omega)) _)
  · have hd : decide (0 < size) = false := decide_eq_false hs
    rw [hd] at he
    rw [if_neg (by simp)] at he
    have HE := Lib.hid he
    clear he
    cases b <;> cases store
    · go_enter Tryd.func30, Tryd.ntmps30
      go_wp2
      refine bodyPost_ret (v := evV ⟨pc, addr, size, took, 0, halt⟩) (by simp [results, Tryd.results30, go_sem, evV]) rfl ⟨?_, ?_⟩
      · rw [HE.out]
      · repeat (first | exact Below.refl _ _ | refine Below.alloc ?_ (by first | (simp; done) | (simp; omega)) _)
    · go_enter Tryd.func30, Tryd.ntmps30
      go_wp2
      refine bodyPost_ret (v := evV ⟨pc, addr, size, took, 0, halt⟩) (by simp [results, Tryd.results30, go_sem, evV]) rfl ⟨?_, ?_⟩
      · rw [HE.out]
      · repeat (first | exact Below.refl _ _ | refine Below.alloc ?_ (by first | (simp; done) | (simp; omega)) _)
    · go_enter Tryd.func30, Tryd.ntmps30
      go_wp2
      refine bodyPost_ret (v := evV ⟨pc, addr, size, took, 0, halt⟩) (by simp [results, Tryd.results30, go_sem, evV]) rfl ⟨?_, ?_⟩
      · rw [HE.out]
      · repeat (first | exact Below.refl _ _ | refine Below.alloc ?_ (by first | (simp; done) | (simp; omega)) _)
    · go_enter Tryd.func30, Tryd.ntmps30
      go_wp2
      refine bodyPost_ret (v := evV ⟨pc, addr, size, took, 0, halt⟩) (by simp [results, Tryd.results30, go_sem, evV]) rfl ⟨?_, ?_⟩
      · rw [HE.out]
      · repeat (first | exact Below.refl _ _ | refine Below.alloc ?_ (by first | (simp; done) | (simp; omega)) _)
end Go.Proofs.YtkamljmopbocnaaDoor

/- THE CONTRACTS of trace.Of and Same, of auspexref07's Of, Same and Like, of alive. -/
namespace Go.Proofs.YtkamljmopbocnaaDoor
open Go.ChangeShapes Go.WideShapes Go.ChangeAt Go.RowKit
set_option maxRecDepth 100000
set_option linter.unusedVariables false
set_option linter.unusedSimpArgs false
set_option maxHeartbeats 2000000

theorem info_ev : (Tryd.prog.info? 68).map (fun i => (i.zero, i.size, i.bytes)) = some (some (.agg #[.int .u32 0, .int .u32 0, .int .i64 0, .int .i64 0, .int .u32 0, .int .i64 0]), 6, 40) := by kernel_rfl
theorem event_to (s : St) (b : Bool) (x : Ev) (h : evOf b s = x) (w : World) : Calls Tryd.prog 30 #[stV s, .bool b] w fun e w' => e = .returned (evV x) ∧ Below w.heap.size w w' := by rw [← h]; exact event_any s b w
theorem cell_new6 (w : World) (v0 v1 v2 v3 v4 v5 : Value) (t : TypeId) : ∀ j u, [v0, v1, v2, v3, v4, v5][j]? = some u → (w.alloc (.cells #[v0, v1, v2, v3, v4, v5] t)).cell? ((⟨w.heap.size, 0, none⟩ : Addr).add j) = some u := by
  intro j u hj
  rw [Addr.add_lit, Nat.zero_add]
  rw [World.cell?_alloc_at _ _ _ _ rfl]
  match j, hj with
  | 0, hj => simpa using hj
  | 1, hj => simpa using hj
  | 2, hj => simpa using hj
  | 3, hj => simpa using hj
  | 4, hj => simpa using hj
  | 5, hj => simpa using hj
theorem evC_one (e : Ev) : ∀ u ∈ evC e, u.oneCell' = true := by
  intro u hu
  simp only [evC, List.mem_cons, List.not_mem_nil, or_false] at hu
  rcases hu with rfl | rfl | rfl | rfl | rfl | rfl <;> rfl
theorem ev_snoc (ss : List St) (b : Bool) (k : Nat) (s : St) (h : ss[k]? = some s) : (((ss.take (k + 1)).map (evOf b)).map evC).flatten = (((ss.take k).map (evOf b)).map evC).flatten ++ evC (evOf b s) := by
  rw [List.take_add_one, h]
  simp

theorem trOf_any (A : Option Addr) (n c : Nat) (ss : List St) (b : Bool) (hn : n ≤ 1000) (w : World) (hs : StepsAt w A n ss) :
    Calls Tryd.prog 14 #[.slice A n c, .bool b] w fun e w' => ∃ A' c', e = .returned (.slice A' n c') ∧ n ≤ c' ∧ c' ≤ maxLen ∧ EvsAt w' A' n (ss.map (evOf b)) ∧ Below w.heap.size w w' := by
  obtain ⟨i0, hi, hz0, hz1, hz2⟩ := info_parts info_ev
  have HS := Lib.hid hs
  have hl := Lib.hid hs.len
  clear hs
  go_enter Tryd.func14, Tryd.ntmps14
  go_wp2_with (at_make; refine wpList_make_own _ rfl _ _ 42 rfl w.heap.size 68 i0 _ 6 Tryd.underlying42 hi hz0 hz1 .i64 .i64 _ n rfl rfl rfl (by rw [hz2]; omega) (by unfold maxLen; omega) (Nat.le_refl _) ?_; intro w0 hown0 hgrow0)
  have hb0 : Below w.heap.size w w0 := (Below.refl w.heap.size w).grown hgrow0 (Nat.le_refl _) (fun k hk => by cases hk)
  have HO0 := Lib.hid hown0
  have HB0 := Lib.hid hb0
  clear hown0 hgrow0 hb0
  go_loopw [5, 13] (fun v i wr => ∃ k : Nat, k ≤ n ∧ i = .int .i64 k ∧ wr.ownsRow w.heap.size 68 6 v k (((ss.take k).map (evOf b)).map evC).flatten ∧ Below w.heap.size w wr) (fun _ i _ => n - (intOf i).toNat)
  case atStart => exact ⟨0, Nat.zero_le _, rfl, HO0.out, HB0.out⟩
  case round =>
    obtain ⟨k, hk, rfl, hown, hbel⟩ := hrel
    have HB := Lib.hid hbel
    have hsz := hbel.size
    clear hbel
    by_cases hlt : k < n
    · obtain ⟨s, hsk⟩ : ∃ s, ss[k]? = some s := ⟨_, List.getElem?_eq_getElem (by rw [hl.out]; exact hlt)⟩
      obtain ⟨a, rfl, _, a0, a1, a2, a3, a4, a5, a6, a7, a8⟩ := (HS.out.below HB.out).at_ hsk
      have SN := Lib.hid (ev_snoc ss b k s hsk)
      obtain ⟨x, hx⟩ : ∃ x, evOf b s = x := ⟨_, rfl⟩
      rw [hx] at SN
      have HX := Lib.hid hx
      obtain ⟨xpc, xaddr, xsize, xtook, xloaded, xhalt⟩ := x
      have HO := Lib.hid hown
      clear hx hsk hown
      go_wp2_with (first
        | (go_at_call 30; refine (event_to s b _ HX.out _).mono ?_; rintro e w1 ⟨rfl, hb1⟩; simp only [evV]; have hs1 := hb1.size; simp at hs1; have HB1 := Lib.hid hb1; have HO1 := Lib.hid (own_below (HO.out.alloc _) hb1); clear hb1)
        | (at_builtin; refine wpList_append_own _ rfl (.tmp 17) (.tmp 21) 42 rfl w.heap.size 68 i0 _ 6 40 Tryd.underlying42 hi hz0 hz1 hz2 rfl (by decide) _ _ _ rfl (HO1.out.alloc _) ⟨w1.heap.size, 0, none⟩ 1 1 (evC ⟨xpc, xaddr, xsize, xtook, xloaded, xhalt⟩) rfl rfl (cell_new6 _ _ _ _ _ _ _ _) (evC_one _) (by unfold maxLen; omega) (by omega) (by simp; omega) ?_; intro v' w2 hown2 hgrow2 hnil2))
      have hb2 := (((HB.out.alloc (by exact hsz) _).trans (HB1.out.mono (by simp; omega))).alloc (by have := HB.out.size; omega) (.cells #[.int .u32 xpc, .int .u32 xaddr, .int .i64 xsize, .int .i64 xtook, .int .u32 xloaded, .int .i64 xhalt] 68)).grown hgrow2 (by simp; omega) (fun j hj => (HO1.out.lt j hj).1)
      have ho2 := hown2
      rw [← SN.out] at ho2
      have HO2 := Lib.hid ho2
      have HB2 := Lib.hid hb2
      clear hown2 hgrow2 hnil2 hb2 ho2
      go_roundw
      case rel => exact ⟨k + 1, by omega, by go_num, HO2.out, HB2.out⟩
      case measure => simp [intOf]; omega
    · obtain rfl : k = n := by omega
      rw [List.take_of_length_le (by rw [hl.out]; exact Nat.le_refl _)] at hown
      obtain ⟨A', c', rfl, g1, g2, g3⟩ := EvsAt.own hown (by rw [List.length_map]; exact hl.out)
      have G := Lib.hid (And.intro g1 (And.intro g2 g3))
      clear hown g1 g2 g3
      go_wp2
      go_ret
      exact ⟨A', c', rfl, G.out.1, G.out.2.1, G.out.2.2, HB.out⟩

theorem below_dr (B : Nat) (w : World) (q : Nat) : Below B w (w.drewN q) := ⟨rfl, rfl, rfl, Nat.le_refl _, fun _ _ => rfl⟩
theorem drew_join (w : World) (q n : Nat) : (w.drewN q).drewN n = w.drewN (q + n) := by simp [World.drewN, Nat.add_assoc]
theorem fieldsOf_eq {P : Program} {t : TypeId} {fs : Array Field} (h : P.underlying t = some (.struct fs)) : P.fieldsOf t = fs := by unfold Program.fieldsOf; rw [h]
theorem eq_ev (x y : Ev) : (x = y) ↔ (x.pc = y.pc ∧ x.addr = y.addr ∧ x.size = y.size ∧ x.took = y.took ∧ x.loaded = y.loaded ∧ x.halt = y.halt) := by
  cases x; cases y; simp
theorem run_eql_ev (x y : Ev) (t : Bool) (ht : t = true ↔ x = y) (w : World) : (binOp .eql 68 (.agg #[.int .u32 x.pc, .int .u32 x.addr, .int .i64 x.size, .int .i64 x.took, .int .u32 x.loaded, .int .i64 x.halt]) (.agg #[.int .u32 y.pc, .int .u32 y.addr, .int .i64 y.size, .int .i64 y.took, .int .u32 y.loaded, .int .i64 y.halt])).run Tryd.prog w = .ok (.bool t) w := by
  have hf := fieldsOf_eq Tryd.underlying68
  rw [run_eql_struct, run_equalIn_agg w 9999 68 _ _ (by rw [hf]; exact Tryd.underlying68) (by kernel_rfl), hf]
  simp [Op.eqFields, go_sem, Tryd.underlying3, Tryd.underlying25, run_equalIn_int _ _ _ _ _ _ _ Tryd.underlying3, run_equalIn_int _ _ _ _ _ _ _ Tryd.underlying25]
  rw [eq_ev] at ht
  by_cases c1 : x.pc = y.pc
  · by_cases c2 : x.addr = y.addr
    · by_cases c3 : x.size = y.size
      · by_cases c4 : x.took = y.took
        · by_cases c5 : x.loaded = y.loaded
          · by_cases c6 : x.halt = y.halt
            · obtain rfl : t = true := ht.2 ⟨c1, c2, c3, c4, c5, c6⟩
              simp [c1, c2, c3, c4, c5, c6]
            · obtain rfl : t = false := by cases t; rfl; exact absurd (ht.1 rfl).2.2.2.2.2 c6
              simp [c1, c2, c3, c4, c5, c6]
          · obtain rfl : t = false := by cases t; rfl; exact absurd (ht.1 rfl).2.2.2.2.1 c5
            simp [c1, c2, c3, c4, c5]
        · obtain rfl : t = false := by cases t; rfl; exact absurd (ht.1 rfl).2.2.2.1 c4
          simp [c1, c2, c3, c4]
      · obtain rfl : t = false := by cases t; rfl; exact absurd (ht.1 rfl).2.2.1 c3
        simp [c1, c2, c3]
    · obtain rfl : t = false := by cases t; rfl; exact absurd (ht.1 rfl).2.1 c2
      simp [c1, c2]
  · obtain rfl : t = false := by cases t; rfl; exact absurd (ht.1 rfl).1 c1
    simp [c1]
theorem run_neq_ev (x y : Ev) (t : Bool) (ht : t = true ↔ x = y) (w : World) : (binOp .neq 68 (.agg #[.int .u32 x.pc, .int .u32 x.addr, .int .i64 x.size, .int .i64 x.took, .int .u32 x.loaded, .int .i64 x.halt]) (.agg #[.int .u32 y.pc, .int .u32 y.addr, .int .i64 y.size, .int .i64 y.took, .int .u32 y.loaded, .int .i64 y.halt])).run Tryd.prog w = .ok (.bool (!t)) w := by
  have hf := fieldsOf_eq Tryd.underlying68
  rw [run_neq_struct, run_equalIn_agg w 9999 68 _ _ (by rw [hf]; exact Tryd.underlying68) (by kernel_rfl), hf]
  simp [Op.eqFields, go_sem, Tryd.underlying3, Tryd.underlying25, run_equalIn_int _ _ _ _ _ _ _ Tryd.underlying3, run_equalIn_int _ _ _ _ _ _ _ Tryd.underlying25]
  rw [eq_ev] at ht
  by_cases c1 : x.pc = y.pc
  · by_cases c2 : x.addr = y.addr
    · by_cases c3 : x.size = y.size
      · by_cases c4 : x.took = y.took
        · by_cases c5 : x.loaded = y.loaded
          · by_cases c6 : x.halt = y.halt
            · obtain rfl : t = true := ht.2 ⟨c1, c2, c3, c4, c5, c6⟩
              simp [c1, c2, c3, c4, c5, c6]
            · obtain rfl : t = false := by cases t; rfl; exact absurd (ht.1 rfl).2.2.2.2.2 c6
              simp [c1, c2, c3, c4, c5, c6]
          · obtain rfl : t = false := by cases t; rfl; exact absurd (ht.1 rfl).2.2.2.2.1 c5
            simp [c1, c2, c3, c4, c5]
        · obtain rfl : t = false := by cases t; rfl; exact absurd (ht.1 rfl).2.2.2.1 c4
          simp [c1, c2, c3, c4]
      · obtain rfl : t = false := by cases t; rfl; exact absurd (ht.1 rfl).2.2.1 c3
        simp [c1, c2, c3]
    · obtain rfl : t = false := by cases t; rfl; exact absurd (ht.1 rfl).2.1 c2
      simp [c1, c2]
  · obtain rfl : t = false := by cases t; rfl; exact absurd (ht.1 rfl).1 c1
    simp [c1]

theorem same_any (A B : Option Addr) (n m ca cb : Nat) (a b : List Ev) (hn : n ≤ 1000) (hm : m ≤ 1000) (w : World) (ha : EvsAt w A n a) (hb : EvsAt w B m b) :
    Calls Tryd.prog 13 #[.slice A n ca, .slice B m cb] w fun e w' => ∃ q, e = .returned (.int .i64 (sameL a b)) ∧ w' = w.drewN q := by
  have la := Lib.hid ha.len
  have lb := Lib.hid hb.len
  have HA := Lib.hid ha
  have HB := Lib.hid hb
  clear ha hb
  go_enter Tryd.func13, Tryd.ntmps13
  go_wp2
  go_loopw [5] (fun i wr => ∃ k q : Nat, k ≤ n ∧ k ≤ m ∧ i = .int .i64 k ∧ (∀ j, j < k → a[j]? = b[j]? ∧ a[j]? ≠ none) ∧ wr = w.drewN q) (fun i _ => n - (intOf i).toNat)
  case atStart => exact ⟨0, 0, Nat.zero_le _, Nat.zero_le _, rfl, fun j hj => absurd hj (by omega), rfl⟩
  case round =>
    obtain ⟨k, q, hk, hk2, rfl, hall, rfl⟩ := hrel
    have HALL := Lib.hid hall
    clear hall
    by_cases hkn : k < n
    · by_cases hkm : k < m
      · obtain ⟨x, hx⟩ : ∃ r, a[k]? = some r := ⟨_, List.getElem?_eq_getElem (by rw [la.out]; exact hkn)⟩
        obtain ⟨y, hy⟩ : ∃ r, b[k]? = some r := ⟨_, List.getElem?_eq_getElem (by rw [lb.out]; exact hkm)⟩
        obtain ⟨pa, rfl, _, a0, a1, a2, a3, a4, a5⟩ := HA.out.at_ hx
        obtain ⟨pb, rfl, _, b0, b1, b2, b3, b4, b5⟩ := HB.out.at_ hy
        have HX := Lib.hid (And.intro hx hy)
        clear hx hy
        by_cases e : x = y
        · have hq := fun wx => run_eql_ev x y true (by simp [e]) wx
          have HE := Lib.hid e
          clear e
          go_wp2
          go_quiet (fail)
          go_wp2
          go_roundw
          case rel =>
            refine ⟨k + 1, q + nq, by omega, by omega, by go_num, fun j hj => ?_, rfl⟩
            by_cases hjk : j = k
            · subst hjk
              rw [HX.out.1, HX.out.2, HE.out]
              exact ⟨rfl, by simp⟩
            · exact HALL.out j (by omega)
          case measure => simp [intOf]; omega
        · have hq := fun wx => run_eql_ev x y false (by simp [e]) wx
          have HE := Lib.hid e
          clear e
          have HS := Lib.hid (sameL_at k a b HALL.out (.inr (.inr (by rw [HX.out.1, HX.out.2]; exact fun h => HE.out (Option.some.inj h)))))
          go_wp2
          go_quiet (fail)
          go_wp2
          go_ret
          exact ⟨q + nq, by rw [HS.out]; rfl, by first | rfl | exact drew_join _ _ _⟩
      · have hd : decide ((k : Int) < (m : Int)) = false := decide_eq_false (by omega)
        have HS := Lib.hid (sameL_at k a b HALL.out (.inr (.inl (List.getElem?_eq_none (by rw [lb.out]; omega)))))
        go_wp2
        go_quiet (fail)
        go_wp2
        go_ret
        exact ⟨q + nq, by rw [HS.out]; rfl, by first | rfl | exact drew_join _ _ _⟩
    · have hd : decide ((k : Int) < (n : Int)) = false := decide_eq_false (by omega)
      have HS := Lib.hid (sameL_at k a b HALL.out (.inl (List.getElem?_eq_none (by rw [la.out]; omega))))
      go_wp2
      go_quiet (fail)
      go_wp2
      go_ret
      exact ⟨q + nq, by rw [HS.out]; rfl, by first | rfl | exact drew_join _ _ _⟩

theorem alive07_any (w : World) : Calls Tryd.prog 12 #[] w fun e w' => e = .returned (.bool true) ∧ Below w.heap.size w w' := by
  have hs : StepsAt (w.alloc (.cells #[.int .u32 4, .int .u32 0, .int .i64 0, .int .u32 0, .int .u32 0, .int .i64 0, .bool false, .int .i64 0, .int .i64 0] 33)) (some ⟨w.heap.size, 0, none⟩) 1 [⟨4, 0, 0, 0, 0, 0, false, 0, 0⟩] := by
    refine ⟨rfl, fun j c hc => ?_⟩
    match j, hc with
    | 0, hc =>
      obtain rfl : stC ⟨4, 0, 0, 0, 0, 0, false, 0, 0⟩ = c := by simpa using hc
      refine ⟨rfl, _, rfl, by simp, fun i v hv => ?_⟩
      rw [Nat.zero_mul, Nat.zero_add, Addr.add_lit, Nat.zero_add, World.cell?_alloc_at _ _ _ _ rfl]
      simpa [stC] using hv
  have HS := Lib.hid hs
  clear hs
  go_enter Tryd.func12, Tryd.ntmps12
  go_wp2_with fail
  go_at_call 14
  refine (trOf_any _ 1 1 _ true (by omega) _ HS.out).mono ?_
  rintro e w1 ⟨A', c', rfl, h1, h2, h3, h4⟩
  obtain ⟨a, rfl, _, a0, _⟩ := h3.at_ (j := 0) (s := ⟨4, 0, 0, 0, 0, 0⟩) rfl
  rw [Nat.zero_mul] at a0
  have ha0 : a.add 0 = a := by simp [Addr.add]
  rw [ha0] at a0
  have HB := Lib.hid (((Below.refl w.heap.size w).alloc (Nat.le_refl _) (.cells #[.int .u32 4, .int .u32 0, .int .i64 0, .int .u32 0, .int .u32 0, .int .i64 0, .bool false, .int .i64 0, .int .i64 0] 33)).trans (h4.mono (by simp)))
  clear h3 h4
  go_wp2
  go_ret
  exact ⟨rfl, HB.out⟩

end Go.Proofs.YtkamljmopbocnaaDoor
