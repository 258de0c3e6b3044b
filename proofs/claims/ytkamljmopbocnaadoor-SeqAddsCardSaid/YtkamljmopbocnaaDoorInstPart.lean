/- THE PARTS of a word: lists of fields, laid in memory as slices. -/
import Derived.Test.YtkamljmopbocnaaDoorInstTab
import Derived.WalkLawsBesides
namespace Go.Proofs.YtkamljmopbocnaaDoor
open Go.ChangeShapes Go.WideShapes Go.ChangeAt Go.RowKit
set_option maxRecDepth 100000

abbrev Part := Int × Int
/-- the slice v lies in w, and holds the parts ps -/
def PartsIs (w : World) (v : Value) (ps : List Part) : Prop :=
  (ps = [] ∧ v = .slice none 0 0) ∨
  ∃ b, b < w.heap.size ∧ v = .slice (some ⟨b, 0, none⟩) ps.length ps.length ∧ ∀ (k : Nat) (x : Part), ps[k]? = some x → w.cell? ⟨b, 2 * k, none⟩ = some (.int .i64 x.1) ∧ w.cell? ⟨b, 2 * k + 1, none⟩ = some (.int .i64 x.2)

theorem parts_none {w : World} {ps : List Part} (h : ps = []) : PartsIs w (.slice none 0 0) ps := Or.inl ⟨h, rfl⟩
theorem parts_new {w : World} {ps qs : List Part} {cs : Array Value} {t : TypeId} {n : Nat} (h : ps = qs) (hn : n = qs.length) (hcs : ∀ (k : Nat) (x : Part), qs[k]? = some x → cs[2 * k]? = some (.int .i64 x.1) ∧ cs[2 * k + 1]? = some (.int .i64 x.2)) :
    PartsIs (w.alloc (.cells cs t)) (.slice (some ⟨w.heap.size, 0, none⟩) n n) ps := by
  subst h hn
  exact Or.inr ⟨w.heap.size, by simp, rfl, fun k x hx => ⟨(World.cell?_alloc_at _ _ _ _ rfl).trans (hcs k x hx).1, (World.cell?_alloc_at _ _ _ _ rfl).trans (hcs k x hx).2⟩⟩
theorem PartsIs.below {w w' : World} {v : Value} {ps : List Part} {B : Nat} (h : PartsIs w v ps) (hb : Below B w w') (hB : w.heap.size ≤ B) : PartsIs w' v ps := by
  rcases h with h | ⟨b, h1, h2, h3⟩
  · exact Or.inl h
  · exact Or.inr ⟨b, Nat.lt_of_lt_of_le h1 hb.size, h2, fun k x hx => ⟨(hb.cell (p := ⟨b, 2 * k, none⟩) (by show b < B; omega)).trans (h3 k x hx).1, (hb.cell (p := ⟨b, 2 * k + 1, none⟩) (by show b < B; omega)).trans (h3 k x hx).2⟩⟩

def rdL (form : Int) : List Part := if form = 3 ∨ form = 4 ∨ form = 7 then [] else [(7, 5)]
def rs1L (form : Int) : List Part := if form = 5 ∨ form = 6 ∨ form = 7 then [] else [(15, 5)]
def rs2L (form : Int) : List Part := if form = 0 ∨ form = 3 ∨ form = 4 then [(20, 5)] else []
def numL (form : Int) : List Part :=
  if form = 1 then [(20, 12)] else if form = 2 then [(20, 5)] else if form = 3 then [(7, 5), (25, 7)] else if form = 4 then [(8, 4), (25, 6), (7, 1), (31, 1)] else if form = 5 then [(12, 20)] else if form = 6 then [(21, 10), (20, 1), (12, 8), (31, 1)] else []
def fromI (form : Int) : Int := if form = 4 ∨ form = 6 then 1 else if form = 5 then 12 else 0
def sizeI (form : Int) : Int := if form = 1 ∨ form = 3 then 12 else if form = 4 then 13 else if form = 6 then 21 else 0

set_option maxHeartbeats 1000000
theorem rdAt_any (form : Int) (w : World) : Calls Tryd.prog 84 #[.int .i64 form] w fun e w' => ∃ v, e = .returned v ∧ PartsIs w' v (rdL form) ∧ Below w.heap.size w w' := by
  by_cases h0 : form = 3
  · subst h0
    have G := Lib.hid (show rdL 3 = [] from rfl)
    (go_enter Tryd.func84, Tryd.ntmps84; go_wp2; go_ret; exact ⟨_, rfl, (by first | exact parts_none G.out | exact parts_new G.out rfl (by intro k x hx; rcases k with _ | _ | _ | _ | k <;> first | (cases hx; exact ⟨rfl, rfl⟩) | exact absurd hx (by simp))), by first | exact Below.refl _ _ | exact (Below.refl _ _).alloc (Nat.le_refl _) _⟩)
  by_cases h1 : form = 4
  · subst h1
    have G := Lib.hid (show rdL 4 = [] from rfl)
    (go_enter Tryd.func84, Tryd.ntmps84; go_wp2; go_ret; exact ⟨_, rfl, (by first | exact parts_none G.out | exact parts_new G.out rfl (by intro k x hx; rcases k with _ | _ | _ | _ | k <;> first | (cases hx; exact ⟨rfl, rfl⟩) | exact absurd hx (by simp))), by first | exact Below.refl _ _ | exact (Below.refl _ _).alloc (Nat.le_refl _) _⟩)
  by_cases h2 : form = 7
  · subst h2
    have G := Lib.hid (show rdL 7 = [] from rfl)
    (go_enter Tryd.func84, Tryd.ntmps84; go_wp2; go_ret; exact ⟨_, rfl, (by first | exact parts_none G.out | exact parts_new G.out rfl (by intro k x hx; rcases k with _ | _ | _ | _ | k <;> first | (cases hx; exact ⟨rfl, rfl⟩) | exact absurd hx (by simp))), by first | exact Below.refl _ _ | exact (Below.refl _ _).alloc (Nat.le_refl _) _⟩)
  have G := Lib.hid (show rdL form = [(7, 5)] by unfold rdL; rw [if_neg (by omega)])
  have q0 : (form == 3) = false := by simpa using h0
  have q1 : (form == 4) = false := by simpa using h1
  have q2 : (form == 7) = false := by simpa using h2
  clear h0 h1 h2
  (go_enter Tryd.func84, Tryd.ntmps84; go_wp2; go_ret; exact ⟨_, rfl, (by first | exact parts_none G.out | exact parts_new G.out rfl (by intro k x hx; rcases k with _ | _ | _ | _ | k <;> first | (cases hx; exact ⟨rfl, rfl⟩) | exact absurd hx (by simp))), by first | exact Below.refl _ _ | exact (Below.refl _ _).alloc (Nat.le_refl _) _⟩)
theorem rs1At_any (form : Int) (w : World) : Calls Tryd.prog 115 #[.int .i64 form] w fun e w' => ∃ v, e = .returned v ∧ PartsIs w' v (rs1L form) ∧ Below w.heap.size w w' := by
  by_cases h0 : form = 5
  · subst h0
    have G := Lib.hid (show rs1L 5 = [] from rfl)
    (go_enter Tryd.func115, Tryd.ntmps115; go_wp2; go_ret; exact ⟨_, rfl, (by first | exact parts_none G.out | exact parts_new G.out rfl (by intro k x hx; rcases k with _ | _ | _ | _ | k <;> first | (cases hx; exact ⟨rfl, rfl⟩) | exact absurd hx (by simp))), by first | exact Below.refl _ _ | exact (Below.refl _ _).alloc (Nat.le_refl _) _⟩)
  by_cases h1 : form = 6
  · subst h1
    have G := Lib.hid (show rs1L 6 = [] from rfl)
    (go_enter Tryd.func115, Tryd.ntmps115; go_wp2; go_ret; exact ⟨_, rfl, (by first | exact parts_none G.out | exact parts_new G.out rfl (by intro k x hx; rcases k with _ | _ | _ | _ | k <;> first | (cases hx; exact ⟨rfl, rfl⟩) | exact absurd hx (by simp))), by first | exact Below.refl _ _ | exact (Below.refl _ _).alloc (Nat.le_refl _) _⟩)
  by_cases h2 : form = 7
  · subst h2
    have G := Lib.hid (show rs1L 7 = [] from rfl)
    (go_enter Tryd.func115, Tryd.ntmps115; go_wp2; go_ret; exact ⟨_, rfl, (by first | exact parts_none G.out | exact parts_new G.out rfl (by intro k x hx; rcases k with _ | _ | _ | _ | k <;> first | (cases hx; exact ⟨rfl, rfl⟩) | exact absurd hx (by simp))), by first | exact Below.refl _ _ | exact (Below.refl _ _).alloc (Nat.le_refl _) _⟩)
  have G := Lib.hid (show rs1L form = [(15, 5)] by unfold rs1L; rw [if_neg (by omega)])
  have q0 : (form == 5) = false := by simpa using h0
  have q1 : (form == 6) = false := by simpa using h1
  have q2 : (form == 7) = false := by simpa using h2
  clear h0 h1 h2
  (go_enter Tryd.func115, Tryd.ntmps115; go_wp2; go_ret; exact ⟨_, rfl, (by first | exact parts_none G.out | exact parts_new G.out rfl (by intro k x hx; rcases k with _ | _ | _ | _ | k <;> first | (cases hx; exact ⟨rfl, rfl⟩) | exact absurd hx (by simp))), by first | exact Below.refl _ _ | exact (Below.refl _ _).alloc (Nat.le_refl _) _⟩)
theorem rs2At_any (form : Int) (w : World) : Calls Tryd.prog 116 #[.int .i64 form] w fun e w' => ∃ v, e = .returned v ∧ PartsIs w' v (rs2L form) ∧ Below w.heap.size w w' := by
  by_cases h0 : form = 0
  · subst h0
    have G := Lib.hid (show rs2L 0 = [(20, 5)] from rfl)
    (go_enter Tryd.func116, Tryd.ntmps116; go_wp2; go_ret; exact ⟨_, rfl, (by first | exact parts_none G.out | exact parts_new G.out rfl (by intro k x hx; rcases k with _ | _ | _ | _ | k <;> first | (cases hx; exact ⟨rfl, rfl⟩) | exact absurd hx (by simp))), by first | exact Below.refl _ _ | exact (Below.refl _ _).alloc (Nat.le_refl _) _⟩)
  by_cases h1 : form = 3
  · subst h1
    have G := Lib.hid (show rs2L 3 = [(20, 5)] from rfl)
    (go_enter Tryd.func116, Tryd.ntmps116; go_wp2; go_ret; exact ⟨_, rfl, (by first | exact parts_none G.out | exact parts_new G.out rfl (by intro k x hx; rcases k with _ | _ | _ | _ | k <;> first | (cases hx; exact ⟨rfl, rfl⟩) | exact absurd hx (by simp))), by first | exact Below.refl _ _ | exact (Below.refl _ _).alloc (Nat.le_refl _) _⟩)
  by_cases h2 : form = 4
  · subst h2
    have G := Lib.hid (show rs2L 4 = [(20, 5)] from rfl)
    (go_enter Tryd.func116, Tryd.ntmps116; go_wp2; go_ret; exact ⟨_, rfl, (by first | exact parts_none G.out | exact parts_new G.out rfl (by intro k x hx; rcases k with _ | _ | _ | _ | k <;> first | (cases hx; exact ⟨rfl, rfl⟩) | exact absurd hx (by simp))), by first | exact Below.refl _ _ | exact (Below.refl _ _).alloc (Nat.le_refl _) _⟩)
  have G := Lib.hid (show rs2L form = [] by unfold rs2L; rw [if_neg (by omega)])
  have q0 : (form == 0) = false := by simpa using h0
  have q1 : (form == 3) = false := by simpa using h1
  have q2 : (form == 4) = false := by simpa using h2
  clear h0 h1 h2
  (go_enter Tryd.func116, Tryd.ntmps116; go_wp2; go_ret; exact ⟨_, rfl, (by first | exact parts_none G.out | exact parts_new G.out rfl (by intro k x hx; rcases k with _ | _ | _ | _ | k <;> first | (cases hx; exact ⟨rfl, rfl⟩) | exact absurd hx (by simp))), by first | exact Below.refl _ _ | exact (Below.refl _ _).alloc (Nat.le_refl _) _⟩)

theorem numAt_any (form : Int) (w : World) : Calls Tryd.prog 117 #[.int .i64 form] w fun e w' => ∃ v, e = .returned v ∧ PartsIs w' v (numL form) ∧ Below w.heap.size w w' := by
  by_cases h1 : form = 1
  · subst h1
    have G := Lib.hid (show numL 1 = [(20, 12)] from rfl)
    (go_enter Tryd.func117, Tryd.ntmps117; go_wp2; go_ret; exact ⟨_, rfl, (by first | exact parts_none G.out | exact parts_new G.out rfl (by intro k x hx; rcases k with _ | _ | _ | _ | k <;> first | (cases hx; exact ⟨rfl, rfl⟩) | exact absurd hx (by simp))), by first | exact Below.refl _ _ | exact (Below.refl _ _).alloc (Nat.le_refl _) _⟩)
  have q1 : (form == 1) = false := by simpa using h1
  by_cases h2 : form = 2
  · subst h2
    have G := Lib.hid (show numL 2 = [(20, 5)] from rfl)
    (go_enter Tryd.func117, Tryd.ntmps117; go_wp2; go_ret; exact ⟨_, rfl, (by first | exact parts_none G.out | exact parts_new G.out rfl (by intro k x hx; rcases k with _ | _ | _ | _ | k <;> first | (cases hx; exact ⟨rfl, rfl⟩) | exact absurd hx (by simp))), by first | exact Below.refl _ _ | exact (Below.refl _ _).alloc (Nat.le_refl _) _⟩)
  have q2 : (form == 2) = false := by simpa using h2
  by_cases h3 : form = 3
  · subst h3
    have G := Lib.hid (show numL 3 = [(7, 5), (25, 7)] from rfl)
    (go_enter Tryd.func117, Tryd.ntmps117; go_wp2; go_ret; exact ⟨_, rfl, (by first | exact parts_none G.out | exact parts_new G.out rfl (by intro k x hx; rcases k with _ | _ | _ | _ | k <;> first | (cases hx; exact ⟨rfl, rfl⟩) | exact absurd hx (by simp))), by first | exact Below.refl _ _ | exact (Below.refl _ _).alloc (Nat.le_refl _) _⟩)
  have q3 : (form == 3) = false := by simpa using h3
  by_cases h4 : form = 4
  · subst h4
    have G := Lib.hid (show numL 4 = [(8, 4), (25, 6), (7, 1), (31, 1)] from rfl)
    (go_enter Tryd.func117, Tryd.ntmps117; go_wp2; go_ret; exact ⟨_, rfl, (by first | exact parts_none G.out | exact parts_new G.out rfl (by intro k x hx; rcases k with _ | _ | _ | _ | k <;> first | (cases hx; exact ⟨rfl, rfl⟩) | exact absurd hx (by simp))), by first | exact Below.refl _ _ | exact (Below.refl _ _).alloc (Nat.le_refl _) _⟩)
  have q4 : (form == 4) = false := by simpa using h4
  by_cases h5 : form = 5
  · subst h5
    have G := Lib.hid (show numL 5 = [(12, 20)] from rfl)
    (go_enter Tryd.func117, Tryd.ntmps117; go_wp2; go_ret; exact ⟨_, rfl, (by first | exact parts_none G.out | exact parts_new G.out rfl (by intro k x hx; rcases k with _ | _ | _ | _ | k <;> first | (cases hx; exact ⟨rfl, rfl⟩) | exact absurd hx (by simp))), by first | exact Below.refl _ _ | exact (Below.refl _ _).alloc (Nat.le_refl _) _⟩)
  have q5 : (form == 5) = false := by simpa using h5
  by_cases h6 : form = 6
  · subst h6
    have G := Lib.hid (show numL 6 = [(21, 10), (20, 1), (12, 8), (31, 1)] from rfl)
    (go_enter Tryd.func117, Tryd.ntmps117; go_wp2; go_ret; exact ⟨_, rfl, (by first | exact parts_none G.out | exact parts_new G.out rfl (by intro k x hx; rcases k with _ | _ | _ | _ | k <;> first | (cases hx; exact ⟨rfl, rfl⟩) | exact absurd hx (by simp))), by first | exact Below.refl _ _ | exact (Below.refl _ _).alloc (Nat.le_refl _) _⟩)
  have q6 : (form == 6) = false := by simpa using h6
  have G := Lib.hid (show numL form = [] by simp [numL, h1, h2, h3, h4, h5, h6])
  clear h1 h2 h3 h4 h5 h6
  (go_enter Tryd.func117, Tryd.ntmps117; go_wp2; go_ret; exact ⟨_, rfl, (by first | exact parts_none G.out | exact parts_new G.out rfl (by intro k x hx; rcases k with _ | _ | _ | _ | k <;> first | (cases hx; exact ⟨rfl, rfl⟩) | exact absurd hx (by simp))), by first | exact Below.refl _ _ | exact (Below.refl _ _).alloc (Nat.le_refl _) _⟩)

theorem numberFrom_any (form : Int) (w : World) : Calls Tryd.prog 118 #[.int .i64 form] w fun e w' => e = .returned (.int .i64 (fromI form)) ∧ w = w' := by
  by_cases h4 : form = 4
  · subst h4
    have G := Lib.hid (show fromI 4 = 1 from rfl)
    (go_enter Tryd.func118, Tryd.ntmps118; go_wp2; go_ret; exact ⟨ret_int (by rw [G.out]), rfl⟩)
  have q4 : (form == 4) = false := by simpa using h4
  by_cases h5 : form = 5
  · subst h5
    have G := Lib.hid (show fromI 5 = 12 from rfl)
    (go_enter Tryd.func118, Tryd.ntmps118; go_wp2; go_ret; exact ⟨ret_int (by rw [G.out]), rfl⟩)
  have q5 : (form == 5) = false := by simpa using h5
  by_cases h6 : form = 6
  · subst h6
    have G := Lib.hid (show fromI 6 = 1 from rfl)
    (go_enter Tryd.func118, Tryd.ntmps118; go_wp2; go_ret; exact ⟨ret_int (by rw [G.out]), rfl⟩)
  have q6 : (form == 6) = false := by simpa using h6
  have G := Lib.hid (show fromI form = 0 by simp [fromI, h4, h5, h6])
  clear h4 h5 h6
  (go_enter Tryd.func118, Tryd.ntmps118; go_wp2; go_ret; exact ⟨ret_int (by rw [G.out]), rfl⟩)
theorem numberSize_any (form : Int) (w : World) : Calls Tryd.prog 119 #[.int .i64 form] w fun e w' => e = .returned (.int .i64 (sizeI form)) ∧ w = w' := by
  by_cases h1 : form = 1
  · subst h1
    have G := Lib.hid (show sizeI 1 = 12 from rfl)
    (go_enter Tryd.func119, Tryd.ntmps119; go_wp2; go_ret; exact ⟨ret_int (by rw [G.out]), rfl⟩)
  have q1 : (form == 1) = false := by simpa using h1
  by_cases h3 : form = 3
  · subst h3
    have G := Lib.hid (show sizeI 3 = 12 from rfl)
    (go_enter Tryd.func119, Tryd.ntmps119; go_wp2; go_ret; exact ⟨ret_int (by rw [G.out]), rfl⟩)
  have q3 : (form == 3) = false := by simpa using h3
  by_cases h4 : form = 4
  · subst h4
    have G := Lib.hid (show sizeI 4 = 13 from rfl)
    (go_enter Tryd.func119, Tryd.ntmps119; go_wp2; go_ret; exact ⟨ret_int (by rw [G.out]), rfl⟩)
  have q4 : (form == 4) = false := by simpa using h4
  by_cases h6 : form = 6
  · subst h6
    have G := Lib.hid (show sizeI 6 = 21 from rfl)
    (go_enter Tryd.func119, Tryd.ntmps119; go_wp2; go_ret; exact ⟨ret_int (by rw [G.out]), rfl⟩)
  have q6 : (form == 6) = false := by simpa using h6
  have G := Lib.hid (show sizeI form = 0 by simp [sizeI, h1, h3, h4, h6])
  clear h1 h3 h4 h6
  (go_enter Tryd.func119, Tryd.ntmps119; go_wp2; go_ret; exact ⟨ret_int (by rw [G.out]), rfl⟩)

end Go.Proofs.YtkamljmopbocnaaDoor
