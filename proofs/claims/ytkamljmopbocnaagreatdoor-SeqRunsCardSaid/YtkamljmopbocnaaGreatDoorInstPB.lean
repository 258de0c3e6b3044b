import Derived.Test.YtkamljmopbocnaaGreatDoorInstTab
import Derived.WalkLawsBesides
import Derived.Test.YtkamljmopbocnaaGreatDoorInstChosen
/- THE PARTS of a word: lists of fields, laid in memory as slices. -/
namespace Go.Proofs.YtkamljmopbocnaaGreatDoor
open Go.ChangeShapes Go.WideShapes Go.ChangeAt Go.RowKit
set_option maxRecDepth 100000

abbrev Part := Int × Int
/-- the slice v lies in w, and holds the parts ps -/
def PartsIs (w : World) (v : Value) (ps : List Part) : Prop :=
  (ps = [] ∧ v = .slice none 0 0) ∨
  ∃ b, b < w.heap.size ∧ v = .slice (some ⟨b, 0, none⟩) ps.length ps.length ∧ ∀ (k : Nat) (x : Part), ps[k]? = some x → w.cell? ⟨b, 2 * k, none⟩ = some (.int .i64 x.1) ∧ w.cell? ⟨b, 2 * k + 1, none⟩ = some (.int .i64 x.2)

theorem parts_none {w : World} {ps : List Part} (h : ps = []) : PartsIs w (.slice none 0 0) ps := Or.inl ⟨h, rfl⟩
theorem parts_new {w : World} {ps qs : List Part} {cs : Array Value} {t : TypeId} {n : Nat} (h : ps = qs) (hn : n = qs.length) (hcs : ∀ (k : Nat) (x : Part), qs[k]? = some x → cs[2 * k]? = some (.int .i64 x.1) ∧ cs[2 * k + 1]? = some (.int .i64 x.2)) :
    PartsIs (w.alloc (.cells cs t)) (.slice (some ⟨w.heap.size, 0, none⟩) n n) ps := by
  subst h hn
  exact Or.inr ⟨w.heap.size, by simp, rfl, fun k x hx => ⟨(World.cell?_alloc_at _ _ _ _ rfl).trans (hcs k x hx).1, (World.cell?_alloc_at _ _ _ _ rfl).trans (hcs k x hx).2⟩⟩
theorem PartsIs.below {w w' : World} {v : Value} {ps : List Part} {B : Nat} (h : PartsIs w v ps) (hb : Below B w w') (hB : w.heap.size ≤ B) : PartsIs w' v ps := by
  rcases h with h | ⟨b, h1, h2, h3⟩
  · exact Or.inl h
  · exact Or.inr ⟨b, Nat.lt_of_lt_of_le h1 hb.size, h2, fun k x hx => ⟨(hb.cell (p := ⟨b, 2 * k, none⟩) (by show b < B; omega)).trans (h3 k x hx).1, (hb.cell (p := ⟨b, 2 * k + 1, none⟩) (by show b < B; omega)).trans (h3 k x hx).2⟩⟩

def rdL (form : Int) : List Part := if form = 3 ∨ form = 4 ∨ form = 7 then [] else [(7, 5)]
def rs1L (form : Int) : List Part := if form = 5 ∨ form = 6 ∨ form = 7 then [] else [(15, 5)]
def rs2L (form : Int) : List Part := if form = 0 ∨ form = 3 ∨ form = 4 then [(20, 5)] else []
def numL (form : Int) : List Part :=
  if form = 1 then [(20, 12)] else if form = 2 then [(20, 5)] else if form = 3 then [(7, 5), (25, 7)] else if form = 4 then [(8, 4), (25, 6), (7, 1), (31, 1)] else if form = 5 then [(12, 20)] else if form = 6 then [(21, 10), (20, 1), (12, 8), (31, 1)] else []
def fromI (form : Int) : Int := if form = 4 ∨ form = 6 then 1 else if form = 5 then 12 else 0
def sizeI (form : Int) : Int := if form = 1 ∨ form = 3 then 12 else if form = 4 then 13 else if form = 6 then 21 else 0

set_option maxHeartbeats 1000000
theorem rdAt_any (form : Int) (w : World) : Calls Tryz.prog 90 #[.int .i64 form] w fun e w' => ∃ v, e = .returned v ∧ PartsIs w' v (rdL form) ∧ Below w.heap.size w w' := by
  by_cases h0 : form = 3
  · subst h0
    have G := Lib.hid (show rdL 3 = [] from rfl)
    (go_enter Tryz.func90, Tryz.ntmps90; go_wp2; go_ret; exact ⟨_, rfl, (by first | exact parts_none G.out | exact parts_new G.out rfl (by intro k x hx; rcases k with _ | _ | _ | _ | k <;> first | (cases hx; exact ⟨rfl, rfl⟩) | exact absurd hx (by simp))), by first | exact Below.refl _ _ | exact (Below.refl _ _).alloc (Nat.le_refl _) _⟩)
  by_cases h1 : form = 4
  · subst h1
    have G := Lib.hid (show rdL 4 = [] from rfl)
    (go_enter Tryz.func90, Tryz.ntmps90; go_wp2; go_ret; exact ⟨_, rfl, (by first | exact parts_none G.out | exact parts_new G.out rfl (by intro k x hx; rcases k with _ | _ | _ | _ | k <;> first | (cases hx; exact ⟨rfl, rfl⟩) | exact absurd hx (by simp))), by first | exact Below.refl _ _ | exact (Below.refl _ _).alloc (Nat.le_refl _) _⟩)
  by_cases h2 : form = 7
  · subst h2
    have G := Lib.hid (show rdL 7 = [] from rfl)
    (go_enter Tryz.func90, Tryz.ntmps90; go_wp2; go_ret; exact ⟨_, rfl, (by first | exact parts_none G.out | exact parts_new G.out rfl (by intro k x hx; rcases k with _ | _ | _ | _ | k <;> first | (cases hx; exact ⟨rfl, rfl⟩) | exact absurd hx (by simp))), by first | exact Below.refl _ _ | exact (Below.refl _ _).alloc (Nat.le_refl _) _⟩)
  have G := Lib.hid (show rdL form = [(7, 5)] by unfold rdL; rw [if_neg (by omega)])
  have q0 : (form == 3) = false := by simpa using h0
  have q1 : (form == 4) = false := by simpa using h1
  have q2 : (form == 7) = false := by simpa using h2
  clear h0 h1 h2
  (go_enter Tryz.func90, Tryz.ntmps90; go_wp2; go_ret; exact ⟨_, rfl, (by first | exact parts_none G.out | exact parts_new G.out rfl (by intro k x hx; rcases k with _ | _ | _ | _ | k <;> first | (cases hx; exact ⟨rfl, rfl⟩) | exact absurd hx (by simp))), by first | exact Below.refl _ _ | exact (Below.refl _ _).alloc (Nat.le_refl _) _⟩)
theorem rs1At_any (form : Int) (w : World) : Calls Tryz.prog 98 #[.int .i64 form] w fun e w' => ∃ v, e = .returned v ∧ PartsIs w' v (rs1L form) ∧ Below w.heap.size w w' := by
  by_cases h0 : form = 5
  · subst h0
    have G := Lib.hid (show rs1L 5 = [] from rfl)
    (go_enter Tryz.func98, Tryz.ntmps98; go_wp2; go_ret; exact ⟨_, rfl, (by first | exact parts_none G.out | exact parts_new G.out rfl (by intro k x hx; rcases k with _ | _ | _ | _ | k <;> first | (cases hx; exact ⟨rfl, rfl⟩) | exact absurd hx (by simp))), by first | exact Below.refl _ _ | exact (Below.refl _ _).alloc (Nat.le_refl _) _⟩)
  by_cases h1 : form = 6
  · subst h1
    have G := Lib.hid (show rs1L 6 = [] from rfl)
    (go_enter Tryz.func98, Tryz.ntmps98; go_wp2; go_ret; exact ⟨_, rfl, (by first | exact parts_none G.out | exact parts_new G.out rfl (by intro k x hx; rcases k with _ | _ | _ | _ | k <;> first | (cases hx; exact ⟨rfl, rfl⟩) | exact absurd hx (by simp))), by first | exact Below.refl _ _ | exact (Below.refl _ _).alloc (Nat.le_refl _) _⟩)
  by_cases h2 : form = 7
  · subst h2
    have G := Lib.hid (show rs1L 7 = [] from rfl)
    (go_enter Tryz.func98, Tryz.ntmps98; go_wp2; go_ret; exact ⟨_, rfl, (by first | exact parts_none G.out | exact parts_new G.out rfl (by intro k x hx; rcases k with _ | _ | _ | _ | k <;> first | (cases hx; exact ⟨rfl, rfl⟩) | exact absurd hx (by simp))), by first | exact Below.refl _ _ | exact (Below.refl _ _).alloc (Nat.le_refl _) _⟩)
  have G := Lib.hid (show rs1L form = [(15, 5)] by unfold rs1L; rw [if_neg (by omega)])
  have q0 : (form == 5) = false := by simpa using h0
  have q1 : (form == 6) = false := by simpa using h1
  have q2 : (form == 7) = false := by simpa using h2
  clear h0 h1 h2
  (go_enter Tryz.func98, Tryz.ntmps98; go_wp2; go_ret; exact ⟨_, rfl, (by first | exact parts_none G.out | exact parts_new G.out rfl (by intro k x hx; rcases k with _ | _ | _ | _ | k <;> first | (cases hx; exact ⟨rfl, rfl⟩) | exact absurd hx (by simp))), by first | exact Below.refl _ _ | exact (Below.refl _ _).alloc (Nat.le_refl _) _⟩)
theorem rs2At_any (form : Int) (w : World) : Calls Tryz.prog 99 #[.int .i64 form] w fun e w' => ∃ v, e = .returned v ∧ PartsIs w' v (rs2L form) ∧ Below w.heap.size w w' := by
  by_cases h0 : form = 0
  · subst h0
    have G := Lib.hid (show rs2L 0 = [(20, 5)] from rfl)
    (go_enter Tryz.func99, Tryz.ntmps99; go_wp2; go_ret; exact ⟨_, rfl, (by first | exact parts_none G.out | exact parts_new G.out rfl (by intro k x hx; rcases k with _ | _ | _ | _ | k <;> first | (cases hx; exact ⟨rfl, rfl⟩) | exact absurd hx (by simp))), by first | exact Below.refl _ _ | exact (Below.refl _ _).alloc (Nat.le_refl _) _⟩)
  by_cases h1 : form = 3
  · subst h1
    have G := Lib.hid (show rs2L 3 = [(20, 5)] from rfl)
    (go_enter Tryz.func99, Tryz.ntmps99; go_wp2; go_ret; exact ⟨_, rfl, (by first | exact parts_none G.out | exact parts_new G.out rfl (by intro k x hx; rcases k with _ | _ | _ | _ | k <;> first | (cases hx; exact ⟨rfl, rfl⟩) | exact absurd hx (by simp))), by first | exact Below.refl _ _ | exact (Below.refl _ _).alloc (Nat.le_refl _) _⟩)
  by_cases h2 : form = 4
  · subst h2
    have G := Lib.hid (show rs2L 4 = [(20, 5)] from rfl)
    (go_enter Tryz.func99, Tryz.ntmps99; go_wp2; go_ret; exact ⟨_, rfl, (by first | exact parts_none G.out | exact parts_new G.out rfl (by intro k x hx; rcases k with _ | _ | _ | _ | k <;> first | (cases hx; exact ⟨rfl, rfl⟩) | exact absurd hx (by simp))), by first | exact Below.refl _ _ | exact (Below.refl _ _).alloc (Nat.le_refl _) _⟩)
  have G := Lib.hid (show rs2L form = [] by unfold rs2L; rw [if_neg (by omega)])
  have q0 : (form == 0) = false := by simpa using h0
  have q1 : (form == 3) = false := by simpa using h1
  have q2 : (form == 4) = false := by simpa using h2
  clear h0 h1 h2
  (go_enter Tryz.func99, Tryz.ntmps99; go_wp2; go_ret; exact ⟨_, rfl, (by first | exact parts_none G.out | exact parts_new G.out rfl (by intro k x hx; rcases k with _ | _ | _ | _ | k <;> first | (cases hx; exact ⟨rfl, rfl⟩) | exact absurd hx (by simp))), by first | exact Below.refl _ _ | exact (Below.refl _ _).alloc (Nat.le_refl _) _⟩)

theorem numAt_any (form : Int) (w : World) : Calls Tryz.prog 100 #[.int .i64 form] w fun e w' => ∃ v, e = .returned v ∧ PartsIs w' v (numL form) ∧ Below w.heap.size w w' := by
  by_cases h1 : form = 1
  · subst h1
    have G := Lib.hid (show numL 1 = [(20, 12)] from rfl)
    (go_enter Tryz.func100, Tryz.ntmps100; go_wp2; go_ret; exact ⟨_, rfl, (by first | exact parts_none G.out | exact parts_new G.out rfl (by intro k x hx; rcases k with _ | _ | _ | _ | k <;> first | (cases hx; exact ⟨rfl, rfl⟩) | exact absurd hx (by simp))), by first | exact Below.refl _ _ | exact (Below.refl _ _).alloc (Nat.le_refl _) _⟩)
  have q1 : (form == 1) = false := by simpa using h1
  by_cases h2 : form = 2
  · subst h2
    have G := Lib.hid (show numL 2 = [(20, 5)] from rfl)
    (go_enter Tryz.func100, Tryz.ntmps100; go_wp2; go_ret; exact ⟨_, rfl, (by first | exact parts_none G.out | exact parts_new G.out rfl (by intro k x hx; rcases k with _ | _ | _ | _ | k <;> first | (cases hx; exact ⟨rfl, rfl⟩) | exact absurd hx (by simp))), by first | exact Below.refl _ _ | exact (Below.refl _ _).alloc (Nat.le_refl _) _⟩)
  have q2 : (form == 2) = false := by simpa using h2
  by_cases h3 : form = 3
  · subst h3
    have G := Lib.hid (show numL 3 = [(7, 5), (25, 7)] from rfl)
    (go_enter Tryz.func100, Tryz.ntmps100; go_wp2; go_ret; exact ⟨_, rfl, (by first | exact parts_none G.out | exact parts_new G.out rfl (by intro k x hx; rcases k with _ | _ | _ | _ | k <;> first | (cases hx; exact ⟨rfl, rfl⟩) | exact absurd hx (by simp))), by first | exact Below.refl _ _ | exact (Below.refl _ _).alloc (Nat.le_refl _) _⟩)
  have q3 : (form == 3) = false := by simpa using h3
  by_cases h4 : form = 4
  · subst h4
    have G := Lib.hid (show numL 4 = [(8, 4), (25, 6), (7, 1), (31, 1)] from rfl)
    (go_enter Tryz.func100, Tryz.ntmps100; go_wp2; go_ret; exact ⟨_, rfl, (by first | exact parts_none G.out | exact parts_new G.out rfl (by intro k x hx; rcases k with _ | _ | _ | _ | k <;> first | (cases hx; exact ⟨rfl, rfl⟩) | exact absurd hx (by simp))), by first | exact Below.refl _ _ | exact (Below.refl _ _).alloc (Nat.le_refl _) _⟩)
  have q4 : (form == 4) = false := by simpa using h4
  by_cases h5 : form = 5
  · subst h5
    have G := Lib.hid (show numL 5 = [(12, 20)] from rfl)
    (go_enter Tryz.func100, Tryz.ntmps100; go_wp2; go_ret; exact ⟨_, rfl, (by first | exact parts_none G.out | exact parts_new G.out rfl (by intro k x hx; rcases k with _ | _ | _ | _ | k <;> first | (cases hx; exact ⟨rfl, rfl⟩) | exact absurd hx (by simp))), by first | exact Below.refl _ _ | exact (Below.refl _ _).alloc (Nat.le_refl _) _⟩)
  have q5 : (form == 5) = false := by simpa using h5
  by_cases h6 : form = 6
  · subst h6
    have G := Lib.hid (show numL 6 = [(21, 10), (20, 1), (12, 8), (31, 1)] from rfl)
    (go_enter Tryz.func100, Tryz.ntmps100; go_wp2; go_ret; exact ⟨_, rfl, (by first | exact parts_none G.out | exact parts_new G.out rfl (by intro k x hx; rcases k with _ | _ | _ | _ | k <;> first | (cases hx; exact ⟨rfl, rfl⟩) | exact absurd hx (by simp))), by first | exact Below.refl _ _ | exact (Below.refl _ _).alloc (Nat.le_refl _) _⟩)
  have q6 : (form == 6) = false := by simpa using h6
  have G := Lib.hid (show numL form = [] by simp [numL, h1, h2, h3, h4, h5, h6])
  clear h1 h2 h3 h4 h5 h6
  (go_enter Tryz.func100, Tryz.ntmps100; go_wp2; go_ret; exact ⟨_, rfl, (by first | exact parts_none G.out | exact parts_new G.out rfl (by intro k x hx; rcases k with _ | _ | _ | _ | k <;> first | (cases hx; exact ⟨rfl, rfl⟩) | exact absurd hx (by simp))), by first | exact Below.refl _ _ | exact (Below.refl _ _).alloc (Nat.le_refl _) _⟩)

theorem numberFrom_any (form : Int) (w : World) : Calls Tryz.prog 101 #[.int .i64 form] w fun e w' => e = .returned (.int .i64 (fromI form)) ∧ w = w' := by
  by_cases h4 : form = 4
  · subst h4
    have G := Lib.hid (show fromI 4 = 1 from rfl)
    (go_enter Tryz.func101, Tryz.ntmps101; go_wp2; go_ret; exact ⟨ret_int (by rw [G.out]), rfl⟩)
  have q4 : (form == 4) = false := by simpa using h4
  by_cases h5 : form = 5
  · subst h5
    have G := Lib.hid (show fromI 5 = 12 from rfl)
    (go_enter Tryz.func101, Tryz.ntmps101; go_wp2; go_ret; exact ⟨ret_int (by rw [G.out]), rfl⟩)
  have q5 : (form == 5) = false := by simpa using h5
  by_cases h6 : form = 6
  · subst h6
    have G := Lib.hid (show fromI 6 = 1 from rfl)
    (go_enter Tryz.func101, Tryz.ntmps101; go_wp2; go_ret; exact ⟨ret_int (by rw [G.out]), rfl⟩)
  have q6 : (form == 6) = false := by simpa using h6
  have G := Lib.hid (show fromI form = 0 by simp [fromI, h4, h5, h6])
  clear h4 h5 h6
  (go_enter Tryz.func101, Tryz.ntmps101; go_wp2; go_ret; exact ⟨ret_int (by rw [G.out]), rfl⟩)
theorem numberSize_any (form : Int) (w : World) : Calls Tryz.prog 102 #[.int .i64 form] w fun e w' => e = .returned (.int .i64 (sizeI form)) ∧ w = w' := by
  by_cases h1 : form = 1
  · subst h1
    have G := Lib.hid (show sizeI 1 = 12 from rfl)
    (go_enter Tryz.func102, Tryz.ntmps102; go_wp2; go_ret; exact ⟨ret_int (by rw [G.out]), rfl⟩)
  have q1 : (form == 1) = false := by simpa using h1
  by_cases h3 : form = 3
  · subst h3
    have G := Lib.hid (show sizeI 3 = 12 from rfl)
    (go_enter Tryz.func102, Tryz.ntmps102; go_wp2; go_ret; exact ⟨ret_int (by rw [G.out]), rfl⟩)
  have q3 : (form == 3) = false := by simpa using h3
  by_cases h4 : form = 4
  · subst h4
    have G := Lib.hid (show sizeI 4 = 13 from rfl)
    (go_enter Tryz.func102, Tryz.ntmps102; go_wp2; go_ret; exact ⟨ret_int (by rw [G.out]), rfl⟩)
  have q4 : (form == 4) = false := by simpa using h4
  by_cases h6 : form = 6
  · subst h6
    have G := Lib.hid (show sizeI 6 = 21 from rfl)
    (go_enter Tryz.func102, Tryz.ntmps102; go_wp2; go_ret; exact ⟨ret_int (by rw [G.out]), rfl⟩)
  have q6 : (form == 6) = false := by simpa using h6
  have G := Lib.hid (show sizeI form = 0 by simp [sizeI, h1, h3, h4, h6])
  clear h1 h3 h4 h6
  (go_enter Tryz.func102, Tryz.ntmps102; go_wp2; go_ret; exact ⟨ret_int (by rw [G.out]), rfl⟩)

end Go.Proofs.YtkamljmopbocnaaGreatDoor

/- THE CONTRACTS of gather and spread. -/
namespace Go.Proofs.YtkamljmopbocnaaGreatDoor
open Go.ChangeShapes Go.WideShapes Go.ChangeAt Go.RowKit
set_option maxRecDepth 100000

/-- one round of gather, and of spread: the number, and the place -/
def gStep (a : Int) (s : Int × Int) (p : Part) : Int × Int := ((stw s.1 s.2 p.2 (fld a p.1 p.2) : Nat), s.2 + p.2)
def sStep (a : Int) (s : Int × Int) (p : Part) : Int × Int := ((stw s.1 p.1 p.2 (fld a s.2 p.2) : Nat), s.2 + p.2)
def rounds (f : Int × Int → Part → Int × Int) (ps : List Part) (k : Nat) : Int × Int := (ps.take k).foldl f (0, 0)
def gth (a : Int) (ps : List Part) : Int := (rounds (gStep a) ps ps.length).1
def spr (a : Int) (ps : List Part) : Int := (rounds (sStep a) ps ps.length).1
theorem rounds_succ (f : Int × Int → Part → Int × Int) (ps : List Part) (k : Nat) (x : Part) (h : ps[k]? = some x) : rounds f ps (k + 1) = f (rounds f ps k) x := by
  unfold rounds
  rw [List.take_add_one, h]
  simp
/-- parts that a form has -/
def POk (ps : List Part) : Prop := ps.length ≤ 4 ∧ ∀ (k : Nat) (x : Part), ps[k]? = some x → 0 ≤ x.2 ∧ x.2 ≤ 32

set_option maxHeartbeats 1000000
theorem gather_any (a : Int) (ps : List Part) (v : Value) (ha : 0 ≤ a) (ha' : a < 4294967296) (w : World) (hv : PartsIs w v ps) (hok : POk ps) :
    Calls Tryz.prog 97 #[.int .u32 a, v] w fun e w' => e = .returned (.int .u32 (gth a ps)) ∧ Below w.heap.size w w' := by
  obtain ⟨hlen, hparts⟩ := hok
  rcases hv with ⟨rfl, rfl⟩ | ⟨b, hb, rfl, hcells⟩
  · go_enter Tryz.func97, Tryz.ntmps97
    go_wp2
    go_loopw [5, 6, 11] (fun n at' i wr => n = .int .u32 0 ∧ i = .int .i64 0 ∧ wr = w) (fun _ _ _ _ => 0)
    case atStart => exact ⟨rfl, rfl, rfl⟩
    case round =>
      obtain ⟨rfl, rfl, rfl⟩ := hrel
      go_wp2
      go_ret
      exact ⟨rfl, Below.refl _ _⟩
  · go_enter Tryz.func97, Tryz.ntmps97
    go_wp2
    go_loopw [5, 6, 11] (fun n at' i wr => ∃ (k : Nat) (N A : Int), k ≤ ps.length ∧ rounds (gStep a) ps k = (N, A) ∧ 0 ≤ N ∧ N < 4294967296 ∧ 0 ≤ A ∧ A ≤ 32 * k ∧ n = .int .u32 N ∧ at' = .int .i64 A ∧ i = .int .i64 k ∧ Below w.heap.size w wr) (fun _ _ i _ => ps.length - (intOf i).toNat)
    case atStart => exact ⟨0, 0, 0, Nat.zero_le _, rfl, by omega, by omega, by omega, by omega, rfl, rfl, rfl, Below.refl _ _⟩
    case round =>
      obtain ⟨k, N, A, hk, hR, hN0, hN1, hA0, hA1, rfl, rfl, rfl, hbel⟩ := hrel
      by_cases hkn : k < ps.length
      · obtain ⟨x, hx⟩ : ∃ x, ps[k]? = some x := ⟨_, List.getElem?_eq_getElem hkn⟩
        have hS := rounds_succ (gStep a) ps k x hx
        rw [hR] at hS
        obtain ⟨p, s⟩ := x
        obtain ⟨hs0, hs1⟩ := hparts k _ hx
        obtain ⟨c0, c1⟩ := hcells k _ hx
        have d0 := (hbel.cell (p := ⟨b, k * 2, none⟩) hb).trans (Nat.mul_comm 2 k ▸ c0)
        have d1 := (hbel.cell (p := ⟨b, k * 2 + 1, none⟩) hb).trans (Nat.mul_comm 2 k ▸ c1)
        have HS := Lib.hid hS
        simp only at d0 d1 hs0 hs1
        clear hS c0 c1 hx
        go_wp2
        have hfl := fld_lt a p s
        have hst := stw_lt N A s (fld a p s) hN1
        go_quiet ((first | (go_at_call 86; exact Calls.quiet_of (field_any _ _ _ (by omega) (by omega) _)) | (go_at_call 87; exact Calls.quiet_of (set_any _ _ _ _ hN0 hN1 (by omega) (by omega) _))))
        go_wp2
        go_roundw
        case rel => exact ⟨k + 1, _, _, by omega, HS.out, by omega, Int.ofNat_lt.2 hst, by omega, by omega, rfl, by go_num, by go_num, bdrewN (hbel.alloc (Nat.le_trans (Nat.le_refl _) hbel.size) _) _⟩
        case measure => simp [intOf]; omega
      · have hkN : k = ps.length := by omega
        subst hkN
        have G := Lib.hid (show gth a ps = N by unfold gth; rw [hR])
        go_wp2
        go_ret
        exact ⟨ret_int (by rw [G.out]), hbel⟩
end Go.Proofs.YtkamljmopbocnaaGreatDoor

/- THE CONTRACTS of registers, number and empty. -/
namespace Go.Proofs.YtkamljmopbocnaaGreatDoor
open Go.ChangeShapes Go.WideShapes Go.ChangeAt Go.RowKit
set_option maxRecDepth 100000

theorem gStep_range {a : Int} : ∀ (l : List Part) (s : Int × Int), 0 ≤ s.1 → s.1 < 4294967296 → 0 ≤ (l.foldl (gStep a) s).1 ∧ (l.foldl (gStep a) s).1 < 4294967296
  | [], _, h0, h1 => ⟨h0, h1⟩
  | _ :: r, _, _, h1 => gStep_range r _ (Int.natCast_nonneg _) (Int.ofNat_lt.2 (stw_lt _ _ _ _ h1))
theorem sStep_range {a : Int} : ∀ (l : List Part) (s : Int × Int), 0 ≤ s.1 → s.1 < 4294967296 → 0 ≤ (l.foldl (sStep a) s).1 ∧ (l.foldl (sStep a) s).1 < 4294967296
  | [], _, h0, h1 => ⟨h0, h1⟩
  | _ :: r, _, _, h1 => sStep_range r _ (Int.natCast_nonneg _) (Int.ofNat_lt.2 (stw_lt _ _ _ _ h1))
theorem gth_range (a : Int) (ps : List Part) : 0 ≤ gth a ps ∧ gth a ps < 4294967296 := gStep_range _ _ (by decide) (by decide)
theorem spr_range (a : Int) (ps : List Part) : 0 ≤ spr a ps ∧ spr a ps < 4294967296 := sStep_range _ _ (by decide) (by decide)

theorem rd_ok (form : Int) : POk (rdL form) := by
  unfold rdL
  repeat' split
  all_goals exact ⟨by decide, by intro k x hx; rcases k with _ | _ | _ | _ | k <;> first | (cases hx; exact ⟨by decide, by decide⟩) | exact absurd hx (by simp)⟩
theorem rs1_ok (form : Int) : POk (rs1L form) := by
  unfold rs1L
  repeat' split
  all_goals exact ⟨by decide, by intro k x hx; rcases k with _ | _ | _ | _ | k <;> first | (cases hx; exact ⟨by decide, by decide⟩) | exact absurd hx (by simp)⟩
theorem rs2_ok (form : Int) : POk (rs2L form) := by
  unfold rs2L
  repeat' split
  all_goals exact ⟨by decide, by intro k x hx; rcases k with _ | _ | _ | _ | k <;> first | (cases hx; exact ⟨by decide, by decide⟩) | exact absurd hx (by simp)⟩
theorem num_ok (form : Int) : POk (numL form) := by
  unfold numL
  repeat' split
  all_goals exact ⟨by decide, by intro k x hx; rcases k with _ | _ | _ | _ | k <;> first | (cases hx; exact ⟨by decide, by decide⟩) | exact absurd hx (by simp)⟩

def regsAgg (a form : Int) : Value := .agg #[.int .i64 0, .int .i64 (gth a (rdL form)), .int .i64 (gth a (rs1L form)), .int .i64 (gth a (rs2L form)), .int .u32 0]
set_option maxHeartbeats 1000000
theorem registers_any (a form : Int) (ha : 0 ≤ a) (ha' : a < 4294967296) (w : World) :
    Calls Tryz.prog 82 #[.int .u32 a, .int .i64 form] w fun e w' => e = .returned (regsAgg a form) ∧ Below w.heap.size w w' := by
  obtain ⟨g0, g1⟩ := gth_range a (rdL form)
  obtain ⟨g2, g3⟩ := gth_range a (rs1L form)
  obtain ⟨g4, g5⟩ := gth_range a (rs2L form)
  have G := Lib.hid (show regsAgg a form = .agg #[.int .i64 0, .int .i64 (gth a (rdL form)), .int .i64 (gth a (rs1L form)), .int .i64 (gth a (rs2L form)), .int .u32 0] from rfl)
  go_enter Tryz.func82, Tryz.ntmps82
  go_wp2_with fail
  have hf := five_new w 50 (.int .i64 0) (.int .i64 0) (.int .i64 0) (.int .i64 0) (.int .u32 0)
  have hb0 : Below w.heap.size w (w.alloc (.cells #[.int .i64 0, .int .i64 0, .int .i64 0, .int .i64 0, .int .u32 0] 50)) := (Below.refl _ _).alloc (Nat.le_refl _) _
  have hsz : w.heap.size < (w.alloc (.cells #[.int .i64 0, .int .i64 0, .int .i64 0, .int .i64 0, .int .u32 0] 50)).heap.size := by simp
  generalize w.alloc (.cells #[.int .i64 0, .int .i64 0, .int .i64 0, .int .i64 0, .int .u32 0] 50) = w0 at *
  (go_at_call 90; refine (rdAt_any _ _).mono ?_; rintro e w1 ⟨v1, rfl, p1, b1⟩)
  (replace hf := hf.below b1 hsz; replace hb0 := hb0.trans (b1.mono (Nat.le_of_lt hsz)); replace hsz := Nat.lt_of_lt_of_le hsz b1.size)
  go_wp2_with (first
    | (go_at_call 98; refine (rs1At_any _ _).mono ?_; rintro e w1 ⟨v1, rfl, p1, b1⟩); (replace hf := hf.below b1 hsz; replace hb0 := hb0.trans (b1.mono (Nat.le_of_lt hsz)); replace hsz := Nat.lt_of_lt_of_le hsz b1.size)
    | (go_at_call 99; refine (rs2At_any _ _).mono ?_; rintro e w1 ⟨v1, rfl, p1, b1⟩); (replace hf := hf.below b1 hsz; replace hb0 := hb0.trans (b1.mono (Nat.le_of_lt hsz)); replace hsz := Nat.lt_of_lt_of_le hsz b1.size)
    | (go_at_call 97; refine (gather_any _ _ _ ha ha' _ (by assumption) (rd_ok form)).mono ?_; rintro e w1 ⟨rfl, b1⟩; (replace hf := hf.below b1 hsz; replace hb0 := hb0.trans (b1.mono (Nat.le_of_lt hsz)); replace hsz := Nat.lt_of_lt_of_le hsz b1.size))
    | (go_at_call 97; refine (gather_any _ _ _ ha ha' _ (by assumption) (rs1_ok form)).mono ?_; rintro e w1 ⟨rfl, b1⟩; (replace hf := hf.below b1 hsz; replace hb0 := hb0.trans (b1.mono (Nat.le_of_lt hsz)); replace hsz := Nat.lt_of_lt_of_le hsz b1.size))
    | (go_at_call 97; refine (gather_any _ _ _ ha ha' _ (by assumption) (rs2_ok form)).mono ?_; rintro e w1 ⟨rfl, b1⟩; (replace hf := hf.below b1 hsz; replace hb0 := hb0.trans (b1.mono (Nat.le_of_lt hsz)); replace hsz := Nat.lt_of_lt_of_le hsz b1.size); obtain ⟨⟨a0, a1, a2, a3, a4⟩, ⟨f0, f1, f2, f3, f4⟩⟩ := hf))
  refine bodyPost_ret (v := regsAgg a form) ?_ rfl ⟨rfl, ?_⟩
  · rw [G.out]
    simp [results, Tryz.results82, go_sem, a0, a1, a2, a3, a4]
  · exact ((((hb0.setCell (Nat.le_refl _) _).setCell (Nat.le_refl _) _).setCell (Nat.le_refl _) _).setCell (Nat.le_refl _) _).setCell (Nat.le_refl _) _

def numV (a form : Int) : Int := (sxt (gth a (numL form) * 2 ^ (fromI form).toNat % 4294967296) (sizeI form) : Nat)
theorem from_range (form : Int) : 0 ≤ fromI form ∧ fromI form ≤ 12 := by unfold fromI; repeat' split; all_goals omega
theorem number_any (a form : Int) (ha : 0 ≤ a) (ha' : a < 4294967296) (w : World) :
    Calls Tryz.prog 83 #[.int .u32 a, .int .i64 form] w fun e w' => e = .returned (.int .u32 (numV a form)) ∧ Below w.heap.size w w' := by
  obtain ⟨g0, g1⟩ := gth_range a (numL form)
  obtain ⟨r0, r1⟩ := from_range form
  have G := Lib.hid (show numV a form = ((sxt (gth a (numL form) * 2 ^ (fromI form).toNat % 4294967296) (sizeI form) : Nat) : Int) from rfl)
  have hm : 0 ≤ gth a (numL form) * 2 ^ (fromI form).toNat % 4294967296 ∧ gth a (numL form) * 2 ^ (fromI form).toNat % 4294967296 < 4294967296 := by omega
  obtain ⟨hm0, hm1⟩ := hm
  go_enter Tryz.func83, Tryz.ntmps83
  go_wp2_with (first
    | (go_at_call 100; refine (numAt_any _ _).mono ?_; rintro e w1 ⟨v1, rfl, p1, b1⟩)
    | (go_at_call 101; refine (numberFrom_any _ _).mono ?_; rintro e w1 ⟨rfl, rfl⟩)
    | (go_at_call 102; refine (numberSize_any _ _).mono ?_; rintro e w1 ⟨rfl, rfl⟩)
    | (go_at_call 97; refine (gather_any _ _ _ ha ha' _ (by assumption) (num_ok form)).mono ?_; rintro e w1 ⟨rfl, b1⟩)
    | (go_at_call 85; refine (sext_any _ _ (by omega) (by omega) _).mono ?_; rintro e w1 ⟨rfl, rfl⟩))
  go_ret
  exact ⟨ret_int (by rw [G.out]), by (repeat (first | assumption | exact Below.refl _ _ | refine bdrewN ?_ _ | refine bthenN ?_ (by assumption) | refine bthen ?_ (by assumption) | refine Below.setCell ?_ (Nat.le_refl _) _ | refine Below.alloc ?_ (Nat.le_refl _) _))⟩

end Go.Proofs.YtkamljmopbocnaaGreatDoor
