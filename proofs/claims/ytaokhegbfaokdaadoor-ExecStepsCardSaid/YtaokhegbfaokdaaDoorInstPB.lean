import Derived.Test.YtaokhegbfaokdaaDoorInstTab
import Derived.WalkLawsBesides
import Derived.Test.YtaokhegbfaokdaaDoorInstChosen
/- THE PARTS of a word: lists of fields, laid in memory as slices. -/
namespace Go.Proofs.YtaokhegbfaokdaaDoor
open Go.ChangeShapes Go.WideShapes Go.ChangeAt Go.RowKit
set_option maxRecDepth 100000

abbrev Part := Int × Int
/-- the slice v lies in w, and holds the parts ps -/
def PartsIs (w : World) (v : Value) (ps : List Part) : Prop :=
  (ps = [] ∧ v = .slice none 0 0) ∨
  ∃ b, b < w.heap.size ∧ v = .slice (some ⟨b, 0, none⟩) ps.length ps.length ∧ ∀ (k : Nat) (x : Part), ps[k]? = some x → w.cell? ⟨b, 2 * k, none⟩ = some (.int .i64 x.1) ∧ w.cell? ⟨b, 2 * k + 1, none⟩ = some (.int .i64 x.2)

theorem parts_none {w : World} {ps : List Part} (h : ps = []) : PartsIs w (.slice none 0 0) ps := Or.inl ⟨h, rfl⟩
theorem parts_new {w : World} {ps qs : List Part} {cs : Array Value} {t : TypeId} {n : Nat} (h : ps = qs) (hn : n = qs.length) (hcs : ∀ (k : Nat) (x : Part), qs[k]? = some x → cs[2 * k]? = some (.int .i64 x.1) ∧ cs[2 * k + 1]? = some (.int .i64 x.2)) :
    PartsIs (w.alloc (.cells cs t)) (.slice (some ⟨w.heap.size, 0, none⟩) n n) ps := by
  subst h hn
  exact Or.inr ⟨w.heap.size, by simp, rfl, fun k x hx => ⟨(World.cell?_alloc_at _ _ _ _ rfl).trans (hcs k x hx).1, (World.cell?_alloc_at _ _ _ _ rfl).trans (hcs k x hx).2⟩⟩
theorem PartsIs.below {w w' : World} {v : Value} {ps : List Part} {B : Nat} (h : PartsIs w v ps) (hb : Below B w w') (hB : w.heap.size ≤ B) : PartsIs w' v ps := by
  rcases h with h | ⟨b, h1, h2, h3⟩
  · exact Or.inl h
  · exact Or.inr ⟨b, Nat.lt_of_lt_of_le h1 hb.size, h2, fun k x hx => ⟨(hb.cell (p := ⟨b, 2 * k, none⟩) (by show b < B; omega)).trans (h3 k x hx).1, (hb.cell (p := ⟨b, 2 * k + 1, none⟩) (by show b < B; omega)).trans (h3 k x hx).2⟩⟩

def rdL (form : Int) : List Part := if form = 3 ∨ form = 4 ∨ form = 7 then [] else [(7, 5)]
def rs1L (form : Int) : List Part := if form = 5 ∨ form = 6 ∨ form = 7 then [] else [(15, 5)]
def rs2L (form : Int) : List Part := if form = 0 ∨ form = 3 ∨ form = 4 then [(20, 5)] else []
def numL (form : Int) : List Part :=
  if form = 1 then [(20, 12)] else if form = 2 then [(20, 5)] else if form = 3 then [(7, 5), (25, 7)] else if form = 4 then [(8, 4), (25, 6), (7, 1), (31, 1)] else if form = 5 then [(12, 20)] else if form = 6 then [(21, 10), (20, 1), (12, 8), (31, 1)] else []
def fromI (form : Int) : Int := if form = 4 ∨ form = 6 then 1 else if form = 5 then 12 else 0
def sizeI (form : Int) : Int := if form = 1 ∨ form = 3 then 12 else if form = 4 then 13 else if form = 6 then 21 else 0

set_option maxHeartbeats 1000000
theorem rdAt_any (form : Int) (w : World) : Calls Tryd.prog 68 #[.int .i64 form] w fun e w' => ∃ v, e = .returned v ∧ PartsIs w' v (rdL form) ∧ Below w.heap.size w w' := by
  by_cases h0 : form = 3
  · subst h0
    have G := Lib.hid (show rdL 3 = [] from rfl)
    (go_enter Tryd.func68, Tryd.ntmps68; go_wp2; go_ret; exact ⟨_, rfl, (by first | exact parts_none G.out | exact parts_new G.out rfl (by intro k x hx; rcases k with _ | _ | _ | _ | k <;> first | (cases hx; exact ⟨rfl, rfl⟩) | exact absurd hx (by simp))), by first | exact Below.refl _ _ | exact (Below.refl _ _).alloc (Nat.le_refl _) _⟩)
  by_cases h1 : form = 4
  · subst h1
    have G := Lib.hid (show rdL 4 = [] from rfl)
    (go_enter Tryd.func68, Tryd.ntmps68; go_wp2; go_ret; exact ⟨_, rfl, (by first | exact parts_none G.out | exact parts_new G.out rfl (by intro k x hx; rcases k with _ | _ | _ | _ | k <;> first | (cases hx; exact ⟨rfl, rfl⟩) | exact absurd hx (by simp))), by first | exact Below.refl _ _ | exact (Below.refl _ _).alloc (Nat.le_refl _) _⟩)
  by_cases h2 : form = 7
  · subst h2
    have G := Lib.hid (show rdL 7 = [] from rfl)
    (go_enter Tryd.func68, Tryd.ntmps68; go_wp2; go_ret; exact ⟨_, rfl, (by first | exact parts_none G.out | exact parts_new G.out rfl (by intro k x hx; rcases k with _ | _ | _ | _ | k <;> first | (cases hx; exact ⟨rfl, rfl⟩) | exact absurd hx (by simp))), by first | exact Below.refl _ _ | exact (Below.refl _ _).alloc (Nat.le_refl _) _⟩)
  have G := Lib.hid (show rdL form = [(7, 5)] by unfold rdL; rw [if_neg (by omega)])
  have q0 : (form == 3) = false := by simpa using h0
  have q1 : (form == 4) = false := by simpa using h1
  have q2 : (form == 7) = false := by simpa using h2
  clear h0 h1 h2
  (go_enter Tryd.func68, Tryd.ntmps68; go_wp2; go_ret; exact ⟨_, rfl, (by first | exact parts_none G.out | exact parts_new G.out rfl (by intro k x hx; rcases k with _ | _ | _ | _ | k <;> first | (cases hx; exact ⟨rfl, rfl⟩) | exact absurd hx (by simp))), by first | exact Below.refl _ _ | exact (Below.refl _ _).alloc (Nat.le_refl _) _⟩)
end Go.Proofs.YtaokhegbfaokdaaDoor

/- THE CONTRACTS of gather and spread. -/
namespace Go.Proofs.YtaokhegbfaokdaaDoor
open Go.ChangeShapes Go.WideShapes Go.ChangeAt Go.RowKit
set_option maxRecDepth 100000

/-- one round of gather, and of spread: the number, and the place -/
def gStep (a : Int) (s : Int × Int) (p : Part) : Int × Int := ((stw s.1 s.2 p.2 (fld a p.1 p.2) : Nat), s.2 + p.2)
def sStep (a : Int) (s : Int × Int) (p : Part) : Int × Int := ((stw s.1 p.1 p.2 (fld a s.2 p.2) : Nat), s.2 + p.2)
def rounds (f : Int × Int → Part → Int × Int) (ps : List Part) (k : Nat) : Int × Int := (ps.take k).foldl f (0, 0)
def gth (a : Int) (ps : List Part) : Int := (rounds (gStep a) ps ps.length).1
def spr (a : Int) (ps : List Part) : Int := (rounds (sStep a) ps ps.length).1
theorem rounds_succ (f : Int × Int → Part → Int × Int) (ps : List Part) (k : Nat) (x : Part) (h : ps[k]? = some x) : rounds f ps (k + 1) = f (rounds f ps k) x := by
  unfold rounds
  rw [List.take_add_one, h]
  simp
/-- parts that a form has -/
def POk (ps : List Part) : Prop := ps.length ≤ 4 ∧ ∀ (k : Nat) (x : Part), ps[k]? = some x → 0 ≤ x.2 ∧ x.2 ≤ 32

set_option maxHeartbeats 1000000
end Go.Proofs.YtaokhegbfaokdaaDoor

/- THE CONTRACTS of registers, number and empty. -/
namespace Go.Proofs.YtaokhegbfaokdaaDoor
open Go.ChangeShapes Go.WideShapes Go.ChangeAt Go.RowKit
set_option maxRecDepth 100000

theorem gStep_range {a : Int} : ∀ (l : List Part) (s : Int × Int), 0 ≤ s.1 → s.1 < 4294967296 → 0 ≤ (l.foldl (gStep a) s).1 ∧ (l.foldl (gStep a) s).1 < 4294967296
  | [], _, h0, h1 => ⟨h0, h1⟩
  | _ :: r, _, _, h1 => gStep_range r _ (Int.natCast_nonneg _) (Int.ofNat_lt.2 (stw_lt _ _ _ _ h1))
theorem sStep_range {a : Int} : ∀ (l : List Part) (s : Int × Int), 0 ≤ s.1 → s.1 < 4294967296 → 0 ≤ (l.foldl (sStep a) s).1 ∧ (l.foldl (sStep a) s).1 < 4294967296
  | [], _, h0, h1 => ⟨h0, h1⟩
  | _ :: r, _, _, h1 => sStep_range r _ (Int.natCast_nonneg _) (Int.ofNat_lt.2 (stw_lt _ _ _ _ h1))
theorem gth_range (a : Int) (ps : List Part) : 0 ≤ gth a ps ∧ gth a ps < 4294967296 := gStep_range _ _ (by decide) (by decide)
theorem spr_range (a : Int) (ps : List Part) : 0 ≤ spr a ps ∧ spr a ps < 4294967296 := sStep_range _ _ (by decide) (by decide)

theorem rd_ok (form : Int) : POk (rdL form) := by
  unfold rdL
  repeat' split
  all_goals exact ⟨by decide, by intro k x hx; rcases k with _ | _ | _ | _ | k <;> first | (cases hx; exact ⟨by decide, by decide⟩) | exact absurd hx (by simp)⟩
theorem rs1_ok (form : Int) : POk (rs1L form) := by
  unfold rs1L
  repeat' split
  all_goals exact ⟨by decide, by intro k x hx; rcases k with _ | _ | _ | _ | k <;> first | (cases hx; exact ⟨by decide, by decide⟩) | exact absurd hx (by simp)⟩
theorem rs2_ok (form : Int) : POk (rs2L form) := by
  unfold rs2L
  repeat' split
  all_goals exact ⟨by decide, by intro k x hx; rcases k with _ | _ | _ | _ | k <;> first | (cases hx; exact ⟨by decide, by decide⟩) | exact absurd hx (by simp)⟩
theorem num_ok (form : Int) : POk (numL form) := by
  unfold numL
  repeat' split
  all_goals exact ⟨by decide, by intro k x hx; rcases k with _ | _ | _ | _ | k <;> first | (cases hx; exact ⟨by decide, by decide⟩) | exact absurd hx (by simp)⟩

def regsAgg (a form : Int) : Value := .agg #[.int .i64 0, .int .i64 (gth a (rdL form)), .int .i64 (gth a (rs1L form)), .int .i64 (gth a (rs2L form)), .int .u32 0]
set_option maxHeartbeats 1000000
def numV (a form : Int) : Int := (sxt (gth a (numL form) * 2 ^ (fromI form).toNat % 4294967296) (sizeI form) : Nat)
theorem from_range (form : Int) : 0 ≤ fromI form ∧ fromI form ≤ 12 := by unfold fromI; repeat' split; all_goals omega
end Go.Proofs.YtaokhegbfaokdaaDoor
