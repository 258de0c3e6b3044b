/- THE CONTRACTS of registers, number and empty. -/
import Derived.Test.YtkamljmopbocnaaDoorInstGather
import Derived.Test.YtkamljmopbocnaaDoorInstChosen
import Derived.WalkLawsBesides
namespace Go.Proofs.YtkamljmopbocnaaDoor
open Go.ChangeShapes Go.WideShapes Go.ChangeAt Go.RowKit
set_option maxRecDepth 100000

theorem gStep_range {a : Int} : ∀ (l : List Part) (s : Int × Int), 0 ≤ s.1 → s.1 < 4294967296 → 0 ≤ (l.foldl (gStep a) s).1 ∧ (l.foldl (gStep a) s).1 < 4294967296
  | [], _, h0, h1 => ⟨h0, h1⟩
  | _ :: r, _, _, h1 => gStep_range r _ (Int.natCast_nonneg _) (Int.ofNat_lt.2 (stw_lt _ _ _ _ h1))
theorem sStep_range {a : Int} : ∀ (l : List Part) (s : Int × Int), 0 ≤ s.1 → s.1 < 4294967296 → 0 ≤ (l.foldl (sStep a) s).1 ∧ (l.foldl (sStep a) s).1 < 4294967296
  | [], _, h0, h1 => ⟨h0, h1⟩
  | _ :: r, _, _, h1 => sStep_range r _ (Int.natCast_nonneg _) (Int.ofNat_lt.2 (stw_lt _ _ _ _ h1))
theorem gth_range (a : Int) (ps : List Part) : 0 ≤ gth a ps ∧ gth a ps < 4294967296 := gStep_range _ _ (by decide) (by decide)
theorem spr_range (a : Int) (ps : List Part) : 0 ≤ spr a ps ∧ spr a ps < 4294967296 := sStep_range _ _ (by decide) (by decide)

theorem rd_ok (form : Int) : POk (rdL form) := by
  unfold rdL
  repeat' split
  all_goals exact ⟨by decide, by intro k x hx; rcases k with _ | _ | _ | _ | k <;> first | (cases hx; exact ⟨by decide, by decide⟩) | exact absurd hx (by simp)⟩
theorem rs1_ok (form : Int) : POk (rs1L form) := by
  unfold rs1L
  repeat' split
  all_goals exact ⟨by decide, by intro k x hx; rcases k with _ | _ | _ | _ | k <;> first | (cases hx; exact ⟨by decide, by decide⟩) | exact absurd hx (by simp)⟩
theorem rs2_ok (form : Int) : POk (rs2L form) := by
  unfold rs2L
  repeat' split
  all_goals exact ⟨by decide, by intro k x hx; rcases k with _ | _ | _ | _ | k <;> first | (cases hx; exact ⟨by decide, by decide⟩) | exact absurd hx (by simp)⟩
theorem num_ok (form : Int) : POk (numL form) := by
  unfold numL
  repeat' split
  all_goals exact ⟨by decide, by intro k x hx; rcases k with _ | _ | _ | _ | k <;> first | (cases hx; exact ⟨by decide, by decide⟩) | exact absurd hx (by simp)⟩

def regsAgg (a form : Int) : Value := .agg #[.int .i64 0, .int .i64 (gth a (rdL form)), .int .i64 (gth a (rs1L form)), .int .i64 (gth a (rs2L form)), .int .u32 0]
set_option maxHeartbeats 1000000
theorem registers_any (a form : Int) (ha : 0 ≤ a) (ha' : a < 4294967296) (w : World) :
    Calls Tryd.prog 112 #[.int .u32 a, .int .i64 form] w fun e w' => e = .returned (regsAgg a form) ∧ Below w.heap.size w w' := by
  obtain ⟨g0, g1⟩ := gth_range a (rdL form)
  obtain ⟨g2, g3⟩ := gth_range a (rs1L form)
  obtain ⟨g4, g5⟩ := gth_range a (rs2L form)
  have G := Lib.hid (show regsAgg a form = .agg #[.int .i64 0, .int .i64 (gth a (rdL form)), .int .i64 (gth a (rs1L form)), .int .i64 (gth a (rs2L form)), .int .u32 0] from rfl)
  go_enter Tryd.func112, Tryd.ntmps112
  go_wp2_with fail
  have hf := five_new w 46 (.int .i64 0) (.int .i64 0) (.int .i64 0) (.int .i64 0) (.int .u32 0)
  have hb0 : Below w.heap.size w (w.alloc (.cells #[.int .i64 0, .int .i64 0, .int .i64 0, .int .i64 0, .int .u32 0] 46)) := (Below.refl _ _).alloc (Nat.le_refl _) _
  have hsz : w.heap.size < (w.alloc (.cells #[.int .i64 0, .int .i64 0, .int .i64 0, .int .i64 0, .int .u32 0] 46)).heap.size := by simp
  generalize w.alloc (.cells #[.int .i64 0, .int .i64 0, .int .i64 0, .int .i64 0, .int .u32 0] 46) = w0 at *
  (go_at_call 84; refine (rdAt_any _ _).mono ?_; rintro e w1 ⟨v1, rfl, p1, b1⟩)
  (replace hf := hf.below b1 hsz; replace hb0 := hb0.trans (b1.mono (Nat.le_of_lt hsz)); replace hsz := Nat.lt_of_lt_of_le hsz b1.size)
  go_wp2_with (first
    | (go_at_call 115; refine (rs1At_any _ _).mono ?_; rintro e w1 ⟨v1, rfl, p1, b1⟩); (replace hf := hf.below b1 hsz; replace hb0 := hb0.trans (b1.mono (Nat.le_of_lt hsz)); replace hsz := Nat.lt_of_lt_of_le hsz b1.size)
    | (go_at_call 116; refine (rs2At_any _ _).mono ?_; rintro e w1 ⟨v1, rfl, p1, b1⟩); (replace hf := hf.below b1 hsz; replace hb0 := hb0.trans (b1.mono (Nat.le_of_lt hsz)); replace hsz := Nat.lt_of_lt_of_le hsz b1.size)
    | (go_at_call 114; refine (gather_any _ _ _ ha ha' _ (by assumption) (rd_ok form)).mono ?_; rintro e w1 ⟨rfl, b1⟩; (replace hf := hf.below b1 hsz; replace hb0 := hb0.trans (b1.mono (Nat.le_of_lt hsz)); replace hsz := Nat.lt_of_lt_of_le hsz b1.size))
    | (go_at_call 114; refine (gather_any _ _ _ ha ha' _ (by assumption) (rs1_ok form)).mono ?_; rintro e w1 ⟨rfl, b1⟩; (replace hf := hf.below b1 hsz; replace hb0 := hb0.trans (b1.mono (Nat.le_of_lt hsz)); replace hsz := Nat.lt_of_lt_of_le hsz b1.size))
    | (go_at_call 114; refine (gather_any _ _ _ ha ha' _ (by assumption) (rs2_ok form)).mono ?_; rintro e w1 ⟨rfl, b1⟩; (replace hf := hf.below b1 hsz; replace hb0 := hb0.trans (b1.mono (Nat.le_of_lt hsz)); replace hsz := Nat.lt_of_lt_of_le hsz b1.size); obtain ⟨⟨a0, a1, a2, a3, a4⟩, ⟨f0, f1, f2, f3, f4⟩⟩ := hf))
  refine bodyPost_ret (v := regsAgg a form) ?_ rfl ⟨rfl, ?_⟩
  · rw [G.out]
    simp [results, Tryd.results112, go_sem, a0, a1, a2, a3, a4]
  · exact ((((hb0.setCell (Nat.le_refl _) _).setCell (Nat.le_refl _) _).setCell (Nat.le_refl _) _).setCell (Nat.le_refl _) _).setCell (Nat.le_refl _) _

def numV (a form : Int) : Int := (sxt (gth a (numL form) * 2 ^ (fromI form).toNat % 4294967296) (sizeI form) : Nat)
theorem from_range (form : Int) : 0 ≤ fromI form ∧ fromI form ≤ 12 := by unfold fromI; repeat' split; all_goals omega
theorem number_any (a form : Int) (ha : 0 ≤ a) (ha' : a < 4294967296) (w : World) :
    Calls Tryd.prog 113 #[.int .u32 a, .int .i64 form] w fun e w' => e = .returned (.int .u32 (numV a form)) ∧ Below w.heap.size w w' := by
  obtain ⟨g0, g1⟩ := gth_range a (numL form)
  obtain ⟨r0, r1⟩ := from_range form
  have G := Lib.hid (show numV a form = ((sxt (gth a (numL form) * 2 ^ (fromI form).toNat % 4294967296) (sizeI form) : Nat) : Int) from rfl)
  have hm : 0 ≤ gth a (numL form) * 2 ^ (fromI form).toNat % 4294967296 ∧ gth a (numL form) * 2 ^ (fromI form).toNat % 4294967296 < 4294967296 := by omega
  obtain ⟨hm0, hm1⟩ := hm
  go_enter Tryd.func113, Tryd.ntmps113
  go_wp2_with (first
    | (go_at_call 117; refine (numAt_any _ _).mono ?_; rintro e w1 ⟨v1, rfl, p1, b1⟩)
    | (go_at_call 118; refine (numberFrom_any _ _).mono ?_; rintro e w1 ⟨rfl, rfl⟩)
    | (go_at_call 119; refine (numberSize_any _ _).mono ?_; rintro e w1 ⟨rfl, rfl⟩)
    | (go_at_call 114; refine (gather_any _ _ _ ha ha' _ (by assumption) (num_ok form)).mono ?_; rintro e w1 ⟨rfl, b1⟩)
    | (go_at_call 80; refine (sext_any _ _ (by omega) (by omega) _).mono ?_; rintro e w1 ⟨rfl, rfl⟩))
  go_ret
  exact ⟨ret_int (by rw [G.out]), by (repeat (first | assumption | exact Below.refl _ _ | refine bdrewN ?_ _ | refine bthenN ?_ (by assumption) | refine bthen ?_ (by assumption) | refine Below.setCell ?_ (Nat.le_refl _) _ | refine Below.alloc ?_ (Nat.le_refl _) _))⟩

end Go.Proofs.YtkamljmopbocnaaDoor
