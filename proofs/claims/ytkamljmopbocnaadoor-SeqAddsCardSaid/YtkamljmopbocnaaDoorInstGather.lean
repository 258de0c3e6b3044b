/- THE CONTRACTS of gather and spread. -/
import Derived.Test.YtkamljmopbocnaaDoorInstPart
import Derived.WalkLawsBesides
namespace Go.Proofs.YtkamljmopbocnaaDoor
open Go.ChangeShapes Go.WideShapes Go.ChangeAt Go.RowKit
set_option maxRecDepth 100000

/-- one round of gather, and of spread: the number, and the place -/
def gStep (a : Int) (s : Int × Int) (p : Part) : Int × Int := ((stw s.1 s.2 p.2 (fld a p.1 p.2) : Nat), s.2 + p.2)
def sStep (a : Int) (s : Int × Int) (p : Part) : Int × Int := ((stw s.1 p.1 p.2 (fld a s.2 p.2) : Nat), s.2 + p.2)
def rounds (f : Int × Int → Part → Int × Int) (ps : List Part) (k : Nat) : Int × Int := (ps.take k).foldl f (0, 0)
def gth (a : Int) (ps : List Part) : Int := (rounds (gStep a) ps ps.length).1
def spr (a : Int) (ps : List Part) : Int := (rounds (sStep a) ps ps.length).1
theorem rounds_succ (f : Int × Int → Part → Int × Int) (ps : List Part) (k : Nat) (x : Part) (h : ps[k]? = some x) : rounds f ps (k + 1) = f (rounds f ps k) x := by
  unfold rounds
  rw [List.take_add_one, h]
  simp
/-- parts that a form has -/
def POk (ps : List Part) : Prop := ps.length ≤ 4 ∧ ∀ (k : Nat) (x : Part), ps[k]? = some x → 0 ≤ x.2 ∧ x.2 ≤ 32

set_option maxHeartbeats 1000000
theorem gather_any (a : Int) (ps : List Part) (v : Value) (ha : 0 ≤ a) (ha' : a < 4294967296) (w : World) (hv : PartsIs w v ps) (hok : POk ps) :
    Calls Tryd.prog 114 #[.int .u32 a, v] w fun e w' => e = .returned (.int .u32 (gth a ps)) ∧ Below w.heap.size w w' := by
  obtain ⟨hlen, hparts⟩ := hok
  rcases hv with ⟨rfl, rfl⟩ | ⟨b, hb, rfl, hcells⟩
  · go_enter Tryd.func114, Tryd.ntmps114
    go_wp2
    go_loopw [5, 6, 11] (fun n at' i wr => n = .int .u32 0 ∧ i = .int .i64 0 ∧ wr = w) (fun _ _ _ _ => 0)
    case atStart => exact ⟨rfl, rfl, rfl⟩
    case round =>
      obtain ⟨rfl, rfl, rfl⟩ := hrel
      go_wp2
      go_ret
      exact ⟨rfl, Below.refl _ _⟩
  · go_enter Tryd.func114, Tryd.ntmps114
    go_wp2
    go_loopw [5, 6, 11] (fun n at' i wr => ∃ (k : Nat) (N A : Int), k ≤ ps.length ∧ rounds (gStep a) ps k = (N, A) ∧ 0 ≤ N ∧ N < 4294967296 ∧ 0 ≤ A ∧ A ≤ 32 * k ∧ n = .int .u32 N ∧ at' = .int .i64 A ∧ i = .int .i64 k ∧ Below w.heap.size w wr) (fun _ _ i _ => ps.length - (intOf i).toNat)
    case atStart => exact ⟨0, 0, 0, Nat.zero_le _, rfl, by omega, by omega, by omega, by omega, rfl, rfl, rfl, Below.refl _ _⟩
    case round =>
      obtain ⟨k, N, A, hk, hR, hN0, hN1, hA0, hA1, rfl, rfl, rfl, hbel⟩ := hrel
      by_cases hkn : k < ps.length
      · obtain ⟨x, hx⟩ : ∃ x, ps[k]? = some x := ⟨_, List.getElem?_eq_getElem hkn⟩
        have hS := rounds_succ (gStep a) ps k x hx
        rw [hR] at hS
        obtain ⟨p, s⟩ := x
        obtain ⟨hs0, hs1⟩ := hparts k _ hx
        obtain ⟨c0, c1⟩ := hcells k _ hx
        have d0 := (hbel.cell (p := ⟨b, k * 2, none⟩) hb).trans (Nat.mul_comm 2 k ▸ c0)
        have d1 := (hbel.cell (p := ⟨b, k * 2 + 1, none⟩) hb).trans (Nat.mul_comm 2 k ▸ c1)
        have HS := Lib.hid hS
        simp only at d0 d1 hs0 hs1
        clear hS c0 c1 hx
        go_wp2
        have hfl := fld_lt a p s
        have hst := stw_lt N A s (fld a p s) hN1
        go_quiet ((first | (go_at_call 81; exact Calls.quiet_of (field_any _ _ _ (by omega) (by omega) _)) | (go_at_call 82; exact Calls.quiet_of (set_any _ _ _ _ hN0 hN1 (by omega) (by omega) _))))
        go_wp2
        go_roundw
        case rel => exact ⟨k + 1, _, _, by omega, HS.out, by omega, Int.ofNat_lt.2 hst, by omega, by omega, rfl, by go_num, by go_num, bdrewN (hbel.alloc (Nat.le_trans (Nat.le_refl _) hbel.size) _) _⟩
        case measure => simp [intOf]; omega
      · have hkN : k = ps.length := by omega
        subst hkN
        have G := Lib.hid (show gth a ps = N by unfold gth; rw [hR])
        go_wp2
        go_ret
        exact ⟨ret_int (by rw [G.out]), hbel⟩
end Go.Proofs.YtkamljmopbocnaaDoor
