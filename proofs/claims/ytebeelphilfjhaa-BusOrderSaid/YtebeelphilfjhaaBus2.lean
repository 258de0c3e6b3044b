/- THE CONTRACTS of package bus: Clone, Push, Tick. -/
import Derived.Test.YtebeelphilfjhaaBus
import Derived.Lib.LazyBuf
namespace Go.Proofs.Ytebeelphilfjhaa
open Go.ChangeShapes Go.WideShapes Go.ChangeAt Go.RowKit
set_option linter.unusedVariables false
set_option linter.unusedSimpArgs false

theorem info_req : (Try.prog.info? 39).map (fun i => (i.zero, i.size, i.bytes)) = some (some (.agg #[.int .i64 0, .int .u32 0, .int .i64 0, .string ByteArray.empty]), 4, 40) := by kernel_rfl
set_option maxHeartbeats 1000000
set_option maxRecDepth 100000
theorem clone_any (A : Option Addr) (n cap : Nat) (rs : List Req) (hn : n ≤ 200) (w : World) (h : ReqsAt w A n rs) :
    Calls Try.prog 83 #[.slice A n cap] w fun e w' => ∃ v, e = .returned v ∧ w'.ownsRow w.heap.size 39 4 v n (rs.map reqC).flatten ∧ Below w.heap.size w w' := by
  obtain ⟨i0, hi, hz0, hz1, hz2⟩ := info_parts info_req
  have hnil := run_eql_slice_nil (P := Try.prog) w 36 39 A n cap Try.underlying36
  have hl := Lib.hid h.len
  cases A with
  | none =>
    obtain rfl : n = 0 := by
      rcases Nat.eq_zero_or_pos n with e | e
      · exact e
      · obtain ⟨r, hr⟩ : ∃ r, rs[0]? = some r := ⟨_, List.getElem?_eq_getElem (by rw [h.len]; exact e)⟩
        obtain ⟨a, ha, _⟩ := h.at_ hr
        cases ha
    obtain rfl : rs = [] := List.length_eq_zero_iff.1 hl.out
    go_enter Try.func83, Try.ntmps83
    go_wp2
    go_ret
    exact ⟨_, rfl, World.ownsRow_nil _ _ _ _, Below.refl _ _⟩
  | some a =>
    have hnews := RowsAt.news h (by decide)
    have hown := World.ownsRow_made w (base := w.heap.size) (e := 39) (size := 4) #[] 0 (Nat.le_refl _) (Nat.zero_le _) rfl
    have hbel := (Below.refl w.heap.size w).alloc (Nat.le_refl _) (.cells #[] 39)
    have HN1 := Lib.hid hnews.1
    have HN2 := Lib.hid (RowsAt.news (RowsAt.below h hbel) (by decide)).2
    clear hnews
    go_enter Try.func83, Try.ntmps83
    go_wp2_with (at_builtin; refine wpList_append_own _ rfl (.tmp 5) (.tmp 6) 36 rfl w.heap.size 39 i0 _ 4 40 Try.underlying36 hi hz0 hz1 hz2 rfl (by decide) _ _ _ rfl hown a _ _ _ rfl HN1.out HN2.out (reqC_one rs) (by unfold maxLen; omega) (by omega) (by simp) ?_; intro v' w1 hown' hgrow _)
    have hb1 := hbel.grown hgrow (by simp) (fun k hk => (hown.lt k hk).1)
    clear hgrow hown
    rw [Nat.zero_add, List.nil_append] at hown'
    go_ret
    exact ⟨_, rfl, hown', hb1⟩

theorem cell_new4 (w : World) (v0 v1 v2 v3 : Value) (t : TypeId) : ∀ j u, [v0, v1, v2, v3][j]? = some u → (w.alloc (.cells #[v0, v1, v2, v3] t)).cell? ((⟨w.heap.size, 0, none⟩ : Addr).add j) = some u := by
  intro j u hj
  rw [Addr.add_lit, Nat.zero_add]
  rw [World.cell?_alloc_at _ _ _ _ rfl]
  match j, hj with
  | 0, hj => simpa using hj
  | 1, hj => simpa using hj
  | 2, hj => simpa using hj
  | 3, hj => simpa using hj
theorem flat_snoc (rs : List Req) (r : Req) : ((rs ++ [r]).map reqC).flatten = (rs.map reqC).flatten ++ reqC r := by simp
theorem below_app {B : Nat} {w wr w1 : World} {e size n : Nat} {v : Value} {xs : List Value} {o : Obj} (hbel : Below B w wr) (hB : B ≤ w.heap.size) (hown : wr.ownsRow B e size v n xs) (hgrow : (wr.alloc o).grownBy w1 v.ownBlock) : Below B w w1 :=
  (hbel.alloc (by have := hbel.size; omega) o).grown hgrow (by have := hbel.size; simp; omega) (fun j hj => (hown.lt j hj).1)
theorem push_any (A : Option Addr) (n cap : Nat) (rs : List Req) (kind line left : Int) (data : ByteArray) (hn : n ≤ 100) (w : World) (h : ReqsAt w A n rs) :
    Calls Try.prog 36 #[.slice A n cap, .int .i64 kind, .int .u32 line, .int .i64 left, .string data] w fun e w' =>
      ∃ A' cap', e = .returned (.slice A' (n + 1) cap') ∧ n + 1 ≤ cap' ∧ cap' ≤ maxLen ∧ ReqsAt w' A' (n + 1) (rs ++ [⟨kind, line, if left < 1 then 1 else left, data⟩]) ∧ Below w.heap.size w w' := by
  obtain ⟨i0, hi, hz0, hz1, hz2⟩ := info_parts info_req
  have hl := Lib.hid h.len
  have HC := Lib.hid (clone_any A n cap rs (by omega) w h)
  clear h
  by_cases hle : left < 1
  · rw [if_pos hle]
    go_enter Try.func36, Try.ntmps36
    go_wp2_with fail
    refine HC.out.mono ?_
    rintro e w1 ⟨v, rfl, hown, hbel⟩
    go_wp2_with (at_builtin; refine wpList_append_own _ rfl (.tmp 12) (.tmp 19) 36 rfl w.heap.size 39 i0 _ 4 40 Try.underlying36 hi hz0 hz1 hz2 rfl (by decide) _ _ _ rfl (hown.alloc _) ⟨w1.heap.size, 0, none⟩ 1 1 (reqC ⟨kind, line, 1, data⟩) rfl rfl (cell_new4 _ _ _ _ _ _) (by have := reqC_one [⟨kind, line, 1, data⟩]; simpa using this) (by unfold maxLen; omega) (by omega) (by have := hbel.size; simp; omega) ?_; intro v' w2 hown' hgrow _)
    have hb1 := below_app hbel (Nat.le_refl _) hown hgrow
    rw [← flat_snoc] at hown'
    clear hgrow hown
    obtain ⟨A', cap', rfl, g1, g2, g3⟩ := ReqsAt.own hown' (by simp [hl.out])
    go_ret
    exact ⟨_, _, rfl, g1, g2, g3, hb1⟩
  · rw [if_neg hle]
    have hge : 1 ≤ left := by omega
    clear hle
    go_enter Try.func36, Try.ntmps36
    go_wp2_with fail
    refine HC.out.mono ?_
    rintro e w1 ⟨v, rfl, hown, hbel⟩
    go_wp2_with (at_builtin; refine wpList_append_own _ rfl (.tmp 12) (.tmp 19) 36 rfl w.heap.size 39 i0 _ 4 40 Try.underlying36 hi hz0 hz1 hz2 rfl (by decide) _ _ _ rfl (hown.alloc _) ⟨w1.heap.size, 0, none⟩ 1 1 (reqC ⟨kind, line, left, data⟩) rfl rfl (cell_new4 _ _ _ _ _ _) (by have := reqC_one [⟨kind, line, left, data⟩]; simpa using this) (by unfold maxLen; omega) (by omega) (by have := hbel.size; simp; omega) ?_; intro v' w2 hown' hgrow _)
    have hb1 := below_app hbel (Nat.le_refl _) hown hgrow
    rw [← flat_snoc] at hown'
    clear hgrow hown
    obtain ⟨A', cap', rfl, g1, g2, g3⟩ := ReqsAt.own hown' (by simp [hl.out])
    go_ret
    exact ⟨_, _, rfl, g1, g2, g3, hb1⟩

end Go.Proofs.Ytebeelphilfjhaa
