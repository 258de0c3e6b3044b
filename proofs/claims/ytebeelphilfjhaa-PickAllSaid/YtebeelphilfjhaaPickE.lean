/- few and alive of layer 17; what Pick hands back, as numbers. -/
import Derived.Test.YtebeelphilfjhaaPickD
import Derived.Lib.SmallJoins
namespace Go.Proofs.Ytebeelphilfjhaa
open Go.ChangeShapes Go.WideShapes Go.ChangeAt Go.RowKit Go.Maps

set_option maxHeartbeats 2000000
theorem few_any (A B : Option Addr) (nk ck n cc : Nat) (h1 : nk ≤ ck) (h2 : ck ≤ maxLen) (h3 : n ≤ cc) (h4 : cc ≤ maxLen) (w : World) :
    Calls Try.prog 68 #[.slice A nk ck, .slice B n cc] w fun e w' => e = .returned (.tuple #[.slice A (min nk 40) ck, .slice B (min n 40) cc]) ∧ ∃ q, w' = w.drewN q := by
  unfold maxLen at h2 h4
  rcases Nat.le_total nk 40 with a | a
  · rcases Nat.le_total n 40 with b | b
    · rw [Nat.min_eq_left a, Nat.min_eq_left b]
      go_enter Try.func68, Try.ntmps68
      go_wp2
      go_quiet (fail)
      go_wp2
      go_ret2
      exact ⟨rfl, _, rfl⟩
    · rw [Nat.min_eq_left a, Nat.min_eq_right b]
      by_cases e : n = 40
      · subst e
        go_enter Try.func68, Try.ntmps68
        go_wp2
        go_quiet (fail)
        go_wp2
        go_ret2
        exact ⟨rfl, _, rfl⟩
      · have b' : 40 < n := by omega
        clear e b
        go_enter Try.func68, Try.ntmps68
        go_wp2
        go_quiet (fail)
        go_wp2
        go_ret2
        exact ⟨rfl, _, rfl⟩
  · by_cases e : nk = 40
    · subst e
      rcases Nat.le_total n 40 with b | b
      · rw [Nat.min_self, Nat.min_eq_left b]
        go_enter Try.func68, Try.ntmps68
        go_wp2
        go_quiet (fail)
        go_wp2
        go_ret2
        exact ⟨rfl, _, rfl⟩
      · rw [Nat.min_self, Nat.min_eq_right b]
        by_cases e : n = 40
        · subst e
          go_enter Try.func68, Try.ntmps68
          go_wp2
          go_quiet (fail)
          go_wp2
          go_ret2
          exact ⟨rfl, _, rfl⟩
        · have b' : 40 < n := by omega
          clear e b
          go_enter Try.func68, Try.ntmps68
          go_wp2
          go_quiet (fail)
          go_wp2
          go_ret2
          exact ⟨rfl, _, rfl⟩
    · have a' : 40 < nk := by omega
      rw [Nat.min_eq_right a]
      clear e a
      rcases Nat.le_total n 40 with b | b
      · rw [Nat.min_eq_left b]
        go_enter Try.func68, Try.ntmps68
        go_wp2
        go_quiet (fail)
        go_wp2
        go_ret2
        exact ⟨rfl, _, rfl⟩
      · rw [Nat.min_eq_right b]
        by_cases e : n = 40
        · subst e
          go_enter Try.func68, Try.ntmps68
          go_wp2
          go_quiet (fail)
          go_wp2
          go_ret2
          exact ⟨rfl, _, rfl⟩
        · have b' : 40 < n := by omega
          clear e b
          go_enter Try.func68, Try.ntmps68
          go_wp2
          go_quiet (fail)
          go_wp2
          go_ret2
          exact ⟨rfl, _, rfl⟩

def outI (l : List Nat) : List Int := l.map fun (j : Nat) => (j : Int)
theorem own_ints {w : World} {base e : Nat} {A : Option Addr} {n c : Nat} {out : List Nat} (h : w.ownsRow base e 1 (.slice A n c) n (outV out)) (hn : out.length = n) : IntsAt w A n .i64 (outI out) := by
  refine ⟨by simp [outI, hn], fun j z hz => ?_⟩
  have hj : j < out.length := by
    have := (List.getElem?_eq_some_iff.1 hz).1
    simpa [outI] using this
  obtain ⟨ad, rfl, hc⟩ := own_cell h hn hj
  have hzz : z = (out[j] : Int) := by
    simp [outI, hj] at hz
    exact hz.symm
  subst hzz
  refine ⟨ad, rfl, ?_, hc⟩
  have := World.block_lt_of_cell? w (ad.add j) hc
  rwa [block_add] at this
theorem own_room {w : World} {base e size : Nat} {A : Option Addr} {n c : Nat} {xs : List Value} (h : w.ownsRow base e size (.slice A n c) n xs) : n ≤ c := by
  rcases h.2 with ⟨h0, h1⟩ | ⟨g, cap, cur, hv, hg, hh, hn, hcap, _⟩
  · omega
  · injection hv with _ _ hv; omega
/-- Pick, its answer as numbers -/
theorem pick_ints (width : Int) (busy : Bool) (A B : Option Addr) (nk ck n cc : Nat) (ks : List Int) (cs : List Bool) (hnk : nk ≤ 40) (hn : n ≤ 40) (w : World) (hk : IntsAt w A nk .i64 ks) (hc : BoolsAt w B n cs) :
    Calls Try.prog 71 #[.int .i64 width, .bool busy, .slice A nk ck, .slice B n cc] w fun e w' => ∃ Av cv, e = .returned (.slice Av (outP width busy ks cs n).length cv) ∧ (outP width busy ks cs n).length ≤ cv ∧ IntsAt w' Av (outP width busy ks cs n).length .i64 (outI (outP width busy ks cs n)) ∧ Below w.heap.size w w' := by
  refine (pick_any width busy A B nk ck n cc ks cs hnk hn w hk hc).mono ?_
  rintro e w' ⟨v, rfl, ho, hb⟩
  obtain ⟨Av, cv, rfl⟩ := own_form ho
  exact ⟨Av, cv, rfl, own_room ho, own_ints ho rfl, hb⟩
theorem refPick_ints (width : Int) (busy : Bool) (A B : Option Addr) (nk ck n cc : Nat) (ks : List Int) (cs : List Bool) (hnk : nk ≤ 40) (hn : n ≤ 40) (w : World) (hk : IntsAt w A nk .i64 ks) (hc : BoolsAt w B n cs) :
    Calls Try.prog 72 #[.int .i64 width, .bool busy, .slice A nk ck, .slice B n cc] w fun e w' => ∃ Av cv, e = .returned (.slice Av (outP width busy ks cs n).length cv) ∧ (outP width busy ks cs n).length ≤ cv ∧ IntsAt w' Av (outP width busy ks cs n).length .i64 (outI (outP width busy ks cs n)) ∧ Below w.heap.size w w' := by
  refine (refPick_any width busy A B nk ck n cc ks cs hnk hn w hk hc).mono ?_
  rintro e w' ⟨v, rfl, ho, hb⟩
  obtain ⟨Av, cv, rfl⟩ := own_form ho
  exact ⟨Av, cv, rfl, own_room ho, own_ints ho rfl, hb⟩

theorem alive17_any (w : World) : Calls Try.prog 69 #[] w fun e w' => e = .returned (.bool true) ∧ Below w.heap.size w w' := by
  have hb0 : Below w.heap.size w (w.alloc (.cells #[.bool true] 4)) := (Below.refl _ _).alloc (Nat.le_refl _) _
  have hc : BoolsAt (w.alloc (.cells #[.bool true] 4)) (some ⟨w.heap.size, 0, none⟩) 1 [true] := by
    refine ⟨rfl, fun j z hz => ?_⟩
    obtain rfl | hj : j = 0 ∨ 1 ≤ j := by omega
    · simp at hz
      subst hz
      exact ⟨_, rfl, by simp, World.cell?_alloc_at _ _ _ _ rfl⟩
    · rw [List.getElem?_eq_none (by simpa using hj)] at hz
      exact absurd hz (by simp)
  have hk : IntsAt (w.alloc (.cells #[.bool true] 4)) none 0 .i64 [] := ⟨rfl, fun j z hz => by simp at hz⟩
  have hl : (outP 1 true [] [true] 1).length = 1 := by decide
  have HP := Lib.hid (pick_ints 1 true none (some ⟨w.heap.size, 0, none⟩) 0 0 1 1 [] [true] (by omega) (by omega) _ hk hc)
  replace hl := Lib.hid hl
  clear hk hc
  go_enter Try.func69, Try.ntmps69
  go_wp2_with fail
  go_at_call 71
  refine HP.out.mono ?_
  rintro e w1 ⟨Av, cv, rfl, -, -, b⟩
  have HB := Lib.hid (hb0.trans (b.mono hb0.size))
  clear b hb0
  rw [hl.out]
  go_wp2
  go_ret
  exact ⟨rfl, HB.out⟩

end Go.Proofs.Ytebeelphilfjhaa
