/- THE CONTRACT of the reference's Pick: it answers as Pick does. -/
import Derived.Test.YtebeelphilfjhaaPickC
namespace Go.Proofs.Ytebeelphilfjhaa
open Go.ChangeShapes Go.WideShapes Go.ChangeAt Go.RowKit Go.Maps

/-- does one of these need the same? -/
def clash (ks : List Int) (g : Nat) (l : List Nat) : Bool := l.any fun q => decide (0 < g) && grpN ks q == g
theorem clash_snoc (ks : List Int) (g : Nat) (l : List Nat) (q : Nat) : clash ks g (l ++ [q]) = (clash ks g l || (decide (0 < g) && grpN ks q == g)) := by simp [clash, List.any_append]
theorem clash_take (ks : List Int) (g : Nat) (l : List Nat) (j : Nat) (hj : j < l.length) : clash ks g (l.take (j + 1)) = (clash ks g (l.take j) || (decide (0 < g) && grpN ks l[j] == g)) := by
  rw [List.take_succ_eq_append_getElem hj, clash_snoc]
theorem grp_eq (ks : List Int) (q u : Nat) (hu : u = 0 ∨ u = 1) : (grpN ks q == u + 1) = (unitN ks q == u) := by
  have := unitN_le ks q
  unfold grpN
  obtain h | h | h : unitN ks q = 0 ∨ unitN ks q = 1 ∨ unitN ks q = 2 := by omega
  all_goals rw [h]; rcases hu with rfl | rfl <;> rfl
theorem clash_has (ks : List Int) (l : List Nat) (u : Nat) (hu : u = 0 ∨ u = 1) : clash ks (u + 1) l = has ks l u := by
  unfold clash has
  congr 1
  funext q
  rw [grp_eq ks q u hu]
  simp
theorem okP_ref (width : Int) (busy : Bool) (ks : List Int) (cs : List Bool) (out : List Nat) (k : Nat) :
    ((cs.getD k false && decide ((out.length : Int) < width)) && !(grpN ks k == 1 && busy) && !clash ks (grpN ks k) out) = okP width busy ks cs out k := by
  have := unitN_le ks k
  unfold okP
  obtain h | h | h : unitN ks k = 0 ∨ unitN ks k = 1 ∨ unitN ks k = 2 := by omega
  · have hg : grpN ks k = 0 + 1 := by unfold grpN; rw [h]; rfl
    rw [h, hg, clash_has ks out 0 (Or.inl rfl)]
    cases busy <;> simp
  · have hg : grpN ks k = 1 + 1 := by unfold grpN; rw [h]; rfl
    rw [h, hg, clash_has ks out 1 (Or.inr rfl)]
    simp
  · have hg : grpN ks k = 0 := by unfold grpN; rw [h]; rfl
    rw [h, hg]
    simp [clash]

theorem own_cell {w : World} {base e : Nat} {A : Option Addr} {n c : Nat} {out : List Nat} (h : w.ownsRow base e 1 (.slice A n c) n (outV out)) (hn : out.length = n) {j : Nat} (hj : j < out.length) : ∃ ad, A = some ad ∧ w.cell? (ad.add j) = some (.int .i64 (out[j] : Int)) := by
  have hA : ∃ g, A = some ⟨g, 0, none⟩ := by
    rcases h.2 with ⟨h0, h1⟩ | ⟨g, cap, cur, hv, _⟩
    · injection h0 with _ h0; omega
    · injection hv with hv; exact ⟨g, hv⟩
  obtain ⟨g, rfl⟩ := hA
  refine ⟨_, rfl, ?_⟩
  have hadd : (⟨g, 0, none⟩ : Addr).add j = ⟨g, j, none⟩ := by unfold Addr.add; split <;> simp_all
  rw [hadd, h.cellAt j (by omega)]
  simp [outV, hj]

set_option linter.unusedSimpArgs false
set_option maxHeartbeats 4000000
set_option maxRecDepth 100000 in
theorem refPick_any (width : Int) (busy : Bool) (A B : Option Addr) (nk ck n cc : Nat) (ks : List Int) (cs : List Bool) (hnk : nk ≤ 40) (hn : n ≤ 40) (w : World) (hk : IntsAt w A nk .i64 ks) (hc : BoolsAt w B n cs) :
    Calls Try.prog 72 #[.int .i64 width, .bool busy, .slice A nk ck, .slice B n cc] w fun e w' => ∃ v, e = .returned v ∧ w'.ownsRow w.heap.size 3 1 v (outP width busy ks cs n).length (outV (outP width busy ks cs n)) ∧ Below w.heap.size w w' := by
  obtain ⟨i0, hi, hz0, hz1, hz2⟩ := info_parts info_int
  go_enter Try.func72, Try.ntmps72
  go_wp2
  go_loopw [9, 18] (fun v i wr => ∃ k : Nat, k ≤ n ∧ i = .int .i64 k ∧ wr.ownsRow w.heap.size 3 1 v (outP width busy ks cs k).length (outV (outP width busy ks cs k)) ∧ Below w.heap.size w wr) (fun _ i _ => n - (intOf i).toNat)
  case atStart => exact ⟨0, Nat.zero_le _, rfl, World.ownsRow_made _ _ _ (Nat.le_refl _) (by simp [maxLen]) rfl, (Below.refl _ _).alloc (Nat.le_refl _) _⟩
  case round =>
    obtain ⟨k, hkn, rfl, hown, hbel⟩ := hrel
    obtain ⟨Av, cv, rfl⟩ := own_form hown
    have hlen := outP_len (width := width) (busy := busy) (ks := ks) (cs := cs) k
    have hltk := outP_lt (width := width) (busy := busy) (ks := ks) (cs := cs) k
    obtain ⟨out, hout⟩ : ∃ o, o = outP width busy ks cs k := ⟨_, rfl⟩
    rw [← hout] at hown hlen hltk ⊢
    replace hout := Lib.hid hout
    replace hltk := Lib.hid hltk
    by_cases hlt : k < n
    · obtain ⟨a, rfl, hca⟩ := hc.at_ hlt
      have hca' := (hbel.cell (p := a.add k) (World.block_lt_of_cell? w _ hca)).trans hca
      obtain ⟨ok, hok⟩ : ∃ b, cs.getD k false = b := ⟨_, rfl⟩
      rw [hok] at hca hca'
      replace hok := Lib.hid hok
      cases ok
      · have hgle : grpN ks k ≤ 2 := by unfold grpN; (repeat' split) <;> omega
        go_wp2_with fail
        go_at_call 96
        refine (group_any (hk.below hbel) hnk k (by omega)).mono ?_
        rintro e w' ⟨rfl, rfl⟩
        obtain ⟨g, hg⟩ : ∃ g, grpN ks k = g := ⟨_, rfl⟩
        rw [hg] at hgle ⊢
        replace hg := Lib.hid hg
        obtain rfl | rfl | rfl : g = 0 ∨ g = 1 ∨ g = 2 := by omega
        · go_wp2
          go_loop [11, 41] (fun okv iv => ∃ j : Nat, j ≤ out.length ∧ iv = .int .i64 j ∧ okv = .bool (false && !clash ks 0 (out.take j))) (fun _ i => out.length - (intOf i).toNat)
          case atStart => exact ⟨0, Nat.zero_le _, rfl, by simp [clash]⟩
          case round =>
            obtain ⟨j, hj, rfl, rfl⟩ := hrel
            by_cases hjl : j < out.length
            · obtain ⟨ad, rfl, hcq⟩ := own_cell hown rfl hjl
              have hqk := hltk.out _ (List.getElem_mem hjl)
              have hct := Lib.hid (clash_take ks 0 out j hjl)
              obtain ⟨q, hq⟩ : ∃ q, q = out[j] := ⟨_, rfl⟩
              rw [← hq] at hcq hqk hct
              clear hq
              go_wp2
              go_round
              case rel => exact ⟨j + 1, by omega, by go_num, by rw [hct.out]; simp⟩
              case measure => simp [intOf]; omega
            · have hjn : j = out.length := by omega
              subst hjn
              rw [List.take_length]
              cases hcl : clash ks 0 out
              · have hnext := Lib.hid (show outP width busy ks cs (k + 1) = out by rw [outP_no, ← hout.out]; rw [← hout.out, ← okP_ref]; rw [hok.out]; rfl)
                clear hcl
                simp only [Bool.and_false, Bool.false_and, Bool.and_true, Bool.true_and, Bool.not_false, Bool.not_true]
                go_wp2
                go_roundw
                case rel => exact ⟨k + 1, by omega, by go_num, by rw [hnext.out]; exact hown, hbel⟩
                case measure => simp [intOf]; omega
              · have hnext := Lib.hid (show outP width busy ks cs (k + 1) = out by rw [outP_no, ← hout.out]; rw [← hout.out, ← okP_ref, hg.out, hcl]; simp)
                clear hcl
                simp only [Bool.and_false, Bool.false_and, Bool.and_true, Bool.true_and, Bool.not_false, Bool.not_true]
                go_wp2
                go_roundw
                case rel => exact ⟨k + 1, by omega, by go_num, by rw [hnext.out]; exact hown, hbel⟩
                case measure => simp [intOf]; omega
        · cases busy
          · go_wp2
            go_loop [11, 41] (fun okv iv => ∃ j : Nat, j ≤ out.length ∧ iv = .int .i64 j ∧ okv = .bool (false && !clash ks 1 (out.take j))) (fun _ i => out.length - (intOf i).toNat)
            case atStart => exact ⟨0, Nat.zero_le _, rfl, by simp [clash]⟩
            case round =>
              obtain ⟨j, hj, rfl, rfl⟩ := hrel
              by_cases hjl : j < out.length
              · obtain ⟨ad, rfl, hcq⟩ := own_cell hown rfl hjl
                have hqk := hltk.out _ (List.getElem_mem hjl)
                have hct := Lib.hid (clash_take ks 1 out j hjl)
                obtain ⟨q, hq⟩ : ∃ q, q = out[j] := ⟨_, rfl⟩
                rw [← hq] at hcq hqk hct
                clear hq
                by_cases hr : grpN ks q = 1
                · have z : (((grpN ks q : Nat) : Int) == 1) = true := by simp; omega
                  replace hr := Lib.hid hr
                  go_wp2_with (go_at_call 96; refine (group_any (hk.below hbel) hnk q (by omega)).mono ?_; rintro e w' ⟨rfl, rfl⟩)
                  go_round
                  case rel => exact ⟨j + 1, by omega, by go_num, by rw [hct.out, hr.out]; simp⟩
                  case measure => simp [intOf]; omega
                · have z : (((grpN ks q : Nat) : Int) == 1) = false := by simp; omega
                  replace hr := Lib.hid hr
                  go_wp2_with (go_at_call 96; refine (group_any (hk.below hbel) hnk q (by omega)).mono ?_; rintro e w' ⟨rfl, rfl⟩)
                  go_round
                  case rel => exact ⟨j + 1, by omega, by go_num, by rw [hct.out]; simp [hr.out]⟩
                  case measure => simp [intOf]; omega
              · have hjn : j = out.length := by omega
                subst hjn
                rw [List.take_length]
                cases hcl : clash ks 1 out
                · have hnext := Lib.hid (show outP width false ks cs (k + 1) = out by rw [outP_no, ← hout.out]; rw [← hout.out, ← okP_ref]; rw [hok.out]; rfl)
                  clear hcl
                  simp only [Bool.and_false, Bool.false_and, Bool.and_true, Bool.true_and, Bool.not_false, Bool.not_true]
                  go_wp2
                  go_roundw
                  case rel => exact ⟨k + 1, by omega, by go_num, by rw [hnext.out]; exact hown, hbel⟩
                  case measure => simp [intOf]; omega
                · have hnext := Lib.hid (show outP width false ks cs (k + 1) = out by rw [outP_no, ← hout.out]; rw [← hout.out, ← okP_ref, hg.out, hcl]; simp)
                  clear hcl
                  simp only [Bool.and_false, Bool.false_and, Bool.and_true, Bool.true_and, Bool.not_false, Bool.not_true]
                  go_wp2
                  go_roundw
                  case rel => exact ⟨k + 1, by omega, by go_num, by rw [hnext.out]; exact hown, hbel⟩
                  case measure => simp [intOf]; omega
          · go_wp2
            go_loop [11, 41] (fun okv iv => ∃ j : Nat, j ≤ out.length ∧ iv = .int .i64 j ∧ okv = .bool (false && !clash ks 1 (out.take j))) (fun _ i => out.length - (intOf i).toNat)
            case atStart => exact ⟨0, Nat.zero_le _, rfl, by simp [clash]⟩
            case round =>
              obtain ⟨j, hj, rfl, rfl⟩ := hrel
              by_cases hjl : j < out.length
              · obtain ⟨ad, rfl, hcq⟩ := own_cell hown rfl hjl
                have hqk := hltk.out _ (List.getElem_mem hjl)
                have hct := Lib.hid (clash_take ks 1 out j hjl)
                obtain ⟨q, hq⟩ : ∃ q, q = out[j] := ⟨_, rfl⟩
                rw [← hq] at hcq hqk hct
                clear hq
                by_cases hr : grpN ks q = 1
                · have z : (((grpN ks q : Nat) : Int) == 1) = true := by simp; omega
                  replace hr := Lib.hid hr
                  go_wp2_with (go_at_call 96; refine (group_any (hk.below hbel) hnk q (by omega)).mono ?_; rintro e w' ⟨rfl, rfl⟩)
                  go_round
                  case rel => exact ⟨j + 1, by omega, by go_num, by rw [hct.out, hr.out]; simp⟩
                  case measure => simp [intOf]; omega
                · have z : (((grpN ks q : Nat) : Int) == 1) = false := by simp; omega
                  replace hr := Lib.hid hr
                  go_wp2_with (go_at_call 96; refine (group_any (hk.below hbel) hnk q (by omega)).mono ?_; rintro e w' ⟨rfl, rfl⟩)
                  go_round
                  case rel => exact ⟨j + 1, by omega, by go_num, by rw [hct.out]; simp [hr.out]⟩
                  case measure => simp [intOf]; omega
              · have hjn : j = out.length := by omega
                subst hjn
                rw [List.take_length]
                cases hcl : clash ks 1 out
                · have hnext := Lib.hid (show outP width true ks cs (k + 1) = out by rw [outP_no, ← hout.out]; rw [← hout.out, ← okP_ref]; rw [hok.out]; rfl)
                  clear hcl
                  simp only [Bool.and_false, Bool.false_and, Bool.and_true, Bool.true_and, Bool.not_false, Bool.not_true]
                  go_wp2
                  go_roundw
                  case rel => exact ⟨k + 1, by omega, by go_num, by rw [hnext.out]; exact hown, hbel⟩
                  case measure => simp [intOf]; omega
                · have hnext := Lib.hid (show outP width true ks cs (k + 1) = out by rw [outP_no, ← hout.out]; rw [← hout.out, ← okP_ref, hg.out, hcl]; simp)
                  clear hcl
                  simp only [Bool.and_false, Bool.false_and, Bool.and_true, Bool.true_and, Bool.not_false, Bool.not_true]
                  go_wp2
                  go_roundw
                  case rel => exact ⟨k + 1, by omega, by go_num, by rw [hnext.out]; exact hown, hbel⟩
                  case measure => simp [intOf]; omega
        · go_wp2
          go_loop [11, 41] (fun okv iv => ∃ j : Nat, j ≤ out.length ∧ iv = .int .i64 j ∧ okv = .bool (false && !clash ks 2 (out.take j))) (fun _ i => out.length - (intOf i).toNat)
          case atStart => exact ⟨0, Nat.zero_le _, rfl, by simp [clash]⟩
          case round =>
            obtain ⟨j, hj, rfl, rfl⟩ := hrel
            by_cases hjl : j < out.length
            · obtain ⟨ad, rfl, hcq⟩ := own_cell hown rfl hjl
              have hqk := hltk.out _ (List.getElem_mem hjl)
              have hct := Lib.hid (clash_take ks 2 out j hjl)
              obtain ⟨q, hq⟩ : ∃ q, q = out[j] := ⟨_, rfl⟩
              rw [← hq] at hcq hqk hct
              clear hq
              by_cases hr : grpN ks q = 2
              · have z : (((grpN ks q : Nat) : Int) == 2) = true := by simp; omega
                replace hr := Lib.hid hr
                go_wp2_with (go_at_call 96; refine (group_any (hk.below hbel) hnk q (by omega)).mono ?_; rintro e w' ⟨rfl, rfl⟩)
                go_round
                case rel => exact ⟨j + 1, by omega, by go_num, by rw [hct.out, hr.out]; simp⟩
                case measure => simp [intOf]; omega
              · have z : (((grpN ks q : Nat) : Int) == 2) = false := by simp; omega
                replace hr := Lib.hid hr
                go_wp2_with (go_at_call 96; refine (group_any (hk.below hbel) hnk q (by omega)).mono ?_; rintro e w' ⟨rfl, rfl⟩)
                go_round
                case rel => exact ⟨j + 1, by omega, by go_num, by rw [hct.out]; simp [hr.out]⟩
                case measure => simp [intOf]; omega
            · have hjn : j = out.length := by omega
              subst hjn
              rw [List.take_length]
              cases hcl : clash ks 2 out
              · have hnext := Lib.hid (show outP width busy ks cs (k + 1) = out by rw [outP_no, ← hout.out]; rw [← hout.out, ← okP_ref]; rw [hok.out]; rfl)
                clear hcl
                simp only [Bool.and_false, Bool.false_and, Bool.and_true, Bool.true_and, Bool.not_false, Bool.not_true]
                go_wp2
                go_roundw
                case rel => exact ⟨k + 1, by omega, by go_num, by rw [hnext.out]; exact hown, hbel⟩
                case measure => simp [intOf]; omega
              · have hnext := Lib.hid (show outP width busy ks cs (k + 1) = out by rw [outP_no, ← hout.out]; rw [← hout.out, ← okP_ref, hg.out, hcl]; simp)
                clear hcl
                simp only [Bool.and_false, Bool.false_and, Bool.and_true, Bool.true_and, Bool.not_false, Bool.not_true]
                go_wp2
                go_roundw
                case rel => exact ⟨k + 1, by omega, by go_num, by rw [hnext.out]; exact hown, hbel⟩
                case measure => simp [intOf]; omega
      · by_cases hw : (out.length : Int) < width
        · have hwd : decide ((out.length : Int) < width) = true := by simpa using hw
          have HWD := Lib.hid hwd
          have hgle : grpN ks k ≤ 2 := by unfold grpN; (repeat' split) <;> omega
          go_wp2_with fail
          go_at_call 96
          refine (group_any (hk.below hbel) hnk k (by omega)).mono ?_
          rintro e w' ⟨rfl, rfl⟩
          obtain ⟨g, hg⟩ : ∃ g, grpN ks k = g := ⟨_, rfl⟩
          rw [hg] at hgle ⊢
          replace hg := Lib.hid hg
          obtain rfl | rfl | rfl : g = 0 ∨ g = 1 ∨ g = 2 := by omega
          · go_wp2
            go_loop [11, 41] (fun okv iv => ∃ j : Nat, j ≤ out.length ∧ iv = .int .i64 j ∧ okv = .bool (true && !clash ks 0 (out.take j))) (fun _ i => out.length - (intOf i).toNat)
            case atStart => exact ⟨0, Nat.zero_le _, rfl, by simp [clash]⟩
            case round =>
              obtain ⟨j, hj, rfl, rfl⟩ := hrel
              by_cases hjl : j < out.length
              · obtain ⟨ad, rfl, hcq⟩ := own_cell hown rfl hjl
                have hqk := hltk.out _ (List.getElem_mem hjl)
                have hct := Lib.hid (clash_take ks 0 out j hjl)
                obtain ⟨q, hq⟩ : ∃ q, q = out[j] := ⟨_, rfl⟩
                rw [← hq] at hcq hqk hct
                clear hq
                go_wp2
                go_round
                case rel => exact ⟨j + 1, by omega, by go_num, by rw [hct.out]; simp⟩
                case measure => simp [intOf]; omega
              · have hjn : j = out.length := by omega
                subst hjn
                rw [List.take_length]
                cases hcl : clash ks 0 out
                · have hnext := Lib.hid (show outP width busy ks cs (k + 1) = out ++ [k] by rw [outP_yes, ← hout.out]; rw [← hout.out, ← okP_ref]; rw [hok.out, HWD.out, hg.out, hcl]; rfl)
                  clear hcl
                  simp only [Bool.and_false, Bool.false_and, Bool.and_true, Bool.true_and, Bool.not_false, Bool.not_true]
                  go_wp2_with (at_builtin; refine wpList_append_own _ rfl (.tmp 56) (.tmp 58) 22 rfl w.heap.size 3 i0 (.int .i64 0) 1 8 Try.underlying22 hi hz0 hz1 hz2 rfl (by decide) _ _ _ rfl (hown.alloc _) ⟨wr.heap.size, 0, none⟩ 1 1 [.int .i64 (k : Int)] rfl rfl (cell_new1 _ _ _) (one_int _ _) (by unfold maxLen; omega) (by omega) (by have := hbel.size; simp; omega) ?_; intro v' w2 hown2 hgrow2 hnil2)
                  have hbel2 := (hbel.alloc hbel.size _).grown hgrow2 (by have := hbel.size; simp; omega) (fun j hj => own_ge hown j hj)
                  clear hgrow2 hown hnil2
                  go_wp2
                  go_roundw
                  case rel => exact ⟨k + 1, by omega, by go_num, by rw [hnext.out]; simpa [outV] using hown2, hbel2⟩
                  case measure => simp [intOf]; omega
                · have hnext := Lib.hid (show outP width busy ks cs (k + 1) = out by rw [outP_no, ← hout.out]; rw [← hout.out, ← okP_ref, hg.out, hcl]; simp)
                  clear hcl
                  simp only [Bool.and_false, Bool.false_and, Bool.and_true, Bool.true_and, Bool.not_false, Bool.not_true]
                  go_wp2
                  go_roundw
                  case rel => exact ⟨k + 1, by omega, by go_num, by rw [hnext.out]; exact hown, hbel⟩
                  case measure => simp [intOf]; omega
          · cases busy
            · go_wp2
              go_loop [11, 41] (fun okv iv => ∃ j : Nat, j ≤ out.length ∧ iv = .int .i64 j ∧ okv = .bool (true && !clash ks 1 (out.take j))) (fun _ i => out.length - (intOf i).toNat)
              case atStart => exact ⟨0, Nat.zero_le _, rfl, by simp [clash]⟩
              case round =>
                obtain ⟨j, hj, rfl, rfl⟩ := hrel
                by_cases hjl : j < out.length
                · obtain ⟨ad, rfl, hcq⟩ := own_cell hown rfl hjl
                  have hqk := hltk.out _ (List.getElem_mem hjl)
                  have hct := Lib.hid (clash_take ks 1 out j hjl)
                  obtain ⟨q, hq⟩ : ∃ q, q = out[j] := ⟨_, rfl⟩
                  rw [← hq] at hcq hqk hct
                  clear hq
                  by_cases hr : grpN ks q = 1
                  · have z : (((grpN ks q : Nat) : Int) == 1) = true := by simp; omega
                    replace hr := Lib.hid hr
                    go_wp2_with (go_at_call 96; refine (group_any (hk.below hbel) hnk q (by omega)).mono ?_; rintro e w' ⟨rfl, rfl⟩)
                    go_round
                    case rel => exact ⟨j + 1, by omega, by go_num, by rw [hct.out, hr.out]; simp⟩
                    case measure => simp [intOf]; omega
                  · have z : (((grpN ks q : Nat) : Int) == 1) = false := by simp; omega
                    replace hr := Lib.hid hr
                    go_wp2_with (go_at_call 96; refine (group_any (hk.below hbel) hnk q (by omega)).mono ?_; rintro e w' ⟨rfl, rfl⟩)
                    go_round
                    case rel => exact ⟨j + 1, by omega, by go_num, by rw [hct.out]; simp [hr.out]⟩
                    case measure => simp [intOf]; omega
                · have hjn : j = out.length := by omega
                  subst hjn
                  rw [List.take_length]
                  cases hcl : clash ks 1 out
                  · have hnext := Lib.hid (show outP width false ks cs (k + 1) = out ++ [k] by rw [outP_yes, ← hout.out]; rw [← hout.out, ← okP_ref]; rw [hok.out, HWD.out, hg.out, hcl]; rfl)
                    clear hcl
                    simp only [Bool.and_false, Bool.false_and, Bool.and_true, Bool.true_and, Bool.not_false, Bool.not_true]
                    go_wp2_with (at_builtin; refine wpList_append_own _ rfl (.tmp 56) (.tmp 58) 22 rfl w.heap.size 3 i0 (.int .i64 0) 1 8 Try.underlying22 hi hz0 hz1 hz2 rfl (by decide) _ _ _ rfl (hown.alloc _) ⟨wr.heap.size, 0, none⟩ 1 1 [.int .i64 (k : Int)] rfl rfl (cell_new1 _ _ _) (one_int _ _) (by unfold maxLen; omega) (by omega) (by have := hbel.size; simp; omega) ?_; intro v' w2 hown2 hgrow2 hnil2)
                    have hbel2 := (hbel.alloc hbel.size _).grown hgrow2 (by have := hbel.size; simp; omega) (fun j hj => own_ge hown j hj)
                    clear hgrow2 hown hnil2
                    go_wp2
                    go_roundw
                    case rel => exact ⟨k + 1, by omega, by go_num, by rw [hnext.out]; simpa [outV] using hown2, hbel2⟩
                    case measure => simp [intOf]; omega
                  · have hnext := Lib.hid (show outP width false ks cs (k + 1) = out by rw [outP_no, ← hout.out]; rw [← hout.out, ← okP_ref, hg.out, hcl]; simp)
                    clear hcl
                    simp only [Bool.and_false, Bool.false_and, Bool.and_true, Bool.true_and, Bool.not_false, Bool.not_true]
                    go_wp2
                    go_roundw
                    case rel => exact ⟨k + 1, by omega, by go_num, by rw [hnext.out]; exact hown, hbel⟩
                    case measure => simp [intOf]; omega
            · go_wp2
              go_loop [11, 41] (fun okv iv => ∃ j : Nat, j ≤ out.length ∧ iv = .int .i64 j ∧ okv = .bool (false && !clash ks 1 (out.take j))) (fun _ i => out.length - (intOf i).toNat)
              case atStart => exact ⟨0, Nat.zero_le _, rfl, by simp [clash]⟩
              case round =>
                obtain ⟨j, hj, rfl, rfl⟩ := hrel
                by_cases hjl : j < out.length
                · obtain ⟨ad, rfl, hcq⟩ := own_cell hown rfl hjl
                  have hqk := hltk.out _ (List.getElem_mem hjl)
                  have hct := Lib.hid (clash_take ks 1 out j hjl)
                  obtain ⟨q, hq⟩ : ∃ q, q = out[j] := ⟨_, rfl⟩
                  rw [← hq] at hcq hqk hct
                  clear hq
                  by_cases hr : grpN ks q = 1
                  · have z : (((grpN ks q : Nat) : Int) == 1) = true := by simp; omega
                    replace hr := Lib.hid hr
                    go_wp2_with (go_at_call 96; refine (group_any (hk.below hbel) hnk q (by omega)).mono ?_; rintro e w' ⟨rfl, rfl⟩)
                    go_round
                    case rel => exact ⟨j + 1, by omega, by go_num, by rw [hct.out, hr.out]; simp⟩
                    case measure => simp [intOf]; omega
                  · have z : (((grpN ks q : Nat) : Int) == 1) = false := by simp; omega
                    replace hr := Lib.hid hr
                    go_wp2_with (go_at_call 96; refine (group_any (hk.below hbel) hnk q (by omega)).mono ?_; rintro e w' ⟨rfl, rfl⟩)
                    go_round
                    case rel => exact ⟨j + 1, by omega, by go_num, by rw [hct.out]; simp [hr.out]⟩
                    case measure => simp [intOf]; omega
                · have hjn : j = out.length := by omega
                  subst hjn
                  rw [List.take_length]
                  cases hcl : clash ks 1 out
                  · have hnext := Lib.hid (show outP width true ks cs (k + 1) = out by rw [outP_no, ← hout.out]; rw [← hout.out, ← okP_ref]; rw [hok.out, HWD.out, hg.out]; rfl)
                    clear hcl
                    simp only [Bool.and_false, Bool.false_and, Bool.and_true, Bool.true_and, Bool.not_false, Bool.not_true]
                    go_wp2
                    go_roundw
                    case rel => exact ⟨k + 1, by omega, by go_num, by rw [hnext.out]; exact hown, hbel⟩
                    case measure => simp [intOf]; omega
                  · have hnext := Lib.hid (show outP width true ks cs (k + 1) = out by rw [outP_no, ← hout.out]; rw [← hout.out, ← okP_ref, hg.out, hcl]; simp)
                    clear hcl
                    simp only [Bool.and_false, Bool.false_and, Bool.and_true, Bool.true_and, Bool.not_false, Bool.not_true]
                    go_wp2
                    go_roundw
                    case rel => exact ⟨k + 1, by omega, by go_num, by rw [hnext.out]; exact hown, hbel⟩
                    case measure => simp [intOf]; omega
          · go_wp2
            go_loop [11, 41] (fun okv iv => ∃ j : Nat, j ≤ out.length ∧ iv = .int .i64 j ∧ okv = .bool (true && !clash ks 2 (out.take j))) (fun _ i => out.length - (intOf i).toNat)
            case atStart => exact ⟨0, Nat.zero_le _, rfl, by simp [clash]⟩
            case round =>
              obtain ⟨j, hj, rfl, rfl⟩ := hrel
              by_cases hjl : j < out.length
              · obtain ⟨ad, rfl, hcq⟩ := own_cell hown rfl hjl
                have hqk := hltk.out _ (List.getElem_mem hjl)
                have hct := Lib.hid (clash_take ks 2 out j hjl)
                obtain ⟨q, hq⟩ : ∃ q, q = out[j] := ⟨_, rfl⟩
                rw [← hq] at hcq hqk hct
                clear hq
                by_cases hr : grpN ks q = 2
                · have z : (((grpN ks q : Nat) : Int) == 2) = true := by simp; omega
                  replace hr := Lib.hid hr
                  go_wp2_with (go_at_call 96; refine (group_any (hk.below hbel) hnk q (by omega)).mono ?_; rintro e w' ⟨rfl, rfl⟩)
                  go_round
                  case rel => exact ⟨j + 1, by omega, by go_num, by rw [hct.out, hr.out]; simp⟩
                  case measure => simp [intOf]; omega
                · have z : (((grpN ks q : Nat) : Int) == 2) = false := by simp; omega
                  replace hr := Lib.hid hr
                  go_wp2_with (go_at_call 96; refine (group_any (hk.below hbel) hnk q (by omega)).mono ?_; rintro e w' ⟨rfl, rfl⟩)
                  go_round
                  case rel => exact ⟨j + 1, by omega, by go_num, by rw [hct.out]; simp [hr.out]⟩
                  case measure => simp [intOf]; omega
              · have hjn : j = out.length := by omega
                subst hjn
                rw [List.take_length]
                cases hcl : clash ks 2 out
                · have hnext := Lib.hid (show outP width busy ks cs (k + 1) = out ++ [k] by rw [outP_yes, ← hout.out]; rw [← hout.out, ← okP_ref]; rw [hok.out, HWD.out, hg.out, hcl]; rfl)
                  clear hcl
                  simp only [Bool.and_false, Bool.false_and, Bool.and_true, Bool.true_and, Bool.not_false, Bool.not_true]
                  go_wp2_with (at_builtin; refine wpList_append_own _ rfl (.tmp 56) (.tmp 58) 22 rfl w.heap.size 3 i0 (.int .i64 0) 1 8 Try.underlying22 hi hz0 hz1 hz2 rfl (by decide) _ _ _ rfl (hown.alloc _) ⟨wr.heap.size, 0, none⟩ 1 1 [.int .i64 (k : Int)] rfl rfl (cell_new1 _ _ _) (one_int _ _) (by unfold maxLen; omega) (by omega) (by have := hbel.size; simp; omega) ?_; intro v' w2 hown2 hgrow2 hnil2)
                  have hbel2 := (hbel.alloc hbel.size _).grown hgrow2 (by have := hbel.size; simp; omega) (fun j hj => own_ge hown j hj)
                  clear hgrow2 hown hnil2
                  go_wp2
                  go_roundw
                  case rel => exact ⟨k + 1, by omega, by go_num, by rw [hnext.out]; simpa [outV] using hown2, hbel2⟩
                  case measure => simp [intOf]; omega
                · have hnext := Lib.hid (show outP width busy ks cs (k + 1) = out by rw [outP_no, ← hout.out]; rw [← hout.out, ← okP_ref, hg.out, hcl]; simp)
                  clear hcl
                  simp only [Bool.and_false, Bool.false_and, Bool.and_true, Bool.true_and, Bool.not_false, Bool.not_true]
                  go_wp2
                  go_roundw
                  case rel => exact ⟨k + 1, by omega, by go_num, by rw [hnext.out]; exact hown, hbel⟩
                  case measure => simp [intOf]; omega
        · have hwd : decide ((out.length : Int) < width) = false := by simpa using hw
          have HWD := Lib.hid hwd
          have hgle : grpN ks k ≤ 2 := by unfold grpN; (repeat' split) <;> omega
          go_wp2_with fail
          go_at_call 96
          refine (group_any (hk.below hbel) hnk k (by omega)).mono ?_
          rintro e w' ⟨rfl, rfl⟩
          obtain ⟨g, hg⟩ : ∃ g, grpN ks k = g := ⟨_, rfl⟩
          rw [hg] at hgle ⊢
          replace hg := Lib.hid hg
          obtain rfl | rfl | rfl : g = 0 ∨ g = 1 ∨ g = 2 := by omega
          · go_wp2
            go_loop [11, 41] (fun okv iv => ∃ j : Nat, j ≤ out.length ∧ iv = .int .i64 j ∧ okv = .bool (false && !clash ks 0 (out.take j))) (fun _ i => out.length - (intOf i).toNat)
            case atStart => exact ⟨0, Nat.zero_le _, rfl, by simp [clash]⟩
            case round =>
              obtain ⟨j, hj, rfl, rfl⟩ := hrel
              by_cases hjl : j < out.length
              · obtain ⟨ad, rfl, hcq⟩ := own_cell hown rfl hjl
                have hqk := hltk.out _ (List.getElem_mem hjl)
                have hct := Lib.hid (clash_take ks 0 out j hjl)
                obtain ⟨q, hq⟩ : ∃ q, q = out[j] := ⟨_, rfl⟩
                rw [← hq] at hcq hqk hct
                clear hq
                go_wp2
                go_round
                case rel => exact ⟨j + 1, by omega, by go_num, by rw [hct.out]; simp⟩
                case measure => simp [intOf]; omega
              · have hjn : j = out.length := by omega
                subst hjn
                rw [List.take_length]
                cases hcl : clash ks 0 out
                · have hnext := Lib.hid (show outP width busy ks cs (k + 1) = out by rw [outP_no, ← hout.out]; rw [← hout.out, ← okP_ref]; rw [hok.out, HWD.out]; rfl)
                  clear hcl
                  simp only [Bool.and_false, Bool.false_and, Bool.and_true, Bool.true_and, Bool.not_false, Bool.not_true]
                  go_wp2
                  go_roundw
                  case rel => exact ⟨k + 1, by omega, by go_num, by rw [hnext.out]; exact hown, hbel⟩
                  case measure => simp [intOf]; omega
                · have hnext := Lib.hid (show outP width busy ks cs (k + 1) = out by rw [outP_no, ← hout.out]; rw [← hout.out, ← okP_ref, hg.out, hcl]; simp)
                  clear hcl
                  simp only [Bool.and_false, Bool.false_and, Bool.and_true, Bool.true_and, Bool.not_false, Bool.not_true]
                  go_wp2
                  go_roundw
                  case rel => exact ⟨k + 1, by omega, by go_num, by rw [hnext.out]; exact hown, hbel⟩
                  case measure => simp [intOf]; omega
          · cases busy
            · go_wp2
              go_loop [11, 41] (fun okv iv => ∃ j : Nat, j ≤ out.length ∧ iv = .int .i64 j ∧ okv = .bool (false && !clash ks 1 (out.take j))) (fun _ i => out.length - (intOf i).toNat)
              case atStart => exact ⟨0, Nat.zero_le _, rfl, by simp [clash]⟩
              case round =>
                obtain ⟨j, hj, rfl, rfl⟩ := hrel
                by_cases hjl : j < out.length
                · obtain ⟨ad, rfl, hcq⟩ := own_cell hown rfl hjl
                  have hqk := hltk.out _ (List.getElem_mem hjl)
                  have hct := Lib.hid (clash_take ks 1 out j hjl)
                  obtain ⟨q, hq⟩ : ∃ q, q = out[j] := ⟨_, rfl⟩
                  rw [← hq] at hcq hqk hct
                  clear hq
                  by_cases hr : grpN ks q = 1
                  · have z : (((grpN ks q : Nat) : Int) == 1) = true := by simp; omega
                    replace hr := Lib.hid hr
                    go_wp2_with (go_at_call 96; refine (group_any (hk.below hbel) hnk q (by omega)).mono ?_; rintro e w' ⟨rfl, rfl⟩)
                    go_round
                    case rel => exact ⟨j + 1, by omega, by go_num, by rw [hct.out, hr.out]; simp⟩
                    case measure => simp [intOf]; omega
                  · have z : (((grpN ks q : Nat) : Int) == 1) = false := by simp; omega
                    replace hr := Lib.hid hr
                    go_wp2_with (go_at_call 96; refine (group_any (hk.below hbel) hnk q (by omega)).mono ?_; rintro e w' ⟨rfl, rfl⟩)
                    go_round
                    case rel => exact ⟨j + 1, by omega, by go_num, by rw [hct.out]; simp [hr.out]⟩
                    case measure => simp [intOf]; omega
                · have hjn : j = out.length := by omega
                  subst hjn
                  rw [List.take_length]
                  cases hcl : clash ks 1 out
                  · have hnext := Lib.hid (show outP width false ks cs (k + 1) = out by rw [outP_no, ← hout.out]; rw [← hout.out, ← okP_ref]; rw [hok.out, HWD.out]; rfl)
                    clear hcl
                    simp only [Bool.and_false, Bool.false_and, Bool.and_true, Bool.true_and, Bool.not_false, Bool.not_true]
                    go_wp2
                    go_roundw
                    case rel => exact ⟨k + 1, by omega, by go_num, by rw [hnext.out]; exact hown, hbel⟩
                    case measure => simp [intOf]; omega
                  · have hnext := Lib.hid (show outP width false ks cs (k + 1) = out by rw [outP_no, ← hout.out]; rw [← hout.out, ← okP_ref, hg.out, hcl]; simp)
                    clear hcl
                    simp only [Bool.and_false, Bool.false_and, Bool.and_true, Bool.true_and, Bool.not_false, Bool.not_true]
                    go_wp2
                    go_roundw
                    case rel => exact ⟨k + 1, by omega, by go_num, by rw [hnext.out]; exact hown, hbel⟩
                    case measure => simp [intOf]; omega
            · go_wp2
              go_loop [11, 41] (fun okv iv => ∃ j : Nat, j ≤ out.length ∧ iv = .int .i64 j ∧ okv = .bool (false && !clash ks 1 (out.take j))) (fun _ i => out.length - (intOf i).toNat)
              case atStart => exact ⟨0, Nat.zero_le _, rfl, by simp [clash]⟩
              case round =>
                obtain ⟨j, hj, rfl, rfl⟩ := hrel
                by_cases hjl : j < out.length
                · obtain ⟨ad, rfl, hcq⟩ := own_cell hown rfl hjl
                  have hqk := hltk.out _ (List.getElem_mem hjl)
                  have hct := Lib.hid (clash_take ks 1 out j hjl)
                  obtain ⟨q, hq⟩ : ∃ q, q = out[j] := ⟨_, rfl⟩
                  rw [← hq] at hcq hqk hct
                  clear hq
                  by_cases hr : grpN ks q = 1
                  · have z : (((grpN ks q : Nat) : Int) == 1) = true := by simp; omega
                    replace hr := Lib.hid hr
                    go_wp2_with (go_at_call 96; refine (group_any (hk.below hbel) hnk q (by omega)).mono ?_; rintro e w' ⟨rfl, rfl⟩)
                    go_round
                    case rel => exact ⟨j + 1, by omega, by go_num, by rw [hct.out, hr.out]; simp⟩
                    case measure => simp [intOf]; omega
                  · have z : (((grpN ks q : Nat) : Int) == 1) = false := by simp; omega
                    replace hr := Lib.hid hr
                    go_wp2_with (go_at_call 96; refine (group_any (hk.below hbel) hnk q (by omega)).mono ?_; rintro e w' ⟨rfl, rfl⟩)
                    go_round
                    case rel => exact ⟨j + 1, by omega, by go_num, by rw [hct.out]; simp [hr.out]⟩
                    case measure => simp [intOf]; omega
                · have hjn : j = out.length := by omega
                  subst hjn
                  rw [List.take_length]
                  cases hcl : clash ks 1 out
                  · have hnext := Lib.hid (show outP width true ks cs (k + 1) = out by rw [outP_no, ← hout.out]; rw [← hout.out, ← okP_ref]; rw [hok.out, HWD.out]; rfl)
                    clear hcl
                    simp only [Bool.and_false, Bool.false_and, Bool.and_true, Bool.true_and, Bool.not_false, Bool.not_true]
                    go_wp2
                    go_roundw
                    case rel => exact ⟨k + 1, by omega, by go_num, by rw [hnext.out]; exact hown, hbel⟩
                    case measure => simp [intOf]; omega
                  · have hnext := Lib.hid (show outP width true ks cs (k + 1) = out by rw [outP_no, ← hout.out]; rw [← hout.out, ← okP_ref, hg.out, hcl]; simp)
                    clear hcl
                    simp only [Bool.and_false, Bool.false_and, Bool.and_true, Bool.true_and, Bool.not_false, Bool.not_true]
                    go_wp2
                    go_roundw
                    case rel => exact ⟨k + 1, by omega, by go_num, by rw [hnext.out]; exact hown, hbel⟩
                    case measure => simp [intOf]; omega
          · go_wp2
            go_loop [11, 41] (fun okv iv => ∃ j : Nat, j ≤ out.length ∧ iv = .int .i64 j ∧ okv = .bool (false && !clash ks 2 (out.take j))) (fun _ i => out.length - (intOf i).toNat)
            case atStart => exact ⟨0, Nat.zero_le _, rfl, by simp [clash]⟩
            case round =>
              obtain ⟨j, hj, rfl, rfl⟩ := hrel
              by_cases hjl : j < out.length
              · obtain ⟨ad, rfl, hcq⟩ := own_cell hown rfl hjl
                have hqk := hltk.out _ (List.getElem_mem hjl)
                have hct := Lib.hid (clash_take ks 2 out j hjl)
                obtain ⟨q, hq⟩ : ∃ q, q = out[j] := ⟨_, rfl⟩
                rw [← hq] at hcq hqk hct
                clear hq
                by_cases hr : grpN ks q = 2
                · have z : (((grpN ks q : Nat) : Int) == 2) = true := by simp; omega
                  replace hr := Lib.hid hr
                  go_wp2_with (go_at_call 96; refine (group_any (hk.below hbel) hnk q (by omega)).mono ?_; rintro e w' ⟨rfl, rfl⟩)
                  go_round
                  case rel => exact ⟨j + 1, by omega, by go_num, by rw [hct.out, hr.out]; simp⟩
                  case measure => simp [intOf]; omega
                · have z : (((grpN ks q : Nat) : Int) == 2) = false := by simp; omega
                  replace hr := Lib.hid hr
                  go_wp2_with (go_at_call 96; refine (group_any (hk.below hbel) hnk q (by omega)).mono ?_; rintro e w' ⟨rfl, rfl⟩)
                  go_round
                  case rel => exact ⟨j + 1, by omega, by go_num, by rw [hct.out]; simp [hr.out]⟩
                  case measure => simp [intOf]; omega
              · have hjn : j = out.length := by omega
                subst hjn
                rw [List.take_length]
                cases hcl : clash ks 2 out
                · have hnext := Lib.hid (show outP width busy ks cs (k + 1) = out by rw [outP_no, ← hout.out]; rw [← hout.out, ← okP_ref]; rw [hok.out, HWD.out]; rfl)
                  clear hcl
                  simp only [Bool.and_false, Bool.false_and, Bool.and_true, Bool.true_and, Bool.not_false, Bool.not_true]
                  go_wp2
                  go_roundw
                  case rel => exact ⟨k + 1, by omega, by go_num, by rw [hnext.out]; exact hown, hbel⟩
                  case measure => simp [intOf]; omega
                · have hnext := Lib.hid (show outP width busy ks cs (k + 1) = out by rw [outP_no, ← hout.out]; rw [← hout.out, ← okP_ref, hg.out, hcl]; simp)
                  clear hcl
                  simp only [Bool.and_false, Bool.false_and, Bool.and_true, Bool.true_and, Bool.not_false, Bool.not_true]
                  go_wp2
                  go_roundw
                  case rel => exact ⟨k + 1, by omega, by go_num, by rw [hnext.out]; exact hown, hbel⟩
                  case measure => simp [intOf]; omega
    · have hkn' : k = n := by omega
      subst hkn'
      go_wp2
      go_ret
      exact ⟨_, rfl, by rw [← hout.out]; exact hown, hbel⟩

end Go.Proofs.Ytebeelphilfjhaa
