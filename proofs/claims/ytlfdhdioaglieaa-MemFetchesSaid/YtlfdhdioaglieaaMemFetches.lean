/- Proved: the statement of MemFetches (auspexlaw05): each word of a program is fetched at four times its number, nothing at any other place; for every input; no condition. -/
import Derived.Test.YtlfdhdioaglieaaRows
import Derived.Test.YtlfdhdioaglieaaMemC
import Derived.OpenShut
namespace Go.Proofs.Ytlfdhdioaglieaa.memFetches
open Go.ChangeShapes Go.WideShapes Go.ChangeAt Go.RowKit
set_option linter.unusedVariables false

theorem ft_word (zs : List Int) (n k : Nat) (h : k < n) (pc : Int) (hp : pc = 4 * k) : ftB n pc = true ∧ ftV zs n pc = zs.getD k 0 := by
  subst hp
  have h1 : (4 * (k : Int)) % 4 = 0 := by omega
  have h2 : (4 * (k : Int)) / 4 = k := by omega
  unfold ftB ftV
  rw [h1, h2]
  simp [h]
theorem and1_i64 (x : Int) : 0 ≤ bits .and .i64 x 1 ∧ bits .and .i64 x 1 ≤ 1 := by
  have h : (BitVec.ofInt 64 x &&& BitVec.ofInt 64 1).toNat ≤ 1 := by
    rw [BitVec.toNat_and]
    exact Nat.le_trans Nat.and_le_right (by decide)
  show 0 ≤ IntKind.i64.wrap ((BitVec.ofInt 64 x &&& BitVec.ofInt 64 1).toNat : Int) ∧ IntKind.i64.wrap ((BitVec.ofInt 64 x &&& BitVec.ofInt 64 1).toNat : Int) ≤ 1
  obtain e | e : (BitVec.ofInt 64 x &&& BitVec.ofInt 64 1).toNat = 0 ∨ (BitVec.ofInt 64 x &&& BitVec.ofInt 64 1).toNat = 1 := by omega
  all_goals rw [e]; decide
theorem ft_odd (n : Nat) (pc : Int) (hp : pc % 4 ≠ 0) : ftB n pc = false := by unfold ftB; simp [hp]


set_option maxHeartbeats 2000000
set_option maxRecDepth 100000 in
theorem walk (at_ pc : Int) (A : Option Addr) (n c : Nat) (zs : List Int) (h1 : n ≤ c) (h2 : c ≤ maxLen) (w_at : (Lit.int .i64 at_).wf = true) (w_pc : (Lit.int .u32 pc).wf = true) (W : World) (h0 : IntsAt W A n .u32 zs) :
    Calls Try.prog 7 #[.slice A n c, .int .i64 at_, .int .u32 pc] W fun e W' => e = .returned (.bool true) ∧ Below W.heap.size W W' := by
  have hb := bounds_i64 w_at
  have hp := bounds_u32 w_pc
  clear w_at w_pc 
  by_cases hn : n ≤ 200
  · have hs := h0
    clear h0
    go_enter Try.func7, Try.ntmps7
    go_wp2
    go_loop [22] (fun i => ∃ k : Nat, k ≤ n ∧ i = .int .i64 k) (fun i => n - (intOf i).toNat)
    case atStart => exact ⟨0, Nat.zero_le _, rfl⟩
    case round =>
      obtain ⟨k, hk, rfl⟩ := hrel
      by_cases hkl : k < n
      · obtain ⟨a, rfl, hc⟩ := hs.at_ (j := k) hkl
        go_wp2_with fail
        go_at_call 18
        refine (fetch_any hs (by omega) (4 * (k : Int)) (by omega) (by omega)).mono ?_
        rintro e w1 ⟨rfl, rfl⟩
        rw [(ft_word zs n k hkl _ rfl).1, (ft_word zs n k hkl _ rfl).2]
        go_wp2
        go_round
        case rel => exact ⟨k + 1, by omega, by go_num⟩
        case measure => simp [intOf]; omega
      · obtain rfl : n = k := by omega
        go_wp2_with fail
        go_at_call 18
        refine (fetch_any hs (by omega) pc (by omega) (by omega)).mono ?_
        rintro e w1 ⟨rfl, rfl⟩
        have hB := Lib.hid (show ftB n pc = true ↔ pc % 4 = 0 ∧ pc / 4 < n by unfold ftB; simp)
        generalize ftB n pc = is at *
        generalize ftV zs n pc = fv at *
        go_wp2_with fail
        all_goals (
          have hd := and1_i64 at_
          generalize bits .and .i64 at_ 1 = d at *
          refine Calls.mono (fetch_any hs (by omega) _ (by omega) (by omega)) ?_
          rintro e w2 ⟨rfl, rfl⟩
          rw [ft_odd _ _ (by unfold wrap64; omega)]
          generalize ftV zs n _ = fw at *
          go_wp2_with fail
          refine (alive05_any _).mono ?_
          rintro e w3 ⟨rfl, hb3⟩
          by_cases z : pc % 4 = 0 ∧ pc / 4 < n
          · obtain rfl : is = true := hB.out.2 z
            have z1 : (pc % 4 == 0) = true := by simp [z.1]
            have z2 : decide (pc / 4 < (n : Int)) = true := by simp; omega
            clear z
            go_wp2
            go_ret
            exact ⟨rfl, hb3⟩
          · obtain rfl : is = false := by cases is; rfl; exact absurd (hB.out.1 rfl) z
            by_cases y : pc % 4 = 0
            · have z1 : (pc % 4 == 0) = true := by simp [y]
              have z2 : decide (pc / 4 < (n : Int)) = false := by simp; omega
              clear z y
              go_wp2
              go_ret
              exact ⟨rfl, hb3⟩
            · have z1 : (pc % 4 == 0) = false := by simp [y]
              clear z y
              go_wp2
              go_ret
              exact ⟨rfl, hb3⟩)
  · have hs := h0.take (m := 200) (by omega)
    clear h0
    generalize zs.take 200 = zs at *
    have hn' : 200 < (n : Int) := by omega
    clear hn
    go_enter Try.func7, Try.ntmps7
    go_wp2
    go_loop [22] (fun i => ∃ k : Nat, k ≤ 200 ∧ i = .int .i64 k) (fun i => 200 - (intOf i).toNat)
    case atStart => exact ⟨0, Nat.zero_le _, rfl⟩
    case round =>
      obtain ⟨k, hk, rfl⟩ := hrel
      by_cases hkl : k < 200
      · obtain ⟨a, rfl, hc⟩ := hs.at_ (j := k) hkl
        go_wp2_with fail
        go_at_call 18
        refine (fetch_any hs (by omega) (4 * (k : Int)) (by omega) (by omega)).mono ?_
        rintro e w1 ⟨rfl, rfl⟩
        rw [(ft_word zs 200 k hkl _ rfl).1, (ft_word zs 200 k hkl _ rfl).2]
        go_wp2
        go_round
        case rel => exact ⟨k + 1, by omega, by go_num⟩
        case measure => simp [intOf]; omega
      · obtain rfl : 200 = k := by omega
        go_wp2_with fail
        go_at_call 18
        refine (fetch_any hs (by omega) pc (by omega) (by omega)).mono ?_
        rintro e w1 ⟨rfl, rfl⟩
        have hB := Lib.hid (show ftB 200 pc = true ↔ pc % 4 = 0 ∧ pc / 4 < 200 by unfold ftB; simp)
        generalize ftB 200 pc = is at *
        generalize ftV zs 200 pc = fv at *
        go_wp2_with fail
        all_goals (
          have hd := and1_i64 at_
          generalize bits .and .i64 at_ 1 = d at *
          refine Calls.mono (fetch_any hs (by omega) _ (by omega) (by omega)) ?_
          rintro e w2 ⟨rfl, rfl⟩
          rw [ft_odd _ _ (by unfold wrap64; omega)]
          generalize ftV zs 200 _ = fw at *
          go_wp2_with fail
          refine (alive05_any _).mono ?_
          rintro e w3 ⟨rfl, hb3⟩
          by_cases z : pc % 4 = 0 ∧ pc / 4 < 200
          · obtain rfl : is = true := hB.out.2 z
            have z1 : (pc % 4 == 0) = true := by simp [z.1]
            have z2 : decide (pc / 4 < 200) = true := by simp; omega
            clear z
            go_wp2
            go_ret
            exact ⟨rfl, hb3⟩
          · obtain rfl : is = false := by cases is; rfl; exact absurd (hB.out.1 rfl) z
            by_cases y : pc % 4 = 0
            · have z1 : (pc % 4 == 0) = true := by simp [y]
              have z2 : decide (pc / 4 < 200) = false := by simp; omega
              clear z y
              go_wp2
              go_ret
              exact ⟨rfl, hb3⟩
            · have z1 : (pc % 4 == 0) = false := by simp [y]
              clear z y
              go_wp2
              go_ret
              exact ⟨rfl, hb3⟩)
theorem own : ownKnob Try.prog.godebug = none := by kernel_rfl
theorem laidOut : laidOutB Try.prog = true := by kernel_rfl

set_option maxRecDepth 100000 in
theorem lifted (os : Os) (started : os.Started) (H : Type) (enc : TypeId × Value → H) :
    ReturnsInHanded {} Try.checked os 7 .any (Rows.memFetchesSpec.pre6 enc Try.prog Try.f7 Rows.memFetchesRow.domain false) (Rows.memFetchesSpec.post enc Try.prog Try.f7 false true false false) := by
  refine returnsInHanded_of_change (C := Try.checked) own started (by kernel_rfl) Try.func7
    (ChangeSpec.witness6 (enc := enc) (C := Try.checked) false ⟨#[], #[.slice none 0 0, .int .i64 0, .int .u32 0], []⟩ 8 (by kernel_rfl) (by kernel_rfl) (by kernel_rfl) (by kernel_rfl)) ?_
  intro W base args ds gs before hval0 hW hcnd _
  have hval : ∀ (j : Nat) t v, Try.f7.params[j]? = some t → args[j]? = some v → Value.okWide Try.prog W .any base t v := hval0
  have hW' := hW
  obtain ⟨p, q, hA0, hV, rfl, hfz, hnd⟩ := hW
  have hA : DataW.TrodAll enc Try.prog W 0 (fun _ => true) true Try.f7.params.toList args.toList ds p := hA0
  rw [Try.params7] at hA hval
  obtain ⟨v0, vs0, d0, ds0, p0, q0, hargs, rfl, rfl, h0, r0⟩ := trodAll_cons hA
  obtain ⟨v1, vs1, d1, ds1, p1, q1, rfl, rfl, rfl, h1, r1⟩ := trodAll_cons r0
  obtain ⟨v2, vs2, d2, ds2, p2, q2, rfl, rfl, rfl, h2, r2⟩ := trodAll_cons r1
  obtain ⟨rfl, rfl, rfl⟩ := trodAll_nil r2
  obtain rfl : args = #[v0, v1, v2] := by cases args; simp_all
  obtain ⟨rfl, rfl⟩ := trodVars_none hV
  have hlt := hW'.lt
  have k0 := h0
  obtain ⟨prog_a, prog_n, prog_c, prog, rfl, w_prog_n, w_prog_c, w_prog, w_prog_wf⟩ := arg_ints (k := .u32) Try.underlying38 Try.underlying22 (by kernel_rfl) (hval 0 38 v0 rfl rfl) h0
  have k1 := h1
  obtain ⟨place, rfl, -, -, w_place⟩ := open_int Try.underlying3 (hval 1 3 v1 rfl rfl) h1
  have k2 := h2
  obtain ⟨pc, rfl, -, -, w_pc⟩ := open_int Try.underlying22 (hval 2 22 v2 rfl rfl) h2
  clear hA0 hval0
  simp only [List.append_nil] at hW'
  refine (walk place pc prog_a prog_n prog_c prog w_prog_n w_prog_c w_place w_pc W w_prog).mono fun e W' ⟨he, bel⟩ => ?_
  subst he
  exact ⟨_, rfl, _, _, _, [], _, [], hW', trodAll_mk1 (shut_bool Try.underlying4 _), (trodAll_cons_mk (Below.trod laidOut (by kernel_rfl) (of_decide_eq_true (by kernel_rfl)) k0 bel (fun x hx => hlt x (by simp [hx]))) (trodAll_cons_mk (Below.trod laidOut (by kernel_rfl) (of_decide_eq_true (by kernel_rfl)) k1 bel (fun x hx => hlt x (by simp [hx]))) (trodAll_cons_mk (Below.trod laidOut (by kernel_rfl) (of_decide_eq_true (by kernel_rfl)) k2 bel (fun x hx => hlt x (by simp [hx]))) trodAll_mk0))), rfl, bel.frame _, fun h => by cases h⟩

/-- THE STATEMENT -/
theorem proved : Rows.MemFetchesSaid :=
  OpenClaim.holds_of_wide 7 Try.f7 rfl rfl rfl rfl rfl rfl rfl ⟨rfl, rfl, rfl, rfl, rfl⟩ rfl rfl rfl rfl rfl (by kernel_rfl) Try.func7 (by kernel_rfl)
    (of_decide_eq_true (by kernel_rfl)) (by unfold Func.isWrapper; first | (rw [if_pos (by decide +kernel)]; kernel_rfl) | (rw [if_neg (by decide +kernel)]; exact ⟨rfl, rfl⟩))
    (fun os started H enc _ => lifted os started H enc)
#print axioms proved
end Go.Proofs.Ytlfdhdioaglieaa.memFetches
