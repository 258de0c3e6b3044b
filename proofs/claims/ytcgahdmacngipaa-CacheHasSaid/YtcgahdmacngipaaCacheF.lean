/- Like, LikeSets of auspexref10; few of auspexlaw10. -/
import Derived.Test.YtcgahdmacngipaaRef10F
import Derived.Test.YtcgahdmacngipaaQuietTail
import Derived.Test.YtcgahdmacngipaaStoB
import Derived.Laws.StructEq
namespace Go.Proofs.Ytcgahdmacngipaa
open Go.ChangeShapes Go.WideShapes Go.ChangeAt Go.RowKit Go.Sort
set_option linter.unusedVariables false
set_option linter.unusedSimpArgs false
set_option maxHeartbeats 4000000
set_option maxRecDepth 100000

theorem neq_way (x : Wy) (w : World) : (binOp .neq 37 (.agg #[.int .u32 x.line, .bool x.dirty, .string x.data]) (.agg #[.int .u32 x.line, .bool x.dirty, .string x.data])).run Try.prog w = .ok (.bool false) w := by
  rw [run_neq_struct, show (10000 : Nat) = 9999 + 1 from rfl, run_equalIn_agg w 9999 37 _ _ (by kernel_rfl) (by kernel_rfl)]
  simp only [Program.fieldsOf, Try.underlying37]
  go_simp
theorem eql_way (x : Wy) (w : World) : (binOp .eql 37 (.agg #[.int .u32 x.line, .bool x.dirty, .string x.data]) (.agg #[.int .u32 x.line, .bool x.dirty, .string x.data])).run Try.prog w = .ok (.bool true) w := by
  rw [run_eql_struct, show (10000 : Nat) = 9999 + 1 from rfl, run_equalIn_agg w 9999 37 _ _ (by kernel_rfl) (by kernel_rfl)]
  simp only [Program.fieldsOf, Try.underlying37]
  go_simp
theorem below_drN {B : Nat} {a w : World} (h : Below B a w) (n : Nat) : Below B a (w.drewN n) := ⟨h.os, h.tape, h.output, h.size, h.block⟩
theorem likeSets_same (A B : Option Addr) (n c1 c2 : Nat) (hs gs : List Hd) (ss : List (List Wy)) (hc : n ≤ maxLen) (w : World) (hA : SetsAt w A n hs ss) (hB : SetsAt w B n gs ss) :
    Calls Try.prog 18 #[.slice A n c1, .slice B n c2] w fun e w' => e = .returned (.bool true) ∧ Below w.heap.size w w' := by
  have HA := Lib.hid hA
  have HB := Lib.hid hB
  have hl := hA.len
  unfold maxLen at hc
  clear hA hB
  go_enter Try.func18, Try.ntmps18
  go_wp2
  go_loopw [14] (fun v wr => ∃ j : Nat, j ≤ n ∧ v = .int .i64 j ∧ Below w.heap.size w wr) (fun v _ => n - (intOf v).toNat)
  case atStart => exact ⟨0, by omega, rfl, Below.refl _ _⟩
  case round =>
    obtain ⟨j, hj, rfl, hb⟩ := hrel
    have KB := Lib.hid hb
    clear hb
    by_cases hlt : j < n
    · obtain ⟨s, hs⟩ : ∃ s, ss[j]? = some s := ⟨_, List.getElem?_eq_getElem (by omega)⟩
      obtain ⟨a, q, rfl, hal, hq, hcj, hqn, hqa⟩ := HA.out.at_ hs
      obtain ⟨b, p, rfl, hbl, hp, hdj, hpn, hpa⟩ := HB.out.at_ hs
      obtain ⟨qa, qn, qc⟩ := q
      obtain ⟨pa, pn, pc⟩ := p
      have hqw := hqa.2.2.2
      have hpw := hpa.2.2.2
      have hb1 := hqa.1
      have hb2 := hqa.2.1
      simp only at hcj hdj hqn hpn hqw hpw hb1 hb2
      subst hqn hpn
      unfold maxLen at hb2
      have CJ := Lib.hid hcj
      have DJ := Lib.hid hdj
      have QW := Lib.hid hqw
      have PW := Lib.hid hpw
      have c0 := (KB.out.cell (p := a.add j) (by rw [block_add]; exact hal)).trans CJ.out
      have d0 := (KB.out.cell (p := b.add j) (by rw [block_add]; exact hbl)).trans DJ.out
      clear hs hq hp hqa hpa hcj hdj hqw hpw
      go_upto_region 6 with fail
      go_quiet (fail)
      clear c0 d0
      have hb := below_drN KB.out nq
      clear KB
      have KB := Lib.hid hb
      clear hb
      generalize wr.drewN nq = wr1 at *
      have c0 := (KB.out.cell (p := a.add j) (by rw [block_add]; exact hal)).trans CJ.out
      go_upto_region 9 with fail
      clear c0
      go_loopw [33] (fun v wr => ∃ i : Nat, i ≤ s.length ∧ v = .int .i64 i ∧ Below w.heap.size w wr) (fun v _ => s.length - (intOf v).toNat)
      case atStart => exact ⟨0, by omega, rfl, KB.out⟩
      case round =>
        obtain ⟨i, hi, rfl, hb⟩ := hrel
        clear KB
        have KB := Lib.hid hb
        clear hb
        by_cases hlti : i < s.length
        · obtain ⟨x, hx⟩ : ∃ x, s[i]? = some x := ⟨_, List.getElem?_eq_getElem hlti⟩
          obtain ⟨e, rfl, hel, e0, e1, e2⟩ := (QW.out.below KB.out).at_ hx
          obtain ⟨f, rfl, hfl, f0, f1, f2⟩ := (PW.out.below KB.out).at_ hx
          have c0 := (KB.out.cell (p := a.add j) (by rw [block_add]; exact hal)).trans CJ.out
          have d0 := (KB.out.cell (p := b.add j) (by rw [block_add]; exact hbl)).trans DJ.out
          have hq := fun wx => neq_way x wx
          clear hx
          go_upto_region 11 with fail
          go_quiet (fail)
          go_wp2
          go_roundw
          case rel => exact ⟨i + 1, by omega, by go_num, below_drN KB.out _⟩
          case measure => simp [intOf]; omega
        · obtain rfl : i = s.length := by omega
          go_wp2
          go_roundw
          case rel => exact ⟨j + 1, by omega, by go_num, KB.out⟩
          case measure => simp [intOf]; omega
    · obtain rfl : j = n := by omega
      go_wp2
      go_ret
      exact ⟨rfl, KB.out⟩
theorem like10_same (ways : Int) (A B : Option Addr) (n c1 c2 : Nat) (hs gs : List Hd) (ss : List (List Wy)) (hc : n ≤ maxLen) (w : World) (hA : SetsAt w A n hs ss) (hB : SetsAt w B n gs ss) :
    Calls Try.prog 15 #[caV ways A n c1, caV ways B n c2] w fun e w' => e = .returned (.bool true) ∧ Below w.heap.size w w' := by
  unfold caV
  have HL := Lib.hid (fun w h1 h2 => likeSets_same A B n c1 c2 hs gs ss hc w h1 h2)
  go_enter Try.func15, Try.ntmps15
  go_upto_region 1 with fail
  refine wp_allocs [([.int .i64 ways, .slice A n c1], 24), ([.int .i64 ways, .slice B n c2], 24)] rfl ?_
  intro W0 y1 KB y3
  have X1 := y3 0 _ rfl
  have X2 := y3 1 _ rfl
  have a0 := X1.2.1 0 _ rfl
  have a1 := X1.2.1 1 _ rfl
  have b0 := X2.2.1 0 _ rfl
  have b1 := X2.2.1 1 _ rfl
  simp only [Nat.add_zero] at a0 a1
  have HA := Lib.hid (hA.below KB)
  have HB := Lib.hid (hB.below KB)
  replace KB := Lib.hid KB
  clear hA hB y1 y3 X1 X2
  go_wp2_with (go_at_call 18; refine (HL.out _ HA.out HB.out).mono ?_; rintro e w1 ⟨rfl, b⟩; have K1 := Lib.hid (KB.out.trans (b.mono KB.out.size)); clear b)
  go_ret
  exact ⟨rfl, K1.out⟩
end Go.Proofs.Ytcgahdmacngipaa
