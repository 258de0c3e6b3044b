/- Proved: the statement of GuessKeeps (auspexlaw12): what is trained may be; a call's place is guessed by what returns from it; what is no jump changes nothing; for every input; no condition. -/
import Derived.Test.YtkamljmopbocnaaRows
import Derived.Test.YtkamljmopbocnaaGuessK
import Derived.OpenShut
import Derived.ChangeMaps5
namespace Go.Proofs.Ytkamljmopbocnaa.guessKeeps
open Go.ChangeShapes Go.WideShapes Go.ChangeAt Go.RowKit Go.Sort
set_option linter.unusedVariables false
set_option linter.unusedSimpArgs false
set_option maxHeartbeats 8000000
set_option maxRecDepth 100000

theorem run_min_int4 {P : Program} {w : World} (ts : Array TypeId) (t : TypeId) (k k' k'' k3 : IntKind) (x y z u : Int) : (Builtin.min_ ts t #[.int k x, .int k' y, .int k'' z, .int k3 u]).run P w = .ok (.int k (if u < (if z < (if y < x then y else x) then z else (if y < x then y else x)) then u else (if z < (if y < x then y else x) then z else (if y < x then y else x)))) w := by
  simp [Builtin.min_, Builtin.min2]
theorem guess_infoK : (Try.prog.info? 27).map (·.size) = some 3 := by kernel_rfl
theorem inst_infoK : (Try.prog.info? 31).map (·.size) = some 5 := by kernel_rfl
theorem histK_range {h next pc : Int} (h0 : 0 ≤ h) : 0 ≤ histI h next pc ∧ histI h next pc < 8 := by unfold histI; split <;> omega
/-- a guess of eight slots and at most four returns, whose rows lie apart from a block -/
def GAt (W : World) (b : Nat) (A : Option Addr) (q : Int) (B : Option Addr) (nb cb : Nat) (R : List Int) : Prop :=
  (0 ≤ q ∧ q < 8) ∧ nb ≤ 4 ∧ (B = none → cb = 0) ∧ (∃ L : List (Int × Int), RowsAt W A 8 2 (L.map slC)) ∧ IntsAt W B nb .u32 R ∧ (∀ a, A = some a → a.block ≠ b) ∧ (∀ a, B = some a → 0 < nb → a.block ≠ b)
theorem GAt.below {W W' : World} {b : Nat} {A : Option Addr} {q : Int} {B : Option Addr} {nb cb : Nat} {R : List Int} (h : GAt W b A q B nb cb R) (hb : Below W.heap.size W W') : GAt W' b A q B nb cb R := by
  obtain ⟨h1, h2, h3, ⟨L, h4⟩, h5, h6, h7⟩ := h
  exact ⟨h1, h2, h3, ⟨L, RowsAt.below h4 hb⟩, h5.below hb, h6, h7⟩
theorem GAt.far {W W' : World} {b : Nat} {A : Option Addr} {q : Int} {B : Option Addr} {nb cb : Nat} {R : List Int} (h : GAt W b A q B nb cb R) (hc : ∀ p : Addr, p.block ≠ b → W'.cell? p = W.cell? p) (hs : W'.heap.size = W.heap.size) : GAt W' b A q B nb cb R := by
  obtain ⟨h1, h2, h3, ⟨L, h4⟩, h5, h6, h7⟩ := h
  refine ⟨h1, h2, h3, ⟨L, h4.1, fun j c hj => ?_⟩, ⟨h5.1, fun j z hz => ?_⟩, h6, h7⟩
  · obtain ⟨e1, a, ha, hl, hv⟩ := h4.2 j c hj
    exact ⟨e1, a, ha, by rw [hs]; exact hl, fun i u hu => by rw [hc _ (by rw [block_add]; exact h6 a ha)]; exact hv i u hu⟩
  · obtain ⟨a, ha, hl, hcl⟩ := h5.2 j z hz
    exact ⟨a, ha, by rw [hs]; exact hl, by rw [hc _ (by rw [block_add]; exact h7 a ha (by have := (List.getElem?_eq_some_iff.1 hz).1; have := h5.1; omega))]; exact hcl⟩
theorem GAt.right {W : World} {b : Nat} {A : Option Addr} {q : Int} {B : Option Addr} {nb cb : Nat} {R : List Int} (h : GAt W b A q B nb cb R) : rightB 8 q nb = true := decide_eq_true ⟨rfl, h.1.2, h.2.1⟩
theorem GAt.new {W : World} {b b' : Nat} {A : Option Addr} {q : Int} {B : Option Addr} {nb cb : Nat} {R : List Int} (h : GAt W b A q B nb cb R) (hb : W.heap.size ≤ b') : GAt W b' A q B nb cb R := by
  obtain ⟨h1, h2, h3, ⟨L, h4⟩, h5, h6, h7⟩ := h
  refine ⟨h1, h2, h3, ⟨L, h4⟩, h5, fun a ha => ?_, fun a ha hn => ?_⟩
  · obtain ⟨_, a', ha', hl, _⟩ := h4.2 0 _ (List.getElem?_eq_getElem (by rw [h4.1]; decide))
    rw [ha] at ha'
    cases ha'
    omega
  · obtain ⟨a', ha', hl, _⟩ := h5.2 0 _ (List.getElem?_eq_getElem (by rw [h5.1]; exact hn))
    rw [ha] at ha'
    cases ha'
    omega
theorem GAt.stored {W : World} {b b' : Nat} {A : Option Addr} {q : Int} {B : Option Addr} {nb cb : Nat} {R : List Int} (h : GAt W b A q B nb cb R) (h' : GAt W b' A q B nb cb R) (i : Nat) (v : Value) : GAt (W.setCell ⟨b', i, none⟩ v) b A q B nb cb R ∧ GAt (W.setCell ⟨b', i, none⟩ v) b' A q B nb cb R := by
  have hc : ∀ p : Addr, p.block ≠ b' → (W.setCell ⟨b', i, none⟩ v).cell? p = W.cell? p := fun p hp => World.cell?_setCell_other _ _ _ _ (fun e => hp (by rw [← e]))
  have hs : (W.setCell ⟨b', i, none⟩ v).heap.size = W.heap.size := by simp
  have h2 := h'.far hc hs
  exact ⟨⟨h2.1, h2.2.1, h2.2.2.1, h2.2.2.2.1, h2.2.2.2.2.1, h.2.2.2.2.2.1, h.2.2.2.2.2.2⟩, h2⟩
/-- training, in one form -/
theorem retL_call (R : List Int) (pc rs1 : Int) (h : R.length ≤ 4) : (retL R pc 3 1 rs1).length = min (R.length + 1) 4 ∧ (retL R pc 3 1 rs1).getD ((retL R pc 3 1 rs1).length - 1) 0 = (pc + 4) % 4294967296 := by
  have e : callB 3 1 = true := rfl
  unfold retL
  rw [if_pos e]
  by_cases h4 : 4 < R.length + 1
  · rw [if_pos h4]
    have hl : ((R ++ [(pc + 4) % 4294967296]).drop 1).length = 4 := by rw [List.length_drop, List.length_append]; simp; omega
    refine ⟨by omega, ?_⟩
    rw [hl, List.getD_eq_getElem?_getD, List.getElem?_drop, show 1 + (4 - 1) = R.length by omega, List.getElem?_append_right (Nat.le_refl _)]
    simp
  · rw [if_neg h4]
    have hl : (R ++ [(pc + 4) % 4294967296]).length = R.length + 1 := by simp
    refine ⟨by omega, ?_⟩
    rw [hl, Nat.add_sub_cancel, List.getD_eq_getElem?_getD, List.getElem?_append_right (Nat.le_refl _)]
    simp
theorem retL_back (R : List Int) (pc : Int) (h : 0 < R.length) : (retL R pc 4 0 1).length = R.length - 1 := by
  have e : callB 4 0 = false := rfl
  have e2 : backB 4 0 1 = true := rfl
  unfold retL
  rw [if_neg (by rw [e]; simp), if_pos ⟨e2, h⟩, List.length_take]
  omega
theorem train_in (A : Option Addr) (ca : Nat) (q : Int) (B : Option Addr) (nb cb : Nat) (R : List Int) (pc next op rd rs1 rs2 imm : Int) (p0 : 0 ≤ pc) (p1 : pc < 4294967296) (w : World) (b : Nat) (hG : GAt w b A q B nb cb R) :
    Calls Try.prog 6 #[gV A 8 ca q B nb cb, .int .u32 pc, .int .u32 next, .agg #[.int .i64 op, .int .i64 rd, .int .i64 rs1, .int .i64 rs2, .int .u32 imm]] w fun r w' => ∃ (A' : Option Addr) (c1 : Nat) (q' : Int) (B' : Option Addr) (n' c' : Nat) (R' : List Int), r = .returned (gV A' 8 c1 q' B' n' c') ∧ (∀ b', b' < w.heap.size → GAt w b' A q B nb cb R → GAt w' b' A' q' B' n' c' R') ∧ Below w.heap.size w w' ∧ (kindI op = 5 → R' = retL R pc op rd rs1) := by
  by_cases hk : kindI op = 5
  · obtain ⟨h1, h2, h3, ⟨L, h4⟩, h5, h6, h7⟩ := hG
    refine (train_any A ca q B nb cb L R pc next op rd rs1 rs2 imm h1.1 h1.2 h2 h3 p0 p1 hk w h4 h5).mono ?_
    rintro e w' ⟨A', L', B', n', c', rfl, t1, t2, t3, t4, t5, t6, t7, t8⟩
    have hl := retL_len R pc op rd rs1 (by have := h5.1; omega)
    refine ⟨A', 8, _, B', n', c', _, rfl, fun b' hb' _ => ⟨histK_range h1.1, by have := t5.1; omega, t3, ⟨L', t4⟩, t5, fun a ha => by have := t6 a ha; omega, fun a ha _ => by have := t7 a ha; omega⟩, t8, fun _ => rfl⟩
  · refine (train_same A 8 ca q B nb cb pc next op rd rs1 rs2 imm hk w).mono ?_
    rintro e w' ⟨rfl, t⟩
    exact ⟨A, ca, q, B, nb, cb, R, rfl, fun b' hb' h => h.below t, t, fun h => absurd h hk⟩
theorem walk (X : Option Addr) (nx cx : Nat) (xs : List Int) (Z : Option Addr) (nz cz : Nat) (zs : List InG) (Y : Option Addr) (ny cy : Nat) (ys : List Int) (pc : Int)
    (wX : nx ≤ cx) (wX' : cx ≤ maxLen) (wx : ∀ z ∈ xs, (Lit.int .u32 z).wf = true) (wZ : nz ≤ cz) (wZ' : cz ≤ maxLen) (wZz : Z = none → cz = 0) (wzz : ∀ z ∈ zs, True) (wY : ny ≤ cy) (wY' : cy ≤ maxLen) (wy : ∀ z ∈ ys, (Lit.int .u32 z).wf = true) (wp : (Lit.int .u32 pc).wf = true)
    (w : World) (hX : IntsAt w X nx .u32 xs) (hZ : RowsAt w Z nz 5 (zs.map igC)) (hY : IntsAt w Y ny .u32 ys) :
    Calls Try.prog 3 #[.slice X nx cx, .slice Z nz cz, .slice Y ny cy, .int .u32 pc] w fun e w' => e = .returned (.bool true) ∧ Below w.heap.size w w' := by
  have hpc := bounds_u32 wp
  have hxb : ∀ z ∈ xs, 0 ≤ z ∧ z < 4294967296 := fun z hz => by have := bounds_u32 (wx z hz); omega
  obtain ⟨m1, hm1⟩ : ∃ m, min nx nz = m := ⟨_, rfl⟩
  obtain ⟨m2, hm2⟩ : ∃ m, min m1 ny = m := ⟨_, rfl⟩
  obtain ⟨N, hN⟩ : ∃ N, min m2 40 = N := ⟨_, rfl⟩
  have hmin : ∀ (ts : Array TypeId) (t : TypeId) (w : World), (Builtin.min_ ts t #[.int .i64 (nx : Int), .int .i64 (nz : Int), .int .i64 (ny : Int), .int .i64 40]).run Try.prog w = .ok (.int .i64 (N : Int)) w := fun ts t w => by
    rw [run_min_int4]
    congr 2
    repeat' split
    all_goals omega
  have k1 : N ≤ nx := by omega
  have k2 : N ≤ nz := by omega
  have k3 : N ≤ ny := by omega
  have k4 : N ≤ 40 := by omega
  have HX := Lib.hid hX
  have HZ := Lib.hid hZ
  have HY := Lib.hid hY
  have HXB := Lib.hid hxb
  clear hX hZ hY hxb wx wy wp hm1 hm2 hN wZz wzz
  go_enter Try.func3, Try.ntmps3
  go_upto_region 2 with (first
    | (go_at_call 5
       refine (new_any _).mono ?_
       rintro e w1 ⟨g0, hg0, rfl, hr0, b⟩
       have K1 := Lib.hid b
       have R0 := Lib.hid hr0
       have G0 := Lib.hid hg0
       have HI := Lib.hid (show (Try.prog.info? 27).map (·.size) = some ([.slice (some ⟨g0, 0, none⟩) 8 8, .int .u32 0, .slice none 0 0] : List Value).length from guess_infoK)
       have HO := Lib.hid (show ([.slice (some ⟨g0, 0, none⟩) 8 8, .int .u32 0, .slice none 0 0] : List Value).toArray.all (·.oneCell') = true by simp [Value.oneCell'])
       unfold gV
       clear b hg0 hr0)
    | (refine wpList_store_new rfl 27 (.tmp 9) (.tmp 15) rfl w1.heap.size rfl _ [.slice (some ⟨g0, 0, none⟩) 8 8, .int .u32 0, .slice none 0 0] _ rfl rfl rfl HI.out HO.out ?_
       intro W2 b2 k2' s2
       have K2 := Lib.hid (K1.out.trans (b2.mono K1.out.size))
       have R2 := Lib.hid (RowsAt.below R0.out b2)
       have X2 := Lib.hid k2'
       have L2 := Lib.hid K1.out.size
       clear b2 k2' s2))
  go_wp2_with fail
  have hb9 := L2.out
  obtain ⟨b9, hbe⟩ : ∃ x, w1.heap.size = x := ⟨_, rfl⟩
  rw [hbe] at hb9
  have XB0 : Blk W2 b9 [.slice (some ⟨g0, 0, none⟩) 8 8, .int .u32 0, .slice none 0 0] := by rw [← hbe]; exact X2.out
  have GA0 : GAt W2 b9 (some ⟨g0, 0, none⟩) 0 none 0 0 [] := ⟨⟨by omega, by omega⟩, by omega, fun _ => rfl, ⟨_, R2.out⟩, ⟨rfl, fun j z hz => by simp at hz⟩, fun a ha => by
    cases ha
    obtain ⟨_, a', ha', hl, _⟩ := R0.out.2 0 _ (List.getElem?_eq_getElem (by simp))
    cases ha'
    show g0 ≠ b9
    have : g0 < w1.heap.size := hl
    omega, fun a ha => by cases ha⟩
  rw [hbe]
  have XB0' := Lib.hid XB0
  have GA0' := Lib.hid GA0
  clear XB0 GA0 X2 R2 R0 G0 L2 HI HO hbe K1
  go_loopw [23] (fun i wr => ∃ (k : Nat) (A : Option Addr) (ca : Nat) (q : Int) (B : Option Addr) (nb cb : Nat) (R : List Int), k ≤ N ∧ i = .int .i64 k ∧ Blk wr b9 [.slice A 8 ca, .int .u32 q, .slice B nb cb] ∧ GAt wr b9 A q B nb cb R ∧ RowKit.Below w.heap.size w wr) (fun i _ => N - (intOf i).toNat)
  case atStart => exact ⟨0, _, 8, 0, none, 0, 0, [], Nat.zero_le _, rfl, XB0'.out, GA0'.out, K2.out⟩
  case round =>
    obtain ⟨k, A, ca, q, B, nb, cb, R, hk, rfl, hblk, hG, hbel⟩ := hrel
    have XB := Lib.hid hblk
    have GB := Lib.hid hG
    have KB := Lib.hid hbel
    clear XB0' GA0' K2
    by_cases hlt : k < N
    · obtain ⟨x, hx⟩ : ∃ r, xs[k]? = some r := ⟨_, List.getElem?_eq_getElem (by rw [HX.out.1]; omega)⟩
      obtain ⟨y, hy⟩ : ∃ r, ys[k]? = some r := ⟨_, List.getElem?_eq_getElem (by rw [HY.out.1]; omega)⟩
      obtain ⟨z, hz⟩ : ∃ r, zs[k]? = some r := ⟨_, List.getElem?_eq_getElem (by have := HZ.out.1; rw [List.length_map] at this; omega)⟩
      obtain ⟨px, rfl, hpx, hcx⟩ := (HX.out.below hbel).2 k x hx
      obtain ⟨py, rfl, hpy, hcy⟩ := (HY.out.below hbel).2 k y hy
      obtain ⟨_, pz, rfl, hpz, hcz⟩ := (RowsAt.below HZ.out hbel).2 k (igC z) (by rw [List.getElem?_map, hz]; rfl)
      have hxr := HXB.out x (List.mem_of_getElem? hx)
      obtain ⟨op, rd, rs1, rs2, im⟩ := z
      have HTR := Lib.hid (fun w' hG => train_in A ca q B nb cb R x y op rd rs1 rs2 im hxr.1 hxr.2 w' b9 hG)
      have c0 := hblk.2.1 0 _ rfl
      have c1 := hblk.2.1 1 _ rfl
      have c2 := hblk.2.1 2 _ rfl
      unfold gV at HTR
      have z1 : (k : Int) < nx := by omega
      have z2 : (k : Int) < ny := by omega
      have z3 : (k : Int) < nz := by omega
      have kk1 : RowKit.Below wr.heap.size wr (wr.alloc (.cells #[.slice none 0 0, .int .u32 0, .slice none 0 0] 27)) := (RowKit.Below.refl _ _).alloc (Nat.le_refl _) _
      have KA := Lib.hid (show RowKit.Below wr.heap.size wr (wr.alloc (.cells #[.slice none 0 0, .int .u32 0, .slice none 0 0] 27)).drew from ⟨kk1.os, kk1.tape, kk1.output, kk1.size, kk1.block⟩)
      have KD := Lib.hid (show RowKit.Below wr.heap.size wr wr.drew from ⟨rfl, rfl, rfl, Nat.le_refl _, fun _ _ => rfl⟩)
      have FA := Lib.hid (show Blk (wr.alloc (.cells #[.slice none 0 0, .int .u32 0, .slice none 0 0] 27)).drew wr.heap.size [.slice none 0 0, .int .u32 0, .slice none 0 0] from Blk.new wr 27 _)
      have xk := hblk.below kk1 hblk.1
      have u0 := xk.2.1 0 _ rfl
      have u1 := xk.2.1 1 _ rfl
      have u2 := xk.2.1 2 _ rfl
      have ux := (kk1.cell (p := px.add k) (by rw [block_add]; exact hpx)).trans hcx
      have uy := (kk1.cell (p := py.add k) (by rw [block_add]; exact hpy)).trans hcy
      obtain ⟨a5, ha5, _, y0, y1⟩ := RowsAt.at_ (RowsAt.below HZ.out hbel) (j := k) (c := igC ⟨op, rd, rs1, rs2, im⟩) (by rw [List.getElem?_map, hz]; rfl)
      cases ha5
      obtain ⟨a6, ha6, _, w0, w1⟩ := RowsAt.at_ (RowsAt.below HZ.out (hbel.trans (kk1.mono hbel.size))) (j := k) (c := igC ⟨op, rd, rs1, rs2, im⟩) (by rw [List.getElem?_map, hz]; rfl)
      cases ha6
      have d0 := y0 _ rfl
      have d1 := y1 0 _ rfl
      have d2 := y1 1 _ rfl
      have d3 := y1 2 _ rfl
      have d4 := y1 3 _ rfl
      have v0 := w0 _ rfl
      have v1 := w1 0 _ rfl
      have v2 := w1 1 _ rfl
      have v3 := w1 2 _ rfl
      have v4 := w1 3 _ rfl
      have hlt9 := hblk.1
      clear hblk hG hbel hx hy hz hcz y0 y1 w0 w1 hpx hpy hpz kk1 xk
      go_upto_region 5 with fail
      go_cut [11] from 26 to 39 (fun v wx => ∃ (A' : Option Addr) (c1 : Nat) (q' : Int) (B' : Option Addr) (n' c' : Nat) (R' : List Int) (b : Nat), v = .pointer (some ⟨b, 0, none⟩) ∧ wr.heap.size ≤ b ∧ Blk wx b [.slice A' 8 c1, .int .u32 q', .slice B' n' c'] ∧ GAt wx b9 A' q' B' n' c' R' ∧ RowKit.Below wr.heap.size wr wx)
      case first =>
        go_region_law (first
          | (go_simp; go_at_call 6; refine (HTR.out _ (GB.out.below KD.out)).mono ?_; rintro r w5 ⟨A', c1', q', B', n', c', R', rfl, hG', b, -⟩
             have B5 := Lib.hid (KD.out.trans (b.mono KD.out.size))
             have G5 := Lib.hid (hG' b9 hlt9 (GB.out.below KD.out))
             clear b hG')
          | (go_simp; go_at_call 6; refine (HTR.out _ (GB.out.below KA.out)).mono ?_; rintro r w5 ⟨A', c1', q', B', n', c', R', rfl, hG', b, -⟩
             have B5 := Lib.hid (KA.out.trans (b.mono KA.out.size))
             have G5 := Lib.hid (hG' b9 (Nat.lt_of_lt_of_le hlt9 KA.out.size) (GB.out.below KA.out))
             have H5 := Lib.hid (hG' wr.heap.size FA.out.1 ((GB.out.new (Nat.le_refl _)).below KA.out))
             have y := FA.out.below b FA.out.1
             have e0 := y.2.1 0 _ rfl
             have e1 := y.2.1 1 _ rfl
             have e2 := y.2.1 2 _ rfl
             have g0 := y.2.2 0 (by simp)
             have g1 := y.2.2 1 (by simp)
             have g2 := y.2.2 2 (by simp)
             have Y5 := Lib.hid y
             clear b hG' y))
        all_goals go_wp2_with fail
        all_goals go_meet
        all_goals first
          | (have t1 := GAt.stored G5.out H5.out 0 (.slice A' 8 c1')
             have t2 := GAt.stored t1.1 t1.2 1 (.int .u32 q')
             have t3 := GAt.stored t2.1 t2.2 2 (.slice B' n' c')
             have t4 := ((Y5.out.set (i := 0) (v := .slice A' 8 c1') (by simp)).set (i := 1) (v := .int .u32 q') (by simp)).set (i := 2) (v := .slice B' n' c') (by simp)
             simp only [List.set_cons_succ, List.set_cons_zero] at t4
             have t5 := ((B5.out.setCell (p := ⟨wr.heap.size, 0, none⟩) (Nat.le_refl _) (.slice A' 8 c1')).setCell (p := ⟨wr.heap.size, 1, none⟩) (Nat.le_refl _) (.int .u32 q')).setCell (p := ⟨wr.heap.size, 2, none⟩) (Nat.le_refl _) (.slice B' n' c')
             replace t3 := t3.1
             clear t1 t2
             generalize ((w5.setCell ⟨wr.heap.size, 0, none⟩ (.slice A' 8 c1')).setCell ⟨wr.heap.size, 1, none⟩ (.int .u32 q')).setCell ⟨wr.heap.size, 2, none⟩ (.slice B' n' c') = W9 at *
             exact ⟨A', c1', q', B', n', c', R', wr.heap.size, rfl, Nat.le_refl _, t4, t3, t5⟩)
          | (have t1 := Blk.new w5 27 [.slice A' 8 c1', .int .u32 q', .slice B' n' c']
             have t2 := G5.out.below ((RowKit.Below.refl w5.heap.size w5).alloc (Nat.le_refl _) (.cells #[.slice A' 8 c1', .int .u32 q', .slice B' n' c'] 27))
             have t3 := B5.out.alloc B5.out.size (.cells #[.slice A' 8 c1', .int .u32 q', .slice B' n' c'] 27)
             have t4 := B5.out.size
             obtain ⟨b5, hb5⟩ : ∃ x, w5.heap.size = x := ⟨_, rfl⟩
             rw [hb5] at t1 t4 ⊢
             generalize w5.alloc (.cells #[.slice A' 8 c1', .int .u32 q', .slice B' n' c'] 27) = W9 at *
             exact ⟨A', c1', q', B', n', c', R', b5, rfl, t4, t1, t2, t3⟩)
      case rest =>
        obtain ⟨A', c1', q', B', n', c', R', b11, rfl, hb11, y1, y2, y3⟩ := hcut
        generalize wc = W5 at *
        clear c0 c1 c2 u0 u1 u2 ux uy hcx hcy d0 d1 d2 d3 d4 v0 v1 v2 v3 v4 KA KD FA HTR
        have X11 := Lib.hid y1
        have G5 := Lib.hid y2
        have K5 := Lib.hid (KB.out.trans (y3.mono KB.out.size))
        have X9 := Lib.hid (XB.out.below y3 XB.out.1)
        have HR := Lib.hid (fun W => guessRefRight_any A' 8 c1' q' B' n' c' W)
        rw [y2.right] at HR
        have HGI := Lib.hid (show (Try.prog.info? 27).map (·.size) = some (#[.slice A' 8 c1', .int .u32 q', .slice B' n' c'] : Array Value).size from guess_infoK)
        have HGO := Lib.hid (show (#[.slice A' 8 c1', .int .u32 q', .slice B' n' c'] : Array Value).all (·.oneCell') = true by simp [Value.oneCell'])
        unfold gV at HR
        clear y1 y2 y3
        go_wp2_with (first
          | (refine wpList_load_mid rfl 27 (.tmp 11) rfl b11 0 rfl [.slice A' 8 c1', .int .u32 q', .slice B' n' c'] _ X11.out.range Try.underlying27 rfl guess_infoK ?_)
          | (go_at_call 7
             refine (HR.out _).mono ?_
             rintro e w6 ⟨rfl, b⟩
             have X12 := Lib.hid (X11.out.below b X11.out.1)
             have X10 := Lib.hid (X9.out.below b X9.out.1)
             have G6 := Lib.hid (G5.out.below b)
             have K6 := Lib.hid (K5.out.trans (b.mono K5.out.size))
             clear b)
          | (refine wpList_load_mid rfl 27 (.tmp 11) rfl b11 0 rfl [.slice A' 8 c1', .int .u32 q', .slice B' n' c'] _ X12.out.range Try.underlying27 rfl guess_infoK ?_)
          | (refine wpList_store_blk2 rfl 27 (.tmp 9) (.tmp 43) rfl b9 _ #[.slice A' 8 c1', .int .u32 q', .slice B' n' c'] X10.out rfl rfl rfl HGI.out HGO.out ?_
             intro W7 g1 g2 g3 g4
             have X13 := Lib.hid g1
             have G7 := Lib.hid (G6.out.far g2 g4)
             have K7 := Lib.hid (K6.out.trans (g3 _ hb9))
             clear g1 g2 g3 g4))
        go_roundw
        case rel => exact ⟨k + 1, A', c1', q', B', n', c', R', by omega, by go_num, X13.out, G7.out, K7.out⟩
        case measure => simp [intOf]; omega
    · obtain rfl : k = N := by omega
      have HT1 := Lib.hid (fun W hG => train_in A ca q B nb cb R pc ((pc + 40) % 4294967296) 3 1 0 0 40 hpc.1 (by omega) W b9 hG)
      have f1 := Blk.new wr 31 [.int .i64 4, .int .i64 0, .int .i64 1, .int .i64 0, .int .u32 0]
      have f2 : RowKit.Below wr.heap.size wr (wr.alloc (.cells #[.int .i64 4, .int .i64 0, .int .i64 1, .int .i64 0, .int .u32 0] 31)) := (RowKit.Below.refl _ _).alloc (Nat.le_refl _) _
      have hnb := hG.2.2.2.2.1.1
      have hn4 := hG.2.1
      unfold gV at HT1
      clear hblk hG hbel
      go_upto_region 11 with fail
      generalize wr.alloc (.cells #[.int .i64 4, .int .i64 0, .int .i64 1, .int .i64 0, .int .u32 0] 31) = W10 at *
      have XI := Lib.hid f1
      have XB1 := Lib.hid (XB.out.below f2 XB.out.1)
      have G1 := Lib.hid (GB.out.below f2)
      have K1 := Lib.hid (KB.out.trans (f2.mono KB.out.size))
      have L1 := Lib.hid (show b9 < W10.heap.size from Nat.lt_of_lt_of_le XB.out.1 f2.size)
      clear f1 f2
      obtain ⟨bI, hbI⟩ : ∃ x, wr.heap.size = x := ⟨_, rfl⟩
      rw [hbI] at XI ⊢
      have HBI := Lib.hid hbI
      clear hbI
      go_upto_region 12 with (first
        | (refine wpList_load_mid rfl 27 (.tmp 9) rfl b9 0 rfl [.slice A 8 ca, .int .u32 q, .slice B nb cb] _ XB1.out.range Try.underlying27 rfl guess_infoK ?_)
        | (go_at_call 6
           refine (HT1.out _ G1.out).mono ?_
           rintro e w2 ⟨A2, c2, q2, B2, n2, d2, R2, rfl, g2, b, hR⟩
           have hR2 := hR (by simp [kindI])
           have G2 := Lib.hid (g2 b9 L1.out G1.out)
           have XI2 := Lib.hid (XI.out.below b XI.out.1)
           have XB2 := Lib.hid (XB1.out.below b XB1.out.1)
           have K2 := Lib.hid (K1.out.trans (b.mono K1.out.size))
           have HR2 := Lib.hid hR2
           have HGI := Lib.hid (show (Try.prog.info? 27).map (·.size) = some ([.slice A2 8 c2, .int .u32 q2, .slice B2 n2 d2] : List Value).length from guess_infoK)
           have HGO := Lib.hid (show ([.slice A2 8 c2, .int .u32 q2, .slice B2 n2 d2] : List Value).toArray.all (·.oneCell') = true by simp [Value.oneCell'])
           clear g2 b hR hR2)
        | (refine wpList_store_new rfl 27 (.tmp 13) (.tmp 51) rfl w2.heap.size rfl _ [.slice A2 8 c2, .int .u32 q2, .slice B2 n2 d2] _ rfl rfl rfl HGI.out HGO.out ?_
           intro W3 b3 k3' s3
           have G3 := Lib.hid (G2.out.below b3)
           have XI3 := Lib.hid (XI2.out.below b3 XI2.out.1)
           have XB3 := Lib.hid (XB2.out.below b3 XB2.out.1)
           have K3 := Lib.hid (K2.out.trans (b3.mono K2.out.size))
           have XC3 := Lib.hid k3'
           clear b3 k3' s3))
      obtain ⟨rl1, rl2⟩ := retL_call R pc 0 (by omega)
      rw [← HR2.out] at rl1 rl2
      have hn2 : R2.length = n2 := G3.out.2.2.2.2.1.1
      rw [hn2] at rl1 rl2
      have hpos : 0 < n2 := by omega
      have hq8 := G3.out.1.2
      have hn24 := G3.out.2.1
      obtain ⟨L2', hL2⟩ := G3.out.2.2.2.1
      have HNX := Lib.hid (fun W (hB : IntsAt W B2 n2 .u32 R2) => next_back A2 c2 q2 B2 n2 d2 R2 ((pc + 40) % 4294967296) 0 0 hq8 hn24 hpos W hB)
      rw [rl2] at HNX
      have HTS := Lib.hid (fun W => train_same A2 8 c2 q2 B2 n2 d2 pc 0 19 0 0 0 0 (by simp [kindI]) W)
      have HLK := Lib.hid (fun W hA hB => like12_any A2 c2 q2 B2 n2 d2 L2' R2 hn24 W hA hB)
      have HT2 := Lib.hid (fun W hG => train_in A2 c2 q2 B2 n2 d2 R2 ((pc + 40) % 4294967296) ((pc + 4) % 4294967296) 4 0 1 0 0 (by omega) (by omega) W b9 hG)
      have RL2 := Lib.hid hL2
      have IB2 := Lib.hid G3.out.2.2.2.2.1
      have HN3 := Lib.hid (And.intro hn2 (And.intro rl1 hpos))
      unfold gV at HNX HTS HLK HT2
      have e0 := XC3.out.2.1 0 _ rfl
      have e1 := XC3.out.2.1 1 _ rfl
      have e2 := XC3.out.2.1 2 _ rfl
      have i0 := XI3.out.2.1 0 _ rfl
      have i1 := XI3.out.2.1 1 _ rfl
      have i2 := XI3.out.2.1 2 _ rfl
      have i3 := XI3.out.2.1 3 _ rfl
      have i4 := XI3.out.2.1 4 _ rfl
      have qe0 := fun d os => cell_regrown e0 d os
      have qe1 := fun d os => cell_regrown e1 d os
      have qe2 := fun d os => cell_regrown e2 d os
      have qi0 := fun d os => cell_regrown i0 d os
      have qi1 := fun d os => cell_regrown i1 d os
      have qi2 := fun d os => cell_regrown i2 d os
      have qi3 := fun d os => cell_regrown i3 d os
      have qi4 := fun d os => cell_regrown i4 d os
      have hself : (((pc + 4) % 4294967296) != ((pc + 4) % 4294967296)) = false := by simp
      clear rl1 rl2 hn2 hpos hq8 hn24 hL2 hn4 hnb e0 e1 e2 i0 i1 i2 i3 i4 HGI HGO
      refine wp_region_quiet_below (by kernel_rfl) (by kernel_rfl) ?_
      simp only [Act.put]
      repeat (go_big_quiet_step (first
        | (go_at_call 8; exact Calls.regrown_of (HNX.out _ (IB2.out.below (below_regrown _ _ _))))
        | (go_at_call 6; exact Calls.regrown_of (HTS.out _))
        | (go_at_call 9; exact Calls.regrown_of (HLK.out _ (RowsAt.below RL2.out (below_regrown _ _ _)) (IB2.out.below (below_regrown _ _ _))))))
      refine wpQuiet_nil ?_
      intro _ hw'
      obtain ⟨⟨nq, osq⟩, hw''⟩ := hw'
      subst hw''
      have bq := below_regrown W3 nq osq
      have G4 := Lib.hid (G3.out.below bq)
      have XI4 := Lib.hid (XI3.out.below bq XI3.out.1)
      have XB4 := Lib.hid (XB3.out.below bq XB3.out.1)
      have XC4 := Lib.hid (XC3.out.below bq XC3.out.1)
      have K4 := Lib.hid (K3.out.trans (bq.mono K3.out.size))
      generalize grow (redrawn W3 nq) osq = W4 at *
      clear qe0 qe1 qe2 qi0 qi1 qi2 qi3 qi4 bq HNX HTS HLK
      have i0 := XI4.out.2.1 0 _ rfl
      have i1 := XI4.out.2.1 1 _ rfl
      have i2 := XI4.out.2.1 2 _ rfl
      have i3 := XI4.out.2.1 3 _ rfl
      have i4 := XI4.out.2.1 4 _ rfl
      go_upto_region 15 with (first
        | (refine wpList_load_mid rfl 27 (.tmp 13) rfl w2.heap.size 0 rfl [.slice A2 8 c2, .int .u32 q2, .slice B2 n2 d2] _ XC4.out.range Try.underlying27 rfl guess_infoK ?_)
        | (go_at_call 6
           refine (HT2.out _ G4.out).mono ?_
           rintro e w5 ⟨A3, c3, q3, B3, n3, d3, R3, rfl, g2, b, hR⟩
           have hR3 := hR (by simp [kindI])
           have G5 := Lib.hid (g2 b9 XB4.out.1 G4.out)
           have XB5 := Lib.hid (XB4.out.below b XB4.out.1)
           have K5 := Lib.hid (K4.out.trans (b.mono K4.out.size))
           have HR3 := Lib.hid hR3
           have HGI := Lib.hid (show (Try.prog.info? 27).map (·.size) = some ([.slice A3 8 c3, .int .u32 q3, .slice B3 n3 d3] : List Value).length from guess_infoK)
           have HGO := Lib.hid (show ([.slice A3 8 c3, .int .u32 q3, .slice B3 n3 d3] : List Value).toArray.all (·.oneCell') = true by simp [Value.oneCell'])
           clear g2 b hR hR3 i0 i1 i2 i3 i4)
        | (refine wpList_store_new rfl 27 (.tmp 14) (.tmp 75) rfl w5.heap.size rfl _ [.slice A3 8 c3, .int .u32 q3, .slice B3 n3 d3] _ rfl rfl rfl HGI.out HGO.out ?_
           intro W6 b6 k6 s6
           have XB6 := Lib.hid (XB5.out.below b6 XB5.out.1)
           have K6 := Lib.hid (K5.out.trans (b6.mono K5.out.size))
           have XD6 := Lib.hid k6
           clear b6 k6 s6))
      have hn3 : R3.length = n3 := G5.out.2.2.2.2.1.1
      have hb3 := retL_back R2 ((pc + 40) % 4294967296) (by rw [HN3.out.1]; exact HN3.out.2.2)
      rw [← HR3.out, hn3, HN3.out.1] at hb3
      have hfin : min (nb : Int) 3 = (n3 : Int) := by have := HN3.out.2.1; have hnb := GB.out.2.2.2.2.1.1; have := GB.out.2.1; omega
      have hfin2 : (if (3 : Int) < (nb : Int) then (3 : Int) else (nb : Int)) = (n3 : Int) := by split <;> omega
      have HRD := Lib.hid (fun W => guessRefRight_any A3 8 c3 q3 B3 n3 d3 W)
      rw [G5.out.right] at HRD
      unfold gV at HRD
      clear hn3 hb3
      go_wp2_with (first
        | (go_at_call 10
           refine (alive12_any _).mono ?_
           rintro e w7 ⟨rfl, b⟩
           have XB7 := Lib.hid (XB6.out.below b XB6.out.1)
           have XD7 := Lib.hid (XD6.out.below b XD6.out.1)
           have K7 := Lib.hid (K6.out.trans (b.mono K6.out.size))
           clear b)
        | (refine wpList_load_want 27 (.tmp 14) rfl rfl w5.heap.size 0 rfl [.slice A3 8 c3, .int .u32 q3, .slice B3 n3 d3] _ XD7.out.range Try.underlying27 rfl guess_infoK ?_)
        | (go_at_call 7
           refine (HRD.out _).mono ?_
           rintro e w8 ⟨rfl, b⟩
           have XB8 := (XB7.out.below b XB7.out.1).2.1 2 _ rfl
           have XD8 := (XD7.out.below b XD7.out.1).2.1 2 _ rfl
           have K8 := Lib.hid (K7.out.trans (b.mono K7.out.size))
           clear b))
      go_ret
      exact ⟨rfl, K8.out⟩
theorem own : ownKnob Try.prog.godebug = none := by kernel_rfl
theorem laidOut : laidOutB Try.prog = true := by kernel_rfl

set_option maxRecDepth 100000 in
theorem lifted (os : Os) (started : os.Started) (H : Type) (enc : TypeId × Value → H) :
    ReturnsInHanded {} Try.checked os 3 .any (Rows.guessKeepsSpec.pre6 enc Try.prog Try.f3 Rows.guessKeepsRow.domain false) (Rows.guessKeepsSpec.post enc Try.prog Try.f3 false true false false) := by
  refine returnsInHanded_of_change (C := Try.checked) own started (by kernel_rfl) Try.func3
    (ChangeSpec.witness6 (enc := enc) (C := Try.checked) false ⟨#[], #[Value.slice none 0 0, Value.slice none 0 0, Value.slice none 0 0, Value.int .u32 0], []⟩ 8 (by kernel_rfl) (by kernel_rfl) (by kernel_rfl) (by kernel_rfl)) ?_
  intro W base args ds gs before hval0 hW hcnd _
  have hval : ∀ (j : Nat) t v, Try.f3.params[j]? = some t → args[j]? = some v → Value.okWide Try.prog W .any base t v := hval0
  have hW' := hW
  obtain ⟨p, q, hA0, hV, rfl, hfz, hnd⟩ := hW
  have hA : DataW.TrodAll enc Try.prog W 0 (fun _ => true) true Try.f3.params.toList args.toList ds p := hA0
  rw [Try.params3] at hA hval
  obtain ⟨v0, vs0, d0, ds0, p0, q0, hargs, rfl, rfl, h0, r0⟩ := trodAll_cons hA
  obtain ⟨v1, vs1, d1, ds1, p1, q1, rfl, rfl, rfl, h1, r1⟩ := trodAll_cons r0
  obtain ⟨v2, vs2, d2, ds2, p2, q2, rfl, rfl, rfl, h2, r2⟩ := trodAll_cons r1
  obtain ⟨v3, vs3, d3, ds3, p3, q3, rfl, rfl, rfl, h3, r3⟩ := trodAll_cons r2
  obtain ⟨rfl, rfl, rfl⟩ := trodAll_nil r3
  obtain rfl : args = #[v0, v1, v2, v3] := by cases args; simp_all
  obtain ⟨rfl, rfl⟩ := trodVars_none hV
  have hlt := hW'.lt
  have k0 := h0
  obtain ⟨pcs_a, pcs_n, pcs_c, pcs, rfl, w_pcs_n, w_pcs_c, w_pcs, w_pcs_wf⟩ := arg_ints (k := .u32) Try.underlying22 Try.underlying24 (by kernel_rfl) (hval 0 22 v0 rfl rfl) h0
  have k1 := h1
  obtain ⟨jumps_a, jumps_n, jumps_c, jumps, rfl, w_jumps_n, w_jumps_c, w_jumps_z, w_jumps, w_jumps_wf⟩ := arg_insts (hval 1 23 v1 rfl rfl) h1
  have k2 := h2
  obtain ⟨nexts_a, nexts_n, nexts_c, nexts, rfl, w_nexts_n, w_nexts_c, w_nexts, w_nexts_wf⟩ := arg_ints (k := .u32) Try.underlying22 Try.underlying24 (by kernel_rfl) (hval 2 22 v2 rfl rfl) h2
  have k3 := h3
  obtain ⟨pc, rfl, -, -, w_pc⟩ := open_int Try.underlying24 (hval 3 24 v3 rfl rfl) h3
  clear hA0 hval0
  simp only [List.append_nil] at hW'
  refine (walk pcs_a pcs_n pcs_c pcs jumps_a jumps_n jumps_c jumps nexts_a nexts_n nexts_c nexts pc w_pcs_n w_pcs_c w_pcs_wf w_jumps_n w_jumps_c w_jumps_z w_jumps_wf w_nexts_n w_nexts_c w_nexts_wf w_pc W w_pcs w_jumps w_nexts).mono fun e W' ⟨he, bel⟩ => ?_
  subst he
  exact ⟨_, rfl, _, _, _, [], _, [], hW', trodAll_mk1 (shut_bool Try.underlying4 _), (trodAll_cons_mk (Below.trod laidOut (by kernel_rfl) (of_decide_eq_true (by kernel_rfl)) k0 bel (fun x hx => hlt x (by simp [hx]))) (trodAll_cons_mk (Below.trod laidOut (by kernel_rfl) (of_decide_eq_true (by kernel_rfl)) k1 bel (fun x hx => hlt x (by simp [hx]))) (trodAll_cons_mk (Below.trod laidOut (by kernel_rfl) (of_decide_eq_true (by kernel_rfl)) k2 bel (fun x hx => hlt x (by simp [hx]))) (trodAll_cons_mk (Below.trod laidOut (by kernel_rfl) (of_decide_eq_true (by kernel_rfl)) k3 bel (fun x hx => hlt x (by simp [hx]))) trodAll_mk0)))), rfl, bel.frame _, fun h => by cases h⟩

/-- THE STATEMENT -/
theorem proved : Rows.GuessKeepsSaid :=
  OpenClaim.holds_of_wide 3 Try.f3 rfl rfl rfl rfl rfl rfl rfl ⟨rfl, rfl, rfl, rfl, rfl⟩ rfl rfl rfl rfl rfl (by kernel_rfl) Try.func3 (by kernel_rfl)
    (of_decide_eq_true (by kernel_rfl)) (by unfold Func.isWrapper; first | (rw [if_pos (by decide +kernel)]; kernel_rfl) | (rw [if_neg (by decide +kernel)]; exact ⟨rfl, rfl⟩))
    (fun os started H enc _ => lifted os started H enc)
#print axioms proved
end Go.Proofs.Ytkamljmopbocnaa.guessKeeps
