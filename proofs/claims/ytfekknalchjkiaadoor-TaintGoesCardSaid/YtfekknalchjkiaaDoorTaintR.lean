/- THE CONTRACTS of inst.Reads, taint.Roots, taint.Tainted. -/
import Derived.Test.YtfekknalchjkiaaDoorMaker
import Derived.Laws.AppendOwnNone
import Derived.RangeFuncBox
import Derived.Deep.RegionLaw
import Derived.Deep.RegionWith
import Derived.Deep.Cut
import Derived.Deep.CutRange
namespace Go.Proofs.YtfekknalchjkiaaDoor
open Go.ChangeShapes Go.WideShapes Go.ChangeAt Go.RowKit Go.Sort
set_option linter.unusedVariables false
set_option linter.unusedSimpArgs false
set_option maxHeartbeats 6000000
set_option maxRecDepth 100000

theorem below_drewT {B : Nat} {a w : World} (h : Below B a w) (n : Nat) : Below B a (w.drewN n) := ⟨h.os, h.tape, h.output, h.size, h.block⟩
theorem reads_any (op rd rs1 rs2 imm : Int) (w : World) :
    Calls Tryd.prog 34 #[.agg #[.int .i64 op, .int .i64 rd, .int .i64 rs1, .int .i64 rs2, .int .u32 imm]] w fun e w' => e = .returned (.tuple #[.int .i64 rs1, .int .i64 rs2]) ∧ Below w.heap.size w w' := by
  go_enter Tryd.func34, Tryd.ntmps34
  go_wp2
  go_quiet (fail)
  go_wp2
  go_ret2
  exact ⟨rfl, below_drewT ((Below.refl _ _).alloc (Nat.le_refl _) _) _⟩
theorem own_numbers {w : World} {base e n : Nat} {k : IntKind} {v : Value} {zs : List Int} (h : w.ownsRow base e 1 v n (zs.map (Value.int k))) (hn : zs.length = n) :
    ∃ A c, v = .slice A n c ∧ n ≤ c ∧ c ≤ maxLen ∧ IntsAt w A n k zs := by
  have hf : (zs.map fun z => [Value.int k z]).flatten = zs.map (Value.int k) := by
    clear h hn
    induction zs with
    | nil => rfl
    | cons a l ih => simp [ih]
  rw [← hf] at h
  have h1 : ∀ (j : Nat) (c : List Value), (zs.map fun z => [Value.int k z])[j]? = some c → c.length = 1 := fun j c hj => by
    rw [List.getElem?_map] at hj
    obtain ⟨e, _, rfl⟩ := Option.map_eq_some_iff.1 hj
    rfl
  obtain ⟨A, c, rfl, g1, g2, g3⟩ := RowsAt.own h (by simpa using hn) h1
  refine ⟨A, c, rfl, g1, g2, hn, fun j z hz => ?_⟩
  obtain ⟨_, a, ha, hl, hv⟩ := g3.2 j [Value.int k z] (by rw [List.getElem?_map, hz]; rfl)
  exact ⟨a, ha, hl, by simpa using hv 0 _ rfl⟩

theorem rootOf_any (A : Option Addr) (n c : Nat) (es : List En) (i reg : Int) (b1 b2 : Nat) (B : Option Addr) (k c2 : Nat) (rs : List Int) (hn : n ≤ c) (hc : c ≤ maxLen) (w : World) (ht : TabIs w) (hg : 0 < w.heap.size) (hE : EntsAt w A n es)
    (h1 : w.cell? ⟨b1, 0, none⟩ = some (.slice A n c)) (h2 : w.cell? ⟨b2, 0, none⟩ = some (.slice B k c2)) (hR : IntsAt w B k .i64 rs) (hlt : makI es i reg < k) :
    Calls Tryd.prog 70 #[.int .i64 i, .int .i64 reg, .pointer (some ⟨b1, 0, none⟩), .pointer (some ⟨b2, 0, none⟩)] w fun r w' => r = .returned (.int .i64 (rof rs (makI es i reg))) ∧ Below w.heap.size w w' := by
  have HM := Lib.hid (maker_any A n c es i reg hn hc w ht hg hE)
  have hr := (makI_range es i reg).1
  clear ht hE hn hc
  obtain ⟨q, hq⟩ : ∃ q, makI es i reg = q := ⟨_, rfl⟩
  rw [hq] at HM hr hlt ⊢
  clear hq
  go_enter Tryd.func70, Tryd.ntmps70
  by_cases h0 : q < 0
  · have d0 : decide (q < 0) = true := decide_eq_true h0
    go_wp2_with (go_at_call 71; refine HM.out.mono ?_; rintro r w1 ⟨rfl, b⟩; have B1 := Lib.hid b; clear b)
    go_ret
    exact ⟨ret_int (by unfold rof; rw [if_pos h0]), B1.out⟩
  · obtain ⟨m, rfl⟩ := Int.eq_ofNat_of_zero_le (show 0 ≤ q by omega)
    have hmk : m < k := by omega
    have d0 : decide ((m : Int) < 0) = false := decide_eq_false h0
    obtain ⟨a, rfl, hca⟩ := hR.at_ hmk
    have HL := Lib.hid hR.1
    obtain ⟨v, hv⟩ : ∃ v, rs.getD m 0 = v := ⟨_, rfl⟩
    rw [hv] at hca
    have HV := Lib.hid hv
    clear hv hR
    go_wp2_with (go_at_call 71; refine HM.out.mono ?_; rintro r w1 ⟨rfl, b⟩; have B1 := Lib.hid b; have g2 := (b.cell (block_lt_of_cell h2)).trans h2; have g3 := (b.cell (World.block_lt_of_cell? w _ hca)).trans hca; clear b)
    go_ret
    refine ⟨ret_int ?_, B1.out⟩
    unfold rof
    rw [if_neg (by omega), ← HV.out, Int.toNat_natCast, List.getD_eq_getElem?_getD, List.getElem?_eq_getElem (by rw [HL.out]; exact hmk)]
    rfl
theorem cell_new1t (w : World) (x : Value) (t : TypeId) : ∀ j u, [x][j]? = some u → (w.alloc (.cells #[x] t)).cell? ((⟨w.heap.size, 0, none⟩ : Addr).add j) = some u := own_new1 w x t
theorem one_intT (k : IntKind) (x : Int) : ∀ u ∈ [Value.int k x], u.oneCell' = true := by
  intro u hu
  simp at hu
  subst hu
  rfl
theorem boxed_below {W W' : World} {B : Nat} {t : TypeId} {v : Value} (h : Boxed W B t v) (hb : Below W.heap.size W W') : Boxed W' B t v := (hb.block B h.lt).trans h
theorem info_intT : (Tryd.prog.info? 3).map (fun i => (i.zero, i.size, i.bytes)) = some (some (.int .i64 0), 1, 8) := by kernel_rfl

theorem roots_any (A : Option Addr) (n c : Nat) (es : List En) (hn : n ≤ c) (hc : c ≤ maxLen) (h20 : n ≤ 100) (w : World) (ht : TabIs w) (hg : 0 < w.heap.size) (hE : EntsAt w A n es) :
    Calls Tryd.prog 29 #[.slice A n c] w fun r w' => ∃ A' c', r = .returned (.slice A' n c') ∧ n ≤ c' ∧ c' ≤ maxLen ∧ IntsAt w' A' n .i64 (rootsL es) ∧ Below w.heap.size w w' := by
  obtain ⟨i0, hi, hz0, hz1, hz2⟩ := info_parts info_intT
  have HL := hE.len
  have HE := Lib.hid hE
  have HT := Lib.hid ht
  have HC := Lib.hid hc
  clear hE ht hc
  go_enter Tryd.func29, Tryd.ntmps29
  go_upto_region 2 with (at_make; refine wpList_make_own _ rfl _ _ 54 rfl (w.heap.size + 1) 3 i0 _ 1 Tryd.underlying54 hi hz0 hz1 .i64 .i64 _ n rfl rfl rfl (by rw [hz2]; omega) (by unfold maxLen; omega) (by simp) ?_; intro w1 hown1 hgrow1)
  rw [World.size_alloc] at hown1
  have q1 := ((Boxed.new w 52 (.slice A n c)).kept hgrow1 (by simp)).alloc (.cells #[.slice (some ⟨w.heap.size + 1, 0, none⟩) 0 n] 54)
  have q2 := Boxed.new w1 54 (.slice (some ⟨w.heap.size + 1, 0, none⟩) 0 n)
  have q3 := hown1.alloc (.cells #[.slice (some ⟨w.heap.size + 1, 0, none⟩) 0 n] 54)
  have hb1 : Below w.heap.size w w1 := ((Below.refl w.heap.size w).alloc (Nat.le_refl _) _).grown hgrow1 (by simp) (fun j hj => by cases hj)
  have q4 := hb1.alloc hb1.size (.cells #[.slice (some ⟨w.heap.size + 1, 0, none⟩) 0 n] 54)
  have hlb : w.heap.size + 1 ≤ w1.heap.size := by have := hgrow1.size; simpa using this
  generalize w1.alloc (.cells #[.slice (some ⟨w.heap.size + 1, 0, none⟩) 0 n] 54) = W2 at *
  obtain ⟨B2, hB2⟩ : ∃ B2, w1.heap.size = B2 := ⟨_, rfl⟩
  rw [hB2] at q2 hlb ⊢
  clear hB2 hown1 hgrow1 hb1
  have Q1 := Lib.hid q1
  have Q2 := Lib.hid q2
  have Q3 := Lib.hid q3
  have Q4 := Lib.hid q4
  have HLB := Lib.hid hlb
  have HNE := Lib.hid (show w.heap.size ≠ B2 by omega)
  have c1 := q1.cell
  clear q1 q2 q3 q4
  have HF := Lib.hid (front_any A n c es hn HC.out W2 (HE.out.below Q4.out))
  obtain ⟨f, hf⟩ : ∃ f, frontN es = f := ⟨_, rfl⟩
  have HRL := Lib.hid (show rootsL es = rootsN es f es.length by unfold rootsL; rw [hf])
  rw [hf] at HF
  clear hf
  go_wp2_with (go_at_call 31; (refine HF.out.mono ?_; rintro r W3 ⟨rfl, b3⟩; have P1 := Lib.hid (boxed_below Q1.out b3); have P2 := Lib.hid (boxed_below Q2.out b3); have P3 := Lib.hid (own_below Q3.out b3); have P4 := Lib.hid (Q4.out.trans (b3.mono Q4.out.size)); have c1 := P1.out.cell; clear b3))
  clear Q1 Q2 Q3 Q4 HF
  go_loopw [19] (fun i wr => ∃ (k : Nat) (v : Value), k ≤ n ∧ i = .int .i64 k ∧ Boxed wr w.heap.size 52 (.slice A n c) ∧ Boxed wr B2 54 v ∧ wr.ownsRow (w.heap.size + 1) 3 1 v k ((rootsN es f k).map (Value.int .i64)) ∧ Below w.heap.size w wr) (fun i _ => n - (intOf i).toNat)
  case atStart => exact ⟨0, _, by omega, rfl, P1.out, P2.out, P3.out, P4.out⟩
  case round =>
    clear P1 P2 P3 P4 c1
    obtain ⟨k, v, hk, rfl, q1, q2, q3, q4⟩ := hrel
    have Q1 := Lib.hid q1
    have Q2 := Lib.hid q2
    have Q3 := Lib.hid q3
    have Q4 := Lib.hid q4
    have hszr := q4.size
    clear q1 q2 q3 q4
    by_cases hlt : k < n
    · obtain ⟨e, he⟩ : ∃ e, es[k]? = some e := ⟨_, List.getElem?_eq_getElem (by omega)⟩
      obtain ⟨a, rfl, hal, hcell⟩ := (HE.out.below Q4.out).at_ he
      have hst := rootsN_at (f := f) he
      obtain ⟨rt, hrt⟩ : ∃ rt, rootAt es f (rootsN es f k) k e = rt := ⟨_, rfl⟩
      rw [hrt] at hst
      have HST := Lib.hid hst
      have HRT := Lib.hid hrt
      have HKD := Lib.hid (fun w => kind_any e.op e.rd e.rs1 e.rs2 e.imm w)
      have HRD := Lib.hid (fun w => reads_any e.op e.rd e.rs1 e.rs2 e.imm w)
      clear he hst hrt
      obtain ⟨Av, cv, rfl, -, -, hqi⟩ := own_numbers Q3.out (rootsN_len es f k)
      have QI := Lib.hid hqi
      have HR1 := Lib.hid (fun w1 ht hg hE h1 h2 hR => rootOf_any (some a) n c es k e.rs1 w.heap.size B2 Av k cv (rootsN es f k) hn HC.out w1 ht hg hE h1 h2 hR (makI_lt es k e.rs1 (by omega)))
      have HR2 := Lib.hid (fun w1 ht hg hE h1 h2 hR => rootOf_any (some a) n c es k e.rs2 w.heap.size B2 Av k cv (rootsN es f k) hn HC.out w1 ht hg hE h1 h2 hR (makI_lt es k e.rs2 (by omega)))
      clear hqi
      unfold rootAt at HRT
      obtain ⟨r1, hr1⟩ : ∃ r1, rof (rootsN es f k) (makI es k e.rs1) = r1 := ⟨_, rfl⟩
      obtain ⟨r2, hr2⟩ : ∃ r2, rof (rootsN es f k) (makI es k e.rs2) = r2 := ⟨_, rfl⟩
      rw [hr1, hr2] at HRT
      rw [hr1] at HR1
      rw [hr2] at HR2
      clear hr1 hr2
      obtain ⟨cs, hcs⟩ : ∃ cs, enC e = cs := ⟨_, rfl⟩
      have h17 : cs.length = 17 := by rw [← hcs]; rfl
      have h1 : cs.toArray.all (·.oneCell') = true := by rw [← hcs]; exact enC_one e
      rw [hcs] at hcell
      have HX := Lib.hid hcell
      have HI := Lib.hid (show (Tryd.prog.info? 60).map (·.size) = some cs.length by rw [h17]; exact ent_info)
      have HA := Lib.hid h1
      have HZ := Lib.hid h17
      have H2 := Lib.hid (show cs[2]? = some (.int .i64 e.op) by rw [← hcs]; rfl)
      have H3 := Lib.hid (show cs[3]? = some (.int .i64 e.rd) by rw [← hcs]; rfl)
      have H4 := Lib.hid (show cs[4]? = some (.int .i64 e.rs1) by rw [← hcs]; rfl)
      have H5 := Lib.hid (show cs[5]? = some (.int .i64 e.rs2) by rw [← hcs]; rfl)
      have H6 := Lib.hid (show cs[6]? = some (.int .u32 e.imm) by rw [← hcs]; rfl)
      clear hcell h1 h17 hcs
      obtain ⟨kd, hkd⟩ : ∃ kd, kindI e.op = kd := ⟨_, rfl⟩
      rw [hkd] at HKD HRT
      clear hkd
      by_cases hk3 : kd = 3
      · subst hk3
        clear HRD HR1 HR2
        by_cases hfk : f < k
        · have d1 : decide (f < k) = true := decide_eq_true hfk
          have hr : (k : Int) = rt := by rw [← HRT.out, if_pos rfl, if_pos hfk]
          clear HRT
          subst hr
          go_wp2_with (first
            | (refine wpList_load_row rfl 60 (.tmp 22) rfl _ rfl cs _ HX.out Tryd.underlying60 rfl HI.out ?_)
              | (refine wpList_store_new rfl 60 (.tmp 7) (.tmp 23) rfl wr.heap.size rfl _ cs _ rfl rfl HZ.out.symm HI.out HA.out ?_; intro W4 hb4 hB4 hs4
                 have G := Lib.hid hB4
                 have S1 := Lib.hid (boxed_below Q1.out hb4)
                 have S2 := Lib.hid (boxed_below Q2.out hb4)
                 have S3 := Lib.hid (own_below Q3.out hb4)
                 have S4 := Lib.hid (Q4.out.trans (hb4.mono Q4.out.size))
                 have SI := Lib.hid (QI.out.below hb4)
                 have c2 := S2.out.cell
                 have s2 := hB4.2.1 2 _ H2.out
                 have s3 := hB4.2.1 3 _ H3.out
                 have s4 := hB4.2.1 4 _ H4.out
                 have s5 := hB4.2.1 5 _ H5.out
                 have s6 := hB4.2.1 6 _ H6.out
                 clear hb4 hB4 hs4)
              | (go_at_call 33; refine (HKD.out _).mono ?_; rintro r w5 ⟨rfl, b5⟩
                 replace S1 := Lib.hid (boxed_below S1.out b5)
                 replace S2 := Lib.hid (boxed_below S2.out b5)
                 replace S3 := Lib.hid (own_below S3.out b5)
                 replace S4 := Lib.hid (S4.out.trans (b5.mono S4.out.size))
                 replace SI := Lib.hid (SI.out.below b5)
                 replace G := Lib.hid (G.out.below b5 G.out.1)
                 replace c2 := S2.out.cell
                 clear b5 s2 s3 s4 s5 s6
                 have s2 := G.out.2.1 2 _ H2.out
                 have s3 := G.out.2.1 3 _ H3.out
                 have s4 := G.out.2.1 4 _ H4.out
                 have s5 := G.out.2.1 5 _ H5.out
                 have s6 := G.out.2.1 6 _ H6.out)
              | (go_at_call 34; refine (HRD.out _).mono ?_; rintro r w6 ⟨rfl, b5⟩
                 replace S1 := Lib.hid (boxed_below S1.out b5)
                 replace S2 := Lib.hid (boxed_below S2.out b5)
                 replace S3 := Lib.hid (own_below S3.out b5)
                 replace S4 := Lib.hid (S4.out.trans (b5.mono S4.out.size))
                 replace SI := Lib.hid (SI.out.below b5)
                 replace G := Lib.hid (G.out.below b5 G.out.1)
                 replace c2 := S2.out.cell
                 clear b5 s2 s3 s4 s5 s6)
              | (go_at_call 70; refine (HR1.out _ (HT.out.below S4.out hg) (Nat.lt_of_lt_of_le hg S4.out.size) (HE.out.below S4.out) S1.out.cell S2.out.cell SI.out).mono ?_; clear HR1; rintro r w7 ⟨rfl, b5⟩
                 replace S1 := Lib.hid (boxed_below S1.out b5)
                 replace S2 := Lib.hid (boxed_below S2.out b5)
                 replace S3 := Lib.hid (own_below S3.out b5)
                 replace S4 := Lib.hid (S4.out.trans (b5.mono S4.out.size))
                 replace SI := Lib.hid (SI.out.below b5)
                 replace G := Lib.hid (G.out.below b5 G.out.1)
                 replace c2 := S2.out.cell
                 clear b5)
              | (go_at_call 70; refine (HR2.out _ (HT.out.below S4.out hg) (Nat.lt_of_lt_of_le hg S4.out.size) (HE.out.below S4.out) S1.out.cell S2.out.cell SI.out).mono ?_; clear HR2; rintro r w8 ⟨rfl, b5⟩
                 replace S1 := Lib.hid (boxed_below S1.out b5)
                 replace S2 := Lib.hid (boxed_below S2.out b5)
                 replace S3 := Lib.hid (own_below S3.out b5)
                 replace S4 := Lib.hid (S4.out.trans (b5.mono S4.out.size))
                 replace SI := Lib.hid (SI.out.below b5)
                 replace G := Lib.hid (G.out.below b5 G.out.1)
                 replace c2 := S2.out.cell
                 clear b5)
              | (at_builtin; refine wpList_append_own _ rfl (.tmp 47) (.tmp 49) 54 rfl (w.heap.size + 1) 3 i0 (.int .i64 0) 1 8 Tryd.underlying54 hi hz0 hz1 hz2 rfl (by decide) _ _ _ rfl (S3.out.alloc _) ⟨w5.heap.size, 0, none⟩ 1 1 [.int .i64 (k : Int)] rfl rfl (cell_new1t _ _ _) (one_intT _ _) (by unfold maxLen; omega) (by omega) (by have := S2.out.lt; have := HLB.out; simp; omega) ?_
                 intro v' w9 hown9 hgrow9 hnil9
                 obtain ⟨g', cap', rfl⟩ := ownsRow_succ hown9
                 obtain ⟨hv1, hv2, hr2, hk2, hb2⟩ := S2.out.appended (by decide) S3.out (by have := S2.out.lt; have := HLB.out; omega) HLB.out hown9 hgrow9
                 have HK1 := Lib.hid (((S1.out.alloc (.cells #[.int .i64 (k : Int)] 3)).kept hgrow9 (S1.out.not_row (by decide) S3.out)).other (B' := B2) HNE.out (.slice (some ⟨g', 0, none⟩) (k + 1) cap'))
                 have hc9 := hv1.cell
                 have hf9 := hv1.frozen
                 have HR9 := Lib.hid hr2
                 have HV2 := Lib.hid hv2
                 have HB2 := Lib.hid (S4.out.trans (hb2.mono (by omega)))
                 clear hown9 hgrow9 hnil9 hv1 hv2 hr2 hk2 hb2))
          clear hc9 hf9
          go_roundw
          case rel => exact ⟨k + 1, _, by omega, by go_num, HK1.out, HV2.out, by rw [HST.out, List.map_append]; exact HR9.out, HB2.out⟩
          case measure => simp [intOf]; omega
        · have d1 : decide (f < k) = false := decide_eq_false hfk
          have hr : (-1 : Int) = rt := by rw [← HRT.out, if_pos rfl, if_neg hfk]
          clear HRT
          subst hr
          go_wp2_with (first
            | (refine wpList_load_row rfl 60 (.tmp 22) rfl _ rfl cs _ HX.out Tryd.underlying60 rfl HI.out ?_)
              | (refine wpList_store_new rfl 60 (.tmp 7) (.tmp 23) rfl wr.heap.size rfl _ cs _ rfl rfl HZ.out.symm HI.out HA.out ?_; intro W4 hb4 hB4 hs4
                 have G := Lib.hid hB4
                 have S1 := Lib.hid (boxed_below Q1.out hb4)
                 have S2 := Lib.hid (boxed_below Q2.out hb4)
                 have S3 := Lib.hid (own_below Q3.out hb4)
                 have S4 := Lib.hid (Q4.out.trans (hb4.mono Q4.out.size))
                 have SI := Lib.hid (QI.out.below hb4)
                 have c2 := S2.out.cell
                 have s2 := hB4.2.1 2 _ H2.out
                 have s3 := hB4.2.1 3 _ H3.out
                 have s4 := hB4.2.1 4 _ H4.out
                 have s5 := hB4.2.1 5 _ H5.out
                 have s6 := hB4.2.1 6 _ H6.out
                 clear hb4 hB4 hs4)
              | (go_at_call 33; refine (HKD.out _).mono ?_; rintro r w5 ⟨rfl, b5⟩
                 replace S1 := Lib.hid (boxed_below S1.out b5)
                 replace S2 := Lib.hid (boxed_below S2.out b5)
                 replace S3 := Lib.hid (own_below S3.out b5)
                 replace S4 := Lib.hid (S4.out.trans (b5.mono S4.out.size))
                 replace SI := Lib.hid (SI.out.below b5)
                 replace G := Lib.hid (G.out.below b5 G.out.1)
                 replace c2 := S2.out.cell
                 clear b5 s2 s3 s4 s5 s6
                 have s2 := G.out.2.1 2 _ H2.out
                 have s3 := G.out.2.1 3 _ H3.out
                 have s4 := G.out.2.1 4 _ H4.out
                 have s5 := G.out.2.1 5 _ H5.out
                 have s6 := G.out.2.1 6 _ H6.out)
              | (go_at_call 34; refine (HRD.out _).mono ?_; rintro r w6 ⟨rfl, b5⟩
                 replace S1 := Lib.hid (boxed_below S1.out b5)
                 replace S2 := Lib.hid (boxed_below S2.out b5)
                 replace S3 := Lib.hid (own_below S3.out b5)
                 replace S4 := Lib.hid (S4.out.trans (b5.mono S4.out.size))
                 replace SI := Lib.hid (SI.out.below b5)
                 replace G := Lib.hid (G.out.below b5 G.out.1)
                 replace c2 := S2.out.cell
                 clear b5 s2 s3 s4 s5 s6)
              | (go_at_call 70; refine (HR1.out _ (HT.out.below S4.out hg) (Nat.lt_of_lt_of_le hg S4.out.size) (HE.out.below S4.out) S1.out.cell S2.out.cell SI.out).mono ?_; clear HR1; rintro r w7 ⟨rfl, b5⟩
                 replace S1 := Lib.hid (boxed_below S1.out b5)
                 replace S2 := Lib.hid (boxed_below S2.out b5)
                 replace S3 := Lib.hid (own_below S3.out b5)
                 replace S4 := Lib.hid (S4.out.trans (b5.mono S4.out.size))
                 replace SI := Lib.hid (SI.out.below b5)
                 replace G := Lib.hid (G.out.below b5 G.out.1)
                 replace c2 := S2.out.cell
                 clear b5)
              | (go_at_call 70; refine (HR2.out _ (HT.out.below S4.out hg) (Nat.lt_of_lt_of_le hg S4.out.size) (HE.out.below S4.out) S1.out.cell S2.out.cell SI.out).mono ?_; clear HR2; rintro r w8 ⟨rfl, b5⟩
                 replace S1 := Lib.hid (boxed_below S1.out b5)
                 replace S2 := Lib.hid (boxed_below S2.out b5)
                 replace S3 := Lib.hid (own_below S3.out b5)
                 replace S4 := Lib.hid (S4.out.trans (b5.mono S4.out.size))
                 replace SI := Lib.hid (SI.out.below b5)
                 replace G := Lib.hid (G.out.below b5 G.out.1)
                 replace c2 := S2.out.cell
                 clear b5)
              | (at_builtin; refine wpList_append_own _ rfl (.tmp 47) (.tmp 49) 54 rfl (w.heap.size + 1) 3 i0 (.int .i64 0) 1 8 Tryd.underlying54 hi hz0 hz1 hz2 rfl (by decide) _ _ _ rfl (S3.out.alloc _) ⟨w5.heap.size, 0, none⟩ 1 1 [.int .i64 (-1 : Int)] rfl rfl (cell_new1t _ _ _) (one_intT _ _) (by unfold maxLen; omega) (by omega) (by have := S2.out.lt; have := HLB.out; simp; omega) ?_
                 intro v' w9 hown9 hgrow9 hnil9
                 obtain ⟨g', cap', rfl⟩ := ownsRow_succ hown9
                 obtain ⟨hv1, hv2, hr2, hk2, hb2⟩ := S2.out.appended (by decide) S3.out (by have := S2.out.lt; have := HLB.out; omega) HLB.out hown9 hgrow9
                 have HK1 := Lib.hid (((S1.out.alloc (.cells #[.int .i64 (-1 : Int)] 3)).kept hgrow9 (S1.out.not_row (by decide) S3.out)).other (B' := B2) HNE.out (.slice (some ⟨g', 0, none⟩) (k + 1) cap'))
                 have hc9 := hv1.cell
                 have hf9 := hv1.frozen
                 have HR9 := Lib.hid hr2
                 have HV2 := Lib.hid hv2
                 have HB2 := Lib.hid (S4.out.trans (hb2.mono (by omega)))
                 clear hown9 hgrow9 hnil9 hv1 hv2 hr2 hk2 hb2))
          clear hc9 hf9
          go_roundw
          case rel => exact ⟨k + 1, _, by omega, by go_num, HK1.out, HV2.out, by rw [HST.out, List.map_append]; exact HR9.out, HB2.out⟩
          case measure => simp [intOf]; omega
      · have d3 : (kd != 3) = true := by simpa using hk3
        have hr : max r1 r2 = rt := by rw [← HRT.out, if_neg hk3]
        clear HRT hk3
        have hr' : (if r1 < r2 then r2 else r1) = rt := by rw [← hr]; split <;> omega
        clear hr
        subst hr'
        go_wp2_with (first
          | (refine wpList_load_row rfl 60 (.tmp 22) rfl _ rfl cs _ HX.out Tryd.underlying60 rfl HI.out ?_)
            | (refine wpList_store_new rfl 60 (.tmp 7) (.tmp 23) rfl wr.heap.size rfl _ cs _ rfl rfl HZ.out.symm HI.out HA.out ?_; intro W4 hb4 hB4 hs4
               have G := Lib.hid hB4
               have S1 := Lib.hid (boxed_below Q1.out hb4)
               have S2 := Lib.hid (boxed_below Q2.out hb4)
               have S3 := Lib.hid (own_below Q3.out hb4)
               have S4 := Lib.hid (Q4.out.trans (hb4.mono Q4.out.size))
               have SI := Lib.hid (QI.out.below hb4)
               have c2 := S2.out.cell
               have s2 := hB4.2.1 2 _ H2.out
               have s3 := hB4.2.1 3 _ H3.out
               have s4 := hB4.2.1 4 _ H4.out
               have s5 := hB4.2.1 5 _ H5.out
               have s6 := hB4.2.1 6 _ H6.out
               clear hb4 hB4 hs4)
            | (go_at_call 33; refine (HKD.out _).mono ?_; rintro r w5 ⟨rfl, b5⟩
               replace S1 := Lib.hid (boxed_below S1.out b5)
               replace S2 := Lib.hid (boxed_below S2.out b5)
               replace S3 := Lib.hid (own_below S3.out b5)
               replace S4 := Lib.hid (S4.out.trans (b5.mono S4.out.size))
               replace SI := Lib.hid (SI.out.below b5)
               replace G := Lib.hid (G.out.below b5 G.out.1)
               replace c2 := S2.out.cell
               clear b5 s2 s3 s4 s5 s6
               have s2 := G.out.2.1 2 _ H2.out
               have s3 := G.out.2.1 3 _ H3.out
               have s4 := G.out.2.1 4 _ H4.out
               have s5 := G.out.2.1 5 _ H5.out
               have s6 := G.out.2.1 6 _ H6.out)
            | (go_at_call 34; refine (HRD.out _).mono ?_; rintro r w6 ⟨rfl, b5⟩
               replace S1 := Lib.hid (boxed_below S1.out b5)
               replace S2 := Lib.hid (boxed_below S2.out b5)
               replace S3 := Lib.hid (own_below S3.out b5)
               replace S4 := Lib.hid (S4.out.trans (b5.mono S4.out.size))
               replace SI := Lib.hid (SI.out.below b5)
               replace G := Lib.hid (G.out.below b5 G.out.1)
               replace c2 := S2.out.cell
               clear b5 s2 s3 s4 s5 s6)
            | (go_at_call 70; refine (HR1.out _ (HT.out.below S4.out hg) (Nat.lt_of_lt_of_le hg S4.out.size) (HE.out.below S4.out) S1.out.cell S2.out.cell SI.out).mono ?_; clear HR1; rintro r w7 ⟨rfl, b5⟩
               replace S1 := Lib.hid (boxed_below S1.out b5)
               replace S2 := Lib.hid (boxed_below S2.out b5)
               replace S3 := Lib.hid (own_below S3.out b5)
               replace S4 := Lib.hid (S4.out.trans (b5.mono S4.out.size))
               replace SI := Lib.hid (SI.out.below b5)
               replace G := Lib.hid (G.out.below b5 G.out.1)
               replace c2 := S2.out.cell
               clear b5)
            | (go_at_call 70; refine (HR2.out _ (HT.out.below S4.out hg) (Nat.lt_of_lt_of_le hg S4.out.size) (HE.out.below S4.out) S1.out.cell S2.out.cell SI.out).mono ?_; clear HR2; rintro r w8 ⟨rfl, b5⟩
               replace S1 := Lib.hid (boxed_below S1.out b5)
               replace S2 := Lib.hid (boxed_below S2.out b5)
               replace S3 := Lib.hid (own_below S3.out b5)
               replace S4 := Lib.hid (S4.out.trans (b5.mono S4.out.size))
               replace SI := Lib.hid (SI.out.below b5)
               replace G := Lib.hid (G.out.below b5 G.out.1)
               replace c2 := S2.out.cell
               clear b5)
            | (at_builtin; refine wpList_append_own _ rfl (.tmp 47) (.tmp 49) 54 rfl (w.heap.size + 1) 3 i0 (.int .i64 0) 1 8 Tryd.underlying54 hi hz0 hz1 hz2 rfl (by decide) _ _ _ rfl (S3.out.alloc _) ⟨w8.heap.size, 0, none⟩ 1 1 [.int .i64 (if r1 < r2 then r2 else r1)] rfl rfl (cell_new1t _ _ _) (one_intT _ _) (by unfold maxLen; omega) (by omega) (by have := S2.out.lt; have := HLB.out; simp; omega) ?_
               intro v' w9 hown9 hgrow9 hnil9
               obtain ⟨g', cap', rfl⟩ := ownsRow_succ hown9
               obtain ⟨hv1, hv2, hr2, hk2, hb2⟩ := S2.out.appended (by decide) S3.out (by have := S2.out.lt; have := HLB.out; omega) HLB.out hown9 hgrow9
               have HK1 := Lib.hid (((S1.out.alloc (.cells #[.int .i64 (if r1 < r2 then r2 else r1)] 3)).kept hgrow9 (S1.out.not_row (by decide) S3.out)).other (B' := B2) HNE.out (.slice (some ⟨g', 0, none⟩) (k + 1) cap'))
               have hc9 := hv1.cell
               have hf9 := hv1.frozen
               have HR9 := Lib.hid hr2
               have HV2 := Lib.hid hv2
               have HB2 := Lib.hid (S4.out.trans (hb2.mono (by omega)))
               clear hown9 hgrow9 hnil9 hv1 hv2 hr2 hk2 hb2))
        clear hc9 hf9
        go_roundw
        case rel => exact ⟨k + 1, _, by omega, by go_num, HK1.out, HV2.out, by rw [HST.out, List.map_append]; exact HR9.out, HB2.out⟩
        case measure => simp [intOf]; omega
    · obtain rfl : k = n := by omega
      have hrow := Q3.out
      rw [show rootsN es f k = rootsL es by rw [HRL.out, HL]] at hrow
      obtain ⟨Av, cv, rfl, g1, g2, g3⟩ := own_numbers hrow (by rw [rootsL_len]; exact HL)
      have G1 := Lib.hid (And.intro g1 (And.intro g2 g3))
      have c2 := Q2.out.cell
      clear g1 g2 g3 hrow
      go_wp2
      go_ret
      exact ⟨Av, cv, rfl, G1.out.1, G1.out.2.1, G1.out.2.2, Q4.out⟩
end Go.Proofs.YtfekknalchjkiaaDoor
