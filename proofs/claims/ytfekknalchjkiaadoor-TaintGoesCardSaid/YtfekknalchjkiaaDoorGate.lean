/- THE CONTRACTS of package gate. -/
import Derived.Test.YtfekknalchjkiaaDoorTaintV
namespace Go.Proofs.YtfekknalchjkiaaDoor
open Go.ChangeShapes Go.WideShapes Go.ChangeAt Go.RowKit Go.Sort
set_option linter.unusedVariables false
set_option linter.unusedSimpArgs false
set_option maxHeartbeats 2000000
set_option maxRecDepth 100000

def tellB (e : En) : Bool := decide (kindI e.op = 3 ∨ kindI e.op = 4 ∨ kindI e.op = 2 ∨ kindI e.op = 5)
theorem tells_any (e : En) (w : World) : Calls Tryd.prog 41 #[enV e] w fun r w' => r = .returned (.bool (tellB e)) ∧ Below w.heap.size w w' := by
  obtain ⟨no, pc, op, rd, rs1, rs2, imm, guess, is, left, value, next, addr, halt, took, known, filled⟩ := e
  unfold enV enC
  have HK := Lib.hid (fun w => kind_any op rd rs1 rs2 imm w)
  have HC := kindI_cases op
  obtain ⟨sb, hsb⟩ : ∃ sb, tellB ⟨no, pc, op, rd, rs1, rs2, imm, guess, is, left, value, next, addr, halt, took, known, filled⟩ = sb := ⟨_, rfl⟩
  rw [hsb]
  unfold tellB at hsb
  simp only at hsb
  obtain ⟨kd, hkd⟩ : ∃ kd, kindI op = kd := ⟨_, rfl⟩
  rw [hkd] at HK HC hsb
  clear hkd
  have HSB := Lib.hid hsb
  have HKC := Lib.hid HC
  clear hsb HC
  go_enter Tryd.func41, Tryd.ntmps41
  go_wp2_with fail
  go_at_call 33
  refine (HK.out _).mono ?_
  rintro r w1 ⟨rfl, b⟩
  have HB := Lib.hid (((Below.refl w.heap.size w).alloc (Nat.le_refl _) (.cells #[.int .i64 no, .int .u32 pc, .int .i64 op, .int .i64 rd, .int .i64 rs1, .int .i64 rs2, .int .u32 imm, .int .u32 guess, .int .i64 is, .int .i64 left, .int .u32 value, .int .u32 next, .int .u32 addr, .int .i64 halt, .int .i64 took, .bool known, .bool filled] 60)).trans (b.mono (by simp)))
  clear b
  rcases HKC.out with rfl | rfl | rfl | rfl | rfl | rfl | rfl
  all_goals
    go_wp2
    go_ret
    exact ⟨retb (by rw [← HSB.out]; simp), HB.out⟩
def needL (e : En) : List Int := if kindI e.op = 3 ∨ kindI e.op = 4 then [e.rs1] else [e.rs1, e.rs2]
theorem needL_len (e : En) : (needL e).length ≤ 2 := by unfold needL; split <;> simp
theorem ints_new (w : World) (t : TypeId) (k : IntKind) (zs : List Int) : IntsAt (w.alloc (.cells (zs.map (Value.int k)).toArray t)) (some ⟨w.heap.size, 0, none⟩) zs.length k zs :=
  ⟨rfl, fun j z hj => ⟨_, rfl, by simp, by rw [Addr.add_lit, Nat.zero_add, World.cell?_alloc_at _ _ _ _ rfl]; simp [hj]⟩⟩
theorem needs_any (e : En) (w : World) : Calls Tryd.prog 40 #[enV e] w fun r w' => ∃ A, r = .returned (.slice A (needL e).length (needL e).length) ∧ IntsAt w' A (needL e).length .i64 (needL e) ∧ Below w.heap.size w w' := by
  obtain ⟨no, pc, op, rd, rs1, rs2, imm, guess, is, left, value, next, addr, halt, took, known, filled⟩ := e
  unfold enV enC
  have HK := Lib.hid (fun w => kind_any op rd rs1 rs2 imm w)
  have HR := Lib.hid (fun w => reads_any op rd rs1 rs2 imm w)
  have HC := kindI_cases op
  obtain ⟨L, hL⟩ : ∃ L, needL ⟨no, pc, op, rd, rs1, rs2, imm, guess, is, left, value, next, addr, halt, took, known, filled⟩ = L := ⟨_, rfl⟩
  rw [hL]
  unfold needL at hL
  simp only at hL
  obtain ⟨kd, hkd⟩ : ∃ kd, kindI op = kd := ⟨_, rfl⟩
  rw [hkd] at HK HC hL
  clear hkd
  have HLL := Lib.hid hL
  have HKC := Lib.hid HC
  clear hL HC
  have X0 := Lib.hid (Blk.new w 60 [.int .i64 no, .int .u32 pc, .int .i64 op, .int .i64 rd, .int .i64 rs1, .int .i64 rs2, .int .u32 imm, .int .u32 guess, .int .i64 is, .int .i64 left, .int .u32 value, .int .u32 next, .int .u32 addr, .int .i64 halt, .int .i64 took, .bool known, .bool filled])
  go_enter Tryd.func40, Tryd.ntmps40
  go_wp2_with fail
  go_at_call 34
  refine (HR.out _).mono ?_
  rintro r w1 ⟨rfl, b⟩
  have X1 := Lib.hid (X0.out.below b X0.out.1)
  have HB := Lib.hid (((Below.refl w.heap.size w).alloc (Nat.le_refl _) (.cells #[.int .i64 no, .int .u32 pc, .int .i64 op, .int .i64 rd, .int .i64 rs1, .int .i64 rs2, .int .u32 imm, .int .u32 guess, .int .i64 is, .int .i64 left, .int .u32 value, .int .u32 next, .int .u32 addr, .int .i64 halt, .int .i64 took, .bool known, .bool filled] 60)).trans (b.mono (by simp)))
  clear b X0
  have s2 := X1.out.2.1 2 _ rfl
  have s3 := X1.out.2.1 3 _ rfl
  have s4 := X1.out.2.1 4 _ rfl
  have s5 := X1.out.2.1 5 _ rfl
  have s6 := X1.out.2.1 6 _ rfl
  go_wp2_with fail
  go_at_call 33
  refine (HK.out _).mono ?_
  rintro r w2 ⟨rfl, b⟩
  have HB2 := Lib.hid (HB.out.trans (b.mono HB.out.size))
  clear b X1 HB s2 s3 s4 s5 s6
  rcases HKC.out with rfl | rfl | rfl | rfl | rfl | rfl | rfl
  all_goals
    go_wp2
    go_ret
    refine ⟨some ⟨w2.heap.size, 0, none⟩, by rw [← HLL.out]; rfl, ?_, HB2.out.alloc HB2.out.size _⟩
    rw [← HLL.out]
    exact ints_new w2 3 .i64 _
theorem may1_any (A : Option Addr) (n c : Nat) (es : List En) (i reg : Int) (b1 b2 : Nat) (hn : n ≤ c) (hc : c ≤ maxLen) (h20 : n ≤ 100) (w : World) (ht : TabIs w) (hg : 0 < w.heap.size) (hE : EntsAt w A n es)
    (h1 : w.cell? ⟨b1, 0, none⟩ = some (.slice A n c)) (h2 : w.cell? ⟨b2, 0, none⟩ = some (.int .i64 i)) :
    Calls Tryd.prog 73 #[.int .i64 reg, .pointer (some ⟨b1, 0, none⟩), .pointer (some ⟨b2, 0, none⟩)] w fun r w' => r = .returned (.bool (taintB es i reg)) ∧ Below w.heap.size w w' := by
  have HT := Lib.hid (tainted_any A n c es i reg hn hc h20 w ht hg hE)
  clear ht hE
  go_enter Tryd.func73, Tryd.ntmps73
  go_wp2_with (go_at_call 35; refine HT.out.mono ?_; rintro r w1 ⟨rfl, b⟩; have B := Lib.hid b; clear b)
  go_ret
  exact ⟨rfl, B.out⟩
/-- where the first one is that holds -/
def idxF (p : Int → Bool) : List Int → Int
  | [] => -1
  | x :: l => if p x then 0 else if idxF p l < 0 then -1 else idxF p l + 1
theorem idxF_any (p : Int → Bool) : ∀ l : List Int, -1 ≤ idxF p l ∧ (0 ≤ idxF p l ↔ l.any p = true)
  | [] => by simp [idxF]
  | x :: l => by
    obtain ⟨h1, h2⟩ := idxF_any p l
    unfold idxF
    cases hp : p x
    · simp only [Bool.false_eq_true, if_false, List.any_cons, hp, Bool.false_or]
      split
      · rename_i h
        refine ⟨by omega, ?_⟩
        rw [← h2]
        omega
      · refine ⟨by omega, ?_⟩
        rw [← h2]
        omega
    · simp [hp]
theorem idxF_hit (p : Int → Bool) (x : Int) : ∀ (l : List Int) (j : Nat), (∀ y ∈ l.take j, p y = false) → l[j]? = some x → p x = true → idxF p l = j
  | [], j, _, h, _ => by simp at h
  | y :: l, 0, _, h, hx => by
    simp at h
    subst h
    unfold idxF
    rw [if_pos hx]
    rfl
  | y :: l, j + 1, hn, h, hx => by
    have h1 := hn y (by simp)
    have h2 := idxF_hit p x l j (fun z hz => hn z (by simp [hz])) (by simpa using h) hx
    unfold idxF
    rw [h1, h2]
    simp
    omega
theorem idxF_none (p : Int → Bool) : ∀ (l : List Int), (∀ y ∈ l, p y = false) → idxF p l = -1
  | [], _ => rfl
  | y :: l, hn => by
    unfold idxF
    rw [hn y (by simp), idxF_none p l (fun z hz => hn z (by simp [hz]))]
    simp
theorem indexFunc_any (A : Option Addr) (n c : Nat) (es : List En) (i : Int) (b1 b2 : Nat) (B : Option Addr) (k c2 : Nat) (zs : List Int) (hn : n ≤ c) (hc : c ≤ maxLen) (h20 : n ≤ 100) (hk : k ≤ 2) (w : World) (ht : TabIs w) (hg : 0 < w.heap.size) (hE : EntsAt w A n es)
    (h1 : w.cell? ⟨b1, 0, none⟩ = some (.slice A n c)) (h2 : w.cell? ⟨b2, 0, none⟩ = some (.int .i64 i)) (hZ : IntsAt w B k .i64 zs) :
    Calls Tryd.prog 117 #[.slice B k c2, .func (.func 73) #[] #[.pointer (some ⟨b1, 0, none⟩), .pointer (some ⟨b2, 0, none⟩)]] w fun r w' => r = .returned (.int .i64 (idxF (taintB es i) zs)) ∧ Below w.heap.size w w' := by
  have HM := Lib.hid (fun reg w ht hg hE h1 h2 => may1_any A n c es i reg b1 b2 hn hc h20 w ht hg hE h1 h2)
  have HT := Lib.hid ht
  have HE := Lib.hid hE
  have HZ := Lib.hid hZ
  have HL := hZ.1
  have HC1 := Lib.hid h1
  have HC2 := Lib.hid h2
  clear hn hc ht hE hZ h1 h2
  go_enter Tryd.func117, Tryd.ntmps117
  go_wp2
  go_loopw [8] (fun v wr => ∃ j : Nat, j ≤ k ∧ v = .int .i64 j ∧ (∀ y ∈ zs.take j, taintB es i y = false) ∧ Below w.heap.size w wr) (fun v _ => k - (intOf v).toNat)
  case atStart => exact ⟨0, by omega, rfl, by simp, Below.refl _ _⟩
  case round =>
    obtain ⟨j, hj, rfl, hno, hb⟩ := hrel
    have HB := Lib.hid hb
    have HNO := Lib.hid hno
    clear hb hno
    by_cases hlt : j < k
    · obtain ⟨x, hx⟩ : ∃ x, zs[j]? = some x := ⟨_, List.getElem?_eq_getElem (by omega)⟩
      obtain ⟨a, rfl, hcx⟩ := (HZ.out.below HB.out).at_ hlt
      rw [List.getD_eq_getElem?_getD, hx] at hcx
      simp only [Option.getD_some] at hcx
      have HX := Lib.hid hx
      have HMX := Lib.hid (HM.out x wr (HT.out.below HB.out hg) (Nat.lt_of_lt_of_le hg HB.out.size) (HE.out.below HB.out) ((HB.out.cell (block_lt_of_cell HC1.out)).trans HC1.out) ((HB.out.cell (block_lt_of_cell HC2.out)).trans HC2.out))
      clear hx
      cases htx : taintB es i x
      · rw [htx] at HMX
        have HTX := Lib.hid htx
        clear htx
        go_wp2_with (go_at_call 73; refine HMX.out.mono ?_; rintro r w1 ⟨rfl, b⟩; have B1 := Lib.hid (HB.out.trans (b.mono HB.out.size)); clear b)
        go_roundw
        case rel => exact ⟨j + 1, by omega, by go_num, fun y hy => by
          rw [List.take_add_one, HX.out, List.mem_append] at hy
          rcases hy with hy | hy
          · exact HNO.out y hy
          · simp at hy
            subst hy
            exact HTX.out, B1.out⟩
        case measure => simp [intOf]; omega
      · rw [htx] at HMX
        have HTX := Lib.hid (idxF_hit (taintB es i) x zs j HNO.out HX.out htx)
        clear htx
        go_wp2_with (go_at_call 73; refine HMX.out.mono ?_; rintro r w1 ⟨rfl, b⟩; have B1 := Lib.hid (HB.out.trans (b.mono HB.out.size)); clear b)
        go_ret
        exact ⟨ret_int HTX.out.symm, B1.out⟩
    · obtain rfl : j = k := by omega
      go_wp2
      go_ret
      refine ⟨ret_int (idxF_none _ _ fun y hy => HNO.out y ?_).symm, HB.out⟩
      rw [List.take_of_length_le (by omega)]
      exact hy
theorem containsFunc_any (A : Option Addr) (n c : Nat) (es : List En) (i : Int) (b1 b2 : Nat) (B : Option Addr) (k c2 : Nat) (zs : List Int) (hn : n ≤ c) (hc : c ≤ maxLen) (h20 : n ≤ 100) (hk : k ≤ 2) (w : World) (ht : TabIs w) (hg : 0 < w.heap.size) (hE : EntsAt w A n es)
    (h1 : w.cell? ⟨b1, 0, none⟩ = some (.slice A n c)) (h2 : w.cell? ⟨b2, 0, none⟩ = some (.int .i64 i)) (hZ : IntsAt w B k .i64 zs) :
    Calls Tryd.prog 74 #[.slice B k c2, .func (.func 73) #[] #[.pointer (some ⟨b1, 0, none⟩), .pointer (some ⟨b2, 0, none⟩)]] w fun r w' => r = .returned (.bool (zs.any (taintB es i))) ∧ Below w.heap.size w w' := by
  have HI := Lib.hid (indexFunc_any A n c es i b1 b2 B k c2 zs hn hc h20 hk w ht hg hE h1 h2 hZ)
  obtain ⟨q1, q2⟩ := idxF_any (taintB es i) zs
  clear hn hc ht hE hZ h1 h2
  obtain ⟨q, hq⟩ : ∃ q, idxF (taintB es i) zs = q := ⟨_, rfl⟩
  rw [hq] at HI q1 q2
  have HQ := Lib.hid q2
  clear hq q2
  go_enter Tryd.func74, Tryd.ntmps74
  by_cases h0 : 0 ≤ q
  · have d : decide (0 ≤ q) = true := decide_eq_true h0
    go_wp2_with (go_at_call 117; refine HI.out.mono ?_; rintro r w1 ⟨rfl, b⟩; have B1 := Lib.hid b; clear b)
    go_ret
    exact ⟨retb (HQ.out.1 (by omega)).symm, B1.out⟩
  · have d : decide (0 ≤ q) = false := decide_eq_false h0
    go_wp2_with (go_at_call 117; refine HI.out.mono ?_; rintro r w1 ⟨rfl, b⟩; have B1 := Lib.hid b; clear b)
    go_ret
    refine ⟨retb ?_, B1.out⟩
    cases hz : zs.any (taintB es i)
    · rfl
    · exact absurd (HQ.out.2 hz) (by omega)
/-- what may -/
def mayB (mode : Int) (es : List En) (i : Int) : Bool :=
  if i < 0 ∨ (es.length : Int) ≤ i then false
  else match es[i.toNat]? with
    | none => false
    | some e => if tellB e = false then true else if mode = 0 then true else if mode = 1 then !((needL e).any (taintB es i)) else if mode = 2 then decide (0 ≤ i ∧ i ≤ frontN es) else false
theorem may_any (mode : Int) (A : Option Addr) (n c : Nat) (es : List En) (i : Int) (hn : n ≤ c) (hc : c ≤ maxLen) (h20 : n ≤ 100) (w : World) (ht : TabIs w) (hg : 0 < w.heap.size) (hE : EntsAt w A n es) :
    Calls Tryd.prog 38 #[.int .i64 mode, .slice A n c, .int .i64 i] w fun r w' => r = .returned (.bool (mayB mode es i)) ∧ Below w.heap.size w w' := by
  have HT := Lib.hid ht
  have HE := Lib.hid hE
  have HL := hE.len
  have HVI := Lib.hid (fun w hE => visible_any A n c es i hn hc w hE)
  have HCF := Lib.hid (fun b1 b2 B k c2 zs hk w ht hg hE h1 h2 hZ => containsFunc_any A n c es i b1 b2 B k c2 zs hn hc h20 hk w ht hg hE h1 h2 hZ)
  obtain ⟨mb, hmb⟩ : ∃ mb, mayB mode es i = mb := ⟨_, rfl⟩
  rw [hmb]
  unfold mayB at hmb
  rw [HL] at hmb
  have q1 := Blk.new w 52 [.slice A n c]
  have q2 := Blk.new (w.alloc (.cells #[.slice A n c] 52)) 3 [.int .i64 i]
  rw [World.size_alloc] at q2
  have q3 := q1.below (w' := (w.alloc (.cells #[.slice A n c] 52)).alloc (.cells #[.int .i64 i] 3)) ((Below.refl _ _).alloc (Nat.le_refl _) _) q1.1
  have q4 : Below w.heap.size w ((w.alloc (.cells #[.slice A n c] 52)).alloc (.cells #[.int .i64 i] 3)) := ((Below.refl _ _).alloc (Nat.le_refl _) _).alloc (by simp) _
  have C1 := Lib.hid (q3.2.1 0 _ rfl)
  have C2 := Lib.hid (q2.2.1 0 _ rfl)
  have K0 := Lib.hid q4
  clear ht hE hn hc q1 q2 q3 q4
  by_cases hi : i < 0 ∨ (n : Int) ≤ i
  · rw [if_pos hi] at hmb
    subst hmb
    go_enter Tryd.func38, Tryd.ntmps38
    by_cases h0 : i < 0
    · have d0 : decide (i < 0) = true := decide_eq_true h0
      clear hi
      go_wp2
      go_ret
      exact ⟨rfl, K0.out⟩
    · have d0 : decide (i < 0) = false := decide_eq_false h0
      have d1 : decide ((n : Int) ≤ i) = true := decide_eq_true (by omega)
      clear hi
      go_wp2
      go_ret
      exact ⟨rfl, K0.out⟩
  · obtain ⟨k, rfl⟩ := Int.eq_ofNat_of_zero_le (show 0 ≤ i by omega)
    have hkn : k < n := by omega
    rw [if_neg hi] at hmb
    obtain ⟨e, he⟩ : ∃ e, es[k]? = some e := ⟨_, List.getElem?_eq_getElem (by omega)⟩
    rw [Int.toNat_natCast, he] at hmb
    simp only at hmb
    obtain ⟨a, rfl, hal, hcell⟩ := (HE.out.below K0.out).at_ he
    have HTE := Lib.hid (fun w => tells_any e w)
    have HNE := Lib.hid (fun w => needs_any e w)
    have hnl := needL_len e
    obtain ⟨L, hL⟩ : ∃ L, needL e = L := ⟨_, rfl⟩
    rw [hL] at HNE hmb hnl
    obtain ⟨tb, htb⟩ : ∃ tb, tellB e = tb := ⟨_, rfl⟩
    rw [htb] at HTE hmb
    unfold enV at HTE HNE
    obtain ⟨cs, hcs⟩ : ∃ cs, enC e = cs := ⟨_, rfl⟩
    have h17 : cs.length = 17 := by rw [← hcs]; rfl
    rw [hcs] at HTE HNE hcell
    have HX := Lib.hid hcell
    have HI := Lib.hid (show (Tryd.prog.info? 60).map (·.size) = some cs.length by rw [h17]; exact ent_info)
    have HMB := Lib.hid hmb
    have d0 : decide ((k : Int) < 0) = false := decide_eq_false (by omega)
    have d1 : decide ((n : Int) ≤ k) = false := decide_eq_false (by omega)
    have d2 : decide (n ≤ k) = false := decide_eq_false (by omega)
    clear hcell h17 hcs htb hL he hmb hi
    go_enter Tryd.func38, Tryd.ntmps38
    cases tb
    · go_wp2_with (first
        | (refine wpList_load_row rfl 60 (.tmp 18) rfl _ rfl cs _ HX.out Tryd.underlying60 rfl HI.out ?_)
          | (go_at_call 41; refine (HTE.out _).mono ?_; rintro r w1 ⟨rfl, b⟩
             have K1 := Lib.hid (K0.out.trans (b.mono K0.out.size))
             have c1 := (b.cell (block_lt_of_cell C1.out)).trans C1.out
             have c2 := (b.cell (block_lt_of_cell C2.out)).trans C2.out
             have D1 := Lib.hid c1
             have D2 := Lib.hid c2
             have HX2 := Lib.hid (fun (t : Nat) (v : Value) (ht : cs[t]? = some v) => (b.cell (World.block_lt_of_cell? _ _ (HX.out t v ht))).trans (HX.out t v ht))
             clear b))
      go_ret
      exact ⟨retb (by rw [← HMB.out]; rfl), K1.out⟩
    · by_cases m0 : mode = 0
      · have e0 : (mode == 0) = true := by simpa using m0
        have hm : mb = true := by rw [← HMB.out, if_neg (by simp), if_pos m0]
        clear m0 HMB
        subst hm
        go_wp2_with (first
          | (refine wpList_load_row rfl 60 (.tmp 18) rfl _ rfl cs _ HX.out Tryd.underlying60 rfl HI.out ?_)
            | (go_at_call 41; refine (HTE.out _).mono ?_; rintro r w1 ⟨rfl, b⟩
               have K1 := Lib.hid (K0.out.trans (b.mono K0.out.size))
               have c1 := (b.cell (block_lt_of_cell C1.out)).trans C1.out
               have c2 := (b.cell (block_lt_of_cell C2.out)).trans C2.out
               have D1 := Lib.hid c1
               have D2 := Lib.hid c2
               have HX2 := Lib.hid (fun (t : Nat) (v : Value) (ht : cs[t]? = some v) => (b.cell (World.block_lt_of_cell? _ _ (HX.out t v ht))).trans (HX.out t v ht))
               clear b))
        go_ret
        exact ⟨rfl, K1.out⟩
      · have e0 : (mode == 0) = false := by simpa using m0
        by_cases m1 : mode = 1
        · have e1 : (mode == 1) = true := by simpa using m1
          have hm : mb = !(L.any (taintB es k)) := by rw [← HMB.out, if_neg (by simp), if_neg m0, if_pos m1]
          clear m0 m1 HMB
          obtain ⟨tv, htv⟩ : ∃ tv, L.any (taintB es k) = tv := ⟨_, rfl⟩
          have HTV := Lib.hid htv
          rw [htv] at hm
          subst hm
          clear htv
          go_wp2_with (first
            | (refine wpList_load_row rfl 60 (.tmp 18) rfl _ rfl cs _ HX.out Tryd.underlying60 rfl HI.out ?_)
              | (go_at_call 41; refine (HTE.out _).mono ?_; rintro r w1 ⟨rfl, b⟩
                 have K1 := Lib.hid (K0.out.trans (b.mono K0.out.size))
                 have c1 := (b.cell (block_lt_of_cell C1.out)).trans C1.out
                 have c2 := (b.cell (block_lt_of_cell C2.out)).trans C2.out
                 have D1 := Lib.hid c1
                 have D2 := Lib.hid c2
                 have HX2 := Lib.hid (fun (t : Nat) (v : Value) (ht : cs[t]? = some v) => (b.cell (World.block_lt_of_cell? _ _ (HX.out t v ht))).trans (HX.out t v ht))
                 clear b)
            | (refine wpList_load_row rfl 60 (.tmp 30) rfl _ rfl cs _ HX2.out Tryd.underlying60 rfl HI.out ?_)
            | (go_at_call 40; refine (HNE.out _).mono ?_; rintro r w2 ⟨BN, rfl, hz, b⟩
               have K2 := Lib.hid (K1.out.trans (b.mono K1.out.size))
               have E1 := Lib.hid ((b.cell (block_lt_of_cell D1.out)).trans D1.out)
               have E2 := Lib.hid ((b.cell (block_lt_of_cell D2.out)).trans D2.out)
               have HZ := Lib.hid hz
               clear b hz)
            | (go_at_call 74; refine (HCF.out w.heap.size (w.heap.size + 1) BN L.length L.length L hnl _ (HT.out.below K2.out hg) (Nat.lt_of_lt_of_le hg K2.out.size) (HE.out.below K2.out) E1.out E2.out HZ.out).mono ?_; rintro r w3 ⟨rfl, b⟩
               rw [HTV.out]
               have K3 := Lib.hid (K2.out.trans (b.mono K2.out.size))
               clear b))
          go_ret
          exact ⟨rfl, K3.out⟩
        · have e1 : (mode == 1) = false := by simpa using m1
          by_cases m2 : mode = 2
          · have e2 : (mode == 2) = true := by simpa using m2
            have hm : mb = decide (0 ≤ (k : Int) ∧ (k : Int) ≤ frontN es) := by rw [← HMB.out, if_neg (by simp), if_neg m0, if_neg m1, if_pos m2]
            clear m0 m1 m2 HMB
            rw [← hm] at HVI
            clear hm
            go_wp2_with (first
              | (refine wpList_load_row rfl 60 (.tmp 18) rfl _ rfl cs _ HX.out Tryd.underlying60 rfl HI.out ?_)
                | (go_at_call 41; refine (HTE.out _).mono ?_; rintro r w1 ⟨rfl, b⟩
                   have K1 := Lib.hid (K0.out.trans (b.mono K0.out.size))
                   have c1 := (b.cell (block_lt_of_cell C1.out)).trans C1.out
                   have c2 := (b.cell (block_lt_of_cell C2.out)).trans C2.out
                   have D1 := Lib.hid c1
                   have D2 := Lib.hid c2
                   have HX2 := Lib.hid (fun (t : Nat) (v : Value) (ht : cs[t]? = some v) => (b.cell (World.block_lt_of_cell? _ _ (HX.out t v ht))).trans (HX.out t v ht))
                   clear b)
              | (go_at_call 32; refine (HVI.out _ (HE.out.below K1.out)).mono ?_; rintro r w3 ⟨rfl, b⟩
                 have K3 := Lib.hid (K1.out.trans (b.mono K1.out.size))
                 clear b))
            go_ret
            exact ⟨rfl, K3.out⟩
          · have e2 : (mode == 2) = false := by simpa using m2
            have hm : mb = false := by rw [← HMB.out, if_neg (by simp), if_neg m0, if_neg m1, if_neg m2]
            clear m0 m1 m2 HMB
            subst hm
            go_wp2_with (first
              | (refine wpList_load_row rfl 60 (.tmp 18) rfl _ rfl cs _ HX.out Tryd.underlying60 rfl HI.out ?_)
                | (go_at_call 41; refine (HTE.out _).mono ?_; rintro r w1 ⟨rfl, b⟩
                   have K1 := Lib.hid (K0.out.trans (b.mono K0.out.size))
                   have c1 := (b.cell (block_lt_of_cell C1.out)).trans C1.out
                   have c2 := (b.cell (block_lt_of_cell C2.out)).trans C2.out
                   have D1 := Lib.hid c1
                   have D2 := Lib.hid c2
                   have HX2 := Lib.hid (fun (t : Nat) (v : Value) (ht : cs[t]? = some v) => (b.cell (World.block_lt_of_cell? _ _ (HX.out t v ht))).trans (HX.out t v ht))
                   clear b))
            go_ret
            exact ⟨rfl, K1.out⟩
theorem alive15_any (w : World) : Calls Tryd.prog 39 #[] w fun r w' => r = .returned (.bool true) ∧ Below w.heap.size w w' := by
  have h1 := fun w => tells_any ⟨0, 0, 13, 0, 0, 0, 0, 0, 0, 0, 0, 0, 0, 0, 0, false, false⟩ w
  have h2 := fun w => tells_any ⟨0, 0, 28, 0, 0, 0, 0, 0, 0, 0, 0, 0, 0, 0, 0, false, false⟩ w
  have k1 : tellB ⟨0, 0, 13, 0, 0, 0, 0, 0, 0, 0, 0, 0, 0, 0, 0, false, false⟩ = true := by simp [tellB, kindI]
  have k2 : tellB ⟨0, 0, 28, 0, 0, 0, 0, 0, 0, 0, 0, 0, 0, 0, 0, false, false⟩ = false := by simp [tellB, kindI]
  rw [k1] at h1
  rw [k2] at h2
  have H1 := Lib.hid h1
  have H2 := Lib.hid h2
  clear h1 h2 k1 k2
  go_enter Tryd.func39, Tryd.ntmps39
  go_wp2_with fail
  go_at_call 41
  refine (H1.out _).mono ?_
  rintro r w5 ⟨rfl, b5⟩
  have KB := Lib.hid b5
  clear b5
  go_wp2_with fail
  go_at_call 41
  refine (H2.out _).mono ?_
  rintro r w6 ⟨rfl, b6⟩
  have KB2 := Lib.hid (KB.out.trans (b6.mono KB.out.size))
  clear b6
  go_wp2
  go_ret
  exact ⟨rfl, KB2.out⟩
theorem few15_any (A : Option Addr) (n cap : Nat) (hn : n ≤ cap) (hc : cap ≤ maxLen) (w : World) :
    Calls Tryd.prog 37 #[.slice A n cap] w fun r w' => r = .returned (.slice A (min n 20) cap) ∧ Below w.heap.size w w' := by
  unfold maxLen at hc
  go_enter Tryd.func37, Tryd.ntmps37
  by_cases h : n ≤ 20
  · have hm : min (n : Int) 20 = n := by omega
    have hm2 : min n 20 = n := by omega
    rw [hm2]
    go_wp2
    go_ret
    exact ⟨rfl, Below.refl _ _⟩
  · have hm : min (n : Int) 20 = 20 := by omega
    have hm2 : min n 20 = 20 := by omega
    rw [hm2]
    go_wp2
    go_ret
    exact ⟨rfl, Below.refl _ _⟩
end Go.Proofs.YtfekknalchjkiaaDoor
