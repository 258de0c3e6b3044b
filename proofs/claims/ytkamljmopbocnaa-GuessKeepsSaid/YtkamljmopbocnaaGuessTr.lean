/- THE CONTRACT of guess.Train. -/
import Derived.Test.YtkamljmopbocnaaGuessT
namespace Go.Proofs.Ytkamljmopbocnaa
open Go.ChangeShapes Go.WideShapes Go.ChangeAt Go.RowKit
set_option linter.unusedVariables false
set_option linter.unusedSimpArgs false
set_option maxHeartbeats 4000000
set_option maxRecDepth 100000

theorem three_new (w : World) (X Y Z : List Value) (t u v : TypeId) :
    Blk (((w.alloc (.cells X.toArray t)).alloc (.cells Y.toArray u)).alloc (.cells Z.toArray v)) w.heap.size X ∧ Blk (((w.alloc (.cells X.toArray t)).alloc (.cells Y.toArray u)).alloc (.cells Z.toArray v)) (w.heap.size + 1) Y ∧
    Blk (((w.alloc (.cells X.toArray t)).alloc (.cells Y.toArray u)).alloc (.cells Z.toArray v)) (w.heap.size + 2) Z ∧ Below w.heap.size w (((w.alloc (.cells X.toArray t)).alloc (.cells Y.toArray u)).alloc (.cells Z.toArray v)) ∧
    (((w.alloc (.cells X.toArray t)).alloc (.cells Y.toArray u)).alloc (.cells Z.toArray v)).heap.size = w.heap.size + 3 := by
  obtain ⟨h1, h2, h3, h4⟩ := two_new w X Y t u
  obtain ⟨W, hW⟩ : ∃ W, (w.alloc (.cells X.toArray t)).alloc (.cells Y.toArray u) = W := ⟨_, rfl⟩
  rw [hW] at h1 h2 h3 h4 ⊢
  have hb : Below W.heap.size W (W.alloc (.cells Z.toArray v)) := (Below.refl _ _).alloc (Nat.le_refl _) _
  have hz := Blk.new W v Z
  rw [h4] at hz
  exact ⟨h1.below hb (by omega), h2.below hb (by omega), hz, h3.trans (hb.mono (by omega)), by simp [h4]⟩
theorem SlotsOwn.other {w : World} {g : Nat} {L : List (Int × Int)} (h : SlotsOwn w g L) {p : Addr} {v : Value} (hp : p.block ≠ g) : SlotsOwn (w.setCell p v) g L := by
  refine ⟨⟨h.1.1, fun j c hj => ?_⟩, fun j hj => ?_⟩
  · obtain ⟨h1, a, ha, hl, hv⟩ := h.1.2 j c hj
    cases ha
    refine ⟨h1, _, rfl, by simpa using hl, fun i x hi => ?_⟩
    have h0 := hv i x hi
    rw [Addr.add_lit] at h0 ⊢
    rw [World.cell?_setCell_other _ _ _ _ (fun e => hp (by rw [e]))]
    exact h0
  · obtain ⟨h1, h2⟩ := h.2 j hj
    rw [World.cell?_setCell_other _ _ _ _ (fun e => hp (by rw [e])), World.frozen?_setCell]
    exact ⟨h1, h2⟩
theorem SlotsOwn.lt {w : World} {g : Nat} {L : List (Int × Int)} (h : SlotsOwn w g L) : g < w.heap.size := by
  obtain ⟨_, a, ha, hl, _⟩ := h.1.2 0 _ (List.getElem?_eq_getElem (by rw [h.1.1]; decide))
  cases ha
  exact hl
/-- the last outcomes, one more -/
def histI (h next pc : Int) : Int := h * 2 % 8 + (if next = (pc + 4) % 4294967296 then 0 else 1)

theorem ints_other {w : World} {A : Option Addr} {n : Nat} {zs : List Int} (h : IntsAt w A n .u32 zs) {p : Addr} {v : Value} (hp : ∀ a, A = some a → a.block ≠ p.block) : IntsAt (w.setCell p v) A n .u32 zs :=
  ⟨h.1, fun j z hz => by
    obtain ⟨a, ha, hl, hc⟩ := h.2 j z hz
    refine ⟨a, ha, by simpa using hl, ?_⟩
    rw [World.cell?_setCell_other _ _ _ _ (fun e => hp a ha (by rw [← block_add a j, e]))]
    exact hc⟩
theorem ints_far {w w' : World} {A : Option Addr} {n b : Nat} {zs : List Int} (h : IntsAt w A n .u32 zs) (hc : ∀ p : Addr, p.block ≠ b → w'.cell? p = w.cell? p) (hs : w'.heap.size = w.heap.size) (hp : ∀ a, A = some a → a.block ≠ b) : IntsAt w' A n .u32 zs :=
  ⟨h.1, fun j z hz => by
    obtain ⟨a, ha, hl, hcl⟩ := h.2 j z hz
    exact ⟨a, ha, by rw [hs]; exact hl, by rw [hc _ (by rw [block_add]; exact hp a ha)]; exact hcl⟩⟩
theorem rows_far {w w' : World} {g n sz b : Nat} {cs : List (List Value)} (h : RowsAt w (some ⟨g, 0, none⟩) n sz cs) (hc : ∀ p : Addr, p.block ≠ b → w'.cell? p = w.cell? p) (hs : w'.heap.size = w.heap.size) (hp : g ≠ b) : RowsAt w' (some ⟨g, 0, none⟩) n sz cs :=
  ⟨h.1, fun j c hj => by
    obtain ⟨h1, a, ha, hl, hv⟩ := h.2 j c hj
    cases ha
    exact ⟨h1, _, rfl, by rw [hs]; exact hl, fun i v hi => by rw [hc _ (by rw [block_add]; exact hp)]; exact hv i v hi⟩⟩
/-- a whole value is stored over a block that is known: what lies in other blocks stays -/
theorem wpList_store_blk2 {P : Program} {ops : Array Oper} {rest : List Oper} {op : Oper} {a : Act} {w : World} {Q : Exit → Act → World → Prop} (hgd : op.guard = none) (ty : TypeId) (x y : Operand) (ho : op.op = .store ty x y)
    (b : Nat) (zs : List Value) (cells : Array Value) (hB : Blk w b zs) (hz : zs.length = cells.size) (hx : a.eval x = .pointer (some ⟨b, 0, none⟩)) (hy : a.eval y = .agg cells)
    (hi : (P.info? ty).map (·.size) = some cells.size) (h1 : cells.all (·.oneCell') = true)
    (h : ∀ W2, Blk W2 b cells.toList → (∀ p : Addr, p.block ≠ b → W2.cell? p = w.cell? p) → (∀ B, B ≤ b → Below B w W2) → W2.heap.size = w.heap.size → wpList P ops Q rest (a.put op.dst undef) W2) :
    wpList P ops Q (op :: rest) a w := by
  have hth : w.there b 0 cells.size := fun j hj => by
    rw [Nat.zero_add, hB.2.1 j (zs[j]'(by omega)) (List.getElem?_eq_getElem (by omega)), hB.2.2 j (by omega)]
    exact ⟨rfl, rfl⟩
  refine wpList_store_mid hgd ty x y ho b 0 cells hx hy hth hi h1 (h _ ?_ ?_ ?_ ?_)
  · refine ⟨by rw [setCells_size]; exact hB.1, fun i v hv => ?_, fun i hi => ?_⟩
    · have := World.rangeAt_setCells_same w b 0 cells.toList (by simpa using hth) i v hv
      rwa [Nat.zero_add] at this
    · rw [setCells_frozen]
      exact hB.2.2 i (by simp at hi; omega)
  · exact fun p hne => World.cell?_setCells_out b cells.toList 0 w p (fun hb _ => absurd hb hne)
  · exact fun B hBb => setCells_below _ hBb _ _ _
  · exact setCells_size _ _ _ _
theorem train_any (A : Option Addr) (ca : Nat) (h : Int) (B : Option Addr) (nb cb : Nat) (L : List (Int × Int)) (R : List Int) (pc next op rd rs1 rs2 imm : Int) (h0 : 0 ≤ h) (h1 : h < 8) (hn : nb ≤ 4) (hz : B = none → cb = 0) (p0 : 0 ≤ pc) (p1 : pc < 4294967296) (hk : kindI op = 5)
    (w : World) (hA : RowsAt w A 8 2 (L.map slC)) (hB : IntsAt w B nb .u32 R) :
    Calls Try.prog 6 #[gV A 8 ca h B nb cb, .int .u32 pc, .int .u32 next, .agg #[.int .i64 op, .int .i64 rd, .int .i64 rs1, .int .i64 rs2, .int .u32 imm]] w fun r w' => ∃ (A' : Option Addr) (L' : List (Int × Int)) (B' : Option Addr) (n' c' : Nat), r = .returned (gV A' 8 8 (histI h next pc) B' n' c') ∧ n' ≤ c' ∧ c' ≤ maxLen ∧ (B' = none → c' = 0) ∧ RowsAt w' A' 8 2 (L'.map slC) ∧ IntsAt w' B' n' .u32 (retL R pc op rd rs1) ∧ (∀ a, A' = some a → w.heap.size ≤ a.block) ∧ (∀ a, B' = some a → w.heap.size ≤ a.block) ∧ Below w.heap.size w w' := by
  have HR := Lib.hid (fun w => guessRight_any A 8 ca h B nb cb w)
  rw [show rightB 8 h nb = true from decide_eq_true ⟨rfl, h1, hn⟩] at HR
  have HK := Lib.hid (fun w => kind_any op rd rs1 rs2 imm w)
  rw [hk] at HK
  have HS := Lib.hid (fun w => slotOf_any A 8 ca h B nb cb pc h0 (by omega) p0 p1 w)
  have HT := Lib.hid (fun w hB => returned_any B nb cb R pc op rd rs1 rs2 imm hn hz w hB)
  have HA := Lib.hid hA
  have HB := Lib.hid hB
  clear hk hz hA hB hn
  obtain ⟨f1, f2, f3, f4, f5⟩ := three_new w [.slice A 8 ca, .int .u32 h, .slice B nb cb] [.int .i64 op, .int .i64 rd, .int .i64 rs1, .int .i64 rs2, .int .u32 imm] [.slice none 0 0, .int .u32 0, .slice none 0 0] 27 31 27
  unfold gV at HR HS ⊢
  go_enter Try.func6, Try.ntmps6
  go_upto_region 1 with fail
  generalize ((w.alloc (.cells #[.slice A 8 ca, .int .u32 h, .slice B nb cb] 27)).alloc (.cells #[.int .i64 op, .int .i64 rd, .int .i64 rs1, .int .i64 rs2, .int .u32 imm] 31)).alloc (.cells #[.slice none 0 0, .int .u32 0, .slice none 0 0] 27) = W0 at *
  have X1 := Lib.hid f1
  have X2 := Lib.hid f2
  have X3 := Lib.hid f3
  have KB := Lib.hid f4
  have HSZ := Lib.hid (show w.heap.size + 3 ≤ W0.heap.size by omega)
  clear f1 f2 f3 f4 f5
  have s0 := X1.out.2.1 0 _ rfl
  have s1 := X1.out.2.1 1 _ rfl
  have s2 := X1.out.2.1 2 _ rfl
  go_wp2_with fail
  go_at_call 12
  refine (HR.out _).mono ?_
  rintro r w1 ⟨rfl, b⟩
  replace X1 := Lib.hid (X1.out.below b X1.out.1)
  replace X2 := Lib.hid (X2.out.below b X2.out.1)
  replace X3 := Lib.hid (X3.out.below b X3.out.1)
  replace KB := Lib.hid (KB.out.trans ((b).mono KB.out.size))
  replace HSZ := Lib.hid (Nat.le_trans HSZ.out b.size)
  clear b s0 s1 s2
  have t0 := X2.out.2.1 0 _ rfl
  have t1 := X2.out.2.1 1 _ rfl
  have t2 := X2.out.2.1 2 _ rfl
  have t3 := X2.out.2.1 3 _ rfl
  have t4 := X2.out.2.1 4 _ rfl
  go_wp2_with fail
  go_at_call 13
  refine (HK.out _).mono ?_
  rintro r w2 ⟨rfl, b⟩
  replace X1 := Lib.hid (X1.out.below b X1.out.1)
  replace X2 := Lib.hid (X2.out.below b X2.out.1)
  replace X3 := Lib.hid (X3.out.below b X3.out.1)
  replace KB := Lib.hid (KB.out.trans ((b).mono KB.out.size))
  replace HSZ := Lib.hid (Nat.le_trans HSZ.out b.size)
  clear b t0 t1 t2 t3 t4
  go_upto_region 4 with (refine wpList_make_slots rfl rfl ?_; intro W3 ht3 hlt3 hb3)
  replace X1 := Lib.hid (X1.out.below hb3 X1.out.1)
  replace X2 := Lib.hid (X2.out.below hb3 X2.out.1)
  replace X3 := Lib.hid (X3.out.below hb3 X3.out.1)
  replace KB := Lib.hid (KB.out.trans ((hb3).mono KB.out.size))
  have TH := Lib.hid ht3
  have HLT := Lib.hid hlt3
  have HSG := Lib.hid HSZ.out
  obtain ⟨g, hg⟩ : ∃ g, w2.heap.size = g := ⟨_, rfl⟩
  rw [hg] at TH HLT HSG ⊢
  clear ht3 hlt3 hb3 hg HSZ
  have s0 := X1.out.2.1 0 _ rfl
  go_upto_region 5 with (refine wpList_copy_slots rfl (.tmp 20) (.tmp 22) rfl g A ca L rfl rfl (HA.out.below KB.out) TH.out HLT.out ?_; intro W4 hso4 hb4 hs4)
  have SO := Lib.hid hso4
  have g1 : w.heap.size + 3 ≤ g := HSG.out
  replace X1 := Lib.hid (X1.out.below hb4 (by omega))
  replace X2 := Lib.hid (X2.out.below hb4 (by omega))
  replace X3 := Lib.hid (X3.out.below hb4 (by omega))
  replace KB := Lib.hid (KB.out.trans (hb4.mono (by omega)))
  clear hso4 hb4 hs4 s0 TH HLT g1
  have s0 := X1.out.2.1 0 _ rfl
  have s1 := X1.out.2.1 1 _ rfl
  have s2 := X1.out.2.1 2 _ rfl
  go_wp2_with fail
  go_at_call 14
  refine (HS.out _).mono ?_
  rintro r w5 ⟨k, hk8, rfl, b⟩
  replace X1 := Lib.hid (X1.out.below b X1.out.1)
  replace X2 := Lib.hid (X2.out.below b X2.out.1)
  replace X3 := Lib.hid (X3.out.below b X3.out.1)
  replace KB := Lib.hid (KB.out.trans ((b).mono KB.out.size))
  replace SO := Lib.hid (SO.out.below b)
  clear b s0 s1 s2
  have hso := SO.out.set hk8 (pc, next)
  have hth : w5.there g (k * 2) 2 := fun j hj => by have := SO.out.2 (k * 2 + j) (by omega); rwa [Nat.zero_add] at this
  obtain ⟨q0, q1⟩ := hth 0 (by decide)
  obtain ⟨q2, q3⟩ := hth 1 (by decide)
  obtain ⟨v0, q0⟩ := Option.isSome_iff_exists.1 q0
  obtain ⟨v1, q2⟩ := Option.isSome_iff_exists.1 q2
  rw [Nat.add_zero] at q0 q1
  have hbl := setCells_below g (Nat.le_refl g) (slC (pc, next)) (k * 2) w5
  have g1 : w.heap.size + 3 ≤ g := HSG.out
  clear hth
  go_upto_region 6 with fail
  have hw : (w5.setCell ⟨g, k * 2, none⟩ (.int .u32 pc)).setCell ⟨g, k * 2 + 1, none⟩ (.int .u32 next) = w5.setCells g (k * 2) (slC (pc, next)) := rfl
  rw [hw]
  clear hw q0 q1 q2 q3
  generalize w5.setCells g (k * 2) (slC (pc, next)) = W6 at *
  replace X1 := Lib.hid (X1.out.below hbl (by omega))
  replace X2 := Lib.hid (X2.out.below hbl (by omega))
  replace X3 := Lib.hid (X3.out.below hbl (by omega))
  replace KB := Lib.hid (KB.out.trans (hbl.mono (by omega)))
  replace SO := Lib.hid hso
  generalize L.set k (pc, next) = L2 at *
  clear hbl hso
  have s0 := X1.out.2.1 0 _ rfl
  have e0 := X1.out.2.2 0 (by simp)
  go_upto_region 7 with fail
  clear s0 e0
  have z1 := (X1.out).set (i := 0) (v := .slice (some ⟨g, 0, none⟩) 8 8) (by simp)
  simp only [List.set_cons_succ, List.set_cons_zero] at z1
  have z2 := (X2.out).other (p := ⟨w.heap.size, 0, none⟩) (v := .slice (some ⟨g, 0, none⟩) 8 8) (by simp)
  have z3 := (X3.out).other (p := ⟨w.heap.size, 0, none⟩) (v := .slice (some ⟨g, 0, none⟩) 8 8) (by simp)
  have z4 := (KB.out).setCell (p := ⟨w.heap.size, 0, none⟩) (Nat.le_refl _) (.slice (some ⟨g, 0, none⟩) 8 8)
  have z5 := (SO.out).other (p := ⟨w.heap.size, 0, none⟩) (v := .slice (some ⟨g, 0, none⟩) 8 8) (show w.heap.size ≠ g by omega)
  generalize (World.setCell W6 ⟨w.heap.size, 0, none⟩ (.slice (some ⟨g, 0, none⟩) 8 8)) = W7 at *
  clear X1 X2 X3 KB SO
  have X1 := Lib.hid z1
  have X2 := Lib.hid z2
  have X3 := Lib.hid z3
  have KB := Lib.hid z4
  have SO := Lib.hid z5
  clear z1 z2 z3 z4 z5
  have s1 := X1.out.2.1 1 _ rfl
  have e1 := X1.out.2.2 1 (by simp)
  go_upto_region 8 with fail
  clear s1 e1
  have z1 := (X1.out).set (i := 1) (v := .int .u32 (h * 2 % 8)) (by simp)
  simp only [List.set_cons_succ, List.set_cons_zero] at z1
  have z2 := (X2.out).other (p := ⟨w.heap.size, 1, none⟩) (v := .int .u32 (h * 2 % 8)) (by simp)
  have z3 := (X3.out).other (p := ⟨w.heap.size, 1, none⟩) (v := .int .u32 (h * 2 % 8)) (by simp)
  have z4 := (KB.out).setCell (p := ⟨w.heap.size, 1, none⟩) (Nat.le_refl _) (.int .u32 (h * 2 % 8))
  have z5 := (SO.out).other (p := ⟨w.heap.size, 1, none⟩) (v := .int .u32 (h * 2 % 8)) (show w.heap.size ≠ g by omega)
  generalize (World.setCell W7 ⟨w.heap.size, 1, none⟩ (.int .u32 (h * 2 % 8))) = W8 at *
  clear X1 X2 X3 KB SO
  have X1 := Lib.hid z1
  have X2 := Lib.hid z2
  have X3 := Lib.hid z3
  have KB := Lib.hid z4
  have SO := Lib.hid z5
  clear z1 z2 z3 z4 z5
  obtain ⟨hh, hhe⟩ : ∃ hh, h * 2 % 8 = hh := ⟨_, rfl⟩
  have r0 : 0 ≤ hh := by omega
  have r1 : hh < 8 := by omega
  have HHE := Lib.hid hhe
  rw [hhe] at X1
  clear hhe
  by_cases hne : next = (pc + 4) % 4294967296
  · have HHI := Lib.hid (show histI h next pc = hh by unfold histI; rw [if_pos hne, HHE.out]; omega)
    have q : (next != (pc + 4) % 4294967296) = false := by simpa using hne
    clear hne
    obtain ⟨h2, hhe⟩ : ∃ h2, hh = h2 := ⟨_, rfl⟩
    rw [hhe] at X1 HHI
    clear hhe r0 r1 HHE
    have s2 := X1.out.2.1 2 _ rfl
    have t0 := X2.out.2.1 0 _ rfl
    have t1 := X2.out.2.1 1 _ rfl
    have t2 := X2.out.2.1 2 _ rfl
    have t3 := X2.out.2.1 3 _ rfl
    have t4 := X2.out.2.1 4 _ rfl
    go_wp2_with fail
    go_at_call 15
    refine (HT.out _ (HB.out.below KB.out)).mono ?_
    rintro r w8 ⟨B', c', n', rfl, k1, k2, k3, k4, k5, b⟩
    have k6 : ∀ a, B' = some a → w.heap.size + 3 ≤ a.block := fun a ha => Nat.le_trans (Nat.le_trans g1 (Nat.le_of_lt (SO.out.lt))) (k5 a ha)
    replace X1 := Lib.hid (X1.out.below b X1.out.1)
    replace X2 := Lib.hid (X2.out.below b X2.out.1)
    replace X3 := Lib.hid (X3.out.below b X3.out.1)
    replace KB := Lib.hid (KB.out.trans ((b).mono KB.out.size))
    replace SO := Lib.hid (SO.out.below b)
    clear b s2 t0 t1 t2 t3 t4 k5
    have s2 := X1.out.2.1 2 _ rfl
    have e2 := X1.out.2.2 2 (by simp)
    go_upto_region 11 with fail
    have k4' := ints_other k4 (p := ⟨w.heap.size, 2, none⟩) (v := .slice B' n' c') (fun a ha e => by have := k6 a ha; simp only at e; omega)
    have z1 := (X1.out).set (i := 2) (v := .slice B' n' c') (by simp)
    simp only [List.set_cons_succ, List.set_cons_zero] at z1
    have z2 := (X2.out).other (p := ⟨w.heap.size, 2, none⟩) (v := .slice B' n' c') (by simp)
    have z3 := (X3.out).other (p := ⟨w.heap.size, 2, none⟩) (v := .slice B' n' c') (by simp)
    have z4 := (KB.out).setCell (p := ⟨w.heap.size, 2, none⟩) (Nat.le_refl _) (.slice B' n' c')
    have z5 := (SO.out).other (p := ⟨w.heap.size, 2, none⟩) (v := .slice B' n' c') (show w.heap.size ≠ g by omega)
    generalize (World.setCell w8 ⟨w.heap.size, 2, none⟩ (.slice B' n' c')) = WA at *
    clear X1 X2 X3 KB SO
    have X1 := Lib.hid z1
    have X2 := Lib.hid z2
    have X3 := Lib.hid z3
    have KB := Lib.hid z4
    have SO := Lib.hid z5
    clear z1 z2 z3 z4 z5
    clear s2 e2 k4
    have KI := Lib.hid k4'
    have K6 := Lib.hid k6
    clear k4' k6
    obtain ⟨cs, hcs, hx1⟩ : ∃ cs, cs = [Value.slice (some ⟨g, 0, none⟩) 8 8, .int .u32 h2, .slice B' n' c'] ∧ Blk WA w.heap.size cs := ⟨_, rfl, X1.out⟩
    have hcl : cs.length = 3 := by rw [hcs]; rfl
    have hco : cs.toArray.all (·.oneCell') = true := by rw [hcs]; simp [Value.oneCell']
    have Y1 := Lib.hid hx1
    have YC := Lib.hid hcs
    have YO := Lib.hid hco
    have YI := Lib.hid (show (Try.prog.info? 27).map (·.size) = some cs.length by rw [hcl]; kernel_rfl)
    have YJ := Lib.hid (show (Try.prog.info? 27).map (·.size) = some cs.toArray.size by rw [List.size_toArray, hcl]; kernel_rfl)
    have YZ := Lib.hid (show [Value.slice none 0 0, .int .u32 0, .slice none 0 0].length = cs.toArray.size by rw [List.size_toArray, hcl]; rfl)
    clear hx1 hcl hco hcs X1
    go_wp2_with (first
      | (refine wpList_load_mid rfl 27 (.tmp 4) rfl w.heap.size 0 rfl cs _ Y1.out.range Try.underlying27 rfl YI.out ?_)
      | (refine wpList_store_blk2 rfl 27 (.tmp 8) (.tmp 53) rfl (w.heap.size + 2) _ cs.toArray X3.out YZ.out rfl rfl YJ.out YO.out ?_; intro WE hB9 hO9 hbl9 hs9))
    refine bodyPost_ret (v := .agg cs.toArray) (results_cell_blk Try.results6 _ WE (w.heap.size + 2) cs _ rfl hB9 Try.underlying27 rfl YI.out) rfl ?_
    have k7 := K6.out
    refine ⟨some ⟨g, 0, none⟩, L2, B', n', c', by rw [YC.out, HHI.out], k1, k2, k3, ?_, ?_, (fun a ha => by cases ha; show w.heap.size ≤ g; omega), (fun a ha => by have := k7 a ha; omega), KB.out.trans (hbl9 _ (by omega))⟩
    · exact rows_far SO.out.1 hO9 hs9 (by omega)
    · exact ints_far KI.out hO9 hs9 (fun a ha => by have := k7 a ha; omega)
  · have q : (next != (pc + 4) % 4294967296) = true := by simpa using hne
    have HHI := Lib.hid (show histI h next pc = hh + 1 by unfold histI; rw [if_neg hne, HHE.out])
    clear hne
    have s1 := X1.out.2.1 1 _ rfl
    have e1 := X1.out.2.2 1 (by simp)
    go_upto_region 10 with fail
    clear s1 e1 q
    have z1 := (X1.out).set (i := 1) (v := .int .u32 (hh + 1)) (by simp)
    simp only [List.set_cons_succ, List.set_cons_zero] at z1
    have z2 := (X2.out).other (p := ⟨w.heap.size, 1, none⟩) (v := .int .u32 (hh + 1)) (by simp)
    have z3 := (X3.out).other (p := ⟨w.heap.size, 1, none⟩) (v := .int .u32 (hh + 1)) (by simp)
    have z4 := (KB.out).setCell (p := ⟨w.heap.size, 1, none⟩) (Nat.le_refl _) (.int .u32 (hh + 1))
    have z5 := (SO.out).other (p := ⟨w.heap.size, 1, none⟩) (v := .int .u32 (hh + 1)) (show w.heap.size ≠ g by omega)
    generalize (World.setCell W8 ⟨w.heap.size, 1, none⟩ (.int .u32 (hh + 1))) = W9 at *
    clear X1 X2 X3 KB SO
    have X1 := Lib.hid z1
    have X2 := Lib.hid z2
    have X3 := Lib.hid z3
    have KB := Lib.hid z4
    have SO := Lib.hid z5
    clear z1 z2 z3 z4 z5
    obtain ⟨h2, hhe⟩ : ∃ h2, hh + 1 = h2 := ⟨_, rfl⟩
    rw [hhe] at X1 HHI
    clear hhe r0 r1 HHE
    have s2 := X1.out.2.1 2 _ rfl
    have t0 := X2.out.2.1 0 _ rfl
    have t1 := X2.out.2.1 1 _ rfl
    have t2 := X2.out.2.1 2 _ rfl
    have t3 := X2.out.2.1 3 _ rfl
    have t4 := X2.out.2.1 4 _ rfl
    go_wp2_with fail
    go_at_call 15
    refine (HT.out _ (HB.out.below KB.out)).mono ?_
    rintro r w8 ⟨B', c', n', rfl, k1, k2, k3, k4, k5, b⟩
    have k6 : ∀ a, B' = some a → w.heap.size + 3 ≤ a.block := fun a ha => Nat.le_trans (Nat.le_trans g1 (Nat.le_of_lt (SO.out.lt))) (k5 a ha)
    replace X1 := Lib.hid (X1.out.below b X1.out.1)
    replace X2 := Lib.hid (X2.out.below b X2.out.1)
    replace X3 := Lib.hid (X3.out.below b X3.out.1)
    replace KB := Lib.hid (KB.out.trans ((b).mono KB.out.size))
    replace SO := Lib.hid (SO.out.below b)
    clear b s2 t0 t1 t2 t3 t4 k5
    have s2 := X1.out.2.1 2 _ rfl
    have e2 := X1.out.2.2 2 (by simp)
    go_upto_region 11 with fail
    have k4' := ints_other k4 (p := ⟨w.heap.size, 2, none⟩) (v := .slice B' n' c') (fun a ha e => by have := k6 a ha; simp only at e; omega)
    have z1 := (X1.out).set (i := 2) (v := .slice B' n' c') (by simp)
    simp only [List.set_cons_succ, List.set_cons_zero] at z1
    have z2 := (X2.out).other (p := ⟨w.heap.size, 2, none⟩) (v := .slice B' n' c') (by simp)
    have z3 := (X3.out).other (p := ⟨w.heap.size, 2, none⟩) (v := .slice B' n' c') (by simp)
    have z4 := (KB.out).setCell (p := ⟨w.heap.size, 2, none⟩) (Nat.le_refl _) (.slice B' n' c')
    have z5 := (SO.out).other (p := ⟨w.heap.size, 2, none⟩) (v := .slice B' n' c') (show w.heap.size ≠ g by omega)
    generalize (World.setCell w8 ⟨w.heap.size, 2, none⟩ (.slice B' n' c')) = WA at *
    clear X1 X2 X3 KB SO
    have X1 := Lib.hid z1
    have X2 := Lib.hid z2
    have X3 := Lib.hid z3
    have KB := Lib.hid z4
    have SO := Lib.hid z5
    clear z1 z2 z3 z4 z5
    clear s2 e2 k4
    have KI := Lib.hid k4'
    have K6 := Lib.hid k6
    clear k4' k6
    obtain ⟨cs, hcs, hx1⟩ : ∃ cs, cs = [Value.slice (some ⟨g, 0, none⟩) 8 8, .int .u32 h2, .slice B' n' c'] ∧ Blk WA w.heap.size cs := ⟨_, rfl, X1.out⟩
    have hcl : cs.length = 3 := by rw [hcs]; rfl
    have hco : cs.toArray.all (·.oneCell') = true := by rw [hcs]; simp [Value.oneCell']
    have Y1 := Lib.hid hx1
    have YC := Lib.hid hcs
    have YO := Lib.hid hco
    have YI := Lib.hid (show (Try.prog.info? 27).map (·.size) = some cs.length by rw [hcl]; kernel_rfl)
    have YJ := Lib.hid (show (Try.prog.info? 27).map (·.size) = some cs.toArray.size by rw [List.size_toArray, hcl]; kernel_rfl)
    have YZ := Lib.hid (show [Value.slice none 0 0, .int .u32 0, .slice none 0 0].length = cs.toArray.size by rw [List.size_toArray, hcl]; rfl)
    clear hx1 hcl hco hcs X1
    go_wp2_with (first
      | (refine wpList_load_mid rfl 27 (.tmp 4) rfl w.heap.size 0 rfl cs _ Y1.out.range Try.underlying27 rfl YI.out ?_)
      | (refine wpList_store_blk2 rfl 27 (.tmp 8) (.tmp 53) rfl (w.heap.size + 2) _ cs.toArray X3.out YZ.out rfl rfl YJ.out YO.out ?_; intro WE hB9 hO9 hbl9 hs9))
    refine bodyPost_ret (v := .agg cs.toArray) (results_cell_blk Try.results6 _ WE (w.heap.size + 2) cs _ rfl hB9 Try.underlying27 rfl YI.out) rfl ?_
    have k7 := K6.out
    refine ⟨some ⟨g, 0, none⟩, L2, B', n', c', by rw [YC.out, HHI.out], k1, k2, k3, ?_, ?_, (fun a ha => by cases ha; show w.heap.size ≤ g; omega), (fun a ha => by have := k7 a ha; omega), KB.out.trans (hbl9 _ (by omega))⟩
    · exact rows_far SO.out.1 hO9 hs9 (by omega)
    · exact ints_far KI.out hO9 hs9 (fun a ha => by have := k7 a ha; omega)
end Go.Proofs.Ytkamljmopbocnaa
