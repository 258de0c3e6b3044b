/- THE CONTRACT of guess.returned. -/
import Derived.Test.YtkamljmopbocnaaGuess
import Derived.Laws.AppendOwnNone
import Derived.Deep.RegionLaw
import Derived.Deep.RegionWith
import Derived.Deep.Cut
import Derived.Deep.CutRange
namespace Go.Proofs.Ytkamljmopbocnaa
open Go.ChangeShapes Go.WideShapes Go.ChangeAt Go.RowKit
set_option linter.unusedVariables false
set_option linter.unusedSimpArgs false
set_option maxHeartbeats 2000000
set_option maxRecDepth 100000

theorem info_u32G : (Try.prog.info? 24).map (fun i => (i.zero, i.size, i.bytes)) = some (some (.int .u32 0), 1, 4) := by kernel_rfl
theorem one_u32 (zs : List Int) : ∀ u ∈ zs.map (Value.int .u32), u.oneCell' = true := by
  intro u hu
  obtain ⟨z, _, rfl⟩ := List.mem_map.1 hu
  rfl
theorem news_u32 {w : World} {a : Addr} {n : Nat} {zs : List Int} (h : IntsAt w (some a) n .u32 zs) : (zs.map (Value.int .u32)).length = n * 1 ∧ ∀ j u, (zs.map (Value.int .u32))[j]? = some u → w.cell? (a.add j) = some u := by
  refine ⟨by rw [List.length_map, h.1]; omega, fun j u hu => ?_⟩
  rw [List.getElem?_map] at hu
  obtain ⟨z, hz, rfl⟩ := Option.map_eq_some_iff.1 hu
  obtain ⟨a', ha, _, hc⟩ := h.2 j z hz
  cases ha
  exact hc
/-- numbers are appended to a row of the call's own -/
theorem wpList_append_u32 {w : World} {ops : Array Oper} {rest : List Oper} {o : Oper} {a : Act} {Q : Exit → Act → World → Prop} (hgd : o.guard = none) (s x : Operand)
    (ho : o.op = .call { callee := .builtin .append, args := #[s, x], argTypes := #[22, 22] }) (base : Nat)
    (v : Value) (n : Nat) (xs : List Value) (hs : a.eval s = v) (hown : w.ownsRow base 24 1 v n xs) (A : Option Addr) (m c : Nat) (zs : List Int) (hx : a.eval x = .slice A m c) (hr : IntsAt w A m .u32 zs) (hA : A = none → c = 0)
    (hnm : n + m ≤ 100000) (hbase : base ≤ w.heap.size)
    (h : ∀ v' w', w'.ownsRow base 24 1 v' (n + m) (xs ++ zs.map (Value.int .u32)) → w.grownBy w' v.ownBlock → wpList Try.prog ops Q rest (a.put o.dst v') w') : wpList Try.prog ops Q (o :: rest) a w := by
  obtain ⟨i0, hi, h3⟩ := Option.map_eq_some_iff.1 info_u32G
  injection h3 with hz0 h3
  injection h3 with hz1 hz2
  cases A with
  | none =>
    obtain rfl : m = 0 := by
      rcases Nat.eq_zero_or_pos m with e | e
      · exact e
      · obtain ⟨r, hr'⟩ : ∃ r, zs[0]? = some r := ⟨_, List.getElem?_eq_getElem (by rw [hr.1]; exact e)⟩
        obtain ⟨a, ha, _⟩ := hr.2 0 r hr'
        cases ha
    obtain rfl : zs = [] := List.length_eq_zero_iff.1 hr.1
    obtain rfl : c = 0 := hA rfl
    exact wpList_append_own_none hgd s x 22 ho base 24 i0 1 Try.underlying22 hi v n xs hs hown hx (h v w (by simpa using hown) (World.grownBy.refl _ _))
  | some b =>
    have hnews := news_u32 hr
    exact wpList_append_own w hgd s x 22 ho base 24 i0 _ 1 4 Try.underlying22 hi hz0 hz1 hz2 rfl (by decide) v n xs hs hown b m c _ hx hnews.1 hnews.2 (one_u32 zs) (by unfold maxLen; omega) (by omega) hbase (fun v' w' h1 h2 _ => h v' w' h1 h2)
/-- a row of the call's own numbers, as a slice -/
theorem own_u32 {w : World} {base n : Nat} {v : Value} {zs : List Int} (h : w.ownsRow base 24 1 v n (zs.map (Value.int .u32))) (hn : zs.length = n) :
    ∃ A c, v = .slice A n c ∧ n ≤ c ∧ c ≤ maxLen ∧ (A = none → c = 0) ∧ IntsAt w A n .u32 zs ∧ ∀ a, A = some a → ∃ g, a = ⟨g, 0, none⟩ ∧ base ≤ g := by
  rcases h.2 with ⟨rfl, h0⟩ | ⟨g, cap, cur, rfl, hg, hh, h1, h2, h3, h4⟩
  · subst h0
    obtain rfl : zs = [] := List.length_eq_zero_iff.1 hn
    exact ⟨none, 0, rfl, Nat.le_refl _, Nat.zero_le _, fun _ => rfl, ⟨rfl, fun j z hz => by simp at hz⟩, fun a ha => by cases ha⟩
  · refine ⟨some ⟨g, 0, none⟩, cap, rfl, h1, h2, (fun h => by cases h), ⟨hn, fun j z hz => ⟨_, rfl, ?_, ?_⟩⟩, (fun a ha => by cases ha; exact ⟨g, rfl, hg⟩)⟩
    · rcases Nat.lt_or_ge g w.heap.size with h' | h'
      · exact h'
      · rw [Array.getElem?_eq_none h'] at hh; cases hh
    · have hjl : j < n := by have := (List.getElem?_eq_some_iff.1 hz).1; omega
      rw [Addr.add_lit, Nat.zero_add, h.cellAt j (by omega), List.getElem?_map, hz]
      rfl
theorem one_row (w : World) (z : Int) (t : TypeId) : IntsAt (w.alloc (.cells #[.int .u32 z] t)) (some ⟨w.heap.size, 0, none⟩) 1 .u32 [z] :=
  ⟨rfl, fun j x hx => ⟨_, rfl, by simp, by
    have hj : j = 0 := by
      have := (List.getElem?_eq_some_iff.1 hx).1
      simp at this
      exact this
    subst hj
    rw [Addr.add_lit, World.cell?_alloc_at _ _ _ _ rfl]
    simpa using congrArg (Option.map (Value.int .u32)) hx⟩⟩

/-- an empty row with room is made -/
theorem wpList_make_u32 {w : World} {ops : Array Oper} {rest : List Oper} {o : Oper} {a : Act} {Q : Exit → Act → World → Prop} (hgd : o.guard = none) (c : Nat) (cI : Int) (hcI : cI = (c : Int)) (hc : c ≤ 1000)
    (ho : o.op = .makeSlice 22 (.const (.int .i64 0)) (.const (.int .i64 cI)))
    (h : ∀ w', w'.ownsRow w.heap.size 24 1 (.slice (some ⟨w.heap.size, 0, none⟩) 0 c) 0 [] → Below w.heap.size w w' → wpList Try.prog ops Q rest (a.put o.dst (.slice (some ⟨w.heap.size, 0, none⟩) 0 c)) w') : wpList Try.prog ops Q (o :: rest) a w := by
  subst hcI
  obtain ⟨i0, hi, h3⟩ := Option.map_eq_some_iff.1 info_u32G
  injection h3 with hz0 h3
  injection h3 with hz1 hz2
  refine wpList_plain hgd fun K hK => ?_
  obtain ⟨w', hr, h1, h2⟩ := run_makeSlice_owned (P := Try.prog) w w.heap.size 22 24 i0 _ 1 Try.underlying22 hi hz0 hz1 .i64 .i64 c (by omega) (by rw [hz2]; omega) (by unfold maxLen; omega) (Nat.le_refl _)
  unfold Oper.wp execOp
  simp only [ho, Act.eval, Sem.run_bind, Sem.run_pure, hr, Result.andThen_ok]
  exact hK _ _ (h w' h1 ((Below.refl _ _).grown h2 (Nat.le_refl _) (fun k hk => by cases hk)))

/-- the places to return to behind a jump -/
def retL (R : List Int) (pc op rd rs1 : Int) : List Int :=
  if callB op rd = true then (if 4 < R.length + 1 then (R ++ [(pc + 4) % 4294967296]).drop 1 else R ++ [(pc + 4) % 4294967296])
  else if backB op rd rs1 = true ∧ 0 < R.length then R.take (R.length - 1) else R

theorem ints_tail {w : World} {g n : Nat} {zs : List Int} (h : IntsAt w (some ⟨g, 0, none⟩) (n + 1) .u32 zs) : IntsAt w (some ⟨g, 1, none⟩) n .u32 (zs.drop 1) :=
  ⟨by rw [List.length_drop, h.1]; omega, fun j z hz => by
    rw [List.getElem?_drop] at hz
    obtain ⟨a, ha, hl, hc⟩ := h.2 (1 + j) z hz
    cases ha
    refine ⟨_, rfl, hl, ?_⟩
    rw [Addr.add_lit] at hc ⊢
    rw [Nat.zero_add] at hc
    exact hc⟩
theorem returned_any (B : Option Addr) (nb cb : Nat) (R : List Int) (pc op rd rs1 rs2 imm : Int) (hn : nb ≤ 4) (hz : B = none → cb = 0) (w : World) (hB : IntsAt w B nb .u32 R) :
    Calls Try.prog 15 #[.slice B nb cb, .int .u32 pc, .agg #[.int .i64 op, .int .i64 rd, .int .i64 rs1, .int .i64 rs2, .int .u32 imm]] w fun r w' => ∃ B' c' n', r = .returned (.slice B' n' c') ∧ n' ≤ c' ∧ c' ≤ maxLen ∧ (B' = none → c' = 0) ∧ IntsAt w' B' n' .u32 (retL R pc op rd rs1) ∧ (∀ a, B' = some a → w.heap.size ≤ a.block) ∧ Below w.heap.size w w' := by
  have HL := hB.1
  have HC := Lib.hid (fun w => isCall_any op rd rs1 rs2 imm w)
  have HR := Lib.hid (fun w => isReturn_any op rd rs1 rs2 imm w)
  have HZ := Lib.hid hz
  have hb0 : Below w.heap.size w (w.alloc (.cells #[.int .i64 op, .int .i64 rd, .int .i64 rs1, .int .i64 rs2, .int .u32 imm] 31)) := (Below.refl _ _).alloc (Nat.le_refl _) _
  have f0 := Blk.new w 31 [.int .i64 op, .int .i64 rd, .int .i64 rs1, .int .i64 rs2, .int .u32 imm]
  have H0 := Lib.hid (hB.below hb0)
  have K0 := Lib.hid hb0
  have F0 := Lib.hid f0
  clear hb0 f0 hz hB
  obtain ⟨cl, hcl⟩ : ∃ b, callB op rd = b := ⟨_, rfl⟩
  obtain ⟨bk, hbk⟩ : ∃ b, backB op rd rs1 = b := ⟨_, rfl⟩
  rw [hcl] at HC
  rw [hbk] at HR
  obtain ⟨X, hX⟩ : ∃ X, retL R pc op rd rs1 = X := ⟨_, rfl⟩
  rw [hX]
  unfold retL at hX
  rw [hcl, hbk] at hX
  have HX := Lib.hid hX
  clear hX hcl hbk
  go_enter Try.func15, Try.ntmps15
  go_upto_region 1 with fail
  generalize w.alloc (.cells #[.int .i64 op, .int .i64 rd, .int .i64 rs1, .int .i64 rs2, .int .u32 imm] 31) = W0 at *
  have HS0 := Lib.hid K0.out.size
  cases cl
  · cases bk
    · have hX : R = X := by have h := HX.out; simpa using h
      go_wp2_with (first
        | (refine wpList_make_u32 rfl 5 5 rfl (by omega) rfl ?_; intro W1 ho1 hb1
           have HO1 := Lib.hid ho1
           have H1 := Lib.hid (H0.out.below hb1)
           have B1 := Lib.hid hb1
           clear ho1 hb1)
          | (at_builtin; refine wpList_append_u32 rfl (.tmp 8) (.tmp 9) rfl W0.heap.size _ 0 [] rfl HO1.out B nb cb R rfl H1.out HZ.out (by omega) B1.out.size ?_; intro v2 W2 ho2 hg2
             rw [List.nil_append, Nat.zero_add] at ho2
             obtain ⟨A2, c2, rfl, hc2, hm2, hz2, hi2, hd2⟩ := own_u32 ho2 HL
             have D2 := Lib.hid (fun a (ha : A2 = some a) => show W0.heap.size ≤ a.block by obtain ⟨g, rfl, h⟩ := hd2 a ha; exact h)
             clear hd2
             have HO2 := Lib.hid ho2
             have I2 := Lib.hid hi2
             have Z2 := Lib.hid hz2
             have b2 : Below W0.heap.size W0 W2 := B1.out.grown hg2 B1.out.size (fun j hj => (HO1.out.lt j hj).1)
             have B2 := Lib.hid b2
             have F2 := Lib.hid (F0.out.below b2 F0.out.1)
             clear ho2 hg2 b2 hi2 hz2
             have s0 := F2.out.2.1 0 _ rfl
             have s1 := F2.out.2.1 1 _ rfl
             have s2 := F2.out.2.1 2 _ rfl
             have s3 := F2.out.2.1 3 _ rfl
             have s4 := F2.out.2.1 4 _ rfl)
          | (go_at_call 17; refine (HC.out _).mono ?_; rintro r w3 ⟨rfl, b⟩
             have B3 := Lib.hid (B2.out.trans (b.mono B2.out.size))
             have HO3 := Lib.hid (own_below HO2.out b)
             have I3 := Lib.hid (I2.out.below b)
             have F3 := Lib.hid (F2.out.below b F2.out.1)
             clear s0 s1 s2 s3 s4 b
             have s0 := F3.out.2.1 0 _ rfl
             have s1 := F3.out.2.1 1 _ rfl
             have s2 := F3.out.2.1 2 _ rfl
             have s3 := F3.out.2.1 3 _ rfl
             have s4 := F3.out.2.1 4 _ rfl)
          | (at_builtin; refine wpList_append_u32 rfl (.tmp 14) (.tmp 17) rfl W0.heap.size _ nb _ rfl (HO3.out.alloc _) (some ⟨w3.heap.size, 0, none⟩) 1 1 [(pc + 4) % 4294967296] rfl (one_row _ _ _) (fun h => by cases h) (by omega) (Nat.le_trans B3.out.size (by simp)) ?_; intro v4 W4 ho4 hg4
             rw [← List.map_append] at ho4
             obtain ⟨A4, c4, rfl, hc4, hm4, hz4, hi4, hd4⟩ := own_u32 ho4 (by rw [List.length_append, HL]; rfl)
             have I4 := Lib.hid hi4
             have Z4 := Lib.hid hz4
             have b4 : Below W0.heap.size W0 W4 := (B3.out.alloc B3.out.size _).grown hg4 (Nat.le_trans B3.out.size (by simp)) (fun j hj => (HO3.out.lt j hj).1)
             have B4 := Lib.hid b4
             clear ho4 hg4 b4 hi4 hz4 s0 s1 s2 s3 s4
             skip)
          | (go_at_call 16; refine (HR.out _).mono ?_; rintro r w5 ⟨rfl, b⟩
             have B5 := Lib.hid (B3.out.trans (b.mono B3.out.size))
             have I5 := Lib.hid (I3.out.below b)
             clear s0 s1 s2 s3 s4 b))
      go_ret
      exact ⟨A2, c2, nb, rfl, hc2, hm2, Z2.out, hX ▸ I5.out, (fun a ha => Nat.le_trans HS0.out (D2.out a ha)), K0.out.trans (B5.out.mono HS0.out)⟩
    · rcases Nat.eq_zero_or_pos nb with h0 | h0
      · have hX : R = X := by have h := HX.out; simpa [HL, h0] using h
        have d : decide ((0 : Int) < nb) = false := decide_eq_false (by omega)
        have d' : decide (0 < nb) = false := decide_eq_false (by omega)
        clear h0
        go_wp2_with (first
          | (refine wpList_make_u32 rfl 5 5 rfl (by omega) rfl ?_; intro W1 ho1 hb1
             have HO1 := Lib.hid ho1
             have H1 := Lib.hid (H0.out.below hb1)
             have B1 := Lib.hid hb1
             clear ho1 hb1)
            | (at_builtin; refine wpList_append_u32 rfl (.tmp 8) (.tmp 9) rfl W0.heap.size _ 0 [] rfl HO1.out B nb cb R rfl H1.out HZ.out (by omega) B1.out.size ?_; intro v2 W2 ho2 hg2
               rw [List.nil_append, Nat.zero_add] at ho2
               obtain ⟨A2, c2, rfl, hc2, hm2, hz2, hi2, hd2⟩ := own_u32 ho2 HL
               have D2 := Lib.hid (fun a (ha : A2 = some a) => show W0.heap.size ≤ a.block by obtain ⟨g, rfl, h⟩ := hd2 a ha; exact h)
               clear hd2
               have HO2 := Lib.hid ho2
               have I2 := Lib.hid hi2
               have Z2 := Lib.hid hz2
               have b2 : Below W0.heap.size W0 W2 := B1.out.grown hg2 B1.out.size (fun j hj => (HO1.out.lt j hj).1)
               have B2 := Lib.hid b2
               have F2 := Lib.hid (F0.out.below b2 F0.out.1)
               clear ho2 hg2 b2 hi2 hz2
               have s0 := F2.out.2.1 0 _ rfl
               have s1 := F2.out.2.1 1 _ rfl
               have s2 := F2.out.2.1 2 _ rfl
               have s3 := F2.out.2.1 3 _ rfl
               have s4 := F2.out.2.1 4 _ rfl)
            | (go_at_call 17; refine (HC.out _).mono ?_; rintro r w3 ⟨rfl, b⟩
               have B3 := Lib.hid (B2.out.trans (b.mono B2.out.size))
               have HO3 := Lib.hid (own_below HO2.out b)
               have I3 := Lib.hid (I2.out.below b)
               have F3 := Lib.hid (F2.out.below b F2.out.1)
               clear s0 s1 s2 s3 s4 b
               have s0 := F3.out.2.1 0 _ rfl
               have s1 := F3.out.2.1 1 _ rfl
               have s2 := F3.out.2.1 2 _ rfl
               have s3 := F3.out.2.1 3 _ rfl
               have s4 := F3.out.2.1 4 _ rfl)
            | (at_builtin; refine wpList_append_u32 rfl (.tmp 14) (.tmp 17) rfl W0.heap.size _ nb _ rfl (HO3.out.alloc _) (some ⟨w3.heap.size, 0, none⟩) 1 1 [(pc + 4) % 4294967296] rfl (one_row _ _ _) (fun h => by cases h) (by omega) (Nat.le_trans B3.out.size (by simp)) ?_; intro v4 W4 ho4 hg4
               rw [← List.map_append] at ho4
               obtain ⟨A4, c4, rfl, hc4, hm4, hz4, hi4, hd4⟩ := own_u32 ho4 (by rw [List.length_append, HL]; rfl)
               have I4 := Lib.hid hi4
               have Z4 := Lib.hid hz4
               have b4 : Below W0.heap.size W0 W4 := (B3.out.alloc B3.out.size _).grown hg4 (Nat.le_trans B3.out.size (by simp)) (fun j hj => (HO3.out.lt j hj).1)
               have B4 := Lib.hid b4
               clear ho4 hg4 b4 hi4 hz4 s0 s1 s2 s3 s4
               skip)
            | (go_at_call 16; refine (HR.out _).mono ?_; rintro r w5 ⟨rfl, b⟩
               have B5 := Lib.hid (B3.out.trans (b.mono B3.out.size))
               have I5 := Lib.hid (I3.out.below b)
               clear s0 s1 s2 s3 s4 b))
        go_ret
        exact ⟨A2, c2, nb, rfl, hc2, hm2, Z2.out, hX ▸ I5.out, (fun a ha => Nat.le_trans HS0.out (D2.out a ha)), K0.out.trans (B5.out.mono HS0.out)⟩
      · have hX : R.take (nb - 1) = X := by have h := HX.out; simpa [HL, h0] using h
        have d : decide ((0 : Int) < nb) = true := decide_eq_true (by omega)
        have d' : decide (0 < nb) = true := decide_eq_true (by omega)
        go_wp2_with (first
          | (refine wpList_make_u32 rfl 5 5 rfl (by omega) rfl ?_; intro W1 ho1 hb1
             have HO1 := Lib.hid ho1
             have H1 := Lib.hid (H0.out.below hb1)
             have B1 := Lib.hid hb1
             clear ho1 hb1)
            | (at_builtin; refine wpList_append_u32 rfl (.tmp 8) (.tmp 9) rfl W0.heap.size _ 0 [] rfl HO1.out B nb cb R rfl H1.out HZ.out (by omega) B1.out.size ?_; intro v2 W2 ho2 hg2
               rw [List.nil_append, Nat.zero_add] at ho2
               obtain ⟨A2, c2, rfl, hc2, hm2, hz2, hi2, hd2⟩ := own_u32 ho2 HL
               have D2 := Lib.hid (fun a (ha : A2 = some a) => show W0.heap.size ≤ a.block by obtain ⟨g, rfl, h⟩ := hd2 a ha; exact h)
               clear hd2
               have HO2 := Lib.hid ho2
               have I2 := Lib.hid hi2
               have Z2 := Lib.hid hz2
               have b2 : Below W0.heap.size W0 W2 := B1.out.grown hg2 B1.out.size (fun j hj => (HO1.out.lt j hj).1)
               have B2 := Lib.hid b2
               have F2 := Lib.hid (F0.out.below b2 F0.out.1)
               clear ho2 hg2 b2 hi2 hz2
               have s0 := F2.out.2.1 0 _ rfl
               have s1 := F2.out.2.1 1 _ rfl
               have s2 := F2.out.2.1 2 _ rfl
               have s3 := F2.out.2.1 3 _ rfl
               have s4 := F2.out.2.1 4 _ rfl)
            | (go_at_call 17; refine (HC.out _).mono ?_; rintro r w3 ⟨rfl, b⟩
               have B3 := Lib.hid (B2.out.trans (b.mono B2.out.size))
               have HO3 := Lib.hid (own_below HO2.out b)
               have I3 := Lib.hid (I2.out.below b)
               have F3 := Lib.hid (F2.out.below b F2.out.1)
               clear s0 s1 s2 s3 s4 b
               have s0 := F3.out.2.1 0 _ rfl
               have s1 := F3.out.2.1 1 _ rfl
               have s2 := F3.out.2.1 2 _ rfl
               have s3 := F3.out.2.1 3 _ rfl
               have s4 := F3.out.2.1 4 _ rfl)
            | (at_builtin; refine wpList_append_u32 rfl (.tmp 14) (.tmp 17) rfl W0.heap.size _ nb _ rfl (HO3.out.alloc _) (some ⟨w3.heap.size, 0, none⟩) 1 1 [(pc + 4) % 4294967296] rfl (one_row _ _ _) (fun h => by cases h) (by omega) (Nat.le_trans B3.out.size (by simp)) ?_; intro v4 W4 ho4 hg4
               rw [← List.map_append] at ho4
               obtain ⟨A4, c4, rfl, hc4, hm4, hz4, hi4, hd4⟩ := own_u32 ho4 (by rw [List.length_append, HL]; rfl)
               have I4 := Lib.hid hi4
               have Z4 := Lib.hid hz4
               have b4 : Below W0.heap.size W0 W4 := (B3.out.alloc B3.out.size _).grown hg4 (Nat.le_trans B3.out.size (by simp)) (fun j hj => (HO3.out.lt j hj).1)
               have B4 := Lib.hid b4
               clear ho4 hg4 b4 hi4 hz4 s0 s1 s2 s3 s4
               skip)
            | (go_at_call 16; refine (HR.out _).mono ?_; rintro r w5 ⟨rfl, b⟩
               have B5 := Lib.hid (B3.out.trans (b.mono B3.out.size))
               have I5 := Lib.hid (I3.out.below b)
               clear s0 s1 s2 s3 s4 b))
        go_ret
        exact ⟨A2, c2, nb - 1, rfl, by omega, hm2, Z2.out, hX ▸ I5.out.take (by omega), (fun a ha => Nat.le_trans HS0.out (D2.out a ha)), K0.out.trans (B5.out.mono HS0.out)⟩
  · by_cases h4 : nb = 4
    · have hX : (R ++ [(pc + 4) % 4294967296]).drop 1 = X := by have h := HX.out; simpa [HL, h4] using h
      have d : decide ((4 : Int) < (nb : Int) + 1) = true := decide_eq_true (by omega)
      have d' : decide (4 < nb + 1) = true := decide_eq_true (by omega)
      have HN4 := Lib.hid h4
      clear h4
      go_wp2_with (first
        | (refine wpList_make_u32 rfl 5 5 rfl (by omega) rfl ?_; intro W1 ho1 hb1
           have HO1 := Lib.hid ho1
           have H1 := Lib.hid (H0.out.below hb1)
           have B1 := Lib.hid hb1
           clear ho1 hb1)
          | (at_builtin; refine wpList_append_u32 rfl (.tmp 8) (.tmp 9) rfl W0.heap.size _ 0 [] rfl HO1.out B nb cb R rfl H1.out HZ.out (by omega) B1.out.size ?_; intro v2 W2 ho2 hg2
             rw [List.nil_append, Nat.zero_add] at ho2
             obtain ⟨A2, c2, rfl, hc2, hm2, hz2, hi2, hd2⟩ := own_u32 ho2 HL
             have D2 := Lib.hid (fun a (ha : A2 = some a) => show W0.heap.size ≤ a.block by obtain ⟨g, rfl, h⟩ := hd2 a ha; exact h)
             clear hd2
             have HO2 := Lib.hid ho2
             have I2 := Lib.hid hi2
             have Z2 := Lib.hid hz2
             have b2 : Below W0.heap.size W0 W2 := B1.out.grown hg2 B1.out.size (fun j hj => (HO1.out.lt j hj).1)
             have B2 := Lib.hid b2
             have F2 := Lib.hid (F0.out.below b2 F0.out.1)
             clear ho2 hg2 b2 hi2 hz2
             have s0 := F2.out.2.1 0 _ rfl
             have s1 := F2.out.2.1 1 _ rfl
             have s2 := F2.out.2.1 2 _ rfl
             have s3 := F2.out.2.1 3 _ rfl
             have s4 := F2.out.2.1 4 _ rfl)
          | (go_at_call 17; refine (HC.out _).mono ?_; rintro r w3 ⟨rfl, b⟩
             have B3 := Lib.hid (B2.out.trans (b.mono B2.out.size))
             have HO3 := Lib.hid (own_below HO2.out b)
             have I3 := Lib.hid (I2.out.below b)
             have F3 := Lib.hid (F2.out.below b F2.out.1)
             clear s0 s1 s2 s3 s4 b
             have s0 := F3.out.2.1 0 _ rfl
             have s1 := F3.out.2.1 1 _ rfl
             have s2 := F3.out.2.1 2 _ rfl
             have s3 := F3.out.2.1 3 _ rfl
             have s4 := F3.out.2.1 4 _ rfl)
          | (at_builtin; refine wpList_append_u32 rfl (.tmp 14) (.tmp 17) rfl W0.heap.size _ nb _ rfl (HO3.out.alloc _) (some ⟨w3.heap.size, 0, none⟩) 1 1 [(pc + 4) % 4294967296] rfl (one_row _ _ _) (fun h => by cases h) (by omega) (Nat.le_trans B3.out.size (by simp)) ?_; intro v4 W4 ho4 hg4
             rw [← List.map_append] at ho4
             obtain ⟨A4, c4, rfl, hc4, hm4, hz4, hi4, hd4⟩ := own_u32 ho4 (by rw [List.length_append, HL]; rfl)
             have I4 := Lib.hid hi4
             have Z4 := Lib.hid hz4
             have b4 : Below W0.heap.size W0 W4 := (B3.out.alloc B3.out.size _).grown hg4 (Nat.le_trans B3.out.size (by simp)) (fun j hj => (HO3.out.lt j hj).1)
             have B4 := Lib.hid b4
             clear ho4 hg4 b4 hi4 hz4 s0 s1 s2 s3 s4
             (obtain ⟨a4, rfl⟩ : ∃ a, A4 = some a := by cases A4; exact absurd (Z4.out rfl) (by omega); exact ⟨_, rfl⟩); obtain ⟨g4, rfl, hg4⟩ := hd4 a4 rfl; have HG4 := Lib.hid hg4; clear hd4 hg4; have hc41 : ¬ c4 = 1 := by have := HN4.out; omega)
          | (go_at_call 16; refine (HR.out _).mono ?_; rintro r w5 ⟨rfl, b⟩
             have B5 := Lib.hid (B3.out.trans (b.mono B3.out.size))
             have I5 := Lib.hid (I3.out.below b)
             clear s0 s1 s2 s3 s4 b))
      go_ret
      exact ⟨some ⟨g4, 1, none⟩, c4 - 1, nb, rfl, by omega, by omega, (fun h => by cases h), hX ▸ ints_tail I4.out, (fun a ha => by cases ha; exact Nat.le_trans HS0.out HG4.out), K0.out.trans (B4.out.mono HS0.out)⟩
    · have hX : R ++ [(pc + 4) % 4294967296] = X := by
        have h := HX.out
        rw [if_pos rfl, if_neg (by omega)] at h
        exact h
      have d : decide ((4 : Int) < (nb : Int) + 1) = false := decide_eq_false (by omega)
      have d' : decide (4 < nb + 1) = false := decide_eq_false (by omega)
      go_wp2_with (first
        | (refine wpList_make_u32 rfl 5 5 rfl (by omega) rfl ?_; intro W1 ho1 hb1
           have HO1 := Lib.hid ho1
           have H1 := Lib.hid (H0.out.below hb1)
           have B1 := Lib.hid hb1
           clear ho1 hb1)
          | (at_builtin; refine wpList_append_u32 rfl (.tmp 8) (.tmp 9) rfl W0.heap.size _ 0 [] rfl HO1.out B nb cb R rfl H1.out HZ.out (by omega) B1.out.size ?_; intro v2 W2 ho2 hg2
             rw [List.nil_append, Nat.zero_add] at ho2
             obtain ⟨A2, c2, rfl, hc2, hm2, hz2, hi2, hd2⟩ := own_u32 ho2 HL
             have D2 := Lib.hid (fun a (ha : A2 = some a) => show W0.heap.size ≤ a.block by obtain ⟨g, rfl, h⟩ := hd2 a ha; exact h)
             clear hd2
             have HO2 := Lib.hid ho2
             have I2 := Lib.hid hi2
             have Z2 := Lib.hid hz2
             have b2 : Below W0.heap.size W0 W2 := B1.out.grown hg2 B1.out.size (fun j hj => (HO1.out.lt j hj).1)
             have B2 := Lib.hid b2
             have F2 := Lib.hid (F0.out.below b2 F0.out.1)
             clear ho2 hg2 b2 hi2 hz2
             have s0 := F2.out.2.1 0 _ rfl
             have s1 := F2.out.2.1 1 _ rfl
             have s2 := F2.out.2.1 2 _ rfl
             have s3 := F2.out.2.1 3 _ rfl
             have s4 := F2.out.2.1 4 _ rfl)
          | (go_at_call 17; refine (HC.out _).mono ?_; rintro r w3 ⟨rfl, b⟩
             have B3 := Lib.hid (B2.out.trans (b.mono B2.out.size))
             have HO3 := Lib.hid (own_below HO2.out b)
             have I3 := Lib.hid (I2.out.below b)
             have F3 := Lib.hid (F2.out.below b F2.out.1)
             clear s0 s1 s2 s3 s4 b
             have s0 := F3.out.2.1 0 _ rfl
             have s1 := F3.out.2.1 1 _ rfl
             have s2 := F3.out.2.1 2 _ rfl
             have s3 := F3.out.2.1 3 _ rfl
             have s4 := F3.out.2.1 4 _ rfl)
          | (at_builtin; refine wpList_append_u32 rfl (.tmp 14) (.tmp 17) rfl W0.heap.size _ nb _ rfl (HO3.out.alloc _) (some ⟨w3.heap.size, 0, none⟩) 1 1 [(pc + 4) % 4294967296] rfl (one_row _ _ _) (fun h => by cases h) (by omega) (Nat.le_trans B3.out.size (by simp)) ?_; intro v4 W4 ho4 hg4
             rw [← List.map_append] at ho4
             obtain ⟨A4, c4, rfl, hc4, hm4, hz4, hi4, hd4⟩ := own_u32 ho4 (by rw [List.length_append, HL]; rfl)
             have I4 := Lib.hid hi4
             have Z4 := Lib.hid hz4
             have b4 : Below W0.heap.size W0 W4 := (B3.out.alloc B3.out.size _).grown hg4 (Nat.le_trans B3.out.size (by simp)) (fun j hj => (HO3.out.lt j hj).1)
             have B4 := Lib.hid b4
             clear ho4 hg4 b4 hi4 hz4 s0 s1 s2 s3 s4
             skip)
          | (go_at_call 16; refine (HR.out _).mono ?_; rintro r w5 ⟨rfl, b⟩
             have B5 := Lib.hid (B3.out.trans (b.mono B3.out.size))
             have I5 := Lib.hid (I3.out.below b)
             clear s0 s1 s2 s3 s4 b))
      go_ret
      exact ⟨A4, c4, nb + 1, rfl, hc4, hm4, Z4.out, hX ▸ I4.out, (fun a ha => by obtain ⟨g, rfl, h⟩ := hd4 a ha; exact Nat.le_trans HS0.out h), K0.out.trans (B4.out.mono HS0.out)⟩
end Go.Proofs.Ytkamljmopbocnaa
