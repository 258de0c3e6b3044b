/- THE CONTRACTS of retire.Apply and of auspexref20's Apply. -/
import Derived.Test.YtjhkebabbldfcaaChecked
import Derived.Test.YtjhkebabbldfcaaSteps
import Derived.Test.YtjhkebabbldfcaaRegs
import Derived.Test.YtjhkebabbldfcaaOwn
import Derived.WalkKit
import Derived.ProofKit
import Derived.WalkLawsBesides
import Derived.Deep.QuietTactic
import Derived.BigQuiet
namespace Go.Proofs.Ytjhkebabbldfcaa
open Go.ChangeShapes Go.WideShapes Go.ChangeAt Go.RowKit
set_option linter.unusedVariables false
set_option linter.unusedSimpArgs false
set_option maxHeartbeats 2000000
set_option maxRecDepth 100000

/-- a whole value is stored over a block that is known -/
theorem wpList_store_blk {P : Program} {ops : Array Oper} {rest : List Oper} {op : Oper} {a : Act} {w : World} {Q : Exit → Act → World → Prop} (hgd : op.guard = none) (ty : TypeId) (x y : Operand) (ho : op.op = .store ty x y)
    (b : Nat) (zs : List Value) (cells : Array Value) (hB : Blk w b zs) (hz : zs.length = cells.size) (hx : a.eval x = .pointer (some ⟨b, 0, none⟩)) (hy : a.eval y = .agg cells)
    (hi : (P.info? ty).map (·.size) = some cells.size) (h1 : cells.all (·.oneCell') = true)
    (h : ∀ W2, Blk W2 b cells.toList → (∀ b' cs, b' ≠ b → Blk w b' cs → Blk W2 b' cs) → (∀ B, B ≤ b → Below B w W2) → W2.heap.size = w.heap.size → wpList P ops Q rest (a.put op.dst undef) W2) :
    wpList P ops Q (op :: rest) a w := by
  have hth : w.there b 0 cells.size := fun j hj => by
    rw [Nat.zero_add, hB.2.1 j (zs[j]'(by omega)) (List.getElem?_eq_getElem (by omega)), hB.2.2 j (by omega)]
    exact ⟨rfl, rfl⟩
  refine wpList_store_mid hgd ty x y ho b 0 cells hx hy hth hi h1 (h _ ?_ ?_ ?_ ?_)
  · refine ⟨by rw [setCells_size]; exact hB.1, fun i v hv => ?_, fun i hi => ?_⟩
    · have := World.rangeAt_setCells_same w b 0 cells.toList (by simpa using hth) i v hv
      rwa [Nat.zero_add] at this
    · rw [setCells_frozen]
      exact hB.2.2 i (by simp at hi; omega)
  · intro b' cs hne hb'
    refine ⟨by rw [setCells_size]; exact hb'.1, fun i v hv => ?_, fun i hi => ?_⟩
    · have := World.rangeAt_setCells_apart hb'.range b 0 cells.toList (.inl hne) i v hv
      rwa [Nat.zero_add] at this
    · rw [setCells_frozen]
      exact hb'.2.2 i hi
  · exact fun B hBb => setCells_below _ hBb _ _ _
  · exact setCells_size _ _ _ _

/-- a result that lies in a block, read whole -/
theorem results_cell_blk {P : Program} {fn : Func} {p : Tmp} {ty : TypeId} (h : fn.results = #[.cell p ty]) (tmps : Array Value) (w : World) (b : Nat) (cs : List Value) (d : TypeDesc)
    (hp : tmps.getD p undef = .pointer (some ⟨b, 0, none⟩)) (hB : Blk w b cs) (hu : P.underlying ty = some d) (hd : d.isRow = true) (hi : (P.info? ty).map (·.size) = some cs.length) :
    (results fn tmps).run P w = .ok (.agg cs.toArray) w := by
  have hp' : tmps[p]?.getD undef = .pointer (some ⟨b, 0, none⟩) := by simpa using hp
  simp [results, h, hp', asAddr, run_loadVar_mid w b 0 ty cs d hB.range hu hd hi]

/-- what a step does to registers -/
def applyB (s : St) : Bool := decide (s.halt = 0 ∧ 1 ≤ s.rd ∧ s.rd ≤ 31)
def applyL (zs : List Int) (s : St) : List Int := if applyB s then zs.set s.rd.toNat s.value else zs
theorem regs_info : (Try.prog.info? 43).map (·.size) = some 32 := by kernel_rfl
theorem regL_one (zs : List Int) : (regL zs).toArray.all (·.oneCell') = true := all_oneCell_toArray (fun v hv => by
  obtain ⟨z, _, rfl⟩ := List.mem_map.1 hv
  rfl)

def z32 : List Value := [.int .u32 0, .int .u32 0, .int .u32 0, .int .u32 0, .int .u32 0, .int .u32 0, .int .u32 0, .int .u32 0, .int .u32 0, .int .u32 0, .int .u32 0, .int .u32 0, .int .u32 0, .int .u32 0, .int .u32 0, .int .u32 0, .int .u32 0, .int .u32 0, .int .u32 0, .int .u32 0, .int .u32 0, .int .u32 0, .int .u32 0, .int .u32 0, .int .u32 0, .int .u32 0, .int .u32 0, .int .u32 0, .int .u32 0, .int .u32 0, .int .u32 0, .int .u32 0]
theorem three_allocs (w : World) (X Y Z : List Value) (t u v : TypeId) :
    Blk (((w.alloc (.cells X.toArray t)).alloc (.cells Y.toArray u)).alloc (.cells Z.toArray v)) w.heap.size X ∧ Blk (((w.alloc (.cells X.toArray t)).alloc (.cells Y.toArray u)).alloc (.cells Z.toArray v)) (w.heap.size + 1) Y ∧
    Blk (((w.alloc (.cells X.toArray t)).alloc (.cells Y.toArray u)).alloc (.cells Z.toArray v)) (w.heap.size + 1 + 1) Z ∧ Below w.heap.size w (((w.alloc (.cells X.toArray t)).alloc (.cells Y.toArray u)).alloc (.cells Z.toArray v)) := by
  have s1 : (w.alloc (.cells X.toArray t)).heap.size = w.heap.size + 1 := by simp
  have s2 : ((w.alloc (.cells X.toArray t)).alloc (.cells Y.toArray u)).heap.size = w.heap.size + 1 + 1 := by simp
  have b1 : Below (w.heap.size + 1) (w.alloc (.cells X.toArray t)) (((w.alloc (.cells X.toArray t)).alloc (.cells Y.toArray u)).alloc (.cells Z.toArray v)) := (((Below.refl _ _).alloc (by rw [s1]; exact Nat.le_refl _) _).alloc (by rw [s2]; omega) _)
  have b2 : Below (w.heap.size + 1 + 1) ((w.alloc (.cells X.toArray t)).alloc (.cells Y.toArray u)) (((w.alloc (.cells X.toArray t)).alloc (.cells Y.toArray u)).alloc (.cells Z.toArray v)) := (Below.refl _ _).alloc (by rw [s2]; exact Nat.le_refl _) _
  refine ⟨(Blk.new w t X).below b1 (Nat.lt_succ_self _), ?_, ?_, ?_⟩
  · have := Blk.new (w.alloc (.cells X.toArray t)) u Y
    rw [s1] at this
    exact this.below b2 (Nat.lt_succ_self _)
  · have := Blk.new ((w.alloc (.cells X.toArray t)).alloc (.cells Y.toArray u)) v Z
    rwa [s2] at this
  · exact (((Below.refl _ _).alloc (Nat.le_refl _) _).alloc (by rw [s1]; omega) _).alloc (by rw [s2]; omega) _

theorem apply_any (zs : List Int) (s : St) (hz : zs.length = 32) (w : World) : Calls Try.prog 22 #[regV zs, stV s] w fun e w' => e = .returned (regV (applyL zs s)) ∧ Below w.heap.size w w' := by
  obtain ⟨pc, next, rd, value, addr, size, store, halt, took⟩ := s
  have hap : applyL zs ⟨pc, next, rd, value, addr, size, store, halt, took⟩ = if decide (halt = 0 ∧ 1 ≤ rd ∧ rd ≤ 31) then zs.set rd.toNat value else zs := rfl
  unfold stV regV
  by_cases h : halt = 0 ∧ 1 ≤ rd ∧ rd ≤ 31
  · rw [decide_eq_true h, if_pos rfl] at hap
    obtain ⟨h0, h1, h2⟩ := h
    obtain ⟨R, rfl⟩ := Int.eq_ofNat_of_zero_le (show 0 ≤ rd by omega)
    rw [Int.toNat_natCast] at hap
    have HAP := Lib.hid hap
    subst h0
    clear hap
    have hcR : (regL zs)[R]? = some ((regL zs)[R]'(by simp [regL, hz]; omega)) := List.getElem?_eq_getElem _
    obtain ⟨u, hu⟩ : ∃ u, (regL zs)[R]? = some u := ⟨_, hcR⟩
    clear hcR
    have hset : (regL zs).set R (Value.int .u32 value) = regL (zs.set R value) := by unfold regL; rw [List.map_set]
    have HSET := Lib.hid hset
    clear hset
    have hX1 : ((regL zs).set R (Value.int .u32 value)).length = 32 := by simp [regL, hz]
    have hXo : ((regL zs).set R (Value.int .u32 value)).toArray.all (·.oneCell') = true := (by rw [HSET.out]; exact regL_one _)
    obtain ⟨f1, f2, f3, f4⟩ := three_allocs w ((regL zs).set R (Value.int .u32 value)) [.int .u32 pc, .int .u32 next, .int .i64 (R : Int), .int .u32 value, .int .u32 addr, .int .i64 size, .bool store, .int .i64 0, .int .i64 took] z32 43 45 43
    have F1 := Lib.hid f1
    have F3 := Lib.hid f3
    have F4 := Lib.hid f4
    have hi1 : (Try.prog.info? 43).map (·.size) = some ((regL zs).set R (Value.int .u32 value)).length := by rw [hX1]; exact regs_info
    have hi2 : (Try.prog.info? 43).map (·.size) = some ((regL zs).set R (Value.int .u32 value)).toArray.size := by rw [List.size_toArray, hX1]; exact regs_info
    have hzz : z32.length = ((regL zs).set R (Value.int .u32 value)).toArray.size := by rw [List.size_toArray, hX1]; rfl
    have HI1 := Lib.hid hi1
    have HI2 := Lib.hid (And.intro hi2 (And.intro hzz hXo))
    clear f1 f2 f3 f4 hi1 hi2 hzz hXo
    go_enter Try.func22, Try.ntmps22
    go_wp2_with (first
      | (refine wpList_load_mid rfl 43 (.tmp 2) rfl w.heap.size 0 rfl ((regL zs).set R (Value.int .u32 value)) _ F1.out.range Try.underlying43 rfl HI1.out ?_)
      | (refine wpList_store_blk rfl 43 (.tmp 4) (.tmp 23) rfl (w.heap.size + 1 + 1) z32 ((regL zs).set R (Value.int .u32 value)).toArray F3.out HI2.out.2.1 rfl rfl HI2.out.1 HI2.out.2.2 ?_; intro W2 hB2 hO2 hbl2 hs2))
    exact bodyPost_ret (v := .agg ((regL zs).set R (Value.int .u32 value)).toArray) (results_cell_blk Try.results22 _ W2 (w.heap.size + 1 + 1) ((regL zs).set R (Value.int .u32 value)) _ rfl hB2 Try.underlying43 rfl HI1.out) rfl ⟨by rw [HAP.out, ← HSET.out], F4.out.trans (hbl2 _ (by omega))⟩
  · rw [decide_eq_false h, if_neg (by simp)] at hap
    have HAP := Lib.hid hap
    clear hap
    by_cases h0 : halt = 0
    · subst h0
      by_cases h1 : 1 ≤ rd
      · have h2 : ¬ rd ≤ 31 := by omega
        clear h
        have hX1 : (regL zs).length = 32 := by simp [regL, hz]
        have hXo : (regL zs).toArray.all (·.oneCell') = true := (regL_one _)
        obtain ⟨f1, f2, f3, f4⟩ := three_allocs w (regL zs) [.int .u32 pc, .int .u32 next, .int .i64 rd, .int .u32 value, .int .u32 addr, .int .i64 size, .bool store, .int .i64 0, .int .i64 took] z32 43 45 43
        have F1 := Lib.hid f1
        have F3 := Lib.hid f3
        have F4 := Lib.hid f4
        have hi1 : (Try.prog.info? 43).map (·.size) = some (regL zs).length := by rw [hX1]; exact regs_info
        have hi2 : (Try.prog.info? 43).map (·.size) = some (regL zs).toArray.size := by rw [List.size_toArray, hX1]; exact regs_info
        have hzz : z32.length = (regL zs).toArray.size := by rw [List.size_toArray, hX1]; rfl
        have HI1 := Lib.hid hi1
        have HI2 := Lib.hid (And.intro hi2 (And.intro hzz hXo))
        clear f1 f2 f3 f4 hi1 hi2 hzz hXo
        go_enter Try.func22, Try.ntmps22
        go_wp2_with (first
          | (refine wpList_load_mid rfl 43 (.tmp 2) rfl w.heap.size 0 rfl (regL zs) _ F1.out.range Try.underlying43 rfl HI1.out ?_)
          | (refine wpList_store_blk rfl 43 (.tmp 4) (.tmp 23) rfl (w.heap.size + 1 + 1) z32 (regL zs).toArray F3.out HI2.out.2.1 rfl rfl HI2.out.1 HI2.out.2.2 ?_; intro W2 hB2 hO2 hbl2 hs2))
        exact bodyPost_ret (v := .agg (regL zs).toArray) (results_cell_blk Try.results22 _ W2 (w.heap.size + 1 + 1) (regL zs) _ rfl hB2 Try.underlying43 rfl HI1.out) rfl ⟨by rw [HAP.out], F4.out.trans (hbl2 _ (by omega))⟩
      · clear h
        have hX1 : (regL zs).length = 32 := by simp [regL, hz]
        have hXo : (regL zs).toArray.all (·.oneCell') = true := (regL_one _)
        obtain ⟨f1, f2, f3, f4⟩ := three_allocs w (regL zs) [.int .u32 pc, .int .u32 next, .int .i64 rd, .int .u32 value, .int .u32 addr, .int .i64 size, .bool store, .int .i64 0, .int .i64 took] z32 43 45 43
        have F1 := Lib.hid f1
        have F3 := Lib.hid f3
        have F4 := Lib.hid f4
        have hi1 : (Try.prog.info? 43).map (·.size) = some (regL zs).length := by rw [hX1]; exact regs_info
        have hi2 : (Try.prog.info? 43).map (·.size) = some (regL zs).toArray.size := by rw [List.size_toArray, hX1]; exact regs_info
        have hzz : z32.length = (regL zs).toArray.size := by rw [List.size_toArray, hX1]; rfl
        have HI1 := Lib.hid hi1
        have HI2 := Lib.hid (And.intro hi2 (And.intro hzz hXo))
        clear f1 f2 f3 f4 hi1 hi2 hzz hXo
        go_enter Try.func22, Try.ntmps22
        go_wp2_with (first
          | (refine wpList_load_mid rfl 43 (.tmp 2) rfl w.heap.size 0 rfl (regL zs) _ F1.out.range Try.underlying43 rfl HI1.out ?_)
          | (refine wpList_store_blk rfl 43 (.tmp 4) (.tmp 23) rfl (w.heap.size + 1 + 1) z32 (regL zs).toArray F3.out HI2.out.2.1 rfl rfl HI2.out.1 HI2.out.2.2 ?_; intro W2 hB2 hO2 hbl2 hs2))
        exact bodyPost_ret (v := .agg (regL zs).toArray) (results_cell_blk Try.results22 _ W2 (w.heap.size + 1 + 1) (regL zs) _ rfl hB2 Try.underlying43 rfl HI1.out) rfl ⟨by rw [HAP.out], F4.out.trans (hbl2 _ (by omega))⟩
    · have hb : (halt == 0) = false := by simpa using h0
      clear h
      have hX1 : (regL zs).length = 32 := by simp [regL, hz]
      have hXo : (regL zs).toArray.all (·.oneCell') = true := (regL_one _)
      obtain ⟨f1, f2, f3, f4⟩ := three_allocs w (regL zs) [.int .u32 pc, .int .u32 next, .int .i64 rd, .int .u32 value, .int .u32 addr, .int .i64 size, .bool store, .int .i64 halt, .int .i64 took] z32 43 45 43
      have F1 := Lib.hid f1
      have F3 := Lib.hid f3
      have F4 := Lib.hid f4
      have hi1 : (Try.prog.info? 43).map (·.size) = some (regL zs).length := by rw [hX1]; exact regs_info
      have hi2 : (Try.prog.info? 43).map (·.size) = some (regL zs).toArray.size := by rw [List.size_toArray, hX1]; exact regs_info
      have hzz : z32.length = (regL zs).toArray.size := by rw [List.size_toArray, hX1]; rfl
      have HI1 := Lib.hid hi1
      have HI2 := Lib.hid (And.intro hi2 (And.intro hzz hXo))
      clear f1 f2 f3 f4 hi1 hi2 hzz hXo
      go_enter Try.func22, Try.ntmps22
      go_wp2_with (first
        | (refine wpList_load_mid rfl 43 (.tmp 2) rfl w.heap.size 0 rfl (regL zs) _ F1.out.range Try.underlying43 rfl HI1.out ?_)
        | (refine wpList_store_blk rfl 43 (.tmp 4) (.tmp 23) rfl (w.heap.size + 1 + 1) z32 (regL zs).toArray F3.out HI2.out.2.1 rfl rfl HI2.out.1 HI2.out.2.2 ?_; intro W2 hB2 hO2 hbl2 hs2))
      exact bodyPost_ret (v := .agg (regL zs).toArray) (results_cell_blk Try.results22 _ W2 (w.heap.size + 1 + 1) (regL zs) _ rfl hB2 Try.underlying43 rfl HI1.out) rfl ⟨by rw [HAP.out], F4.out.trans (hbl2 _ (by omega))⟩

theorem three_size (w : World) (X Y Z : List Value) (t u v : TypeId) : (((w.alloc (.cells X.toArray t)).alloc (.cells Y.toArray u)).alloc (.cells Z.toArray v)).heap.size = w.heap.size + 1 + 1 + 1 := by simp
/-- as wpList_store_fresh, the block's number told -/
theorem wpList_store_fresh_at {P : Program} {ops : Array Oper} {rest : List Oper} {op : Oper} {a : Act} {w : World} {Q : Exit → Act → World → Prop} (hgd : op.guard = none) (ty : TypeId) (x y : Operand) (ho : op.op = .store ty x y) (b : Nat) (hbs : w.heap.size = b)
    (zs cells : Array Value) (t : TypeId) (hx : a.eval x = .pointer (some ⟨b, 0, none⟩)) (hy : a.eval y = .agg cells) (hz : zs.size = cells.size)
    (hi : (P.info? ty).map (·.size) = some cells.size) (h1 : cells.all (·.oneCell') = true)
    (h : ∀ W2, Below b w W2 → Blk W2 b cells.toList → W2.heap.size = b + 1 → wpList P ops Q rest (a.put op.dst undef) W2) :
    wpList P ops Q (op :: rest) a (w.alloc (.cells zs t)) := by
  subst hbs
  exact wpList_store_fresh hgd ty x y ho zs cells t hx hy hz hi h1 h

/-- as far as register i -/
def refL (zs : List Int) (s : St) (i : Nat) : List Int := if decide (s.halt = 0 ∧ 1 ≤ s.rd ∧ s.rd < i) then zs.set s.rd.toNat s.value else zs
theorem refL_len (zs : List Int) (s : St) (i : Nat) : (refL zs s i).length = zs.length := by unfold refL; split <;> simp
theorem refL_end (zs : List Int) (s : St) : refL zs s 32 = applyL zs s := by
  unfold refL applyL applyB
  congr 2
  rw [decide_eq_decide]
  omega
theorem refL_start (zs : List Int) (s : St) : refL zs s 1 = zs := by
  unfold refL
  rw [decide_eq_false (by omega)]
  simp
theorem refL_yes (zs : List Int) (s : St) (i : Nat) (h0 : 1 ≤ i) (h : (i : Int) = s.rd) (hh : s.halt = 0) : refL zs s (i + 1) = (refL zs s i).set i s.value := by
  unfold refL
  rw [decide_eq_true (by omega), decide_eq_false (by omega)]
  simp only [if_true, Bool.false_eq_true, if_false]
  rw [← h]
  simp
theorem refL_no (zs : List Int) (s : St) (i : Nat) (h : ¬ ((i : Int) = s.rd ∧ s.halt = 0)) : refL zs s (i + 1) = refL zs s i := by
  unfold refL
  congr 2
  rw [decide_eq_decide]
  omega

theorem refApply_any (zs : List Int) (s : St) (hz : zs.length = 32) (w : World) : Calls Try.prog 23 #[regV zs, stV s] w fun e w' => e = .returned (regV (applyL zs s)) ∧ Below w.heap.size w w' := by
  have RE := Lib.hid (refL_end zs s)
  have RS := Lib.hid (refL_start zs s)
  have RY := Lib.hid (refL_yes zs s)
  have RN := Lib.hid (refL_no zs s)
  have RL := Lib.hid (refL_len zs s)
  generalize hL : refL zs s = F at *
  clear hL
  have hE : stV s = .agg #[.int .u32 s.pc, .int .u32 s.next, .int .i64 s.rd, .int .u32 s.value, .int .u32 s.addr, .int .i64 s.size, .bool s.store, .int .i64 s.halt, .int .i64 s.took] := rfl
  obtain ⟨pc, next, rd, value, addr, size, store, halt, took⟩ := s
  unfold stV regV
  simp only at RY RN ⊢
  clear hE
  have hX1 : (regL zs).length = 32 := by simp [regL, hz]
  obtain ⟨f1, f2, f3, f4⟩ := three_allocs w (regL zs) [.int .u32 pc, .int .u32 next, .int .i64 rd, .int .u32 value, .int .u32 addr, .int .i64 size, .bool store, .int .i64 halt, .int .i64 took] z32 43 45 43
  have F1 := Lib.hid f1
  have F2 := Lib.hid f2
  have F3 := Lib.hid f3
  have F4 := Lib.hid f4
  have HSZ := Lib.hid (three_size w (regL zs) [.int .u32 pc, .int .u32 next, .int .i64 rd, .int .u32 value, .int .u32 addr, .int .i64 size, .bool store, .int .i64 halt, .int .i64 took] z32 43 45 43)
  have hi1 : (Try.prog.info? 43).map (·.size) = some (regL zs).length := by rw [hX1]; exact regs_info
  have hi2 : (Try.prog.info? 43).map (·.size) = some (regL zs).toArray.size := by rw [List.size_toArray, hX1]; exact regs_info
  have hzz : z32.toArray.size = (regL zs).toArray.size := by rw [List.size_toArray, List.size_toArray, hX1]; rfl
  have HI1 := Lib.hid hi1
  have HI2 := Lib.hid (And.intro hi2 (And.intro hzz (regL_one zs)))
  clear f1 f2 f3 f4 hi1 hi2 hzz
  go_enter Try.func23, Try.ntmps23
  go_wp2_with (first
    | (refine wpList_load_mid rfl 43 (.tmp 2) rfl w.heap.size 0 rfl (regL zs) _ F1.out.range Try.underlying43 rfl HI1.out ?_)
    | (refine wpList_store_fresh_at rfl 43 (.tmp 5) (.tmp 7) rfl (w.heap.size + 1 + 1 + 1) HSZ.out _ (regL zs).toArray _ rfl rfl HI2.out.2.1 HI2.out.1 HI2.out.2.2 ?_; intro W4 hb4 hB4 hs4))
  have G1 := Lib.hid (F1.out.below hb4 (by omega))
  have G2 := Lib.hid (F2.out.below hb4 (by omega))
  have G3 := Lib.hid (F3.out.below hb4 (by omega))
  have G4 := Lib.hid (F4.out.trans (hb4.mono (by omega)))
  have GB := Lib.hid hB4
  clear hB4 hb4
  go_wp2
  go_loopw [6] (fun i wr => ∃ k : Nat, 1 ≤ k ∧ k ≤ 32 ∧ i = .int .i64 k ∧ Blk wr (w.heap.size + 1 + 1 + 1) (regL (F k)) ∧ Blk wr (w.heap.size + 1) [.int .u32 pc, .int .u32 next, .int .i64 rd, .int .u32 value, .int .u32 addr, .int .i64 size, .bool store, .int .i64 halt, .int .i64 took] ∧ Blk wr (w.heap.size + 1 + 1) z32 ∧ Below w.heap.size w wr) (fun i _ => 32 - (intOf i).toNat)
  case atStart => exact ⟨1, by omega, by omega, rfl, by rw [RS.out]; exact GB.out, G2.out, G3.out, G4.out⟩
  case round =>
    obtain ⟨k, hk1, hk2, rfl, hB, hS, hZ, hb⟩ := hrel
    have KB := Lib.hid hB
    have KS := Lib.hid hS
    have KZ := Lib.hid hZ
    have Kb := Lib.hid hb
    have c2 := hS.2.1 2 _ rfl
    have c3 := hS.2.1 3 _ rfl
    have c7 := hS.2.1 7 _ rfl
    clear hB hS hZ hb
    by_cases hlt : k < 32
    · by_cases hr : (k : Int) = rd ∧ halt = 0
      · obtain ⟨h1, h2⟩ := hr
        have hY := RY.out k hk1 h1 h2
        have HY := Lib.hid hY
        have hfr := KB.out.2.2 k (by rw [regL, List.length_map, RL.out, hz]; exact hlt)
        have hcell := KB.out.2.1 k _ (List.getElem?_eq_getElem (by rw [regL, List.length_map, RL.out, hz]; exact hlt))
        obtain ⟨u, hu⟩ : ∃ u, wr.cell? ⟨w.heap.size + 1 + 1 + 1, k, none⟩ = some u := ⟨_, hcell⟩
        clear hY hcell
        subst h1 h2
        go_wp2
        have hfl : k < (regL (F k)).length := by rw [regL, List.length_map, RL.out, hz]; exact hlt
        have hB2 := KB.out.set (i := k) (v := .int .u32 value) hfl
        have hre : (regL (F k)).set k (.int .u32 value) = regL (F (k + 1)) := by rw [HY.out]; unfold regL; rw [List.map_set]
        rw [hre] at hB2
        have hS2 := KS.out.other (p := ⟨w.heap.size + 1 + 1 + 1, k, none⟩) (v := .int .u32 value) (by show w.heap.size + 1 + 1 + 1 ≠ w.heap.size + 1; omega)
        have hZ2 := KZ.out.other (p := ⟨w.heap.size + 1 + 1 + 1, k, none⟩) (v := .int .u32 value) (by show w.heap.size + 1 + 1 + 1 ≠ w.heap.size + 1 + 1; omega)
        have hb2 := Kb.out.setCell (p := ⟨w.heap.size + 1 + 1 + 1, k, none⟩) (by show w.heap.size ≤ w.heap.size + 1 + 1 + 1; omega) (.int .u32 value)
        have H2 := Lib.hid (And.intro hB2 (And.intro hS2 (And.intro hZ2 hb2)))
        clear hB2 hS2 hZ2 hb2 hfl hre
        go_roundw
        case rel => exact ⟨k + 1, by omega, by omega, by go_num, H2.out.1, H2.out.2.1, H2.out.2.2.1, H2.out.2.2.2⟩
        case measure => simp [intOf]; omega
      · have hN := RN.out k hr
        have HN := Lib.hid hN
        clear hN
        by_cases h1 : (k : Int) = rd
        · have h2 : ¬ halt = 0 := fun h => hr ⟨h1, h⟩
          have h3 : (halt == 0) = false := by simpa using h2
          clear hr h2
          subst h1
          go_wp2
          go_roundw
          case rel => exact ⟨k + 1, by omega, by omega, by go_num, by rw [HN.out]; exact KB.out, KS.out, KZ.out, Kb.out⟩
          case measure => simp [intOf]; omega
        · have h3 : ((k : Int) == rd) = false := by simpa using h1
          clear hr h1
          go_wp2
          go_roundw
          case rel => exact ⟨k + 1, by omega, by omega, by go_num, by rw [HN.out]; exact KB.out, KS.out, KZ.out, Kb.out⟩
          case measure => simp [intOf]; omega
    · obtain rfl : k = 32 := by omega
      have hl32 : (regL (F 32)).length = 32 := by rw [regL, List.length_map, RL.out, hz]
      have hi3 : (Try.prog.info? 43).map (·.size) = some (regL (F 32)).length := by rw [hl32]; exact regs_info
      have hi4 : (Try.prog.info? 43).map (·.size) = some (regL (F 32)).toArray.size := by rw [List.size_toArray, hl32]; exact regs_info
      have hz4 : z32.length = (regL (F 32)).toArray.size := by rw [List.size_toArray, hl32]; rfl
      have HI3 := Lib.hid hi3
      have HI4 := Lib.hid (And.intro hi4 (And.intro hz4 (regL_one (F 32))))
      clear hi3 hi4 hz4 hl32 c2 c3 c7
      go_wp2_with (first
        | (refine wpList_load_mid rfl 43 (.tmp 5) rfl (w.heap.size + 1 + 1 + 1) 0 rfl (regL (F 32)) _ KB.out.range Try.underlying43 rfl HI3.out ?_)
        | (refine wpList_store_blk rfl 43 (.tmp 4) (.tmp 25) rfl (w.heap.size + 1 + 1) z32 (regL (F 32)).toArray KZ.out HI4.out.2.1 rfl rfl HI4.out.1 HI4.out.2.2 ?_; intro W2 hB2 hO2 hbl2 hs2))
      exact bodyPost_ret (v := .agg (regL (F 32)).toArray) (results_cell_blk Try.results23 _ W2 (w.heap.size + 1 + 1) (regL (F 32)) _ rfl hB2 Try.underlying43 rfl HI3.out) rfl ⟨by rw [RE.out], Kb.out.trans (hbl2 _ (by omega))⟩

end Go.Proofs.Ytjhkebabbldfcaa
