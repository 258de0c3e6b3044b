import Derived.Test.YtaokhegbfaokdaaDoorInstRng
import Derived.Test.YtaokhegbfaokdaaDoorExecT
import Derived.Test.YtaokhegbfaokdaaDoorMemB
import Derived.Test.YtaokhegbfaokdaaDoorArgB
import Derived.Test.YtaokhegbfaokdaaDoorStoB
import Derived.Deep.QuietTactic
import Derived.BigQuiet
/- THE MATHEMATICS of package seq: one instruction, a run of them. -/
namespace Go.Proofs.YtaokhegbfaokdaaDoor
open Go.ChangeShapes Go.WideShapes Go.ChangeAt Go.RowKit
set_option maxRecDepth 100000
set_option linter.unusedVariables false

/-- a sequential run -/
structure Sq where
  pc : Int
  regs : List Int
  mem : ByteArray
  halt : Int
def sqC (s : Sq) : List Value := .int .u32 s.pc :: (regL s.regs ++ [.string s.mem, .int .i64 s.halt])
def sqV (s : Sq) : Value := .agg (sqC s).toArray
def sqOK (s : Sq) : Prop := (0 ≤ s.pc ∧ s.pc < 4294967296) ∧ s.regs.length = 32 ∧ (∀ z ∈ s.regs, 0 ≤ z ∧ z < 4294967296) ∧ s.mem.size ≤ 1000
theorem sqC_len {s : Sq} (h : s.regs.length = 32) : (sqC s).length = 35 := by unfold sqC regL; simp [h]
def zeroSt : St := ⟨0, 0, 0, 0, 0, 0, false, 0, 0⟩

/-- an instruction -/
structure Ins where
  op : Int
  rd : Int
  rs1 : Int
  rs2 : Int
  imm : Int
def inC (i : Ins) : List Value := [.int .i64 i.op, .int .i64 i.rd, .int .i64 i.rs1, .int .i64 i.rs2, .int .u32 i.imm]
def inV (i : Ins) : Value := .agg #[.int .i64 i.op, .int .i64 i.rd, .int .i64 i.rs1, .int .i64 i.rs2, .int .u32 i.imm]
/-- what a word tells -/
def insOf (a : Int) : Ins := ⟨(chR a).1, gth a (rdL (chR a).2.1), gth a (rs1L (chR a).2.1), gth a (rs2L (chR a).2.1), numV a (chR a).2.1⟩
def insOK (i : Ins) : Prop := (1 ≤ i.op ∧ i.op ≤ 48) ∧ (0 ≤ i.rd ∧ i.rd ≤ 31) ∧ (0 ≤ i.rs1 ∧ i.rs1 ≤ 31) ∧ (0 ≤ i.rs2 ∧ i.rs2 ≤ 31) ∧ (0 ≤ i.imm ∧ i.imm < 4294967296) ∧ (0 ≤ wrI i.op i.rd ∧ wrI i.op i.rd ≤ 31) ∧ (kindI i.op = 4 → wrI i.op i.rd = 0)
theorem insOf_ok (a : Int) (h : chB a = true) : insOK (insOf a) := by
  have ok := kindW_ok a h
  have hw := wrW_ok a h
  unfold kindOK at ok
  obtain ⟨_, _, _, h4, _, _, _, _, _, _, _, _, _, _, _, _, _, o1, o2⟩ := ok
  have r := rd_range a (chR a).2.1
  unfold insOK insOf
  refine ⟨⟨o1, o2⟩, r, rs1_range a _, rs2_range a _, numV_range a _, by rw [hw]; exact r, fun hk => ?_⟩
  rw [hw]
  simp only at hk
  rw [h4 hk, gth_nil]

/-- how an instruction ends: halted, or written -/
def haltS (s : Sq) (why addr : Int) : Sq × St := ({ s with halt := why }, ⟨s.pc, s.pc, 0, 0, addr, 0, false, why, 0⟩)
def wrote (s : Sq) (op rd next value : Int) (t : St) : Sq × St :=
  ({ s with pc := next, regs := if wrI op rd = 0 then s.regs else s.regs.set (wrI op rd).toNat value },
   { t with pc := s.pc, next := next, rd := wrI op rd, value := if wrI op rd = 0 then t.value else value })
def rg (l : List Int) (k : Int) : Int := l.getD k.toNat 0
/-- a load or a store -/
def accS (s : Sq) (i : Ins) (addr b : Int) : Sq × St :=
  if rtB s.mem.size addr (sizeOp i.op) = false then haltS s (if kindI i.op = 4 then 5 else 4) addr
  else if kindI i.op = 4 then
    wrote { s with mem := if rtB s.mem.size addr (stoS b (sizeOp i.op)).size then wrS s.mem (stoS b (sizeOp i.op)) addr.toNat else ByteArray.empty } i.op i.rd ((s.pc + 4) % 4294967296) 0 ⟨0, 0, 0, stoV b (sizeOp i.op), addr, sizeOp i.op, true, 0, 0⟩
  else wrote s i.op i.rd ((s.pc + 4) % 4294967296) (ldV i.op (s.mem.extract addr.toNat (addr + sizeOp i.op).toNat)) ⟨0, 0, 0, 0, addr, sizeOp i.op, false, 0, 0⟩
/-- an instruction that was fetched -/
def doS (s : Sq) (i : Ins) : Sq × St :=
  let x := rg s.regs i.rs1
  let y := rg s.regs i.rs2
  if kindI i.op = 3 ∨ kindI i.op = 4 then accS s i ((x + i.imm) % 4294967296) y
  else if kindI i.op = 5 then (if nextW i.op i.imm s.pc x y % 4 = 0 then wrote s i.op i.rd (nextW i.op i.imm s.pc x y) (valW i.op i.imm s.pc x y) zeroSt else haltS s 3 0)
  else if kindI i.op = 2 then wrote s i.op i.rd ((s.pc + 4) % 4294967296) (valW i.op i.imm s.pc x y) { zeroSt with took := tookW i.op x y }
  else wrote s i.op i.rd ((s.pc + 4) % 4294967296) (valW i.op i.imm s.pc x y) zeroSt
/-- why nothing is done at a place (0: an instruction is) -/
def whyS (zs : List Int) (pc : Int) : Int :=
  if ftB zs.length pc = false then 1 else if chB (ftV zs zs.length pc) = false then 2
  else if (insOf (ftV zs zs.length pc)).op = 47 then 6 else if (insOf (ftV zs zs.length pc)).op = 48 then 7 else 0
/-- one instruction -/
def stepS (zs : List Int) (s : Sq) : Sq × St :=
  if s.halt ≠ 0 then (s, zeroSt) else if whyS zs s.pc ≠ 0 then haltS s (whyS zs s.pc) 0 else doS s (insOf (ftV zs zs.length s.pc))
/-- so many, until it halts -/
def runS (zs : List Int) : Nat → Sq → Sq × List St
  | 0, s => (s, [])
  | n + 1, s => if s.halt ≠ 0 then (s, []) else ((runS zs n (stepS zs s).1).1, (stepS zs s).2 :: (runS zs n (stepS zs s).1).2)
def newS (m : ByteArray) : Sq := ⟨0, List.replicate 32 0, clS m, 0⟩

theorem runS_halted (zs : List Int) (n : Nat) (s : Sq) (h : s.halt ≠ 0) : runS zs n s = (s, []) := by
  cases n
  · rfl
  · unfold runS; rw [if_pos h]
theorem runS_goes (zs : List Int) (n : Nat) (s : Sq) (h : s.halt = 0) : runS zs (n + 1) s = ((runS zs n (stepS zs s).1).1, (stepS zs s).2 :: (runS zs n (stepS zs s).1).2) := by
  show (if s.halt ≠ 0 then _ else _) = _
  rw [if_neg (by simp [h])]
/-- a run, gone on with -/
theorem runS_add (zs : List Int) : ∀ (n m : Nat) (s : Sq), runS zs (n + m) s = ((runS zs m (runS zs n s).1).1, (runS zs n s).2 ++ (runS zs m (runS zs n s).1).2)
  | 0, m, s => by rw [Nat.zero_add]; rfl
  | n + 1, m, s => by
    by_cases h : s.halt = 0
    · rw [show n + 1 + m = (n + m) + 1 by omega, runS_goes zs _ s h, runS_goes zs _ s h, runS_add zs n m]
      rfl
    · rw [runS_halted zs _ s h, runS_halted zs _ s h, runS_halted zs _ s h]
      rfl
theorem runS_snoc (zs : List Int) (n : Nat) (s : Sq) (h : (runS zs n s).1.halt = 0) : runS zs (n + 1) s = ((stepS zs (runS zs n s).1).1, (runS zs n s).2 ++ [(stepS zs (runS zs n s).1).2]) := by
  rw [runS_add zs n 1 s, runS_goes zs 0 _ h]
  rfl
theorem runS_len (zs : List Int) : ∀ (n : Nat) (s : Sq), (runS zs n s).2.length ≤ n
  | 0, s => Nat.le_refl _
  | n + 1, s => by
    by_cases h : s.halt = 0
    · rw [runS_goes zs n s h]
      simp only [List.length_cons]
      have := runS_len zs n (stepS zs s).1
      omega
    · rw [runS_halted zs _ s h]; simp
/-- a run that goes on has made all steps -/
theorem runS_all (zs : List Int) : ∀ (n : Nat) (s : Sq), (runS zs n s).1.halt = 0 → (runS zs n s).2.length = n
  | 0, s, _ => rfl
  | n + 1, s, h => by
    by_cases h0 : s.halt = 0
    · rw [runS_goes zs n s h0] at h ⊢
      simp only [List.length_cons]
      rw [runS_all zs n _ h]
    · rw [runS_halted zs _ s h0] at h
      exact absurd h h0

theorem haltS_ok {s : Sq} (h : sqOK s) (why addr : Int) : sqOK (haltS s why addr).1 := h
theorem set_bound {l : List Int} (h : ∀ z ∈ l, 0 ≤ z ∧ z < 4294967296) {v : Int} (hv : 0 ≤ v ∧ v < 4294967296) (k : Nat) : ∀ z ∈ l.set k v, 0 ≤ z ∧ z < 4294967296 := by
  intro z hz
  rcases List.mem_or_eq_of_mem_set hz with h1 | rfl
  · exact h z h1
  · exact hv
theorem wrote_ok {s : Sq} (h : sqOK s) (op rd : Int) {next value : Int} (hn : 0 ≤ next ∧ next < 4294967296) (hv : wrI op rd = 0 ∨ (0 ≤ value ∧ value < 4294967296)) (t : St) : sqOK (wrote s op rd next value t).1 := by
  obtain ⟨h1, h2, h3, h4⟩ := h
  unfold wrote sqOK
  refine ⟨hn, ?_, ?_, h4⟩
  · simp only
    split
    · exact h2
    · rw [List.length_set]; exact h2
  · simp only
    split
    · exact h3
    · rename_i hne
      rcases hv with hv | hv
      · exact absurd hv hne
      · exact set_bound h3 hv _
theorem rg_range {l : List Int} (h : ∀ z ∈ l, 0 ≤ z ∧ z < 4294967296) (k : Int) : 0 ≤ rg l k ∧ rg l k < 4294967296 := by
  unfold rg
  rw [List.getD_eq_getElem?_getD]
  cases hk : l[k.toNat]? with
  | none => simp
  | some z => exact h z (List.mem_of_getElem? hk)
end Go.Proofs.YtaokhegbfaokdaaDoor

/- THE CONTRACTS of seq.halted, seq.wrote, seq.fetched, seq.New. -/
namespace Go.Proofs.YtaokhegbfaokdaaDoor
open Go.ChangeShapes Go.WideShapes Go.ChangeAt Go.RowKit Go.Sort
set_option linter.unusedVariables false
set_option linter.unusedSimpArgs false
set_option maxHeartbeats 2000000
set_option maxRecDepth 100000

theorem sq_info : (Tryd.prog.info? 34).map (·.size) = some 35 := by kernel_rfl
theorem st_info : (Tryd.prog.info? 36).map (·.size) = some 9 := by kernel_rfl
theorem in_info : (Tryd.prog.info? 25).map (·.size) = some 5 := by kernel_rfl
theorem sqC_one (s : Sq) : (sqC s).toArray.all (·.oneCell') = true := all_oneCell_toArray (fun v hv => by
  unfold sqC at hv
  rcases List.mem_cons.1 hv with rfl | hv
  · rfl
  · rcases List.mem_append.1 hv with hv | hv
    · obtain ⟨z, _, rfl⟩ := List.mem_map.1 hv
      rfl
    · simp only [List.mem_cons, List.not_mem_nil, or_false] at hv
      rcases hv with rfl | rfl <;> rfl)
theorem stC_one (s : St) : (stC s).toArray.all (·.oneCell') = true := all_oneCell_toArray (fun v hv => by
  unfold stC at hv
  simp only [List.mem_cons, List.not_mem_nil, or_false] at hv
  rcases hv with rfl | rfl | rfl | rfl | rfl | rfl | rfl | rfl | rfl <;> rfl)
theorem sqC_pc (s : Sq) : (sqC s)[0]? = some (.int .u32 s.pc) := rfl
theorem sqC_reg {s : Sq} (h : s.regs.length = 32) (k : Nat) (hk : k < 32) : (sqC s)[k + 1]? = some (.int .u32 (s.regs.getD k 0)) := by
  unfold sqC regL
  rw [List.getElem?_cons_succ, List.getElem?_append_left (by simp [h, hk]), List.getElem?_map, List.getD_eq_getElem?_getD, List.getElem?_eq_getElem (by omega)]
  rfl
theorem sqC_mem {s : Sq} (h : s.regs.length = 32) : (sqC s)[33]? = some (.string s.mem) := by
  unfold sqC regL
  rw [List.getElem?_cons_succ, List.getElem?_append_right (by simp [h])]
  simp [h]
theorem sqC_halt {s : Sq} (h : s.regs.length = 32) : (sqC s)[34]? = some (.int .i64 s.halt) := by
  unfold sqC regL
  rw [List.getElem?_cons_succ, List.getElem?_append_right (by simp [h])]
  simp [h]
theorem sqC_setHalt {s : Sq} (h : s.regs.length = 32) (v : Int) : (sqC s).set 34 (.int .i64 v) = sqC { s with halt := v } := by
  unfold sqC regL
  rw [List.set_cons_succ, List.set_append_right _ _ (by simp [h])]
  simp [h]
theorem sqC_setMem {s : Sq} (h : s.regs.length = 32) (v : ByteArray) : (sqC s).set 33 (.string v) = sqC { s with mem := v } := by
  unfold sqC regL
  rw [List.set_cons_succ, List.set_append_right _ _ (by simp [h])]
  simp [h]
theorem sqC_setPc (s : Sq) (v : Int) : (sqC s).set 0 (.int .u32 v) = sqC { s with pc := v } := rfl
theorem sqC_setReg {s : Sq} (h : s.regs.length = 32) (k : Nat) (hk : k < 32) (v : Int) : (sqC s).set (k + 1) (.int .u32 v) = sqC { s with regs := s.regs.set k v } := by
  unfold sqC regL
  rw [List.set_cons_succ, List.set_append_left _ _ (by simp [h, hk]), List.map_set]
/-- two results that lie in blocks -/
theorem results_cell_two {P : Program} {fn : Func} {p q : Tmp} {ty tz : TypeId} (h : fn.results = #[.cell p ty, .cell q tz]) (tmps : Array Value) (w : World) (b c : Nat) (cs ds : List Value) (d e : TypeDesc)
    (hp : tmps.getD p undef = .pointer (some ⟨b, 0, none⟩)) (hq : tmps.getD q undef = .pointer (some ⟨c, 0, none⟩)) (hB : Blk w b cs) (hD : Blk w c ds) (hu : P.underlying ty = some d) (hd : d.isRow = true) (hi : (P.info? ty).map (·.size) = some cs.length)
    (hv : P.underlying tz = some e) (he : e.isRow = true) (hj : (P.info? tz).map (·.size) = some ds.length) :
    (results fn tmps).run P w = .ok (.tuple #[.agg cs.toArray, .agg ds.toArray]) w := by
  have hp' : tmps[p]?.getD undef = .pointer (some ⟨b, 0, none⟩) := by simpa using hp
  have hq' : tmps[q]?.getD undef = .pointer (some ⟨c, 0, none⟩) := by simpa using hq
  simp [results, h, hp', hq', asAddr, run_loadVar_mid w b 0 ty cs d hB.range hu hd hi, run_loadVar_mid w c 0 tz ds e hD.range hv he hj]

def z35 : List Value := [.int .u32 0, .int .u32 0, .int .u32 0, .int .u32 0, .int .u32 0, .int .u32 0, .int .u32 0, .int .u32 0, .int .u32 0, .int .u32 0, .int .u32 0, .int .u32 0, .int .u32 0, .int .u32 0, .int .u32 0, .int .u32 0, .int .u32 0, .int .u32 0, .int .u32 0, .int .u32 0, .int .u32 0, .int .u32 0, .int .u32 0, .int .u32 0, .int .u32 0, .int .u32 0, .int .u32 0, .int .u32 0, .int .u32 0, .int .u32 0, .int .u32 0, .int .u32 0, .int .u32 0, .string ⟨#[]⟩, .int .i64 0]
def z9 : List Value := [.int .u32 0, .int .u32 0, .int .i64 0, .int .u32 0, .int .u32 0, .int .i64 0, .bool false, .int .i64 0, .int .i64 0]
theorem three_allocs (w : World) (X Y Z : List Value) (t u v : TypeId) :
    Blk (((w.alloc (.cells X.toArray t)).alloc (.cells Y.toArray u)).alloc (.cells Z.toArray v)) w.heap.size X ∧ Blk (((w.alloc (.cells X.toArray t)).alloc (.cells Y.toArray u)).alloc (.cells Z.toArray v)) (w.heap.size + 1) Y ∧
    Blk (((w.alloc (.cells X.toArray t)).alloc (.cells Y.toArray u)).alloc (.cells Z.toArray v)) (w.heap.size + 1 + 1) Z ∧ Below w.heap.size w (((w.alloc (.cells X.toArray t)).alloc (.cells Y.toArray u)).alloc (.cells Z.toArray v)) := by
  have s1 : (w.alloc (.cells X.toArray t)).heap.size = w.heap.size + 1 := by simp
  have s2 : ((w.alloc (.cells X.toArray t)).alloc (.cells Y.toArray u)).heap.size = w.heap.size + 1 + 1 := by simp
  have b1 : Below (w.heap.size + 1) (w.alloc (.cells X.toArray t)) (((w.alloc (.cells X.toArray t)).alloc (.cells Y.toArray u)).alloc (.cells Z.toArray v)) := (((Below.refl _ _).alloc (by rw [s1]; exact Nat.le_refl _) _).alloc (by rw [s2]; omega) _)
  have b2 : Below (w.heap.size + 1 + 1) ((w.alloc (.cells X.toArray t)).alloc (.cells Y.toArray u)) (((w.alloc (.cells X.toArray t)).alloc (.cells Y.toArray u)).alloc (.cells Z.toArray v)) := (Below.refl _ _).alloc (by rw [s2]; exact Nat.le_refl _) _
  refine ⟨(Blk.new w t X).below b1 (Nat.lt_succ_self _), ?_, ?_, ?_⟩
  · have := Blk.new (w.alloc (.cells X.toArray t)) u Y
    rw [s1] at this
    exact this.below b2 (Nat.lt_succ_self _)
  · have := Blk.new ((w.alloc (.cells X.toArray t)).alloc (.cells Y.toArray u)) v Z
    rwa [s2] at this
  · exact (((Below.refl _ _).alloc (Nat.le_refl _) _).alloc (by rw [s1]; omega) _).alloc (by rw [s2]; omega) _

end Go.Proofs.YtaokhegbfaokdaaDoor

/- THE CONTRACT of seq.fetched. -/
namespace Go.Proofs.YtaokhegbfaokdaaDoor
open Go.ChangeShapes Go.WideShapes Go.ChangeAt Go.RowKit Go.Sort
set_option linter.unusedVariables false
set_option linter.unusedSimpArgs false
set_option maxHeartbeats 2000000
set_option maxRecDepth 100000

/-- a result that lies in a block, and one in a slot -/
theorem results_cell_slot {P : Program} {fn : Func} {p q : Tmp} {ty : TypeId} (h : fn.results = #[.cell p ty, .tmp q]) (tmps : Array Value) (w : World) (b : Nat) (cs : List Value) (d : TypeDesc) (v : Value)
    (hp : tmps.getD p undef = .pointer (some ⟨b, 0, none⟩)) (hq : tmps.getD q undef = v) (hB : Blk w b cs) (hu : P.underlying ty = some d) (hd : d.isRow = true) (hi : (P.info? ty).map (·.size) = some cs.length) :
    (results fn tmps).run P w = .ok (.tuple #[.agg cs.toArray, v]) w := by
  have hp' : tmps[p]?.getD undef = .pointer (some ⟨b, 0, none⟩) := by simpa using hp
  have hq' : tmps[q]?.getD undef = v := by simpa using hq
  simp [results, h, hp', hq', asAddr, run_loadVar_mid w b 0 ty cs d hB.range hu hd hi]
def fetV (zs : List Int) (pc : Int) : Value := if whyS zs pc = 1 ∨ whyS zs pc = 2 then zeroAgg else inV (insOf (ftV zs zs.length pc))
theorem decV_in (a : Int) (h : chB a = true) : decV a = inV (insOf a) := by rw [(decV_yes h).1]; rfl
theorem ftV_range {zs : List Int} (h : ∀ z ∈ zs, 0 ≤ z ∧ z < 4294967296) (n : Nat) (pc : Int) : 0 ≤ ftV zs n pc ∧ ftV zs n pc < 4294967296 := by
  unfold ftV
  split
  · rw [List.getD_eq_getElem?_getD]
    cases hk : zs[(pc / 4).toNat]? with
    | none => simp
    | some z => exact h z (List.mem_of_getElem? hk)
  · omega
theorem in5_one (i : Ins) : (inC i).toArray.all (·.oneCell') = true := all_oneCell_toArray (fun v hv => by
  unfold inC at hv
  simp only [List.mem_cons, List.not_mem_nil, or_false] at hv
  rcases hv with rfl | rfl | rfl | rfl | rfl <;> rfl)
def z5 : List Value := [.int .i64 0, .int .i64 0, .int .i64 0, .int .i64 0, .int .u32 0]

end Go.Proofs.YtaokhegbfaokdaaDoor

/- THE CONTRACT of seq.access. -/
namespace Go.Proofs.YtaokhegbfaokdaaDoor
open Go.ChangeShapes Go.WideShapes Go.ChangeAt Go.RowKit Go.Sort
set_option linter.unusedVariables false
set_option linter.unusedSimpArgs false
set_option maxHeartbeats 4000000
set_option maxRecDepth 100000

theorem stoS_small (b n : Int) : (stoS b n).size ≤ 4 := by
  unfold stoS
  split
  · rename_i h
    have h1 : (strOfNums (bytL b n.toNat)).size = n.toNat := by simp [strOfNums, bytL, ByteArray.size]
    omega
  · simp
theorem wrote_len {s : Sq} (h : s.regs.length = 32) (op rd next value : Int) (t : St) : (wrote s op rd next value t).1.regs.length = 32 := by
  unfold wrote
  show (if _ then _ else _ : List Int).length = 32
  split
  · exact h
  · rw [List.length_set]; exact h
theorem accS_len {s : Sq} (h : s.regs.length = 32) (i : Ins) (addr b : Int) : (accS s i addr b).1.regs.length = 32 := by
  unfold accS
  split
  · exact h
  · split
    · exact wrote_len (by exact h) _ _ _ _ _
    · exact wrote_len h _ _ _ _ _
end Go.Proofs.YtaokhegbfaokdaaDoor

/- THE CONTRACT of seq.Step. -/
namespace Go.Proofs.YtaokhegbfaokdaaDoor
open Go.ChangeShapes Go.WideShapes Go.ChangeAt Go.RowKit Go.Sort
set_option linter.unusedVariables false
set_option linter.unusedSimpArgs false
set_option maxHeartbeats 4000000
set_option maxRecDepth 100000

theorem doS_len {s : Sq} (h : s.regs.length = 32) (i : Ins) : (doS s i).1.regs.length = 32 := by
  unfold doS
  simp only
  split
  · exact accS_len h _ _ _
  · split
    · split
      · exact wrote_len h _ _ _ _ _
      · exact h
    · split
      · exact wrote_len h _ _ _ _ _
      · exact wrote_len h _ _ _ _ _
theorem stepS_len {s : Sq} (h : s.regs.length = 32) (zs : List Int) : (stepS zs s).1.regs.length = 32 := by
  unfold stepS
  split
  · exact h
  · split
    · exact h
    · exact doS_len h _
end Go.Proofs.YtaokhegbfaokdaaDoor

/- THE MATHEMATICS of package seq, further: what a run keeps; its steps with the runs behind them. -/
namespace Go.Proofs.YtaokhegbfaokdaaDoor
open Go.ChangeShapes Go.WideShapes Go.ChangeAt Go.RowKit
set_option maxRecDepth 100000
set_option linter.unusedVariables false

theorem mulW_range (op a b : Int) (ha : 0 ≤ a) (ha' : a < 4294967296) (hb : 0 ≤ b) (hb' : b < 4294967296) : 0 ≤ mulW op a b ∧ mulW op a b < 4294967296 := by
  unfold mulW
  have := prod_lt a b ha ha' hb hb'
  repeat' split
  all_goals omega
theorem valW_range (op imm pc a b : Int) (hi : 0 ≤ imm) (hi' : imm < 4294967296) (ha : 0 ≤ a) (ha' : a < 4294967296) (hb : 0 ≤ b) (hb' : b < 4294967296) : 0 ≤ valW op imm pc a b ∧ valW op imm pc a b < 4294967296 := by
  unfold valW
  have h1 := mulW_range op a b ha ha' hb hb'
  have h2 := divW_range op a b ha ha' hb hb'
  have h3 := aluDo_range (b := imm) op ha ha' hi hi'
  have h4 := aluDo_range (b := b) op ha ha' hb hb'
  repeat' split
  all_goals first | omega | exact h3 | exact h4
theorem nextW_range (op imm pc a b : Int) : 0 ≤ nextW op imm pc a b ∧ nextW op imm pc a b < 4294967296 := by
  unfold nextW
  repeat' split
  all_goals omega
theorem ldV_range (op : Int) (s : ByteArray) : 0 ≤ ldV op s ∧ ldV op s < 4294967296 := by
  unfold ldV
  split
  · rename_i h
    have h4 : s.data.toList.length ≤ 4 := by
      have h1 : s.data.toList.length = s.size := rfl
      have : sizeOp op ≤ 4 := by unfold sizeOp; split; omega; split; omega; split <;> omega
      omega
    have hj := joinN_lt32 h4
    split
    · have := sxt_lt (joinN s.data.toList : Nat) (8 * (s.size : Int)) (by omega)
      omega
    · omega
  · omega
theorem stoV_range (b n : Int) : 0 ≤ stoV b n ∧ stoV b n < 4294967296 := by
  unfold stoV
  split
  · rename_i h
    have hj := joinN_lt32 (l := (stoS b n).data.toList) h
    omega
  · omega
theorem wrote_fst (s : Sq) (op rd next value : Int) (t : St) : (wrote s op rd next value t).1.mem = s.mem ∧ (wrote s op rd next value t).1.halt = s.halt ∧ (wrote s op rd next value t).1.pc = next := ⟨rfl, rfl, rfl⟩
/-- a store keeps the size -/
theorem store_size (m D : ByteArray) (addr : Int) (h0 : 0 ≤ addr) : (if rtB m.size addr D.size = true then wrS m D addr.toNat else ByteArray.empty).size ≤ m.size ∧ (rtB m.size addr D.size = true → (if rtB m.size addr D.size = true then wrS m D addr.toNat else ByteArray.empty).size = m.size) := by
  cases h : rtB m.size addr D.size
  · simp
  · obtain ⟨_, _, h3⟩ := rtB_facts h
    simp only [if_true]
    rw [wr_size m D addr.toNat (by omega)]
    exact ⟨Nat.le_refl _, fun _ => rfl⟩
theorem accS_ok {s : Sq} (h : sqOK s) {i : Ins} (hi : insOK i) (addr b : Int) (h0 : 0 ≤ addr) : sqOK (accS s i addr b).1 := by
  obtain ⟨⟨p0, p1⟩, h2, h3, h4⟩ := h
  unfold accS
  split
  · exact ⟨⟨p0, p1⟩, h2, h3, h4⟩
  · split
    · rename_i hk
      have hq : sqOK { s with mem := (if rtB s.mem.size addr (stoS b (sizeOp i.op)).size then wrS s.mem (stoS b (sizeOp i.op)) addr.toNat else ByteArray.empty) } := ⟨⟨p0, p1⟩, h2, h3, Nat.le_trans (store_size s.mem _ addr h0).1 h4⟩
      exact wrote_ok hq _ _ ⟨by omega, by omega⟩ (Or.inl (hi.2.2.2.2.2.2 hk)) _
    · exact wrote_ok ⟨⟨p0, p1⟩, h2, h3, h4⟩ _ _ ⟨by omega, by omega⟩ (Or.inr (ldV_range _ _)) _
theorem doS_ok {s : Sq} (h : sqOK s) {i : Ins} (hi : insOK i) : sqOK (doS s i).1 := by
  have hx := rg_range h.2.2.1 i.rs1
  have hy := rg_range h.2.2.1 i.rs2
  have hv := valW_range i.op i.imm s.pc (rg s.regs i.rs1) (rg s.regs i.rs2) hi.2.2.2.2.1.1 hi.2.2.2.2.1.2 hx.1 hx.2 hy.1 hy.2
  have hn := nextW_range i.op i.imm s.pc (rg s.regs i.rs1) (rg s.regs i.rs2)
  unfold doS
  simp only
  split
  · exact accS_ok h hi _ _ (by omega)
  · split
    · split
      · exact wrote_ok h _ _ hn (Or.inr hv) _
      · exact h
    · split
      · exact wrote_ok h _ _ ⟨by omega, by omega⟩ (Or.inr hv) _
      · exact wrote_ok h _ _ ⟨by omega, by omega⟩ (Or.inr hv) _
theorem why_zero {zs : List Int} {pc : Int} (h : whyS zs pc = 0) : ftB zs.length pc = true ∧ chB (ftV zs zs.length pc) = true ∧ (insOf (ftV zs zs.length pc)).op ≠ 47 ∧ (insOf (ftV zs zs.length pc)).op ≠ 48 := by
  unfold whyS at h
  cases h1 : ftB zs.length pc
  · rw [h1] at h; simp at h
  · rw [h1] at h
    cases h2 : chB (ftV zs zs.length pc)
    · rw [h2] at h; simp at h
    · rw [h2, if_neg (by simp), if_neg (by simp)] at h
      refine ⟨rfl, rfl, fun h3 => ?_, fun h3 => ?_⟩
      · rw [if_pos h3] at h; omega
      · rw [h3] at h; simp at h
theorem stepS_ok {zs : List Int} {s : Sq} (h : sqOK s) : sqOK (stepS zs s).1 := by
  unfold stepS
  split
  · exact h
  · split
    · exact h
    · rename_i hy
      exact doS_ok h (insOf_ok _ (why_zero (by simpa using hy)).2.1)
theorem runS_ok {zs : List Int} : ∀ (n : Nat) {s : Sq}, sqOK s → sqOK (runS zs n s).1
  | 0, _, h => h
  | n + 1, s, h => by
    by_cases h0 : s.halt = 0
    · rw [runS_goes zs n s h0]; exact runS_ok n (stepS_ok h)
    · rw [runS_halted zs _ s h0]; exact h
theorem newS_ok {m : ByteArray} (hm : m.size ≤ 1000) : sqOK (newS m) := by
  refine ⟨⟨Int.le_refl 0, by show (0 : Int) < 4294967296; decide⟩, by simp [newS], fun z hz => ?_, ?_⟩
  · have := List.eq_of_mem_replicate hz
    subst this
    decide
  · show (clS m).size ≤ 1000
    rw [clS_size]
    have := clN_of (min m.size 256)
    omega
/-- the steps with the runs behind them -/
def pairS (zs : List Int) : Nat → Sq → List (Sq × St)
  | 0, _ => []
  | n + 1, s => if s.halt ≠ 0 then [] else stepS zs s :: pairS zs n (stepS zs s).1
theorem pairS_halted (zs : List Int) (n : Nat) (s : Sq) (h : s.halt ≠ 0) : pairS zs n s = [] := by
  cases n
  · rfl
  · unfold pairS; rw [if_pos h]
theorem pairS_goes (zs : List Int) (n : Nat) (s : Sq) (h : s.halt = 0) : pairS zs (n + 1) s = stepS zs s :: pairS zs n (stepS zs s).1 := by
  show (if s.halt ≠ 0 then _ else _) = _
  rw [if_neg (by simp [h])]
theorem pairS_add (zs : List Int) : ∀ (n m : Nat) (s : Sq), pairS zs (n + m) s = pairS zs n s ++ pairS zs m (runS zs n s).1
  | 0, m, s => by rw [Nat.zero_add]; rfl
  | n + 1, m, s => by
    by_cases h : s.halt = 0
    · rw [show n + 1 + m = (n + m) + 1 by omega, pairS_goes zs _ s h, pairS_goes zs _ s h, pairS_add zs n m, runS_goes zs n s h]
      rfl
    · rw [pairS_halted zs _ s h, pairS_halted zs _ s h, runS_halted zs _ s h, pairS_halted zs _ s h]
      rfl
theorem pairS_snoc (zs : List Int) (n : Nat) (s : Sq) (h : (runS zs n s).1.halt = 0) : pairS zs (n + 1) s = pairS zs n s ++ [stepS zs (runS zs n s).1] := by
  rw [pairS_add zs n 1 s, pairS_goes zs 0 _ h]
  rfl
theorem pairS_prefix (zs : List Int) (n m : Nat) (s : Sq) (h : n ≤ m) : pairS zs n s <+: pairS zs m s := by
  rw [show m = n + (m - n) by omega, pairS_add]
  exact List.prefix_append _ _
theorem pairS_stop (zs : List Int) (n m : Nat) (s : Sq) (h : n ≤ m) (hh : (runS zs n s).1.halt ≠ 0) : pairS zs m s = pairS zs n s := by
  rw [show m = n + (m - n) by omega, pairS_add, pairS_halted zs _ _ hh, List.append_nil]
theorem pairS_steps (zs : List Int) : ∀ (n : Nat) (s : Sq), (pairS zs n s).map (·.2) = (runS zs n s).2
  | 0, _ => rfl
  | n + 1, s => by
    by_cases h : s.halt = 0
    · rw [pairS_goes zs n s h, runS_goes zs n s h, List.map_cons, pairS_steps zs n]
    · rw [pairS_halted zs _ s h, runS_halted zs _ s h]; rfl
theorem pairS_len (zs : List Int) (n : Nat) (s : Sq) : (pairS zs n s).length ≤ n := by
  have := congrArg List.length (pairS_steps zs n s)
  rw [List.length_map] at this
  rw [this]
  exact runS_len zs n s
/-- the run behind the last of them -/
def lastS (s : Sq) : List (Sq × St) → Sq
  | [] => s
  | x :: r => lastS x.1 r
theorem lastS_snoc (s : Sq) (x : Sq × St) : ∀ l, lastS s (l ++ [x]) = x.1
  | [] => rfl
  | y :: r => by show lastS y.1 (r ++ [x]) = x.1; exact lastS_snoc y.1 x r
theorem lastS_pairS (zs : List Int) : ∀ (n : Nat) (s : Sq), lastS s (pairS zs n s) = (runS zs n s).1
  | 0, _ => rfl
  | n + 1, s => by
    by_cases h : s.halt = 0
    · rw [pairS_goes zs n s h, runS_goes zs n s h]
      exact lastS_pairS zs n _
    · rw [pairS_halted zs _ s h, runS_halted zs _ s h]; rfl
theorem pairS_ok {zs : List Int} : ∀ (n : Nat) {s : Sq}, sqOK s → ∀ x ∈ pairS zs n s, sqOK x.1
  | 0, _, _, x, hx => by cases hx
  | n + 1, s, h, x, hx => by
    by_cases h0 : s.halt = 0
    · rw [pairS_goes zs n s h0] at hx
      rcases List.mem_cons.1 hx with rfl | hx
      · exact stepS_ok h
      · exact pairS_ok n (stepS_ok h) x hx
    · rw [pairS_halted zs _ s h0] at hx
      cases hx
end Go.Proofs.YtaokhegbfaokdaaDoor
