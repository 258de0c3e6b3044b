import Derived.Test.YtkamljmopbocnaaGreatDoorInstRng
import Derived.Test.YtkamljmopbocnaaGreatDoorExecT
import Derived.Test.YtkamljmopbocnaaGreatDoorMemB
import Derived.Test.YtkamljmopbocnaaGreatDoorArgB
import Derived.Test.YtkamljmopbocnaaGreatDoorStoB
import Derived.Deep.QuietTactic
import Derived.BigQuiet
/- THE MATHEMATICS of package seq: one instruction, a run of them. -/
namespace Go.Proofs.YtkamljmopbocnaaGreatDoor
open Go.ChangeShapes Go.WideShapes Go.ChangeAt Go.RowKit
set_option maxRecDepth 100000
set_option linter.unusedVariables false

/-- a sequential run -/
structure Sq where
  pc : Int
  regs : List Int
  mem : ByteArray
  halt : Int
def sqC (s : Sq) : List Value := .int .u32 s.pc :: (regL s.regs ++ [.string s.mem, .int .i64 s.halt])
def sqV (s : Sq) : Value := .agg (sqC s).toArray
def sqOK (s : Sq) : Prop := (0 ≤ s.pc ∧ s.pc < 4294967296) ∧ s.regs.length = 32 ∧ (∀ z ∈ s.regs, 0 ≤ z ∧ z < 4294967296) ∧ s.mem.size ≤ 1000
theorem sqC_len {s : Sq} (h : s.regs.length = 32) : (sqC s).length = 35 := by unfold sqC regL; simp [h]
def zeroSt : St := ⟨0, 0, 0, 0, 0, 0, false, 0, 0⟩

/-- an instruction -/
structure Ins where
  op : Int
  rd : Int
  rs1 : Int
  rs2 : Int
  imm : Int
def inC (i : Ins) : List Value := [.int .i64 i.op, .int .i64 i.rd, .int .i64 i.rs1, .int .i64 i.rs2, .int .u32 i.imm]
def inV (i : Ins) : Value := .agg #[.int .i64 i.op, .int .i64 i.rd, .int .i64 i.rs1, .int .i64 i.rs2, .int .u32 i.imm]
/-- what a word tells -/
def insOf (a : Int) : Ins := ⟨(chR a).1, gth a (rdL (chR a).2.1), gth a (rs1L (chR a).2.1), gth a (rs2L (chR a).2.1), numV a (chR a).2.1⟩
def insOK (i : Ins) : Prop := (1 ≤ i.op ∧ i.op ≤ 48) ∧ (0 ≤ i.rd ∧ i.rd ≤ 31) ∧ (0 ≤ i.rs1 ∧ i.rs1 ≤ 31) ∧ (0 ≤ i.rs2 ∧ i.rs2 ≤ 31) ∧ (0 ≤ i.imm ∧ i.imm < 4294967296) ∧ (0 ≤ wrI i.op i.rd ∧ wrI i.op i.rd ≤ 31) ∧ (kindI i.op = 4 → wrI i.op i.rd = 0)
theorem insOf_ok (a : Int) (h : chB a = true) : insOK (insOf a) := by
  have ok := kindW_ok a h
  have hw := wrW_ok a h
  unfold kindOK at ok
  obtain ⟨_, _, _, h4, _, _, _, _, _, _, _, _, _, _, _, _, _, o1, o2⟩ := ok
  have r := rd_range a (chR a).2.1
  unfold insOK insOf
  refine ⟨⟨o1, o2⟩, r, rs1_range a _, rs2_range a _, numV_range a _, by rw [hw]; exact r, fun hk => ?_⟩
  rw [hw]
  simp only at hk
  rw [h4 hk, gth_nil]

/-- how an instruction ends: halted, or written -/
def haltS (s : Sq) (why addr : Int) : Sq × St := ({ s with halt := why }, ⟨s.pc, s.pc, 0, 0, addr, 0, false, why, 0⟩)
def wrote (s : Sq) (op rd next value : Int) (t : St) : Sq × St :=
  ({ s with pc := next, regs := if wrI op rd = 0 then s.regs else s.regs.set (wrI op rd).toNat value },
   { t with pc := s.pc, next := next, rd := wrI op rd, value := if wrI op rd = 0 then t.value else value })
def rg (l : List Int) (k : Int) : Int := l.getD k.toNat 0
/-- a load or a store -/
def accS (s : Sq) (i : Ins) (addr b : Int) : Sq × St :=
  if rtB s.mem.size addr (sizeOp i.op) = false then haltS s (if kindI i.op = 4 then 5 else 4) addr
  else if kindI i.op = 4 then
    wrote { s with mem := if rtB s.mem.size addr (stoS b (sizeOp i.op)).size then wrS s.mem (stoS b (sizeOp i.op)) addr.toNat else ByteArray.empty } i.op i.rd ((s.pc + 4) % 4294967296) 0 ⟨0, 0, 0, stoV b (sizeOp i.op), addr, sizeOp i.op, true, 0, 0⟩
  else wrote s i.op i.rd ((s.pc + 4) % 4294967296) (ldV i.op (s.mem.extract addr.toNat (addr + sizeOp i.op).toNat)) ⟨0, 0, 0, 0, addr, sizeOp i.op, false, 0, 0⟩
/-- an instruction that was fetched -/
def doS (s : Sq) (i : Ins) : Sq × St :=
  let x := rg s.regs i.rs1
  let y := rg s.regs i.rs2
  if kindI i.op = 3 ∨ kindI i.op = 4 then accS s i ((x + i.imm) % 4294967296) y
  else if kindI i.op = 5 then (if nextW i.op i.imm s.pc x y % 4 = 0 then wrote s i.op i.rd (nextW i.op i.imm s.pc x y) (valW i.op i.imm s.pc x y) zeroSt else haltS s 3 0)
  else if kindI i.op = 2 then wrote s i.op i.rd ((s.pc + 4) % 4294967296) (valW i.op i.imm s.pc x y) { zeroSt with took := tookW i.op x y }
  else wrote s i.op i.rd ((s.pc + 4) % 4294967296) (valW i.op i.imm s.pc x y) zeroSt
/-- why nothing is done at a place (0: an instruction is) -/
def whyS (zs : List Int) (pc : Int) : Int :=
  if ftB zs.length pc = false then 1 else if chB (ftV zs zs.length pc) = false then 2
  else if (insOf (ftV zs zs.length pc)).op = 47 then 6 else if (insOf (ftV zs zs.length pc)).op = 48 then 7 else 0
/-- one instruction -/
def stepS (zs : List Int) (s : Sq) : Sq × St :=
  if s.halt ≠ 0 then (s, zeroSt) else if whyS zs s.pc ≠ 0 then haltS s (whyS zs s.pc) 0 else doS s (insOf (ftV zs zs.length s.pc))
/-- so many, until it halts -/
def runS (zs : List Int) : Nat → Sq → Sq × List St
  | 0, s => (s, [])
  | n + 1, s => if s.halt ≠ 0 then (s, []) else ((runS zs n (stepS zs s).1).1, (stepS zs s).2 :: (runS zs n (stepS zs s).1).2)
def newS (m : ByteArray) : Sq := ⟨0, List.replicate 32 0, clS m, 0⟩

theorem runS_halted (zs : List Int) (n : Nat) (s : Sq) (h : s.halt ≠ 0) : runS zs n s = (s, []) := by
  cases n
  · rfl
  · unfold runS; rw [if_pos h]
theorem runS_goes (zs : List Int) (n : Nat) (s : Sq) (h : s.halt = 0) : runS zs (n + 1) s = ((runS zs n (stepS zs s).1).1, (stepS zs s).2 :: (runS zs n (stepS zs s).1).2) := by
  show (if s.halt ≠ 0 then _ else _) = _
  rw [if_neg (by simp [h])]
/-- a run, gone on with -/
theorem runS_add (zs : List Int) : ∀ (n m : Nat) (s : Sq), runS zs (n + m) s = ((runS zs m (runS zs n s).1).1, (runS zs n s).2 ++ (runS zs m (runS zs n s).1).2)
  | 0, m, s => by rw [Nat.zero_add]; rfl
  | n + 1, m, s => by
    by_cases h : s.halt = 0
    · rw [show n + 1 + m = (n + m) + 1 by omega, runS_goes zs _ s h, runS_goes zs _ s h, runS_add zs n m]
      rfl
    · rw [runS_halted zs _ s h, runS_halted zs _ s h, runS_halted zs _ s h]
      rfl
theorem runS_snoc (zs : List Int) (n : Nat) (s : Sq) (h : (runS zs n s).1.halt = 0) : runS zs (n + 1) s = ((stepS zs (runS zs n s).1).1, (runS zs n s).2 ++ [(stepS zs (runS zs n s).1).2]) := by
  rw [runS_add zs n 1 s, runS_goes zs 0 _ h]
  rfl
theorem runS_len (zs : List Int) : ∀ (n : Nat) (s : Sq), (runS zs n s).2.length ≤ n
  | 0, s => Nat.le_refl _
  | n + 1, s => by
    by_cases h : s.halt = 0
    · rw [runS_goes zs n s h]
      simp only [List.length_cons]
      have := runS_len zs n (stepS zs s).1
      omega
    · rw [runS_halted zs _ s h]; simp
/-- a run that goes on has made all steps -/
theorem runS_all (zs : List Int) : ∀ (n : Nat) (s : Sq), (runS zs n s).1.halt = 0 → (runS zs n s).2.length = n
  | 0, s, _ => rfl
  | n + 1, s, h => by
    by_cases h0 : s.halt = 0
    · rw [runS_goes zs n s h0] at h ⊢
      simp only [List.length_cons]
      rw [runS_all zs n _ h]
    · rw [runS_halted zs _ s h0] at h
      exact absurd h h0

theorem haltS_ok {s : Sq} (h : sqOK s) (why addr : Int) : sqOK (haltS s why addr).1 := h
theorem set_bound {l : List Int} (h : ∀ z ∈ l, 0 ≤ z ∧ z < 4294967296) {v : Int} (hv : 0 ≤ v ∧ v < 4294967296) (k : Nat) : ∀ z ∈ l.set k v, 0 ≤ z ∧ z < 4294967296 := by
  intro z hz
  rcases List.mem_or_eq_of_mem_set hz with h1 | rfl
  · exact h z h1
  · exact hv
theorem wrote_ok {s : Sq} (h : sqOK s) (op rd : Int) {next value : Int} (hn : 0 ≤ next ∧ next < 4294967296) (hv : wrI op rd = 0 ∨ (0 ≤ value ∧ value < 4294967296)) (t : St) : sqOK (wrote s op rd next value t).1 := by
  obtain ⟨h1, h2, h3, h4⟩ := h
  unfold wrote sqOK
  refine ⟨hn, ?_, ?_, h4⟩
  · simp only
    split
    · exact h2
    · rw [List.length_set]; exact h2
  · simp only
    split
    · exact h3
    · rename_i hne
      rcases hv with hv | hv
      · exact absurd hv hne
      · exact set_bound h3 hv _
theorem rg_range {l : List Int} (h : ∀ z ∈ l, 0 ≤ z ∧ z < 4294967296) (k : Int) : 0 ≤ rg l k ∧ rg l k < 4294967296 := by
  unfold rg
  rw [List.getD_eq_getElem?_getD]
  cases hk : l[k.toNat]? with
  | none => simp
  | some z => exact h z (List.mem_of_getElem? hk)
end Go.Proofs.YtkamljmopbocnaaGreatDoor

/- THE CONTRACTS of seq.halted, seq.wrote, seq.fetched, seq.New. -/
namespace Go.Proofs.YtkamljmopbocnaaGreatDoor
open Go.ChangeShapes Go.WideShapes Go.ChangeAt Go.RowKit Go.Sort
set_option linter.unusedVariables false
set_option linter.unusedSimpArgs false
set_option maxHeartbeats 2000000
set_option maxRecDepth 100000

theorem sq_info : (Tryz.prog.info? 28).map (·.size) = some 35 := by kernel_rfl
theorem st_info : (Tryz.prog.info? 40).map (·.size) = some 9 := by kernel_rfl
theorem in_info : (Tryz.prog.info? 50).map (·.size) = some 5 := by kernel_rfl
theorem sqC_one (s : Sq) : (sqC s).toArray.all (·.oneCell') = true := all_oneCell_toArray (fun v hv => by
  unfold sqC at hv
  rcases List.mem_cons.1 hv with rfl | hv
  · rfl
  · rcases List.mem_append.1 hv with hv | hv
    · obtain ⟨z, _, rfl⟩ := List.mem_map.1 hv
      rfl
    · simp only [List.mem_cons, List.not_mem_nil, or_false] at hv
      rcases hv with rfl | rfl <;> rfl)
theorem stC_one (s : St) : (stC s).toArray.all (·.oneCell') = true := all_oneCell_toArray (fun v hv => by
  unfold stC at hv
  simp only [List.mem_cons, List.not_mem_nil, or_false] at hv
  rcases hv with rfl | rfl | rfl | rfl | rfl | rfl | rfl | rfl | rfl <;> rfl)
theorem sqC_pc (s : Sq) : (sqC s)[0]? = some (.int .u32 s.pc) := rfl
theorem sqC_reg {s : Sq} (h : s.regs.length = 32) (k : Nat) (hk : k < 32) : (sqC s)[k + 1]? = some (.int .u32 (s.regs.getD k 0)) := by
  unfold sqC regL
  rw [List.getElem?_cons_succ, List.getElem?_append_left (by simp [h, hk]), List.getElem?_map, List.getD_eq_getElem?_getD, List.getElem?_eq_getElem (by omega)]
  rfl
theorem sqC_mem {s : Sq} (h : s.regs.length = 32) : (sqC s)[33]? = some (.string s.mem) := by
  unfold sqC regL
  rw [List.getElem?_cons_succ, List.getElem?_append_right (by simp [h])]
  simp [h]
theorem sqC_halt {s : Sq} (h : s.regs.length = 32) : (sqC s)[34]? = some (.int .i64 s.halt) := by
  unfold sqC regL
  rw [List.getElem?_cons_succ, List.getElem?_append_right (by simp [h])]
  simp [h]
theorem sqC_setHalt {s : Sq} (h : s.regs.length = 32) (v : Int) : (sqC s).set 34 (.int .i64 v) = sqC { s with halt := v } := by
  unfold sqC regL
  rw [List.set_cons_succ, List.set_append_right _ _ (by simp [h])]
  simp [h]
theorem sqC_setMem {s : Sq} (h : s.regs.length = 32) (v : ByteArray) : (sqC s).set 33 (.string v) = sqC { s with mem := v } := by
  unfold sqC regL
  rw [List.set_cons_succ, List.set_append_right _ _ (by simp [h])]
  simp [h]
theorem sqC_setPc (s : Sq) (v : Int) : (sqC s).set 0 (.int .u32 v) = sqC { s with pc := v } := rfl
theorem sqC_setReg {s : Sq} (h : s.regs.length = 32) (k : Nat) (hk : k < 32) (v : Int) : (sqC s).set (k + 1) (.int .u32 v) = sqC { s with regs := s.regs.set k v } := by
  unfold sqC regL
  rw [List.set_cons_succ, List.set_append_left _ _ (by simp [h, hk]), List.map_set]
/-- two results that lie in blocks -/
theorem results_cell_two {P : Program} {fn : Func} {p q : Tmp} {ty tz : TypeId} (h : fn.results = #[.cell p ty, .cell q tz]) (tmps : Array Value) (w : World) (b c : Nat) (cs ds : List Value) (d e : TypeDesc)
    (hp : tmps.getD p undef = .pointer (some ⟨b, 0, none⟩)) (hq : tmps.getD q undef = .pointer (some ⟨c, 0, none⟩)) (hB : Blk w b cs) (hD : Blk w c ds) (hu : P.underlying ty = some d) (hd : d.isRow = true) (hi : (P.info? ty).map (·.size) = some cs.length)
    (hv : P.underlying tz = some e) (he : e.isRow = true) (hj : (P.info? tz).map (·.size) = some ds.length) :
    (results fn tmps).run P w = .ok (.tuple #[.agg cs.toArray, .agg ds.toArray]) w := by
  have hp' : tmps[p]?.getD undef = .pointer (some ⟨b, 0, none⟩) := by simpa using hp
  have hq' : tmps[q]?.getD undef = .pointer (some ⟨c, 0, none⟩) := by simpa using hq
  simp [results, h, hp', hq', asAddr, run_loadVar_mid w b 0 ty cs d hB.range hu hd hi, run_loadVar_mid w c 0 tz ds e hD.range hv he hj]

def z35 : List Value := [.int .u32 0, .int .u32 0, .int .u32 0, .int .u32 0, .int .u32 0, .int .u32 0, .int .u32 0, .int .u32 0, .int .u32 0, .int .u32 0, .int .u32 0, .int .u32 0, .int .u32 0, .int .u32 0, .int .u32 0, .int .u32 0, .int .u32 0, .int .u32 0, .int .u32 0, .int .u32 0, .int .u32 0, .int .u32 0, .int .u32 0, .int .u32 0, .int .u32 0, .int .u32 0, .int .u32 0, .int .u32 0, .int .u32 0, .int .u32 0, .int .u32 0, .int .u32 0, .int .u32 0, .string ⟨#[]⟩, .int .i64 0]
def z9 : List Value := [.int .u32 0, .int .u32 0, .int .i64 0, .int .u32 0, .int .u32 0, .int .i64 0, .bool false, .int .i64 0, .int .i64 0]
theorem three_allocs (w : World) (X Y Z : List Value) (t u v : TypeId) :
    Blk (((w.alloc (.cells X.toArray t)).alloc (.cells Y.toArray u)).alloc (.cells Z.toArray v)) w.heap.size X ∧ Blk (((w.alloc (.cells X.toArray t)).alloc (.cells Y.toArray u)).alloc (.cells Z.toArray v)) (w.heap.size + 1) Y ∧
    Blk (((w.alloc (.cells X.toArray t)).alloc (.cells Y.toArray u)).alloc (.cells Z.toArray v)) (w.heap.size + 1 + 1) Z ∧ Below w.heap.size w (((w.alloc (.cells X.toArray t)).alloc (.cells Y.toArray u)).alloc (.cells Z.toArray v)) := by
  have s1 : (w.alloc (.cells X.toArray t)).heap.size = w.heap.size + 1 := by simp
  have s2 : ((w.alloc (.cells X.toArray t)).alloc (.cells Y.toArray u)).heap.size = w.heap.size + 1 + 1 := by simp
  have b1 : Below (w.heap.size + 1) (w.alloc (.cells X.toArray t)) (((w.alloc (.cells X.toArray t)).alloc (.cells Y.toArray u)).alloc (.cells Z.toArray v)) := (((Below.refl _ _).alloc (by rw [s1]; exact Nat.le_refl _) _).alloc (by rw [s2]; omega) _)
  have b2 : Below (w.heap.size + 1 + 1) ((w.alloc (.cells X.toArray t)).alloc (.cells Y.toArray u)) (((w.alloc (.cells X.toArray t)).alloc (.cells Y.toArray u)).alloc (.cells Z.toArray v)) := (Below.refl _ _).alloc (by rw [s2]; exact Nat.le_refl _) _
  refine ⟨(Blk.new w t X).below b1 (Nat.lt_succ_self _), ?_, ?_, ?_⟩
  · have := Blk.new (w.alloc (.cells X.toArray t)) u Y
    rw [s1] at this
    exact this.below b2 (Nat.lt_succ_self _)
  · have := Blk.new ((w.alloc (.cells X.toArray t)).alloc (.cells Y.toArray u)) v Z
    rwa [s2] at this
  · exact (((Below.refl _ _).alloc (Nat.le_refl _) _).alloc (by rw [s1]; omega) _).alloc (by rw [s2]; omega) _

theorem halted_any (s : Sq) (hs : s.regs.length = 32) (why addr : Int) (w : World) :
    Calls Tryz.prog 32 #[sqV s, .int .i64 why, .int .u32 addr] w fun r w' => r = .returned (.tuple #[sqV (haltS s why addr).1, stV (haltS s why addr).2]) ∧ Below w.heap.size w w' := by
  obtain ⟨cs, hcs⟩ : ∃ cs, sqC s = cs := ⟨_, rfl⟩
  have hl := sqC_len hs
  have h34 := sqC_halt hs
  have h0 := sqC_pc s
  obtain ⟨cs2, hcs2⟩ : ∃ cs2, sqC { s with halt := why } = cs2 := ⟨_, rfl⟩
  have hset := sqC_setHalt hs why
  have hl2 := sqC_len (s := { s with halt := why }) hs
  have ho2 := sqC_one { s with halt := why }
  have h02 := sqC_pc { s with halt := why }
  obtain ⟨ds, hds⟩ : ∃ ds, ds = [Value.int .u32 s.pc, .int .u32 s.pc, .int .i64 0, .int .u32 0, .int .u32 addr, .int .i64 0, .bool false, .int .i64 why, .int .i64 0] := ⟨_, rfl⟩
  have hv : Value.tuple #[sqV (haltS s why addr).1, stV (haltS s why addr).2] = .tuple #[.agg cs2.toArray, .agg ds.toArray] := by rw [← hcs2, hds]; rfl
  rw [hv, show sqV s = .agg cs.toArray by rw [← hcs]; rfl]
  simp only at h02
  generalize s.pc = pc at *
  rw [hcs, hcs2] at hset
  rw [hcs] at hl h34 h0
  rw [hcs2] at hl2 ho2 h02
  clear hv hcs hcs2
  obtain ⟨f1, f2, f3, f4⟩ := three_allocs w cs z35 z9 28 28 40
  have HI := Lib.hid (show (Tryz.prog.info? 28).map (·.size) = some cs2.length by rw [hl2]; exact sq_info)
  have HJ := Lib.hid (show (Tryz.prog.info? 28).map (·.size) = some cs2.toArray.size by rw [List.size_toArray, hl2]; exact sq_info)
  have HZ := Lib.hid (show z35.length = cs2.toArray.size by rw [List.size_toArray, hl2]; rfl)
  have HO := Lib.hid ho2
  have HD := Lib.hid hds
  have H0 := Lib.hid h02
  have HS := Lib.hid hset
  clear ho2 hl2 hds h02 hset
  go_enter Tryz.func32, Tryz.ntmps32
  simp only [z35, z9] at f1 f2 f3 f4
  go_upto_region 1 with fail
  generalize ((w.alloc (.cells cs.toArray 28)).alloc (.cells #[.int .u32 0, .int .u32 0, .int .u32 0, .int .u32 0, .int .u32 0, .int .u32 0, .int .u32 0, .int .u32 0, .int .u32 0, .int .u32 0, .int .u32 0, .int .u32 0, .int .u32 0, .int .u32 0, .int .u32 0, .int .u32 0, .int .u32 0, .int .u32 0, .int .u32 0, .int .u32 0, .int .u32 0, .int .u32 0, .int .u32 0, .int .u32 0, .int .u32 0, .int .u32 0, .int .u32 0, .int .u32 0, .int .u32 0, .int .u32 0, .int .u32 0, .int .u32 0, .int .u32 0, .string ⟨#[]⟩, .int .i64 0] 28)).alloc (.cells #[.int .u32 0, .int .u32 0, .int .i64 0, .int .u32 0, .int .u32 0, .int .i64 0, .bool false, .int .i64 0, .int .i64 0] 40) = W0 at *
  have X1 := Lib.hid f1
  have X2 := Lib.hid f2
  have X3 := Lib.hid f3
  have KB := Lib.hid f4
  clear f1 f2 f3 f4
  have s34 := X1.out.2.1 34 _ h34
  have e34 := X1.out.2.2 34 (by omega)
  go_upto_region 2 with fail
  clear s34 e34
  have z1 := (X1.out).set (i := 34) (v := .int .i64 why) (by omega)
  rw [HS.out] at z1
  have z2 := (X2.out).other (p := ⟨w.heap.size, 34, none⟩) (v := .int .i64 why) (by simp)
  have z3 := (X3.out).other (p := ⟨w.heap.size, 34, none⟩) (v := .int .i64 why) (by simp <;> omega)
  have z4 := (KB.out).setCell (p := ⟨w.heap.size, 34, none⟩) (Nat.le_refl _) (.int .i64 why)
  generalize (World.setCell W0 ⟨w.heap.size, 34, none⟩ (.int .i64 why)) = W1 at *
  clear X1 X2 X3 KB
  have X1 := Lib.hid z1
  have X2 := Lib.hid z2
  have X3 := Lib.hid z3
  have KB := Lib.hid z4
  clear z1 z2 z3 z4
  have q0 := stW_cell (X1.out.2.1 0 _ H0.out) (w.heap.size + 1) cs2 (w.heap.size + 1 + 1) ds (by simp) (by simp <;> omega)
  have XK := Lib.hid (X1.out.stage (w.heap.size + 1) cs2 (w.heap.size + 1 + 1) ds (by omega) (by omega))
  refine wp_region_two [] [0, 1, 2, 3, 4, 5, 6, 7] 8 9 _ _ (w.heap.size + 1) (w.heap.size + 1 + 1) z35 z9 cs2 ds 28 40 (.tmp 6) (.tmp 10) (.tmp 7) (.tmp 17) (by kernel_rfl) (by kernel_rfl) rfl rfl rfl ⟨rfl, rfl, rfl⟩ ⟨rfl, rfl, rfl⟩ (by omega) X2.out X3.out (by rw [HZ.out, List.size_toArray]) (by rw [HD.out]; rfl) HI.out (by rw [HD.out]; exact st_info) HO.out (by rw [HD.out]; exact stC_one ⟨_, _, _, _, _, _, _, _, _⟩) ?_
  simp only [opsAt, List.getElem?_toArray, List.getElem?_cons_zero, List.getElem?_cons_succ, Option.toList_some, List.cons_append, List.nil_append]
  refine wpQuiet_next ?_
  repeat (first
    | (go_big_quiet_want; refine quiet_load_stage 28 (.tmp 3) rfl _ rfl cs2 _ XK.out Tryz.underlying28 rfl HI.out ?_; simp only [Act.put, List.setIfInBounds_toArray, List.set_cons_succ, List.set_cons_zero]; go_big_quiet_on)
    | (go_big_quiet_step (fail)))
  refine wpQuiet_nil ?_
  refine ⟨⟨rfl, rfl, rfl, by rw [HD.out]; rfl⟩, fun w9 n1 n2 n3 n4 => ?_⟩
  go_wp2
  exact bodyPost_ret (v := .tuple #[.agg cs2.toArray, .agg ds.toArray]) (results_cell_two Tryz.results32 _ w9 (w.heap.size + 1) (w.heap.size + 1 + 1) cs2 ds _ _ rfl rfl n1 n2 Tryz.underlying28 rfl HI.out Tryz.underlying40 rfl (by rw [HD.out]; exact st_info)) rfl ⟨rfl, KB.out.trans (n4 _ (by omega) (by omega))⟩

theorem wrote_any (s : Sq) (op rd rs1 rs2 imm next value : Int) (t : St) (hs : s.regs.length = 32) (hw : 0 ≤ wrI op rd ∧ wrI op rd ≤ 31) (w : World) (ht : TabIs w) (hg : 0 < w.heap.size) :
    Calls Tryz.prog 36 #[sqV s, .agg #[.int .i64 op, .int .i64 rd, .int .i64 rs1, .int .i64 rs2, .int .u32 imm], .int .u32 next, .int .u32 value, stV t] w fun r w' => r = .returned (.tuple #[sqV (wrote s op rd next value t).1, stV (wrote s op rd next value t).2]) ∧ Below w.heap.size w w' := by
  have HW := Lib.hid (fun w ht hg => writes_any op rd rs1 rs2 imm w ht hg)
  have HT := Lib.hid ht
  clear ht
  obtain ⟨k, hk⟩ : ∃ k : Nat, wrI op rd = (k : Int) := ⟨(wrI op rd).toNat, by omega⟩
  have hk31 : k ≤ 31 := by omega
  obtain ⟨s2, hs2⟩ : ∃ s2, (wrote s op rd next value t).1 = s2 := ⟨_, rfl⟩
  obtain ⟨t2, ht2⟩ : ∃ t2, (wrote s op rd next value t).2 = t2 := ⟨_, rfl⟩
  rw [hs2, ht2]
  unfold wrote at hs2 ht2
  rw [hk] at hs2 ht2 HW
  simp only [Int.toNat_natCast] at hs2
  clear hk hw
  obtain ⟨cs, hcs⟩ : ∃ cs, sqC s = cs := ⟨_, rfl⟩
  have hl := sqC_len hs
  have h0 := sqC_pc s
  have hR := sqC_reg hs k (by omega)
  have hset := sqC_setReg hs k (by omega) value
  have HN := Lib.hid (fun s : Sq => sqC_setPc s next)
  have hl2 : (sqC s2).length = 35 := sqC_len (by rw [← hs2]; show (if _ then _ else _ : List Int).length = 32; split; exact hs; rw [List.length_set]; exact hs)
  have ho2 := sqC_one s2
  obtain ⟨cs2, hcs2⟩ : ∃ cs2, sqC s2 = cs2 := ⟨_, rfl⟩
  have HS2 := Lib.hid hs2
  have HCS := Lib.hid hcs2
  have hR' : cs[1 + k]? = some (.int .u32 (s.regs.getD k 0)) := by rw [← hcs, Nat.add_comm]; exact hR
  rw [show sqV s = .agg cs.toArray by rw [← hcs]; rfl, show sqV s2 = .agg cs2.toArray by rw [← hcs2]; rfl]
  rw [hcs] at hl h0 hR hset
  rw [hcs2] at hl2 ho2
  have HSET := Lib.hid hset
  have HR := Lib.hid hR'
  have H0 := Lib.hid h0
  clear hR hset hs2 hcs2 hR' h0
  obtain ⟨tpc, tnx, trd, tva, tad, tsi, tso, tha, ttk⟩ := t
  simp only at ht2
  have HT2 := Lib.hid ht2
  clear ht2
  have HI := Lib.hid (show (Tryz.prog.info? 28).map (·.size) = some cs2.length by rw [hl2]; exact sq_info)
  have HZ := Lib.hid (show z35.length = cs2.length by rw [hl2]; rfl)
  have HO := Lib.hid ho2
  have HL := Lib.hid hl
  clear hl2 ho2
  obtain ⟨pc, hpc⟩ : ∃ pc, s.pc = pc := ⟨_, rfl⟩
  rw [hpc] at H0 HT2
  unfold stV
  go_enter Tryz.func36, Tryz.ntmps36
  go_upto_region 1 with fail
  refine wp_allocs [(cs, 28), ([.int .i64 op, .int .i64 rd, .int .i64 rs1, .int .i64 rs2, .int .u32 imm], 50), ([.int .u32 tpc, .int .u32 tnx, .int .i64 trd, .int .u32 tva, .int .u32 tad, .int .i64 tsi, .bool tso, .int .i64 tha, .int .i64 ttk], 40), (z35, 28), (z9, 40)] rfl ?_
  intro W0 y1 KB y3
  have X1 := Lib.hid (show Blk W0 w.heap.size cs from y3 0 _ rfl)
  have X2 := Lib.hid (show Blk W0 (w.heap.size + 1) [.int .i64 op, .int .i64 rd, .int .i64 rs1, .int .i64 rs2, .int .u32 imm] from y3 1 _ rfl)
  have X3 := Lib.hid (show Blk W0 (w.heap.size + 1 + 1) [.int .u32 tpc, .int .u32 tnx, .int .i64 trd, .int .u32 tva, .int .u32 tad, .int .i64 tsi, .bool tso, .int .i64 tha, .int .i64 ttk] from y3 2 _ rfl)
  have X4 := Lib.hid (show Blk W0 (w.heap.size + 1 + 1 + 1) z35 from y3 3 _ rfl)
  have X5 := Lib.hid (show Blk W0 (w.heap.size + 1 + 1 + 1 + 1) z9 from y3 4 _ rfl)
  replace KB := Lib.hid KB
  clear y1 y3
  have s0 := X1.out.2.1 0 _ H0.out
  have t0 := X3.out.2.1 0 _ rfl
  have t1 := X3.out.2.1 1 _ rfl
  have e0 := X3.out.2.2 0 (by simp)
  have e1 := X3.out.2.2 1 (by simp)
  go_upto_region 2 with fail
  clear s0 e0 e1 t0 t1
  have z3 := (X3.out).set (i := 0) (v := .int .u32 pc) (by simp)
  simp only [List.set_cons_succ, List.set_cons_zero] at z3
  have z1 := (X1.out).other (p := ⟨w.heap.size + 1 + 1, 0, none⟩) (v := .int .u32 pc) (by simp <;> omega)
  have z2 := (X2.out).other (p := ⟨w.heap.size + 1 + 1, 0, none⟩) (v := .int .u32 pc) (by simp)
  have z4 := (X4.out).other (p := ⟨w.heap.size + 1 + 1, 0, none⟩) (v := .int .u32 pc) (by simp)
  have z5 := (X5.out).other (p := ⟨w.heap.size + 1 + 1, 0, none⟩) (v := .int .u32 pc) (by simp <;> omega)
  have z6 := (KB.out).setCell (p := ⟨w.heap.size + 1 + 1, 0, none⟩) (by show w.heap.size ≤ w.heap.size + 1 + 1; omega) (.int .u32 pc)
  generalize (World.setCell W0 ⟨w.heap.size + 1 + 1, 0, none⟩ (.int .u32 pc)) = WA at *
  clear X1 X2 X3 X4 X5 KB
  have X1 := Lib.hid z1
  have X2 := Lib.hid z2
  have X3 := Lib.hid z3
  have X4 := Lib.hid z4
  have X5 := Lib.hid z5
  have KB := Lib.hid z6
  clear z1 z2 z3 z4 z5 z6
  have z3 := (X3.out).set (i := 1) (v := .int .u32 next) (by simp)
  simp only [List.set_cons_succ, List.set_cons_zero] at z3
  have z1 := (X1.out).other (p := ⟨w.heap.size + 1 + 1, 1, none⟩) (v := .int .u32 next) (by simp <;> omega)
  have z2 := (X2.out).other (p := ⟨w.heap.size + 1 + 1, 1, none⟩) (v := .int .u32 next) (by simp)
  have z4 := (X4.out).other (p := ⟨w.heap.size + 1 + 1, 1, none⟩) (v := .int .u32 next) (by simp)
  have z5 := (X5.out).other (p := ⟨w.heap.size + 1 + 1, 1, none⟩) (v := .int .u32 next) (by simp <;> omega)
  have z6 := (KB.out).setCell (p := ⟨w.heap.size + 1 + 1, 1, none⟩) (by show w.heap.size ≤ w.heap.size + 1 + 1; omega) (.int .u32 next)
  generalize (World.setCell WA ⟨w.heap.size + 1 + 1, 1, none⟩ (.int .u32 next)) = W1 at *
  clear X1 X2 X3 X4 X5 KB
  have X1 := Lib.hid z1
  have X2 := Lib.hid z2
  have X3 := Lib.hid z3
  have X4 := Lib.hid z4
  have X5 := Lib.hid z5
  have KB := Lib.hid z6
  clear z1 z2 z3 z4 z5 z6
  have a0 := X2.out.2.1 0 _ rfl
  have a1 := X2.out.2.1 1 _ rfl
  have a2 := X2.out.2.1 2 _ rfl
  have a3 := X2.out.2.1 3 _ rfl
  have a4 := X2.out.2.1 4 _ rfl
  go_wp2_with fail
  go_at_call 61
  refine (HW.out _ (HT.out.below KB.out hg) (Nat.lt_of_lt_of_le hg KB.out.size)).mono ?_
  rintro e w2 ⟨rfl, b⟩
  have z1 := X1.out.below b X1.out.1
  have z2 := X2.out.below b X2.out.1
  have z3 := X3.out.below b X3.out.1
  have z4 := X4.out.below b X4.out.1
  have z5 := X5.out.below b X5.out.1
  have z6 := KB.out.trans ((b).mono KB.out.size)
  clear X1 X2 X3 X4 X5 KB
  have X1 := Lib.hid z1
  have X2 := Lib.hid z2
  have X3 := Lib.hid z3
  have X4 := Lib.hid z4
  have X5 := Lib.hid z5
  have KB := Lib.hid z6
  clear z1 z2 z3 z4 z5 z6
  clear b a0 a1 a2 a3 a4
  have t2 := X3.out.2.1 2 _ rfl
  have e2 := X3.out.2.2 2 (by simp)
  go_upto_region 3 with fail
  clear t2 e2
  have z3 := (X3.out).set (i := 2) (v := .int .i64 k) (by simp)
  simp only [List.set_cons_succ, List.set_cons_zero] at z3
  have z1 := (X1.out).other (p := ⟨w.heap.size + 1 + 1, 2, none⟩) (v := .int .i64 k) (by simp <;> omega)
  have z2 := (X2.out).other (p := ⟨w.heap.size + 1 + 1, 2, none⟩) (v := .int .i64 k) (by simp)
  have z4 := (X4.out).other (p := ⟨w.heap.size + 1 + 1, 2, none⟩) (v := .int .i64 k) (by simp)
  have z5 := (X5.out).other (p := ⟨w.heap.size + 1 + 1, 2, none⟩) (v := .int .i64 k) (by simp <;> omega)
  have z6 := (KB.out).setCell (p := ⟨w.heap.size + 1 + 1, 2, none⟩) (by show w.heap.size ≤ w.heap.size + 1 + 1; omega) (.int .i64 k)
  generalize (World.setCell w2 ⟨w.heap.size + 1 + 1, 2, none⟩ (.int .i64 k)) = W3 at *
  clear X1 X2 X3 X4 X5 KB
  have X1 := Lib.hid z1
  have X2 := Lib.hid z2
  have X3 := Lib.hid z3
  have X4 := Lib.hid z4
  have X5 := Lib.hid z5
  have KB := Lib.hid z6
  clear z1 z2 z3 z4 z5 z6
  have c2 := X3.out.2.1 2 _ rfl
  by_cases hz : k = 0
  · have q : ((k : Int) != 0) = false := by simpa using hz
    have HS3 := Lib.hid (show sqC { s with pc := next } = cs2 by rw [← HCS.out, ← HS2.out, if_pos (by omega)])
    have HT3 := Lib.hid (show (⟨pc, next, (k : Int), tva, tad, tsi, tso, tha, ttk⟩ : St) = t2 by rw [← HT2.out, if_pos (by omega)])
    have HN' := HN.out s
    rw [hcs, HS3.out] at HN'
    go_upto_region 6 with fail
    clear c2 q
    have s0 := X1.out.2.1 0 _ H0.out
    have e0 := X1.out.2.2 0 (by have := HL.out; simp <;> omega)
    go_upto_region 7 with fail
    clear s0 e0
    have z1 := (X1.out).set (i := 0) (v := .int .u32 next) (by have := HL.out; simp <;> omega)
    rw [HN'] at z1
    have z2 := (X2.out).other (p := ⟨w.heap.size, 0, none⟩) (v := .int .u32 next) (by simp)
    have z3 := (X3.out).other (p := ⟨w.heap.size, 0, none⟩) (v := .int .u32 next) (by simp <;> omega)
    have z4 := (X4.out).other (p := ⟨w.heap.size, 0, none⟩) (v := .int .u32 next) (by simp <;> omega)
    have z5 := (X5.out).other (p := ⟨w.heap.size, 0, none⟩) (v := .int .u32 next) (by simp <;> omega)
    have z6 := (KB.out).setCell (p := ⟨w.heap.size, 0, none⟩) (Nat.le_refl _) (.int .u32 next)
    generalize (World.setCell W3 ⟨w.heap.size, 0, none⟩ (.int .u32 next)) = W7 at *
    clear X1 X2 X3 X4 X5 KB
    have X1 := Lib.hid z1
    have X2 := Lib.hid z2
    have X3 := Lib.hid z3
    have X4 := Lib.hid z4
    have X5 := Lib.hid z5
    have KB := Lib.hid z6
    clear z1 z2 z3 z4 z5 z6
    obtain ⟨ds, hds⟩ : ∃ ds : List Value, [Value.int .u32 pc, .int .u32 next, .int .i64 k, .int .u32 tva, .int .u32 tad, .int .i64 tsi, .bool tso, .int .i64 tha, .int .i64 ttk] = ds := ⟨_, rfl⟩
    have X3' := X3.out
    rw [hds] at X3'
    have HD := Lib.hid hds
    replace X3 := Lib.hid X3'
    clear hds X3'
    have XK := Lib.hid (X1.out.stage (w.heap.size + 1 + 1 + 1) cs2 (w.heap.size + 1 + 1 + 1 + 1) ds (by omega) (by omega))
    have XT := Lib.hid (X3.out.stage (w.heap.size + 1 + 1 + 1) cs2 (w.heap.size + 1 + 1 + 1 + 1) ds (by omega) (by omega))
    have SI := Lib.hid (show (Tryz.prog.info? 40).map (·.size) = some ds.length by rw [← HD.out]; exact st_info)
    have SO := Lib.hid (show ds.toArray.all (·.oneCell') = true by rw [← HD.out]; exact stC_one ⟨_, _, _, _, _, _, _, _, _⟩)
    refine wp_region_two [] [0, 1] 2 3 _ _ (w.heap.size + 1 + 1 + 1) (w.heap.size + 1 + 1 + 1 + 1) z35 z9 cs2 ds 28 40 (.tmp 10) (.tmp 32) (.tmp 11) (.tmp 33) (by kernel_rfl) (by kernel_rfl) rfl rfl rfl ⟨rfl, rfl, rfl⟩ ⟨rfl, rfl, rfl⟩ (by omega) X4.out X5.out HZ.out (by rw [← HD.out]; rfl) HI.out SI.out HO.out SO.out ?_
    simp only [opsAt, List.getElem?_toArray, List.getElem?_cons_zero, List.getElem?_cons_succ, Option.toList_some, List.cons_append, List.nil_append]
    refine wpQuiet_next ?_
    go_big_quiet_want
    refine quiet_load_stage 28 (.tmp 5) rfl _ rfl cs2 _ XK.out Tryz.underlying28 rfl HI.out ?_
    simp only [Act.put, List.setIfInBounds_toArray, List.set_cons_succ, List.set_cons_zero]
    go_big_quiet_on
    go_big_quiet_want
    refine quiet_load_stage 40 (.tmp 9) rfl _ rfl ds _ XT.out Tryz.underlying40 rfl SI.out ?_
    simp only [Act.put, List.setIfInBounds_toArray, List.set_cons_succ, List.set_cons_zero]
    go_big_quiet_on
    refine wpQuiet_nil ?_
    refine ⟨⟨rfl, rfl, rfl, rfl⟩, fun w9 n1 n2 n3 n4 => ?_⟩
    go_wp2
    exact bodyPost_ret (v := .tuple #[.agg cs2.toArray, .agg ds.toArray]) (results_cell_two Tryz.results36 _ w9 (w.heap.size + 1 + 1 + 1) (w.heap.size + 1 + 1 + 1 + 1) cs2 ds _ _ rfl rfl n1 n2 Tryz.underlying28 rfl HI.out Tryz.underlying40 rfl SI.out) rfl ⟨by rw [← HD.out, ← HT3.out], KB.out.trans (n4 _ (by omega) (by omega))⟩
  · have q : ((k : Int) != 0) = true := by simpa using hz
    have HS3 := Lib.hid (show sqC { s with pc := next, regs := s.regs.set k value } = cs2 by rw [← HCS.out, ← HS2.out, if_neg (by omega)])
    have HT3 := Lib.hid (show (⟨pc, next, (k : Int), value, tad, tsi, tso, tha, ttk⟩ : St) = t2 by rw [← HT2.out, if_neg (by omega)])
    have HN' := HN.out { s with regs := s.regs.set k value }
    rw [← HSET.out, HS3.out, Nat.add_comm] at HN'
    have r1 := X1.out.2.1 (1 + k) _ HR.out
    have f1 := X1.out.2.2 (1 + k) (by have := HL.out; omega)
    have hk31' : (k : Int) < 32 := by omega
    go_upto_region 5 with fail
    clear r1 f1 q c2
    have z1 := (X1.out).set (i := 1 + k) (v := .int .u32 value) (by have := HL.out; omega)
    have z2 := (X2.out).other (p := ⟨w.heap.size, 1 + k, none⟩) (v := .int .u32 value) (by simp)
    have z3 := (X3.out).other (p := ⟨w.heap.size, 1 + k, none⟩) (v := .int .u32 value) (by simp <;> omega)
    have z4 := (X4.out).other (p := ⟨w.heap.size, 1 + k, none⟩) (v := .int .u32 value) (by simp <;> omega)
    have z5 := (X5.out).other (p := ⟨w.heap.size, 1 + k, none⟩) (v := .int .u32 value) (by simp <;> omega)
    have z6 := (KB.out).setCell (p := ⟨w.heap.size, 1 + k, none⟩) (Nat.le_refl _) (.int .u32 value)
    generalize (World.setCell W3 ⟨w.heap.size, 1 + k, none⟩ (.int .u32 value)) = W5 at *
    clear X1 X2 X3 X4 X5 KB
    have X1 := Lib.hid z1
    have X2 := Lib.hid z2
    have X3 := Lib.hid z3
    have X4 := Lib.hid z4
    have X5 := Lib.hid z5
    have KB := Lib.hid z6
    clear z1 z2 z3 z4 z5 z6
    have c3 := X3.out.2.1 3 _ rfl
    have e3 := X3.out.2.2 3 (by simp)
    go_upto_region 6 with fail
    clear c3 e3
    have z3 := (X3.out).set (i := 3) (v := .int .u32 value) (by simp)
    simp only [List.set_cons_succ, List.set_cons_zero] at z3
    have z1 := (X1.out).other (p := ⟨w.heap.size + 1 + 1, 3, none⟩) (v := .int .u32 value) (by simp <;> omega)
    have z2 := (X2.out).other (p := ⟨w.heap.size + 1 + 1, 3, none⟩) (v := .int .u32 value) (by simp)
    have z4 := (X4.out).other (p := ⟨w.heap.size + 1 + 1, 3, none⟩) (v := .int .u32 value) (by simp)
    have z5 := (X5.out).other (p := ⟨w.heap.size + 1 + 1, 3, none⟩) (v := .int .u32 value) (by simp <;> omega)
    have z6 := (KB.out).setCell (p := ⟨w.heap.size + 1 + 1, 3, none⟩) (by show w.heap.size ≤ w.heap.size + 1 + 1; omega) (.int .u32 value)
    generalize (World.setCell W5 ⟨w.heap.size + 1 + 1, 3, none⟩ (.int .u32 value)) = W6 at *
    clear X1 X2 X3 X4 X5 KB
    have X1 := Lib.hid z1
    have X2 := Lib.hid z2
    have X3 := Lib.hid z3
    have X4 := Lib.hid z4
    have X5 := Lib.hid z5
    have KB := Lib.hid z6
    clear z1 z2 z3 z4 z5 z6
    have s0 := X1.out.2.1 0 _ (by rw [List.getElem?_set_ne (by omega)]; exact H0.out)
    have e0 := X1.out.2.2 0 (by have := HL.out; simp <;> omega)
    go_upto_region 7 with fail
    clear s0 e0
    have z1 := (X1.out).set (i := 0) (v := .int .u32 next) (by have := HL.out; simp <;> omega)
    rw [HN'] at z1
    have z2 := (X2.out).other (p := ⟨w.heap.size, 0, none⟩) (v := .int .u32 next) (by simp)
    have z3 := (X3.out).other (p := ⟨w.heap.size, 0, none⟩) (v := .int .u32 next) (by simp <;> omega)
    have z4 := (X4.out).other (p := ⟨w.heap.size, 0, none⟩) (v := .int .u32 next) (by simp <;> omega)
    have z5 := (X5.out).other (p := ⟨w.heap.size, 0, none⟩) (v := .int .u32 next) (by simp <;> omega)
    have z6 := (KB.out).setCell (p := ⟨w.heap.size, 0, none⟩) (Nat.le_refl _) (.int .u32 next)
    generalize (World.setCell W6 ⟨w.heap.size, 0, none⟩ (.int .u32 next)) = W7 at *
    clear X1 X2 X3 X4 X5 KB
    have X1 := Lib.hid z1
    have X2 := Lib.hid z2
    have X3 := Lib.hid z3
    have X4 := Lib.hid z4
    have X5 := Lib.hid z5
    have KB := Lib.hid z6
    clear z1 z2 z3 z4 z5 z6
    obtain ⟨ds, hds⟩ : ∃ ds : List Value, [Value.int .u32 pc, .int .u32 next, .int .i64 k, .int .u32 value, .int .u32 tad, .int .i64 tsi, .bool tso, .int .i64 tha, .int .i64 ttk] = ds := ⟨_, rfl⟩
    have X3' := X3.out
    rw [hds] at X3'
    have HD := Lib.hid hds
    replace X3 := Lib.hid X3'
    clear hds X3'
    have XK := Lib.hid (X1.out.stage (w.heap.size + 1 + 1 + 1) cs2 (w.heap.size + 1 + 1 + 1 + 1) ds (by omega) (by omega))
    have XT := Lib.hid (X3.out.stage (w.heap.size + 1 + 1 + 1) cs2 (w.heap.size + 1 + 1 + 1 + 1) ds (by omega) (by omega))
    have SI := Lib.hid (show (Tryz.prog.info? 40).map (·.size) = some ds.length by rw [← HD.out]; exact st_info)
    have SO := Lib.hid (show ds.toArray.all (·.oneCell') = true by rw [← HD.out]; exact stC_one ⟨_, _, _, _, _, _, _, _, _⟩)
    refine wp_region_two [] [0, 1] 2 3 _ _ (w.heap.size + 1 + 1 + 1) (w.heap.size + 1 + 1 + 1 + 1) z35 z9 cs2 ds 28 40 (.tmp 10) (.tmp 32) (.tmp 11) (.tmp 33) (by kernel_rfl) (by kernel_rfl) rfl rfl rfl ⟨rfl, rfl, rfl⟩ ⟨rfl, rfl, rfl⟩ (by omega) X4.out X5.out HZ.out (by rw [← HD.out]; rfl) HI.out SI.out HO.out SO.out ?_
    simp only [opsAt, List.getElem?_toArray, List.getElem?_cons_zero, List.getElem?_cons_succ, Option.toList_some, List.cons_append, List.nil_append]
    refine wpQuiet_next ?_
    go_big_quiet_want
    refine quiet_load_stage 28 (.tmp 5) rfl _ rfl cs2 _ XK.out Tryz.underlying28 rfl HI.out ?_
    simp only [Act.put, List.setIfInBounds_toArray, List.set_cons_succ, List.set_cons_zero]
    go_big_quiet_on
    go_big_quiet_want
    refine quiet_load_stage 40 (.tmp 9) rfl _ rfl ds _ XT.out Tryz.underlying40 rfl SI.out ?_
    simp only [Act.put, List.setIfInBounds_toArray, List.set_cons_succ, List.set_cons_zero]
    go_big_quiet_on
    refine wpQuiet_nil ?_
    refine ⟨⟨rfl, rfl, rfl, rfl⟩, fun w9 n1 n2 n3 n4 => ?_⟩
    go_wp2
    exact bodyPost_ret (v := .tuple #[.agg cs2.toArray, .agg ds.toArray]) (results_cell_two Tryz.results36 _ w9 (w.heap.size + 1 + 1 + 1) (w.heap.size + 1 + 1 + 1 + 1) cs2 ds _ _ rfl rfl n1 n2 Tryz.underlying28 rfl HI.out Tryz.underlying40 rfl SI.out) rfl ⟨by rw [← HD.out, ← HT3.out], KB.out.trans (n4 _ (by omega) (by omega))⟩
end Go.Proofs.YtkamljmopbocnaaGreatDoor

/- THE CONTRACT of seq.fetched. -/
namespace Go.Proofs.YtkamljmopbocnaaGreatDoor
open Go.ChangeShapes Go.WideShapes Go.ChangeAt Go.RowKit Go.Sort
set_option linter.unusedVariables false
set_option linter.unusedSimpArgs false
set_option maxHeartbeats 2000000
set_option maxRecDepth 100000

/-- a result that lies in a block, and one in a slot -/
theorem results_cell_slot {P : Program} {fn : Func} {p q : Tmp} {ty : TypeId} (h : fn.results = #[.cell p ty, .tmp q]) (tmps : Array Value) (w : World) (b : Nat) (cs : List Value) (d : TypeDesc) (v : Value)
    (hp : tmps.getD p undef = .pointer (some ⟨b, 0, none⟩)) (hq : tmps.getD q undef = v) (hB : Blk w b cs) (hu : P.underlying ty = some d) (hd : d.isRow = true) (hi : (P.info? ty).map (·.size) = some cs.length) :
    (results fn tmps).run P w = .ok (.tuple #[.agg cs.toArray, v]) w := by
  have hp' : tmps[p]?.getD undef = .pointer (some ⟨b, 0, none⟩) := by simpa using hp
  have hq' : tmps[q]?.getD undef = v := by simpa using hq
  simp [results, h, hp', hq', asAddr, run_loadVar_mid w b 0 ty cs d hB.range hu hd hi]
def fetV (zs : List Int) (pc : Int) : Value := if whyS zs pc = 1 ∨ whyS zs pc = 2 then zeroAgg else inV (insOf (ftV zs zs.length pc))
theorem decV_in (a : Int) (h : chB a = true) : decV a = inV (insOf a) := by rw [(decV_yes h).1]; rfl
theorem ftV_range {zs : List Int} (h : ∀ z ∈ zs, 0 ≤ z ∧ z < 4294967296) (n : Nat) (pc : Int) : 0 ≤ ftV zs n pc ∧ ftV zs n pc < 4294967296 := by
  unfold ftV
  split
  · rw [List.getD_eq_getElem?_getD]
    cases hk : zs[(pc / 4).toNat]? with
    | none => simp
    | some z => exact h z (List.mem_of_getElem? hk)
  · omega
theorem in5_one (i : Ins) : (inC i).toArray.all (·.oneCell') = true := all_oneCell_toArray (fun v hv => by
  unfold inC at hv
  simp only [List.mem_cons, List.not_mem_nil, or_false] at hv
  rcases hv with rfl | rfl | rfl | rfl | rfl <;> rfl)
def z5 : List Value := [.int .i64 0, .int .i64 0, .int .i64 0, .int .i64 0, .int .u32 0]

theorem fetched_any (A : Option Addr) (n cap : Nat) (zs : List Int) (pc : Int) (hn : n ≤ 200) (hz : ∀ z ∈ zs, 0 ≤ z ∧ z < 4294967296) (h0 : 0 ≤ pc) (h1 : pc < 4294967296) (w : World) (ht : TabIs w) (hg : 0 < w.heap.size) (h : IntsAt w A n .u32 zs) :
    Calls Tryz.prog 31 #[.slice A n cap, .int .u32 pc] w fun r w' => r = .returned (.tuple #[fetV zs pc, .int .i64 (whyS zs pc)]) ∧ Below w.heap.size w w' := by
  have hl := h.1
  have HF := Lib.hid (fun (W : World) (hb : Below w.heap.size w W) => fetch_any (cap := cap) (h.below hb) hn pc h0 h1)
  have hr := ftV_range hz n pc
  have HD := Lib.hid (fun (W : World) (hb : Below w.heap.size w W) => decode_any (ftV zs n pc) hr.1 hr.2 W (ht.below hb hg) (Nat.lt_of_lt_of_le hg hb.size))
  obtain ⟨V, hV⟩ : ∃ V, fetV zs pc = V := ⟨_, rfl⟩
  obtain ⟨Y, hY⟩ : ∃ Y, whyS zs pc = Y := ⟨_, rfl⟩
  rw [hV, hY]
  unfold fetV at hV
  rw [hY] at hV
  unfold whyS at hY
  rw [hl] at hV hY
  clear h ht hr hz hl
  obtain ⟨a, ha⟩ : ∃ a, ftV zs n pc = a := ⟨_, rfl⟩
  rw [ha] at HF HD hV hY
  clear ha
  cases hb : ftB n pc
  · rw [hb] at HF hY
    rw [if_pos rfl] at hY
    subst hY
    rw [if_pos (Or.inl rfl)] at hV
    have HV := Lib.hid hV
    clear hV hb
    go_enter Tryz.func31, Tryz.ntmps31
    go_upto_region 1 with fail
    refine wp_allocs [(z5, 50)] rfl ?_
    intro W0 y1 KB y3
    have X1 := Lib.hid (show Blk W0 w.heap.size z5 from y3 0 _ rfl)
    replace KB := Lib.hid KB
    clear y1 y3
    go_upto_region 3 with (first
                            | (go_at_call 52; refine (HF.out _ KB.out).mono ?_; rintro e w1 ⟨rfl, rfl⟩)
                            | (go_at_call 53; refine (HD.out _ KB.out).mono ?_; rintro e w1 ⟨rfl, b⟩; have X1' := X1.out.below b X1.out.1; have KB1 := KB.out.trans (b.mono KB.out.size); replace X1 := Lib.hid X1'; replace KB := Lib.hid KB1; clear b X1' KB1))
    go_wp2_with ((refine wpList_store_blk rfl 50 (.tmp 4) (.tmp 18) rfl w.heap.size z5 z5.toArray X1.out rfl rfl rfl in_info (in5_one ⟨0, 0, 0, 0, 0⟩) ?_; intro W8 hB8 hO8 hbl8 hs8))
    exact bodyPost_ret (v := .tuple #[.agg (z5).toArray, .int .i64 1]) (results_cell_slot Tryz.results31 _ W8 w.heap.size z5 _ _ rfl rfl hB8 Tryz.underlying50 rfl (by first | exact HI.out | exact in_info)) rfl ⟨by first | (rw [HV.out, ← HX.out]; done) | (rw [← HV.out]; rfl), KB.out.trans (hbl8 _ (Nat.le_refl _))⟩
  · rw [hb] at HF hY
    rw [if_neg (by simp)] at hY
    cases hc : chB a
    · rw [hc, if_pos rfl] at hY
      subst hY
      rw [if_pos (Or.inr rfl)] at hV
      rw [(decV_no hc).1, (decV_no hc).2] at HD
      have HV := Lib.hid hV
      clear hV hb hc
      go_enter Tryz.func31, Tryz.ntmps31
      go_upto_region 1 with fail
      refine wp_allocs [(z5, 50)] rfl ?_
      intro W0 y1 KB y3
      have X1 := Lib.hid (show Blk W0 w.heap.size z5 from y3 0 _ rfl)
      replace KB := Lib.hid KB
      clear y1 y3
      go_upto_region 6 with (first | (first
                                       | (go_at_call 52; refine (HF.out _ KB.out).mono ?_; rintro e w1 ⟨rfl, rfl⟩)
                                       | (go_at_call 53; refine (HD.out _ KB.out).mono ?_; rintro e w1 ⟨rfl, b⟩; have X1' := X1.out.below b X1.out.1; have KB1 := KB.out.trans (b.mono KB.out.size); replace X1 := Lib.hid X1'; replace KB := Lib.hid KB1; clear b X1' KB1)) | (refine wpList_store_new rfl 50 (.tmp 8) (.tmp 22) rfl w1.heap.size rfl _ z5 _ rfl rfl (by first | rfl | (rw [H5.out]; rfl)) (by first | exact HI.out | exact in_info) (by first | exact HO.out | exact in5_one ⟨0, 0, 0, 0, 0⟩) ?_; intro W2 hb2 hB2 hs2; have X1' := X1.out.below hb2 X1.out.1; have KB1 := KB.out.trans (hb2.mono KB.out.size); have X2 := Lib.hid hB2; replace X1 := Lib.hid X1'; replace KB := Lib.hid KB1; clear hb2 hB2 X1' KB1))
      go_wp2_with ((refine wpList_store_blk rfl 50 (.tmp 4) (.tmp 27) rfl w.heap.size z5 z5.toArray X1.out rfl rfl rfl in_info (in5_one ⟨0, 0, 0, 0, 0⟩) ?_; intro W8 hB8 hO8 hbl8 hs8))
      exact bodyPost_ret (v := .tuple #[.agg (z5).toArray, .int .i64 2]) (results_cell_slot Tryz.results31 _ W8 w.heap.size z5 _ _ rfl rfl hB8 Tryz.underlying50 rfl (by first | exact HI.out | exact in_info)) rfl ⟨by first | (rw [HV.out, ← HX.out]; done) | (rw [← HV.out]; rfl), KB.out.trans (hbl8 _ (Nat.le_refl _))⟩
    · rw [hc, if_neg (by simp)] at hY
      rw [decV_in a hc, (decV_yes hc).2] at HD
      obtain ⟨⟨op, rd, r1, r2, im⟩, hI⟩ : ∃ I, insOf a = I := ⟨_, rfl⟩
      rw [hI] at HD hY hV
      clear hb hc hI
      simp only at hY
      have hV' : V = .agg #[.int .i64 op, .int .i64 rd, .int .i64 r1, .int .i64 r2, .int .u32 im] := by
        rw [← hV, if_neg]
        · rfl
        · rw [← hY]; split <;> (try split) <;> omega
      have HV := Lib.hid hV'
      clear hV hV'
      obtain ⟨xs, hxs⟩ : ∃ xs : List Value, [Value.int .i64 op, .int .i64 rd, .int .i64 r1, .int .i64 r2, .int .u32 im] = xs := ⟨_, rfl⟩
      have hx5 : xs.length = 5 := by rw [← hxs]; rfl
      have hxo : xs.toArray.all (·.oneCell') = true := by rw [← hxs]; exact in5_one ⟨op, rd, r1, r2, im⟩
      have hx0 : xs[0]? = some (.int .i64 op) := by rw [← hxs]; rfl
      have hxv : inV ⟨op, rd, r1, r2, im⟩ = .agg xs.toArray := by rw [← hxs]; rfl
      rw [hxv] at HD
      have HX := Lib.hid hxs
      have H0 := Lib.hid hx0
      have HO := Lib.hid hxo
      have H5 := Lib.hid hx5
      have HI := Lib.hid (show (Tryz.prog.info? 50).map (·.size) = some xs.length by rw [hx5]; exact in_info)
      clear hxs hxo hxv hx0 hx5
      by_cases h47 : op = 47
      · rw [if_pos h47] at hY
        subst hY
        subst h47
        go_enter Tryz.func31, Tryz.ntmps31
        go_upto_region 1 with fail
        refine wp_allocs [(z5, 50)] rfl ?_
        intro W0 y1 KB y3
        have X1 := Lib.hid (show Blk W0 w.heap.size z5 from y3 0 _ rfl)
        replace KB := Lib.hid KB
        clear y1 y3
        go_upto_region 7 with (first | (first
                                         | (go_at_call 52; refine (HF.out _ KB.out).mono ?_; rintro e w1 ⟨rfl, rfl⟩)
                                         | (go_at_call 53; refine (HD.out _ KB.out).mono ?_; rintro e w1 ⟨rfl, b⟩; have X1' := X1.out.below b X1.out.1; have KB1 := KB.out.trans (b.mono KB.out.size); replace X1 := Lib.hid X1'; replace KB := Lib.hid KB1; clear b X1' KB1)) | (refine wpList_store_new rfl 50 (.tmp 8) (.tmp 22) rfl w1.heap.size rfl _ xs _ rfl rfl (by first | rfl | (rw [H5.out]; rfl)) (by first | exact HI.out | exact in_info) (by first | exact HO.out | exact in5_one ⟨0, 0, 0, 0, 0⟩) ?_; intro W2 hb2 hB2 hs2; have X1' := X1.out.below hb2 X1.out.1; have KB1 := KB.out.trans (hb2.mono KB.out.size); have X2 := Lib.hid hB2; replace X1 := Lib.hid X1'; replace KB := Lib.hid KB1; clear hb2 hB2 X1' KB1))
        have c0 := X2.out.2.1 0 _ H0.out
        go_upto_region 8 with fail
        clear c0
        go_wp2_with (first | (refine wpList_load_mid rfl 50 (.tmp 8) rfl _ 0 rfl xs _ X2.out.range Tryz.underlying50 rfl HI.out ?_) | (refine wpList_store_blk rfl 50 (.tmp 4) (.tmp 32) rfl w.heap.size z5 xs.toArray X1.out (by rw [List.size_toArray, H5.out]; rfl) rfl rfl (by simpa using HI.out) HO.out ?_; intro W8 hB8 hO8 hbl8 hs8))
        exact bodyPost_ret (v := .tuple #[.agg (xs).toArray, .int .i64 6]) (results_cell_slot Tryz.results31 _ W8 w.heap.size xs _ _ rfl rfl hB8 Tryz.underlying50 rfl (by first | exact HI.out | exact in_info)) rfl ⟨by first | (rw [HV.out, ← HX.out]; done) | (rw [← HV.out]; rfl), KB.out.trans (hbl8 _ (Nat.le_refl _))⟩
      · rw [if_neg h47] at hY
        have q1 : (op == 47) = false := by simpa using h47
        by_cases h48 : op = 48
        · rw [if_pos h48] at hY
          subst hY
          subst h48
          go_enter Tryz.func31, Tryz.ntmps31
          go_upto_region 1 with fail
          refine wp_allocs [(z5, 50)] rfl ?_
          intro W0 y1 KB y3
          have X1 := Lib.hid (show Blk W0 w.heap.size z5 from y3 0 _ rfl)
          replace KB := Lib.hid KB
          clear y1 y3
          go_upto_region 7 with (first | (first
                                           | (go_at_call 52; refine (HF.out _ KB.out).mono ?_; rintro e w1 ⟨rfl, rfl⟩)
                                           | (go_at_call 53; refine (HD.out _ KB.out).mono ?_; rintro e w1 ⟨rfl, b⟩; have X1' := X1.out.below b X1.out.1; have KB1 := KB.out.trans (b.mono KB.out.size); replace X1 := Lib.hid X1'; replace KB := Lib.hid KB1; clear b X1' KB1)) | (refine wpList_store_new rfl 50 (.tmp 8) (.tmp 22) rfl w1.heap.size rfl _ xs _ rfl rfl (by first | rfl | (rw [H5.out]; rfl)) (by first | exact HI.out | exact in_info) (by first | exact HO.out | exact in5_one ⟨0, 0, 0, 0, 0⟩) ?_; intro W2 hb2 hB2 hs2; have X1' := X1.out.below hb2 X1.out.1; have KB1 := KB.out.trans (hb2.mono KB.out.size); have X2 := Lib.hid hB2; replace X1 := Lib.hid X1'; replace KB := Lib.hid KB1; clear hb2 hB2 X1' KB1))
          have c0 := X2.out.2.1 0 _ H0.out
          go_upto_region 10 with fail
          clear c0
          go_wp2_with (first | (refine wpList_load_mid rfl 50 (.tmp 8) rfl _ 0 rfl xs _ X2.out.range Tryz.underlying50 rfl HI.out ?_) | (refine wpList_store_blk rfl 50 (.tmp 4) (.tmp 37) rfl w.heap.size z5 xs.toArray X1.out (by rw [List.size_toArray, H5.out]; rfl) rfl rfl (by simpa using HI.out) HO.out ?_; intro W8 hB8 hO8 hbl8 hs8))
          exact bodyPost_ret (v := .tuple #[.agg (xs).toArray, .int .i64 7]) (results_cell_slot Tryz.results31 _ W8 w.heap.size xs _ _ rfl rfl hB8 Tryz.underlying50 rfl (by first | exact HI.out | exact in_info)) rfl ⟨by first | (rw [HV.out, ← HX.out]; done) | (rw [← HV.out]; rfl), KB.out.trans (hbl8 _ (Nat.le_refl _))⟩
        · rw [if_neg h48] at hY
          subst hY
          have q2 : (op == 48) = false := by simpa using h48
          go_enter Tryz.func31, Tryz.ntmps31
          go_upto_region 1 with fail
          refine wp_allocs [(z5, 50)] rfl ?_
          intro W0 y1 KB y3
          have X1 := Lib.hid (show Blk W0 w.heap.size z5 from y3 0 _ rfl)
          replace KB := Lib.hid KB
          clear y1 y3
          go_upto_region 7 with (first | (first
                                           | (go_at_call 52; refine (HF.out _ KB.out).mono ?_; rintro e w1 ⟨rfl, rfl⟩)
                                           | (go_at_call 53; refine (HD.out _ KB.out).mono ?_; rintro e w1 ⟨rfl, b⟩; have X1' := X1.out.below b X1.out.1; have KB1 := KB.out.trans (b.mono KB.out.size); replace X1 := Lib.hid X1'; replace KB := Lib.hid KB1; clear b X1' KB1)) | (refine wpList_store_new rfl 50 (.tmp 8) (.tmp 22) rfl w1.heap.size rfl _ xs _ rfl rfl (by first | rfl | (rw [H5.out]; rfl)) (by first | exact HI.out | exact in_info) (by first | exact HO.out | exact in5_one ⟨0, 0, 0, 0, 0⟩) ?_; intro W2 hb2 hB2 hs2; have X1' := X1.out.below hb2 X1.out.1; have KB1 := KB.out.trans (hb2.mono KB.out.size); have X2 := Lib.hid hB2; replace X1 := Lib.hid X1'; replace KB := Lib.hid KB1; clear hb2 hB2 X1' KB1))
          have c0 := X2.out.2.1 0 _ H0.out
          go_upto_region 11 with fail
          clear c0
          go_wp2_with (first | (refine wpList_load_mid rfl 50 (.tmp 8) rfl _ 0 rfl xs _ X2.out.range Tryz.underlying50 rfl HI.out ?_) | (refine wpList_store_blk rfl 50 (.tmp 4) (.tmp 38) rfl w.heap.size z5 xs.toArray X1.out (by rw [List.size_toArray, H5.out]; rfl) rfl rfl (by simpa using HI.out) HO.out ?_; intro W8 hB8 hO8 hbl8 hs8))
          exact bodyPost_ret (v := .tuple #[.agg (xs).toArray, .int .i64 0]) (results_cell_slot Tryz.results31 _ W8 w.heap.size xs _ _ rfl rfl hB8 Tryz.underlying50 rfl (by first | exact HI.out | exact in_info)) rfl ⟨by first | (rw [HV.out, ← HX.out]; done) | (rw [← HV.out]; rfl), KB.out.trans (hbl8 _ (Nat.le_refl _))⟩
end Go.Proofs.YtkamljmopbocnaaGreatDoor

/- THE CONTRACT of seq.access. -/
namespace Go.Proofs.YtkamljmopbocnaaGreatDoor
open Go.ChangeShapes Go.WideShapes Go.ChangeAt Go.RowKit Go.Sort
set_option linter.unusedVariables false
set_option linter.unusedSimpArgs false
set_option maxHeartbeats 4000000
set_option maxRecDepth 100000

theorem stoS_small (b n : Int) : (stoS b n).size ≤ 4 := by
  unfold stoS
  split
  · rename_i h
    have h1 : (strOfNums (bytL b n.toNat)).size = n.toNat := by simp [strOfNums, bytL, ByteArray.size]
    omega
  · simp
theorem wrote_len {s : Sq} (h : s.regs.length = 32) (op rd next value : Int) (t : St) : (wrote s op rd next value t).1.regs.length = 32 := by
  unfold wrote
  show (if _ then _ else _ : List Int).length = 32
  split
  · exact h
  · rw [List.length_set]; exact h
theorem accS_len {s : Sq} (h : s.regs.length = 32) (i : Ins) (addr b : Int) : (accS s i addr b).1.regs.length = 32 := by
  unfold accS
  split
  · exact h
  · split
    · exact wrote_len (by exact h) _ _ _ _ _
    · exact wrote_len h _ _ _ _ _
theorem access_any (s : Sq) (i : Ins) (addr b : Int) (hs : sqOK s) (hw : 0 ≤ wrI i.op i.rd ∧ wrI i.op i.rd ≤ 31) (a0 : 0 ≤ addr) (a1 : addr < 4294967296) (b0 : 0 ≤ b) (b1 : b < 4294967296) (w : World) (ht : TabIs w) (hg : 0 < w.heap.size) :
    Calls Tryz.prog 34 #[sqV s, inV i, .int .u32 addr, .int .u32 b] w fun r w' => r = .returned (.tuple #[sqV (accS s i addr b).1, stV (accS s i addr b).2]) ∧ Below w.heap.size w w' := by
  obtain ⟨hp, hrl, hrr, hm⟩ := hs
  have HT := Lib.hid ht
  clear ht
  obtain ⟨op, rd, r1, r2, im⟩ := i
  simp only at hw
  have HSZ := Lib.hid (fun w => size_any op rd r1 r2 im w)
  have HK := Lib.hid (fun w => kind_any op rd r1 r2 im w)
  have HRD := Lib.hid (fun w => read_any s.mem addr (sizeOp op) (by unfold maxLen; omega) a0 a1 w)
  have HH := Lib.hid (fun why w => halted_any s hrl why addr w)
  obtain ⟨s2, hs2⟩ : ∃ s2, (accS s ⟨op, rd, r1, r2, im⟩ addr b).1 = s2 := ⟨_, rfl⟩
  obtain ⟨t2, ht2⟩ : ∃ t2, (accS s ⟨op, rd, r1, r2, im⟩ addr b).2 = t2 := ⟨_, rfl⟩
  rw [hs2, ht2]
  have HL2 := Lib.hid (show s2.regs.length = 32 by rw [← hs2]; exact accS_len hrl _ _ _)
  unfold accS at hs2 ht2
  simp only at hs2 ht2
  obtain ⟨cs, hcs⟩ : ∃ cs, sqC s = cs := ⟨_, rfl⟩
  have hl := sqC_len hrl
  have h0 := sqC_pc s
  have h33 := sqC_mem hrl
  rw [hcs] at hl h0 h33
  have hsv : sqV s = .agg cs.toArray := by rw [← hcs]; rfl
  rw [hsv] at HH ⊢
  obtain ⟨xs, hxs⟩ : ∃ xs : List Value, [Value.int .i64 op, .int .i64 rd, .int .i64 r1, .int .i64 r2, .int .u32 im] = xs := ⟨_, rfl⟩
  have hx5 : xs.length = 5 := by rw [← hxs]; rfl
  have hx0 : xs[0]? = some (.int .i64 op) := by rw [← hxs]; rfl
  have hxv : (.agg #[.int .i64 op, .int .i64 rd, .int .i64 r1, .int .i64 r2, .int .u32 im] : Value) = .agg xs.toArray := by rw [← hxs]
  rw [hxv] at HSZ HK
  rw [show inV ⟨op, rd, r1, r2, im⟩ = .agg xs.toArray from hxv]
  have HX := Lib.hid (show (Tryz.prog.info? 50).map (·.size) = some xs.length by rw [hx5]; exact in_info)
  have HI := Lib.hid (show (Tryz.prog.info? 28).map (·.size) = some cs.length by rw [hl]; exact sq_info)
  have H0 := Lib.hid h0
  have H33 := Lib.hid h33
  have X0 := Lib.hid hx0
  have HL := Lib.hid hl
  have HCS := Lib.hid hcs
  have HXV := Lib.hid hxv
  clear hl h0 h33 hx0 hx5 hxs hcs hsv hxv
  obtain ⟨m, hmm⟩ : ∃ m, s.mem = m := ⟨_, rfl⟩
  rw [hmm] at HRD H33 hs2 ht2
  obtain ⟨sz, hsz⟩ : ∃ sz, sizeOp op = sz := ⟨_, rfl⟩
  rw [hsz] at HSZ HRD hs2 ht2
  obtain ⟨kd, hkd⟩ : ∃ kd, kindI op = kd := ⟨_, rfl⟩
  rw [hkd] at HK hs2 ht2
  obtain ⟨cs2, hcs2⟩ : ∃ cs2, sqC s2 = cs2 := ⟨_, rfl⟩
  obtain ⟨ds2, hds2⟩ : ∃ ds2, stC t2 = ds2 := ⟨_, rfl⟩
  have hl2 : cs2.length = 35 := by rw [← hcs2]; exact sqC_len HL2.out
  have hl3 : ds2.length = 9 := by rw [← hds2]; rfl
  have ho2 := sqC_one s2
  have ho3 := stC_one t2
  rw [hcs2] at ho2
  rw [hds2] at ho3
  have HI2 := Lib.hid (show (Tryz.prog.info? 28).map (·.size) = some cs2.toArray.size by rw [List.size_toArray, hl2]; exact sq_info)
  have HZ2 := Lib.hid (show z35.length = cs2.toArray.size by rw [List.size_toArray, hl2]; rfl)
  have HI3 := Lib.hid (show (Tryz.prog.info? 40).map (·.size) = some ds2.toArray.size by rw [List.size_toArray, hl3]; exact st_info)
  have HZ3 := Lib.hid (show z9.length = ds2.toArray.size by rw [List.size_toArray, hl3]; rfl)
  have HO2 := Lib.hid ho2
  have HO3 := Lib.hid ho3
  have hv2 : sqV s2 = .agg cs2.toArray := by rw [← hcs2]; rfl
  have hv3 : stV t2 = .agg ds2.toArray := by rw [← hds2]; rfl
  rw [hv2, hv3]
  go_enter Tryz.func34, Tryz.ntmps34
  go_upto_region 1 with fail
  refine wp_allocs [(cs, 28), (xs, 50), (z35, 28), (z9, 40)] rfl ?_
  intro W0 y1 KB y3
  have X1 := Lib.hid (show Blk W0 w.heap.size cs from y3 0 _ rfl)
  have X2 := Lib.hid (show Blk W0 (w.heap.size + 1) xs from y3 1 _ rfl)
  have X3 := Lib.hid (show Blk W0 (w.heap.size + 1 + 1) z35 from y3 2 _ rfl)
  have X4 := Lib.hid (show Blk W0 (w.heap.size + 1 + 1 + 1) z9 from y3 3 _ rfl)
  replace KB := Lib.hid KB
  clear y1 y3
  refine wp_region_quiet_below (by kernel_rfl) (by kernel_rfl) ?_
  repeat (first
    | (go_big_quiet_want; refine quiet_load_mid 50 (.tmp 5) rfl _ rfl xs _ X2.out Tryz.underlying50 rfl HX.out ?_; simp only [Act.put, List.setIfInBounds_toArray, List.set_cons_succ, List.set_cons_zero]; go_big_quiet_on)
    | (go_big_quiet_step (first
      | (go_at_call 54; exact Calls.regrown_of (HSZ.out _))
      | (go_at_call 33; exact Calls.regrown_of (HK.out _)))))
  refine wpQuiet_nil ?_
  intro _ hw'
  obtain ⟨⟨nq, osq⟩, hw''⟩ := hw'
  subst hw''
  have bq := below_regrown W0 nq osq
  have z1 := X1.out.below bq X1.out.1
  have z2 := X2.out.below bq X2.out.1
  have z3 := X3.out.below bq X3.out.1
  have z4 := X4.out.below bq X4.out.1
  have z5 := KB.out.trans ((bq).mono KB.out.size)
  clear X1 X2 X3 X4 KB
  have X1 := Lib.hid z1
  have X2 := Lib.hid z2
  have X3 := Lib.hid z3
  have X4 := Lib.hid z4
  have KB := Lib.hid z5
  clear z1 z2 z3 z4 z5
  clear bq
  generalize grow (redrawn W0 nq) osq = W1 at *
  have s33 := X1.out.2.1 33 _ H33.out
  clear HSZ HK
  cases hrt : rtB m.size addr sz
  · rw [hrt] at HRD hs2 ht2
    rw [if_pos rfl] at hs2 ht2
    simp only [Bool.false_eq_true, if_false] at HRD
    by_cases hk4 : kd = 4
    · rw [if_pos hk4] at hs2 ht2
      replace HH := Lib.hid (HH.out 5)
      rw [hs2, ht2] at HH
      rw [hv2, hv3] at HH
      have q : (kd == 4) = true := by simpa using hk4
      rw [q]
      clear hs2 ht2 hk4 hrt q hkd hsz hcs2 hds2 hl2 hl3 ho2 ho3 hv2 hv3
      go_upto_region 4 with (go_at_call 55; refine (HRD.out _).mono ?_; rintro e w2 ⟨rfl, rfl⟩)
      clear s33
      go_wp2_with (first
        | (refine wpList_load_mid rfl 28 (.tmp 4) rfl _ 0 rfl cs _ X1.out.range Tryz.underlying28 rfl HI.out ?_)
        | (refine wpList_store_blk rfl 28 (.tmp 8) (.tmp 37) rfl (w.heap.size + 1 + 1) z35 cs2.toArray X3.out HZ2.out rfl rfl HI2.out HO2.out ?_; intro W7 hB7 hO7 hbl7 hs7; have X4' := hO7 _ _ (by omega) X4.out; replace X4 := Lib.hid X4'; clear X4')
        | (refine wpList_store_blk rfl 40 (.tmp 9) (.tmp 38) rfl (w.heap.size + 1 + 1 + 1) z9 ds2.toArray X4.out HZ3.out rfl rfl HI3.out HO3.out ?_; intro W8 hB8 hO8 hbl8 hs8)
        | (go_at_call 32
           refine (HH.out _).mono ?_
           rintro e w3 ⟨rfl, b⟩
           have z1 := X1.out.below b X1.out.1
           have z2 := X2.out.below b X2.out.1
           have z3 := X3.out.below b X3.out.1
           have z4 := X4.out.below b X4.out.1
           have z5 := KB.out.trans ((b).mono KB.out.size)
           clear X1 X2 X3 X4 KB
           have X1 := Lib.hid z1
           have X2 := Lib.hid z2
           have X3 := Lib.hid z3
           have X4 := Lib.hid z4
           have KB := Lib.hid z5
           clear z1 z2 z3 z4 z5
           clear b))
      exact bodyPost_ret (v := .tuple #[.agg cs2.toArray, .agg ds2.toArray]) (results_cell_two Tryz.results34 _ W8 (w.heap.size + 1 + 1) (w.heap.size + 1 + 1 + 1) cs2 ds2 _ _ rfl rfl (hO8 _ _ (by omega) hB7) hB8 Tryz.underlying28 rfl (by simpa using HI2.out) Tryz.underlying40 rfl (by simpa using HI3.out)) rfl ⟨rfl, (KB.out.trans (hbl7 _ (by omega))).trans (hbl8 _ (by omega))⟩
    · rw [if_neg hk4] at hs2 ht2
      replace HH := Lib.hid (HH.out 4)
      rw [hs2, ht2] at HH
      rw [hv2, hv3] at HH
      have q : (kd == 4) = false := by simpa using hk4
      rw [q]
      clear hs2 ht2 hk4 hrt q hkd hsz hcs2 hds2 hl2 hl3 ho2 ho3 hv2 hv3
      go_upto_region 6 with (go_at_call 55; refine (HRD.out _).mono ?_; rintro e w2 ⟨rfl, rfl⟩)
      clear s33
      go_wp2_with (first
        | (refine wpList_load_mid rfl 28 (.tmp 4) rfl _ 0 rfl cs _ X1.out.range Tryz.underlying28 rfl HI.out ?_)
        | (refine wpList_store_blk rfl 28 (.tmp 8) (.tmp 45) rfl (w.heap.size + 1 + 1) z35 cs2.toArray X3.out HZ2.out rfl rfl HI2.out HO2.out ?_; intro W7 hB7 hO7 hbl7 hs7; have X4' := hO7 _ _ (by omega) X4.out; replace X4 := Lib.hid X4'; clear X4')
        | (refine wpList_store_blk rfl 40 (.tmp 9) (.tmp 46) rfl (w.heap.size + 1 + 1 + 1) z9 ds2.toArray X4.out HZ3.out rfl rfl HI3.out HO3.out ?_; intro W8 hB8 hO8 hbl8 hs8)
        | (go_at_call 32
           refine (HH.out _).mono ?_
           rintro e w3 ⟨rfl, b⟩
           have z1 := X1.out.below b X1.out.1
           have z2 := X2.out.below b X2.out.1
           have z3 := X3.out.below b X3.out.1
           have z4 := X4.out.below b X4.out.1
           have z5 := KB.out.trans ((b).mono KB.out.size)
           clear X1 X2 X3 X4 KB
           have X1 := Lib.hid z1
           have X2 := Lib.hid z2
           have X3 := Lib.hid z3
           have X4 := Lib.hid z4
           have KB := Lib.hid z5
           clear z1 z2 z3 z4 z5
           clear b))
      exact bodyPost_ret (v := .tuple #[.agg cs2.toArray, .agg ds2.toArray]) (results_cell_two Tryz.results34 _ W8 (w.heap.size + 1 + 1) (w.heap.size + 1 + 1 + 1) cs2 ds2 _ _ rfl rfl (hO8 _ _ (by omega) hB7) hB8 Tryz.underlying28 rfl (by simpa using HI2.out) Tryz.underlying40 rfl (by simpa using HI3.out)) rfl ⟨rfl, (KB.out.trans (hbl7 _ (by omega))).trans (hbl8 _ (by omega))⟩
  · rw [hrt] at HRD hs2 ht2
    rw [if_neg (by simp)] at hs2 ht2
    simp only [if_true] at HRD
    obtain ⟨S, hS⟩ : ∃ S, m.extract addr.toNat (addr + sz).toNat = S := ⟨_, rfl⟩
    rw [hS] at HRD hs2 ht2
    have hSs : S.size ≤ 9223372036854775807 := by
      have h1 : S.data.toList.length ≤ m.data.toList.length := by rw [← hS, ex_data]; simp; omega
      have h2 : S.data.toList.length = S.size := rfl
      have h3 : m.data.toList.length = m.size := rfl
      rw [hmm] at hm
      omega
    clear hS
    obtain ⟨pc, hpc⟩ : ∃ pc, s.pc = pc := ⟨_, rfl⟩
    rw [hpc] at H0 hs2 ht2 hp
    by_cases hk4 : kd = 4
    · rw [if_pos hk4] at hs2 ht2
      have q : (kd == 4) = true := by simpa using hk4
      rw [q]
      have HBy := Lib.hid (fun w => bytes_any b sz b0 b1 w)
      have HJ := Lib.hid (fun w => join_any (stoS b sz) (stoS_size _ _) w)
      unfold stoV at hs2 ht2
      have hDs := stoS_small b sz
      obtain ⟨D, hD⟩ : ∃ D, stoS b sz = D := ⟨_, rfl⟩
      rw [hD] at HJ hs2 ht2 hDs
      have hD' : (if 0 ≤ sz ∧ sz ≤ 4 then strOfNums (bytL b sz.toNat) else ByteArray.empty) = D := hD
      rw [hD'] at HBy
      obtain ⟨VV, hVV⟩ : ∃ VV : Int, ((if D.size ≤ 4 then joinN D.data.toList else 0 : Nat) : Int) = VV := ⟨_, rfl⟩
      rw [hVV] at HJ hs2 ht2
      obtain ⟨E1, hE1⟩ : ∃ E1 : Int, (if 0 ≤ sz ∧ sz ≤ 4 then 0 else 1) = E1 := ⟨_, rfl⟩
      rw [hE1] at HBy
      obtain ⟨E2, hE2⟩ : ∃ E2 : Int, (if D.size ≤ 4 then 0 else 2) = E2 := ⟨_, rfl⟩
      rw [hE2] at HJ
      have HWt := Lib.hid (fun w => write_any m addr D (by rw [← hmm]; exact hm) (by omega) a0 a1 w)
      obtain ⟨M, hM⟩ : ∃ M, (if rtB m.size addr D.size = true then wrS m D addr.toNat else ByteArray.empty) = M := ⟨_, rfl⟩
      rw [hM] at HWt hs2 ht2
      obtain ⟨E3, hE3⟩ : ∃ E3 : Int, (if rtB m.size addr D.size = true then 0 else 1) = E3 := ⟨_, rfl⟩
      rw [hE3] at HWt
      have hset := sqC_setMem hrl M
      rw [HCS.out, hpc] at hset
      have HWR := Lib.hid (fun w ht hg => wrote_any ⟨pc, s.regs, M, s.halt⟩ op rd r1 r2 im ((pc + 4) % 4294967296) 0 ⟨0, 0, 0, VV, addr, sz, true, 0, 0⟩ hrl hw w ht hg)
      rw [hs2, ht2, hv2, hv3, HXV.out, show sqV ⟨pc, s.regs, M, s.halt⟩ = .agg (cs.set 33 (.string M)).toArray by rw [hset]; rfl] at HWR
      obtain ⟨us, hus⟩ : ∃ us, stC ⟨0, 0, 0, VV, addr, sz, true, 0, 0⟩ = us := ⟨_, rfl⟩
      have hu9 : us.length = 9 := by rw [← hus]; rfl
      have UI := Lib.hid (show (Tryz.prog.info? 40).map (·.size) = some us.length by rw [hu9]; exact st_info)
      rw [show stV ⟨0, 0, 0, VV, addr, sz, true, 0, 0⟩ = .agg us.toArray by rw [← hus]; rfl] at HWR
      obtain ⟨ts, hts⟩ : ∃ ts, stC ⟨0, 0, 0, 0, addr, sz, true, 0, 0⟩ = ts := ⟨_, rfl⟩
      have hts3 : ts[3]? = some (.int .u32 0) := by rw [← hts]; rfl
      have htu : ts.set 3 (.int .u32 VV) = us := by rw [← hts, ← hus]; rfl
      have T3 := Lib.hid hts3
      have TU := Lib.hid htu
      obtain ⟨cs3, hcs3⟩ : ∃ cs3, cs.set 33 (.string M) = cs3 := ⟨_, rfl⟩
      have hl33 : cs3.length = 35 := by rw [← hcs3, List.length_set, HL.out]
      rw [hcs3] at HWR
      have C3 := Lib.hid hcs3
      have HI' := Lib.hid (show (Tryz.prog.info? 28).map (·.size) = some cs3.length by rw [hl33]; exact sq_info)
      have h30 : cs3[0]? = some (.int .u32 pc) := by rw [← hcs3, List.getElem?_set_ne (by omega)]; exact H0.out
      have H30 := Lib.hid h30
      clear hts3 htu hcs3 hl33 h30 hset hM hE3 hE2 hE1 hVV hD hD' hus hu9
      have hto : ts.toArray.all (·.oneCell') = true := by rw [← hts]; exact stC_one _
      have ht9 : ts.length = 9 := by rw [← hts]; rfl
      have TI := Lib.hid (show (Tryz.prog.info? 40).map (·.size) = some ts.length by rw [ht9]; exact st_info)
      have TO := Lib.hid hto
      have T9 := Lib.hid ht9
      have TS := Lib.hid hts
      have htv : stV ⟨0, 0, 0, 0, addr, sz, true, 0, 0⟩ = .agg ts.toArray := by rw [← hts]; rfl
      (try rw [htv] at HWR)
      have htb : (.agg #[.int .u32 0, .int .u32 0, .int .i64 0, .int .u32 0, .int .u32 addr, .int .i64 sz, .bool true, .int .i64 0, .int .i64 0] : Value) = .agg ts.toArray := htv
      have TV := Lib.hid htb
      clear hto ht9 hts htv htb
      clear hs2 ht2 hk4 hrt q hkd hsz hcs2 hds2 hl2 hl3 ho2 ho3 hv2 hv3
      have HB5 := Lib.hid X4.out.1
      go_upto_region 10 with (first
        | (go_at_call 55; refine (HRD.out _).mono ?_; rintro e w2 ⟨rfl, rfl⟩)
        | (refine wpList_store_new rfl 40 (.tmp 14) (.tmp 50) rfl _ rfl _ ts _ rfl TV.out (by rw [T9.out]; rfl) TI.out TO.out ?_
           intro W2 hb2 hB2 hs2
           have z1 := X1.out.below hb2 X1.out.1
           have z2 := X2.out.below hb2 X2.out.1
           have z3 := X3.out.below hb2 X3.out.1
           have z4 := X4.out.below hb2 X4.out.1
           have z5 := KB.out.trans ((hb2).mono KB.out.size)
           clear X1 X2 X3 X4 KB
           have X1 := Lib.hid z1
           have X2 := Lib.hid z2
           have X3 := Lib.hid z3
           have X4 := Lib.hid z4
           have KB := Lib.hid z5
           clear z1 z2 z3 z4 z5
           have X5 := Lib.hid hB2
           clear hb2 hB2))
      clear s33
      go_upto_region 11 with (go_at_call 57
                              refine (HBy.out _).mono ?_
                              rintro e w3 ⟨rfl, b⟩
                              have z1 := X1.out.below b X1.out.1
                              have z2 := X2.out.below b X2.out.1
                              have z3 := X3.out.below b X3.out.1
                              have z4 := X4.out.below b X4.out.1
                              have z5 := KB.out.trans ((b).mono KB.out.size)
                              clear X1 X2 X3 X4 KB
                              have X1 := Lib.hid z1
                              have X2 := Lib.hid z2
                              have X3 := Lib.hid z3
                              have X4 := Lib.hid z4
                              have KB := Lib.hid z5
                              clear z1 z2 z3 z4 z5
                              have X5' := X5.out.below b X5.out.1
                              replace X5 := Lib.hid X5'
                              clear b X5')
      clear HBy
      go_wp2_with fail
      go_at_call 58
      refine (HJ.out _).mono ?_
      rintro e w4 ⟨rfl, b⟩
      have z1 := X1.out.below b X1.out.1
      have z2 := X2.out.below b X2.out.1
      have z3 := X3.out.below b X3.out.1
      have z4 := X4.out.below b X4.out.1
      have z5 := KB.out.trans ((b).mono KB.out.size)
      clear X1 X2 X3 X4 KB
      have X1 := Lib.hid z1
      have X2 := Lib.hid z2
      have X3 := Lib.hid z3
      have X4 := Lib.hid z4
      have KB := Lib.hid z5
      clear z1 z2 z3 z4 z5
      have X5' := X5.out.below b X5.out.1
      replace X5 := Lib.hid X5'
      clear b X5'
      have hb5 := HB5.out
      obtain ⟨B5, hB5⟩ : ∃ B5, W1.heap.size = B5 := ⟨_, rfl⟩
      rw [hB5] at X5 hb5 ⊢
      have c3 := X5.out.2.1 3 _ T3.out
      have f3 := X5.out.2.2 3 (by have := T9.out; omega)
      go_upto_region 12 with fail
      clear c3 f3
      have y5 := (X5.out).set (i := 3) (v := .int .u32 VV) (by have := T9.out; omega)
      rw [TU.out] at y5
      have z1 := (X1.out).other (p := ⟨B5, 3, none⟩) (v := .int .u32 VV) (by simp <;> omega)
      have z2 := (X2.out).other (p := ⟨B5, 3, none⟩) (v := .int .u32 VV) (by simp <;> omega)
      have z3 := (X3.out).other (p := ⟨B5, 3, none⟩) (v := .int .u32 VV) (by simp <;> omega)
      have z4 := (X4.out).other (p := ⟨B5, 3, none⟩) (v := .int .u32 VV) (by simp <;> omega)
      have z5 := (KB.out).setCell (p := ⟨B5, 3, none⟩) (by show w.heap.size ≤ B5; omega) (.int .u32 VV)
      generalize (World.setCell w4 ⟨B5, 3, none⟩ (.int .u32 VV)) = W5 at *
      clear X1 X2 X3 X4 KB
      have X1 := Lib.hid z1
      have X2 := Lib.hid z2
      have X3 := Lib.hid z3
      have X4 := Lib.hid z4
      have KB := Lib.hid z5
      clear z1 z2 z3 z4 z5
      replace X5 := Lib.hid y5
      clear y5
      have s33 := X1.out.2.1 33 _ H33.out
      go_wp2_with fail
      go_at_call 59
      refine (HWt.out _).mono ?_
      rintro e w6 ⟨rfl, b⟩
      have z1 := X1.out.below b X1.out.1
      have z2 := X2.out.below b X2.out.1
      have z3 := X3.out.below b X3.out.1
      have z4 := X4.out.below b X4.out.1
      have z5 := KB.out.trans ((b).mono KB.out.size)
      clear X1 X2 X3 X4 KB
      have X1 := Lib.hid z1
      have X2 := Lib.hid z2
      have X3 := Lib.hid z3
      have X4 := Lib.hid z4
      have KB := Lib.hid z5
      clear z1 z2 z3 z4 z5
      have X5' := X5.out.below b X5.out.1
      replace X5 := Lib.hid X5'
      clear b X5' s33
      have s33 := X1.out.2.1 33 _ H33.out
      have e33 := X1.out.2.2 33 (by have := HL.out; omega)
      go_upto_region 13 with fail
      clear s33 e33
      have y5 := (X5.out).other (p := ⟨w.heap.size, 33, none⟩) (v := .string M) (by simp <;> omega)
      have z1 := (X1.out).set (i := 33) (v := .string M) (by have := HL.out; omega)
      rw [C3.out] at z1
      have z2 := (X2.out).other (p := ⟨w.heap.size, 33, none⟩) (v := .string M) (by simp <;> omega)
      have z3 := (X3.out).other (p := ⟨w.heap.size, 33, none⟩) (v := .string M) (by simp <;> omega)
      have z4 := (X4.out).other (p := ⟨w.heap.size, 33, none⟩) (v := .string M) (by simp <;> omega)
      have z5 := (KB.out).setCell (p := ⟨w.heap.size, 33, none⟩) (Nat.le_refl _) (.string M)
      generalize (World.setCell w6 ⟨w.heap.size, 33, none⟩ (.string M)) = W7 at *
      clear X1 X2 X3 X4 KB
      have X1 := Lib.hid z1
      have X2 := Lib.hid z2
      have X3 := Lib.hid z3
      have X4 := Lib.hid z4
      have KB := Lib.hid z5
      clear z1 z2 z3 z4 z5
      replace X5 := Lib.hid y5
      clear y5
      have c0 := X1.out.2.1 0 _ H30.out
      have TB := Lib.hid (HT.out.below KB.out hg)
      have GB := Lib.hid (Nat.lt_of_lt_of_le hg KB.out.size)
      replace HI := HI'
      obtain ⟨cs0, hcs0⟩ : ∃ cs0, cs0 = cs := ⟨_, rfl⟩
      go_wp2_with (first
        | (refine wpList_load_mid rfl 28 (.tmp 4) rfl _ 0 rfl cs3 _ X1.out.range Tryz.underlying28 rfl HI'.out ?_)
        | (refine wpList_load_mid rfl 50 (.tmp 5) rfl _ 0 rfl xs _ X2.out.range Tryz.underlying50 rfl HX.out ?_)
        | (refine wpList_load_mid rfl 40 (.tmp 14) rfl _ 0 rfl us _ X5.out.range Tryz.underlying40 rfl UI.out ?_)
        | (refine wpList_store_blk rfl 28 (.tmp 8) (.tmp 94) rfl (w.heap.size + 1 + 1) z35 cs2.toArray X3.out HZ2.out rfl rfl HI2.out HO2.out ?_; intro W7 hB7 hO7 hbl7 hs7; have X4' := hO7 _ _ (by omega) X4.out; replace X4 := Lib.hid X4'; clear X4')
        | (refine wpList_store_blk rfl 40 (.tmp 9) (.tmp 95) rfl (w.heap.size + 1 + 1 + 1) z9 ds2.toArray X4.out HZ3.out rfl rfl HI3.out HO3.out ?_; intro W8 hB8 hO8 hbl8 hs8)
        | (go_at_call 36
           refine (HWR.out _ TB.out GB.out).mono ?_
           rintro e w8 ⟨rfl, b⟩
           have z1 := X1.out.below b X1.out.1
           have z2 := X2.out.below b X2.out.1
           have z3 := X3.out.below b X3.out.1
           have z4 := X4.out.below b X4.out.1
           have z5 := KB.out.trans ((b).mono KB.out.size)
           clear X1 X2 X3 X4 KB
           have X1 := Lib.hid z1
           have X2 := Lib.hid z2
           have X3 := Lib.hid z3
           have X4 := Lib.hid z4
           have KB := Lib.hid z5
           clear z1 z2 z3 z4 z5
           clear b))
      exact bodyPost_ret (v := .tuple #[.agg cs2.toArray, .agg ds2.toArray]) (results_cell_two Tryz.results34 _ W8 (w.heap.size + 1 + 1) (w.heap.size + 1 + 1 + 1) cs2 ds2 _ _ rfl rfl (hO8 _ _ (by omega) hB7) hB8 Tryz.underlying28 rfl (by simpa using HI2.out) Tryz.underlying40 rfl (by simpa using HI3.out)) rfl ⟨rfl, (KB.out.trans (hbl7 _ (by omega))).trans (hbl8 _ (by omega))⟩
    · rw [if_neg hk4] at hs2 ht2
      have q : (kd == 4) = false := by simpa using hk4
      rw [q]
      have HLD := Lib.hid (fun w => load_any op S hSs w)
      have HWR := Lib.hid (fun w ht hg => wrote_any s op rd r1 r2 im ((pc + 4) % 4294967296) (ldV op S) ⟨0, 0, 0, 0, addr, sz, false, 0, 0⟩ hrl hw w ht hg)
      rw [hs2, ht2, hv2, hv3, HXV.out, show sqV s = .agg cs.toArray by rw [← HCS.out]; rfl] at HWR
      obtain ⟨ts, hts⟩ : ∃ ts, stC ⟨0, 0, 0, 0, addr, sz, false, 0, 0⟩ = ts := ⟨_, rfl⟩
      have hto : ts.toArray.all (·.oneCell') = true := by rw [← hts]; exact stC_one _
      have ht9 : ts.length = 9 := by rw [← hts]; rfl
      have TI := Lib.hid (show (Tryz.prog.info? 40).map (·.size) = some ts.length by rw [ht9]; exact st_info)
      have TO := Lib.hid hto
      have T9 := Lib.hid ht9
      have TS := Lib.hid hts
      have htv : stV ⟨0, 0, 0, 0, addr, sz, false, 0, 0⟩ = .agg ts.toArray := by rw [← hts]; rfl
      (try rw [htv] at HWR)
      have htb : (.agg #[.int .u32 0, .int .u32 0, .int .i64 0, .int .u32 0, .int .u32 addr, .int .i64 sz, .bool false, .int .i64 0, .int .i64 0] : Value) = .agg ts.toArray := htv
      have TV := Lib.hid htb
      clear hto ht9 hts htv htb
      clear hs2 ht2 hk4 hrt q hkd hsz hcs2 hds2 hl2 hl3 ho2 ho3 hv2 hv3
      go_upto_region 9 with (first
        | (go_at_call 55; refine (HRD.out _).mono ?_; rintro e w2 ⟨rfl, rfl⟩)
        | (refine wpList_store_new rfl 40 (.tmp 14) (.tmp 50) rfl _ rfl _ ts _ rfl TV.out (by rw [T9.out]; rfl) TI.out TO.out ?_
           intro W2 hb2 hB2 hs2
           have z1 := X1.out.below hb2 X1.out.1
           have z2 := X2.out.below hb2 X2.out.1
           have z3 := X3.out.below hb2 X3.out.1
           have z4 := X4.out.below hb2 X4.out.1
           have z5 := KB.out.trans ((hb2).mono KB.out.size)
           clear X1 X2 X3 X4 KB
           have X1 := Lib.hid z1
           have X2 := Lib.hid z2
           have X3 := Lib.hid z3
           have X4 := Lib.hid z4
           have KB := Lib.hid z5
           clear z1 z2 z3 z4 z5
           have X5 := Lib.hid hB2
           clear hb2 hB2))
      clear s33
      have TB := Lib.hid (HT.out.below KB.out hg)
      have GB := Lib.hid (Nat.lt_of_lt_of_le hg KB.out.size)
      have c0 := X1.out.2.1 0 _ H0.out
      have q0 := fun d os => cell_regrown c0 d os
      have c1 := X2.out.2.1 0 _ X0.out
      have q1 := fun d os => cell_regrown c1 d os
      refine wp_region_two [0, 1, 2, 3, 4, 5, 6, 7, 8, 9, 10, 11, 12] [] 13 14 _ _ (w.heap.size + 1 + 1) (w.heap.size + 1 + 1 + 1) z35 z9 cs2 ds2 28 40 (.tmp 8) (.tmp 64) (.tmp 9) (.tmp 65) (by kernel_rfl) (by kernel_rfl) rfl rfl rfl ⟨rfl, rfl, rfl⟩ ⟨rfl, rfl, rfl⟩ (by omega) X3.out X4.out (by simpa using HZ2.out) (by simpa using HZ3.out) (by simpa using HI2.out) (by simpa using HI3.out) HO2.out HO3.out ?_
      simp only [opsAt, List.getElem?_toArray, List.getElem?_cons_zero, List.getElem?_cons_succ, Option.toList_some, List.cons_append, List.nil_append]
      repeat (first
        | (go_big_quiet_want; refine quiet_load_mid 28 (.tmp 4) rfl _ rfl cs _ X1.out Tryz.underlying28 rfl HI.out ?_; simp only [Act.put, List.setIfInBounds_toArray, List.set_cons_succ, List.set_cons_zero]; go_big_quiet_on)
        | (go_big_quiet_want; refine quiet_load_mid 50 (.tmp 5) rfl _ rfl xs _ X2.out Tryz.underlying50 rfl HX.out ?_; simp only [Act.put, List.setIfInBounds_toArray, List.set_cons_succ, List.set_cons_zero]; go_big_quiet_on)
        | (go_big_quiet_want; refine quiet_load_mid 40 (.tmp 14) rfl _ rfl ts _ X5.out Tryz.underlying40 rfl TI.out ?_; simp only [Act.put, List.setIfInBounds_toArray, List.set_cons_succ, List.set_cons_zero]; go_big_quiet_on)
        | (go_big_quiet_step (first
          | (go_at_call 56; exact Calls.regrown_of (HLD.out _))
          | (go_at_call 36; exact Calls.regrown_of (HWR.out _ (TB.out.below (below_regrown _ _ _) GB.out) (Nat.lt_of_lt_of_le GB.out (below_regrown _ _ _).size))))))
      refine wpQuiet_nil ?_
      refine wpQuiet_nil ?_
      refine ⟨⟨rfl, rfl, rfl, rfl⟩, fun w9 n1 n2 n3 n4 => ?_⟩
      go_wp2
      exact bodyPost_ret (v := .tuple #[.agg cs2.toArray, .agg ds2.toArray]) (results_cell_two Tryz.results34 _ w9 (w.heap.size + 1 + 1) (w.heap.size + 1 + 1 + 1) cs2 ds2 _ _ rfl rfl n1 n2 Tryz.underlying28 rfl (by simpa using HI2.out) Tryz.underlying40 rfl (by simpa using HI3.out)) rfl ⟨rfl, KB.out.trans (n4 _ (by omega) (by omega))⟩
end Go.Proofs.YtkamljmopbocnaaGreatDoor

/- THE CONTRACT of seq.Step. -/
namespace Go.Proofs.YtkamljmopbocnaaGreatDoor
open Go.ChangeShapes Go.WideShapes Go.ChangeAt Go.RowKit Go.Sort
set_option linter.unusedVariables false
set_option linter.unusedSimpArgs false
set_option maxHeartbeats 4000000
set_option maxRecDepth 100000

theorem doS_len {s : Sq} (h : s.regs.length = 32) (i : Ins) : (doS s i).1.regs.length = 32 := by
  unfold doS
  simp only
  split
  · exact accS_len h _ _ _
  · split
    · split
      · exact wrote_len h _ _ _ _ _
      · exact h
    · split
      · exact wrote_len h _ _ _ _ _
      · exact wrote_len h _ _ _ _ _
theorem stepS_len {s : Sq} (h : s.regs.length = 32) (zs : List Int) : (stepS zs s).1.regs.length = 32 := by
  unfold stepS
  split
  · exact h
  · split
    · exact h
    · exact doS_len h _
theorem step_any (A : Option Addr) (n cap : Nat) (zs : List Int) (s : Sq) (hs : sqOK s) (hn : n ≤ 200) (hz : ∀ z ∈ zs, 0 ≤ z ∧ z < 4294967296) (w : World) (ht : TabIs w) (hg : 0 < w.heap.size) (h : IntsAt w A n .u32 zs) :
    Calls Tryz.prog 15 #[.slice A n cap, sqV s] w fun r w' => r = .returned (.tuple #[sqV (stepS zs s).1, stV (stepS zs s).2]) ∧ Below w.heap.size w w' := by
  have hs0 := hs
  obtain ⟨hp, hrl, hrr, hm⟩ := hs
  have HFE := Lib.hid (fun (W : World) (hb : Below w.heap.size w W) => fetched_any A n cap zs s.pc hn hz hp.1 hp.2 W (ht.below hb hg) (Nat.lt_of_lt_of_le hg hb.size) (h.below hb))
  have HT := Lib.hid ht
  have hl0 := h.1
  clear ht h
  have HH := Lib.hid (fun why w => halted_any s hrl why 0 w)
  obtain ⟨s2, hs2⟩ : ∃ s2, (stepS zs s).1 = s2 := ⟨_, rfl⟩
  obtain ⟨t2, ht2⟩ : ∃ t2, (stepS zs s).2 = t2 := ⟨_, rfl⟩
  rw [hs2, ht2]
  have HL2 := Lib.hid (show s2.regs.length = 32 by rw [← hs2]; exact stepS_len hrl _)
  unfold stepS at hs2 ht2
  obtain ⟨cs, hcs⟩ : ∃ cs, sqC s = cs := ⟨_, rfl⟩
  have hl := sqC_len hrl
  have h0 := sqC_pc s
  have h34 := sqC_halt hrl
  rw [hcs] at hl h0 h34
  have hsv : sqV s = .agg cs.toArray := by rw [← hcs]; rfl
  rw [hsv] at HH ⊢
  have HI := Lib.hid (show (Tryz.prog.info? 28).map (·.size) = some cs.length by rw [hl]; exact sq_info)
  have H0 := Lib.hid h0
  have H34 := Lib.hid h34
  have HL := Lib.hid hl
  have HCS := Lib.hid hcs
  clear hl h0 h34 hcs
  obtain ⟨cs2, hcs2⟩ : ∃ cs2, sqC s2 = cs2 := ⟨_, rfl⟩
  obtain ⟨ds2, hds2⟩ : ∃ ds2, stC t2 = ds2 := ⟨_, rfl⟩
  have hl2 : cs2.length = 35 := by rw [← hcs2]; exact sqC_len HL2.out
  have hl3 : ds2.length = 9 := by rw [← hds2]; rfl
  have ho2 := sqC_one s2
  have ho3 := stC_one t2
  rw [hcs2] at ho2
  rw [hds2] at ho3
  have HI2 := Lib.hid (show (Tryz.prog.info? 28).map (·.size) = some cs2.toArray.size by rw [List.size_toArray, hl2]; exact sq_info)
  have HZ2 := Lib.hid (show z35.length = cs2.toArray.size by rw [List.size_toArray, hl2]; rfl)
  have HI3 := Lib.hid (show (Tryz.prog.info? 40).map (·.size) = some ds2.toArray.size by rw [List.size_toArray, hl3]; exact st_info)
  have HZ3 := Lib.hid (show z9.length = ds2.toArray.size by rw [List.size_toArray, hl3]; rfl)
  have HO2 := Lib.hid ho2
  have HO3 := Lib.hid ho3
  have hv2 : sqV s2 = .agg cs2.toArray := by rw [← hcs2]; rfl
  have hv3 : stV t2 = .agg ds2.toArray := by rw [← hds2]; rfl
  rw [hv2, hv3]
  go_enter Tryz.func15, Tryz.ntmps15
  go_upto_region 1 with fail
  refine wp_allocs [(cs, 28), (z35, 28), (z9, 40)] rfl ?_
  intro W0 y1 KB y3
  have X1 := Lib.hid (show Blk W0 w.heap.size cs from y3 0 _ rfl)
  have X3 := Lib.hid (show Blk W0 (w.heap.size + 1) z35 from y3 1 _ rfl)
  have X4 := Lib.hid (show Blk W0 (w.heap.size + 1 + 1) z9 from y3 2 _ rfl)
  replace KB := Lib.hid KB
  clear y1 y3
  have s34 := X1.out.2.1 34 _ H34.out
  by_cases hh : s.halt = 0
  · rw [if_neg (by simpa using hh)] at hs2 ht2
    rw [hh] at s34
    obtain ⟨Y, hY⟩ : ∃ Y, whyS zs s.pc = Y := ⟨_, rfl⟩
    have hfv : fetV zs s.pc = if Y = 1 ∨ Y = 2 then zeroAgg else inV (insOf (ftV zs zs.length s.pc)) := by unfold fetV; rw [hY]
    rw [hY] at hs2 ht2 HFE
    by_cases hy : Y = 0
    · rw [if_neg (by simpa using hy)] at hs2 ht2
      subst hy
      rw [if_neg (by omega)] at hfv
      rw [hfv] at HFE
      obtain ⟨a, ha⟩ : ∃ a, ftV zs zs.length s.pc = a := ⟨_, rfl⟩
      rw [ha] at HFE hs2 ht2
      have hcb : chB a = true := by
        unfold whyS at hY
        rw [ha] at hY
        cases hc : chB a
        · rw [hc] at hY
          split at hY
          · omega
          · simp at hY
        · rfl
      have hok := insOf_ok a hcb
      obtain ⟨I, hI⟩ : ∃ I, insOf a = I := ⟨_, rfl⟩
      rw [hI] at HFE hs2 ht2 hok
      clear hfv hY ha hI hcb
      obtain ⟨op, rd, r1, r2, im⟩ := I
      obtain ⟨ho, hrd, h1, h2, him, hw, hw4⟩ := hok
      simp only at ho hrd h1 h2 him hw hw4
      obtain ⟨k1, rfl⟩ : ∃ k : Nat, r1 = (k : Int) := ⟨r1.toNat, by omega⟩
      obtain ⟨k2, rfl⟩ : ∃ k : Nat, r2 = (k : Int) := ⟨r2.toNat, by omega⟩
      unfold doS at hs2 ht2
      have rg1 : rg s.regs (k1 : Int) = s.regs.getD k1 0 := by unfold rg; rw [Int.toNat_natCast]
      have rg2 : rg s.regs (k2 : Int) = s.regs.getD k2 0 := by unfold rg; rw [Int.toNat_natCast]
      have x01 := rg_range hrr (k1 : Int)
      have y01 := rg_range hrr (k2 : Int)
      simp only at hs2 ht2
      rw [rg1, rg2] at hs2 ht2
      rw [rg1] at x01
      rw [rg2] at y01
      have hg1 := sqC_reg hrl k1 (by omega)
      have hg2 := sqC_reg hrl k2 (by omega)
      rw [HCS.out, Nat.add_comm] at hg1 hg2
      obtain ⟨x, hx⟩ : ∃ x, s.regs.getD k1 0 = x := ⟨_, rfl⟩
      obtain ⟨y, hy⟩ : ∃ y, s.regs.getD k2 0 = y := ⟨_, rfl⟩
      rw [hx] at hs2 ht2 hg1 x01
      rw [hy] at hs2 ht2 hg2 y01
      have G1 := Lib.hid hg1
      have G2 := Lib.hid hg2
      have HPC := Lib.hid hp
      obtain ⟨pc, hpc⟩ : ∃ pc, s.pc = pc := ⟨_, rfl⟩
      rw [hpc] at hs2 ht2 H0 HPC HFE
      have hk1 : (k1 : Int) < 32 := by omega
      have hk2 : (k2 : Int) < 32 := by omega
      clear hg1 hg2 rg1 rg2 hx hy h1 h2
      obtain ⟨I, hI⟩ : ∃ I : Ins, I = ⟨op, rd, (k1 : Int), (k2 : Int), im⟩ := ⟨_, rfl⟩
      rw [← hI] at HFE
      have HI0 := Lib.hid (show (inC I)[0]? = some (.int .i64 op) by rw [hI]; rfl)
      have HI2' := Lib.hid (show (inC I)[2]? = some (.int .i64 (k1 : Int)) by rw [hI]; rfl)
      have HI3' := Lib.hid (show (inC I)[3]? = some (.int .i64 (k2 : Int)) by rw [hI]; rfl)
      have HI4 := Lib.hid (show (inC I)[4]? = some (.int .u32 im) by rw [hI]; rfl)
      obtain ⟨xs, hxs⟩ : ∃ xs, inC I = xs := ⟨_, rfl⟩
      have hx5 : xs.length = 5 := by rw [← hxs]; rfl
      have hxo := in5_one I
      rw [hxs] at hxo
      rw [show inV I = .agg xs.toArray by rw [← hxs]; rfl] at HFE
      have HX := Lib.hid (show (Tryz.prog.info? 50).map (·.size) = some xs.length by rw [hx5]; exact in_info)
      have HXO := Lib.hid hxo
      have HX5 := Lib.hid hx5
      have HXS := Lib.hid hxs
      have P0 := Lib.hid (X1.out.2.1 0 _ H0.out)
      clear hxs hx5 hxo
      have s0 := P0.out
      rw [HXS.out] at HI0 HI2' HI3' HI4
      have HXV := Lib.hid (show (.agg #[.int .i64 op, .int .i64 rd, .int .i64 (k1 : Int), .int .i64 (k2 : Int), .int .u32 im] : Value) = .agg xs.toArray by rw [← HXS.out, hI]; rfl)
      have HK := Lib.hid (fun w => kind_any op rd k1 k2 im w)
      have HVA := Lib.hid (fun w => value_any op rd k1 k2 im pc x y him.1 him.2 x01.1 x01.2 y01.1 y01.2 w)
      have HTA := Lib.hid (fun w => target_any op rd k1 k2 im pc x y w)
      have HTK := Lib.hid (fun w => divTook_any op x y x01.1 x01.2 y01.1 y01.2 w)
      rw [HXV.out] at HK HVA HTA
      obtain ⟨kd, hkd⟩ : ∃ kd, kindI op = kd := ⟨_, rfl⟩
      rw [hkd] at HK hs2 ht2
      have HS0 := Lib.hid hs0
      have HS2 := Lib.hid hs2
      have HT2 := Lib.hid ht2
      have HIX := Lib.hid hI
      have HW := Lib.hid hw
      have HXY := Lib.hid (And.intro x01 y01)
      have HIM := Lib.hid him
      have HRL := Lib.hid hrl
      have HV2 := Lib.hid (And.intro hv2 hv3)
      have HKD := Lib.hid hkd
      clear him hrd hw4 ho hkd hs2 ht2 hI hw x01 y01 hrl hrr hm hp hs0 hz hpc hh hv2 hv3 ho2 ho3 hl2 hl3 hcs2 hds2 hsv hl0 hn
      go_upto_region 6 with (first
        | (go_at_call 31
           refine (HFE.out _ KB.out).mono ?_
           rintro e w1 ⟨rfl, b⟩
           have z1 := X1.out.below b X1.out.1
           have z3 := X3.out.below b X3.out.1
           have z4 := X4.out.below b X4.out.1
           have z5 := KB.out.trans ((b).mono KB.out.size)
           clear X1 X3 X4 KB
           have X1 := Lib.hid z1
           have X3 := Lib.hid z3
           have X4 := Lib.hid z4
           have KB := Lib.hid z5
           clear z1 z3 z4 z5
           clear b s0 s34 P0)
        | (refine wpList_store_new rfl 50 (.tmp 6) (.tmp 22) rfl w1.heap.size rfl _ xs _ rfl rfl (by rw [HX5.out]; rfl) HX.out HXO.out ?_
           intro W2 hb2 hB2 hs2
           have z1 := X1.out.below hb2 X1.out.1
           have z3 := X3.out.below hb2 X3.out.1
           have z4 := X4.out.below hb2 X4.out.1
           have z5 := KB.out.trans ((hb2).mono KB.out.size)
           clear X1 X3 X4 KB
           have X1 := Lib.hid z1
           have X3 := Lib.hid z3
           have X4 := Lib.hid z4
           have KB := Lib.hid z5
           clear z1 z3 z4 z5
           have X2 := Lib.hid hB2
           clear hb2 hB2))
      have c2 := X2.out.2.1 2 _ HI2'.out
      have c3 := X2.out.2.1 3 _ HI3'.out
      have d1 := X1.out.2.1 (1 + k1) _ G1.out
      have d2 := X1.out.2.1 (1 + k2) _ G2.out
      have q2 := fun d os => cell_regrown c2 d os
      have q3 := fun d os => cell_regrown c3 d os
      have p1 := fun d os => cell_regrown d1 d os
      have p2 := fun d os => cell_regrown d2 d os
      refine wp_region_quiet_below (by kernel_rfl) (by kernel_rfl) ?_
      repeat (go_big_quiet_step (fail))
      refine wpQuiet_nil ?_
      intro _ hw'
      obtain ⟨⟨nq, osq⟩, hw''⟩ := hw'
      subst hw''
      have bq := below_regrown W2 nq osq
      have z1 := X1.out.below bq X1.out.1
      have z2 := X2.out.below bq X2.out.1
      have z3 := X3.out.below bq X3.out.1
      have z4 := X4.out.below bq X4.out.1
      have z5 := KB.out.trans ((bq).mono KB.out.size)
      clear X1 X2 X3 X4 KB
      have X1 := Lib.hid z1
      have X2 := Lib.hid z2
      have X3 := Lib.hid z3
      have X4 := Lib.hid z4
      have KB := Lib.hid z5
      clear z1 z2 z3 z4 z5
      clear bq c2 c3 d1 d2 q2 q3 p1 p2
      generalize grow (redrawn W2 nq) osq = W3 at *
      go_upto_region 8 with (first
        | (refine wpList_load_mid rfl 50 (.tmp 6) rfl _ 0 rfl xs _ X2.out.range Tryz.underlying50 rfl HX.out ?_)
        | (go_at_call 33
           refine (HK.out _).mono ?_
           rintro e w4 ⟨rfl, b⟩
           have z1 := X1.out.below b X1.out.1
           have z2 := X2.out.below b X2.out.1
           have z3 := X3.out.below b X3.out.1
           have z4 := X4.out.below b X4.out.1
           have z5 := KB.out.trans ((b).mono KB.out.size)
           clear X1 X2 X3 X4 KB
           have X1 := Lib.hid z1
           have X2 := Lib.hid z2
           have X3 := Lib.hid z3
           have X4 := Lib.hid z4
           have KB := Lib.hid z5
           clear z1 z2 z3 z4 z5
           clear b))
      have HSV := Lib.hid (show sqV s = .agg cs.toArray by rw [← HCS.out]; rfl)
      clear HK hs2
      by_cases hls : kd = 3 ∨ kd = 4
      · have hs2 := HS2.out
        have ht2 := HT2.out
        rw [if_pos hls] at hs2 ht2
        have HAC := Lib.hid (fun w ht hg => access_any s ⟨op, rd, (k1 : Int), (k2 : Int), im⟩ ((x + im) % 4294967296) y HS0.out HW.out (Int.emod_nonneg _ (by decide)) (Int.emod_lt_of_pos _ (by decide)) HXY.out.2.1 HXY.out.2.2 w ht hg)
        rw [hs2, ht2, HV2.out.1, HV2.out.2, HSV.out, show inV ⟨op, rd, (k1 : Int), (k2 : Int), im⟩ = .agg xs.toArray from HXV.out] at HAC
        have c4 := X2.out.2.1 4 _ HI4.out
        have TB := Lib.hid (HT.out.below KB.out hg)
        have GB := Lib.hid (Nat.lt_of_lt_of_le hg KB.out.size)
        clear hs2 ht2 HVA HTA HTK HH HFE
        rcases hls with rfl | rfl
        all_goals
          go_upto_region 10 with fail
          go_wp2_with (first
            | (refine wpList_load_mid rfl 28 (.tmp 3) rfl _ 0 rfl cs _ X1.out.range Tryz.underlying28 rfl HI.out ?_)
            | (refine wpList_load_mid rfl 50 (.tmp 6) rfl _ 0 rfl xs _ X2.out.range Tryz.underlying50 rfl HX.out ?_)
            | (refine wpList_store_blk rfl 28 (.tmp 4) (.tmp 54) rfl (w.heap.size + 1) z35 cs2.toArray X3.out HZ2.out rfl rfl HI2.out HO2.out ?_; intro W7 hB7 hO7 hbl7 hs7; have X4' := hO7 _ _ (by omega) X4.out; replace X4 := Lib.hid X4'; clear X4')
            | (refine wpList_store_blk rfl 40 (.tmp 5) (.tmp 55) rfl (w.heap.size + 1 + 1) z9 ds2.toArray X4.out HZ3.out rfl rfl HI3.out HO3.out ?_; intro W8 hB8 hO8 hbl8 hs8)
            | (go_at_call 34
               refine (HAC.out _ TB.out GB.out).mono ?_
               rintro e w8 ⟨rfl, b⟩
               have z1 := X1.out.below b X1.out.1
               have z3 := X3.out.below b X3.out.1
               have z4 := X4.out.below b X4.out.1
               have z5 := KB.out.trans ((b).mono KB.out.size)
               clear X1 X3 X4 KB
               have X1 := Lib.hid z1
               have X3 := Lib.hid z3
               have X4 := Lib.hid z4
               have KB := Lib.hid z5
               clear z1 z3 z4 z5
               clear b c4))
          exact bodyPost_ret (v := .tuple #[.agg cs2.toArray, .agg ds2.toArray]) (results_cell_two Tryz.results15 _ W8 (w.heap.size + 1) (w.heap.size + 1 + 1) cs2 ds2 _ _ rfl rfl (hO8 _ _ (by omega) hB7) hB8 Tryz.underlying28 rfl (by simpa using HI2.out) Tryz.underlying40 rfl (by simpa using HI3.out)) rfl ⟨rfl, (KB.out.trans (hbl7 _ (by omega))).trans (hbl8 _ (by omega))⟩
      · have q3 : (kd == 3) = false := by simp; omega
        have q4 : (kd == 4) = false := by simp; omega
        have HS3 := Lib.hid (HS2.out.symm.trans (by rw [if_neg hls]))
        have HT3 := Lib.hid (HT2.out.symm.trans (by rw [if_neg hls]))
        clear HS2 HT2 hls
        have c0 := X1.out.2.1 0 _ H0.out
        have q0 := fun d os => cell_regrown c0 d os
        have c1 := X2.out.2.1 0 _ HI0.out
        have q1 := fun d os => cell_regrown c1 d os
        by_cases h5 : kd = 5
        · subst h5
          have hs2 := HS3.out.symm
          have ht2 := HT3.out.symm
          rw [if_pos rfl] at hs2 ht2
          by_cases hn4 : nextW op im pc x y % 4 = 0
          · rw [if_pos hn4] at hs2 ht2
            rw [decide_eq_true hn4] at HTA
            have HWR := Lib.hid (fun w ht hg => wrote_any s op rd k1 k2 im (nextW op im pc x y) (valW op im pc x y) zeroSt HRL.out HW.out w ht hg)
            rw [hs2, ht2, HV2.out.1, HV2.out.2, HSV.out, HXV.out, show stV zeroSt = .agg #[.int .u32 0, .int .u32 0, .int .i64 0, .int .u32 0, .int .u32 0, .int .i64 0, .bool false, .int .i64 0, .int .i64 0] from rfl] at HWR
            obtain ⟨V, hV⟩ : ∃ V, valW op im pc x y = V := ⟨_, rfl⟩
            obtain ⟨K, hK⟩ : ∃ K, nextW op im pc x y = K := ⟨_, rfl⟩
            rw [hV] at HVA HWR
            rw [hK] at HTA HWR
            clear hs2 ht2 HH HFE hV hK HS3 HT3 HTK hn4 q0 q1 c1
            go_upto_region 15 with (first
              | (refine wpList_load_mid rfl 50 (.tmp 6) rfl _ 0 rfl xs _ X2.out.range Tryz.underlying50 rfl HX.out ?_)
              | (go_at_call 35
                 refine (HTA.out _).mono ?_
                 rintro e w8 ⟨rfl, b⟩
                 have z1 := X1.out.below b X1.out.1
                 have z2 := X2.out.below b X2.out.1
                 have z3 := X3.out.below b X3.out.1
                 have z4 := X4.out.below b X4.out.1
                 have z5 := KB.out.trans ((b).mono KB.out.size)
                 clear X1 X2 X3 X4 KB
                 have X1 := Lib.hid z1
                 have X2 := Lib.hid z2
                 have X3 := Lib.hid z3
                 have X4 := Lib.hid z4
                 have KB := Lib.hid z5
                 clear z1 z2 z3 z4 z5
                 clear b c0))
            have c0 := X1.out.2.1 0 _ H0.out
            have q0 := fun d os => cell_regrown c0 d os
            have TB := Lib.hid (HT.out.below KB.out hg)
            have GB := Lib.hid (Nat.lt_of_lt_of_le hg KB.out.size)
            refine wp_region_two [0, 1, 2, 3, 4, 5, 6, 7, 8, 9, 10, 11, 12] [] 13 14 _ _ (w.heap.size + 1) (w.heap.size + 1 + 1) z35 z9 cs2 ds2 28 40 (.tmp 4) (.tmp 84) (.tmp 5) (.tmp 85) (by kernel_rfl) (by kernel_rfl) rfl rfl rfl ⟨rfl, rfl, rfl⟩ ⟨rfl, rfl, rfl⟩ (by omega) X3.out X4.out (by simpa using HZ2.out) (by simpa using HZ3.out) (by simpa using HI2.out) (by simpa using HI3.out) HO2.out HO3.out ?_
            simp only [opsAt, List.getElem?_toArray, List.getElem?_cons_zero, List.getElem?_cons_succ, Option.toList_some, List.cons_append, List.nil_append]
            repeat (first
              | (go_big_quiet_want; refine quiet_load_mid 28 (.tmp 3) rfl _ rfl cs _ X1.out Tryz.underlying28 rfl HI.out ?_; simp only [Act.put, List.setIfInBounds_toArray, List.set_cons_succ, List.set_cons_zero]; go_big_quiet_on)
              | (go_big_quiet_want; refine quiet_load_mid 50 (.tmp 6) rfl _ rfl xs _ X2.out Tryz.underlying50 rfl HX.out ?_; simp only [Act.put, List.setIfInBounds_toArray, List.set_cons_succ, List.set_cons_zero]; go_big_quiet_on)
              | (go_big_quiet_step (first
                | (go_at_call 37; exact Calls.regrown_of (HVA.out _))
                | (go_at_call 38;  exact Calls.regrown_of ((HTK.out _).mono fun e w' h => ⟨h.1, by rw [← h.2]; exact Below.refl _ _⟩))
                | (go_at_call 36; exact Calls.regrown_of (HWR.out _ (TB.out.below (below_regrown _ _ _) GB.out) (Nat.lt_of_lt_of_le GB.out (below_regrown _ _ _).size))))))
            refine wpQuiet_nil ?_
            refine wpQuiet_nil ?_
            refine ⟨⟨rfl, rfl, rfl, rfl⟩, fun w9 n1 n2 n3 n4 => ?_⟩
            go_wp2
            exact bodyPost_ret (v := .tuple #[.agg cs2.toArray, .agg ds2.toArray]) (results_cell_two Tryz.results15 _ w9 (w.heap.size + 1) (w.heap.size + 1 + 1) cs2 ds2 _ _ rfl rfl n1 n2 Tryz.underlying28 rfl (by simpa using HI2.out) Tryz.underlying40 rfl (by simpa using HI3.out)) rfl ⟨rfl, KB.out.trans (n4 _ (by omega) (by omega))⟩
          · rw [if_neg hn4] at hs2 ht2
            rw [decide_eq_false hn4] at HTA
            replace HH := Lib.hid (HH.out 3)
            rw [hs2, ht2, HV2.out.1, HV2.out.2] at HH
            clear hs2 ht2 HFE HS3 HT3 HTK hn4 q0 q1 c1 HVA
            obtain ⟨K, hK⟩ : ∃ K, nextW op im pc x y = K := ⟨_, rfl⟩
            rw [hK] at HTA
            clear hK
            go_upto_region 14 with (first
              | (refine wpList_load_mid rfl 50 (.tmp 6) rfl _ 0 rfl xs _ X2.out.range Tryz.underlying50 rfl HX.out ?_)
              | (go_at_call 35
                 refine (HTA.out _).mono ?_
                 rintro e w8 ⟨rfl, b⟩
                 have z1 := X1.out.below b X1.out.1
                 have z2 := X2.out.below b X2.out.1
                 have z3 := X3.out.below b X3.out.1
                 have z4 := X4.out.below b X4.out.1
                 have z5 := KB.out.trans ((b).mono KB.out.size)
                 clear X1 X2 X3 X4 KB
                 have X1 := Lib.hid z1
                 have X2 := Lib.hid z2
                 have X3 := Lib.hid z3
                 have X4 := Lib.hid z4
                 have KB := Lib.hid z5
                 clear z1 z2 z3 z4 z5
                 clear b c0))
            go_wp2_with (first
              | (refine wpList_load_mid rfl 28 (.tmp 3) rfl _ 0 rfl cs _ X1.out.range Tryz.underlying28 rfl HI.out ?_)
              | (refine wpList_store_blk rfl 28 (.tmp 4) (.tmp 71) rfl (w.heap.size + 1) z35 cs2.toArray X3.out HZ2.out rfl rfl HI2.out HO2.out ?_; intro W7 hB7 hO7 hbl7 hs7; have X4' := hO7 _ _ (by omega) X4.out; replace X4 := Lib.hid X4'; clear X4')
              | (refine wpList_store_blk rfl 40 (.tmp 5) (.tmp 72) rfl (w.heap.size + 1 + 1) z9 ds2.toArray X4.out HZ3.out rfl rfl HI3.out HO3.out ?_; intro W8 hB8 hO8 hbl8 hs8)
              | (go_at_call 32
                 refine (HH.out _).mono ?_
                 rintro e w3 ⟨rfl, b⟩
                 have z1 := X1.out.below b X1.out.1
                 have z3 := X3.out.below b X3.out.1
                 have z4 := X4.out.below b X4.out.1
                 have z5 := KB.out.trans ((b).mono KB.out.size)
                 clear X1 X3 X4 KB
                 have X1 := Lib.hid z1
                 have X3 := Lib.hid z3
                 have X4 := Lib.hid z4
                 have KB := Lib.hid z5
                 clear z1 z3 z4 z5
                 clear b))
            exact bodyPost_ret (v := .tuple #[.agg cs2.toArray, .agg ds2.toArray]) (results_cell_two Tryz.results15 _ W8 (w.heap.size + 1) (w.heap.size + 1 + 1) cs2 ds2 _ _ rfl rfl (hO8 _ _ (by omega) hB7) hB8 Tryz.underlying28 rfl (by simpa using HI2.out) Tryz.underlying40 rfl (by simpa using HI3.out)) rfl ⟨rfl, (KB.out.trans (hbl7 _ (by omega))).trans (hbl8 _ (by omega))⟩
        · have q5 : (kd == 5) = false := by simpa using h5
          by_cases h2 : kd = 2
          · subst h2
            have hs2 := HS3.out.symm
            have ht2 := HT3.out.symm
            rw [if_neg (by decide), if_pos rfl] at hs2 ht2
            have HWR := Lib.hid (fun w ht hg => wrote_any s op rd k1 k2 im ((pc + 4) % 4294967296) (valW op im pc x y) { zeroSt with took := tookW op x y } HRL.out HW.out w ht hg)
            rw [hs2, ht2, HV2.out.1, HV2.out.2, HSV.out, HXV.out, show stV { zeroSt with took := tookW op x y } = .agg #[.int .u32 0, .int .u32 0, .int .i64 0, .int .u32 0, .int .u32 0, .int .i64 0, .bool false, .int .i64 0, .int .i64 (tookW op x y)] from rfl] at HWR
            obtain ⟨V, hV⟩ : ∃ V, valW op im pc x y = V := ⟨_, rfl⟩
            obtain ⟨K, hK⟩ : ∃ K, tookW op x y = K := ⟨_, rfl⟩
            rw [hV] at HVA HWR
            rw [hK] at HTK HWR
            clear hs2 ht2 HTA HH HFE hV hK HS3 HT3 h5
            go_upto_region 17 with fail
            have TB := Lib.hid (HT.out.below KB.out hg)
            have GB := Lib.hid (Nat.lt_of_lt_of_le hg KB.out.size)
            refine wp_region_two [0, 1, 2, 3, 4, 5, 6, 7, 8, 9, 10, 11, 12, 13, 14, 15, 16, 17, 18, 19] [] 20 21 _ _ (w.heap.size + 1) (w.heap.size + 1 + 1) z35 z9 cs2 ds2 28 40 (.tmp 4) (.tmp 106) (.tmp 5) (.tmp 107) (by kernel_rfl) (by kernel_rfl) rfl rfl rfl ⟨rfl, rfl, rfl⟩ ⟨rfl, rfl, rfl⟩ (by omega) X3.out X4.out (by simpa using HZ2.out) (by simpa using HZ3.out) (by simpa using HI2.out) (by simpa using HI3.out) HO2.out HO3.out ?_
            simp only [opsAt, List.getElem?_toArray, List.getElem?_cons_zero, List.getElem?_cons_succ, Option.toList_some, List.cons_append, List.nil_append]
            repeat (first
              | (go_big_quiet_want; refine quiet_load_mid 28 (.tmp 3) rfl _ rfl cs _ X1.out Tryz.underlying28 rfl HI.out ?_; simp only [Act.put, List.setIfInBounds_toArray, List.set_cons_succ, List.set_cons_zero]; go_big_quiet_on)
              | (go_big_quiet_want; refine quiet_load_mid 50 (.tmp 6) rfl _ rfl xs _ X2.out Tryz.underlying50 rfl HX.out ?_; simp only [Act.put, List.setIfInBounds_toArray, List.set_cons_succ, List.set_cons_zero]; go_big_quiet_on)
              | (go_big_quiet_step (first
                | (go_at_call 37; exact Calls.regrown_of (HVA.out _))
                | (go_at_call 38;  exact Calls.regrown_of ((HTK.out _).mono fun e w' h => ⟨h.1, by rw [← h.2]; exact Below.refl _ _⟩))
                | (go_at_call 36; exact Calls.regrown_of (HWR.out _ (TB.out.below (below_regrown _ _ _) GB.out) (Nat.lt_of_lt_of_le GB.out (below_regrown _ _ _).size))))))
            refine wpQuiet_nil ?_
            refine wpQuiet_nil ?_
            refine ⟨⟨rfl, rfl, rfl, rfl⟩, fun w9 n1 n2 n3 n4 => ?_⟩
            go_wp2
            exact bodyPost_ret (v := .tuple #[.agg cs2.toArray, .agg ds2.toArray]) (results_cell_two Tryz.results15 _ w9 (w.heap.size + 1) (w.heap.size + 1 + 1) cs2 ds2 _ _ rfl rfl n1 n2 Tryz.underlying28 rfl (by simpa using HI2.out) Tryz.underlying40 rfl (by simpa using HI3.out)) rfl ⟨rfl, KB.out.trans (n4 _ (by omega) (by omega))⟩
          · have q2 : (kd == 2) = false := by simpa using h2
            have hs2 := HS3.out.symm
            have ht2 := HT3.out.symm
            rw [if_neg h5, if_neg h2] at hs2 ht2
            have HWR := Lib.hid (fun w ht hg => wrote_any s op rd k1 k2 im ((pc + 4) % 4294967296) (valW op im pc x y) zeroSt HRL.out HW.out w ht hg)
            rw [hs2, ht2, HV2.out.1, HV2.out.2, HSV.out, HXV.out, show stV zeroSt = .agg #[.int .u32 0, .int .u32 0, .int .i64 0, .int .u32 0, .int .u32 0, .int .i64 0, .bool false, .int .i64 0, .int .i64 0] from rfl] at HWR
            obtain ⟨V, hV⟩ : ∃ V, valW op im pc x y = V := ⟨_, rfl⟩
            rw [hV] at HVA HWR
            clear hs2 ht2 HTA HH HFE hV HS3 HT3 h5 h2 HTK q1 c1
            go_upto_region 18 with fail
            have TB := Lib.hid (HT.out.below KB.out hg)
            have GB := Lib.hid (Nat.lt_of_lt_of_le hg KB.out.size)
            refine wp_region_two [0, 1, 2, 3, 4, 5, 6, 7, 8, 9, 10, 11, 12, 13, 14] [] 15 16 _ _ (w.heap.size + 1) (w.heap.size + 1 + 1) z35 z9 cs2 ds2 28 40 (.tmp 4) (.tmp 121) (.tmp 5) (.tmp 122) (by kernel_rfl) (by kernel_rfl) rfl rfl rfl ⟨rfl, rfl, rfl⟩ ⟨rfl, rfl, rfl⟩ (by omega) X3.out X4.out (by simpa using HZ2.out) (by simpa using HZ3.out) (by simpa using HI2.out) (by simpa using HI3.out) HO2.out HO3.out ?_
            simp only [opsAt, List.getElem?_toArray, List.getElem?_cons_zero, List.getElem?_cons_succ, Option.toList_some, List.cons_append, List.nil_append]
            repeat (first
              | (go_big_quiet_want; refine quiet_load_mid 28 (.tmp 3) rfl _ rfl cs _ X1.out Tryz.underlying28 rfl HI.out ?_; simp only [Act.put, List.setIfInBounds_toArray, List.set_cons_succ, List.set_cons_zero]; go_big_quiet_on)
              | (go_big_quiet_want; refine quiet_load_mid 50 (.tmp 6) rfl _ rfl xs _ X2.out Tryz.underlying50 rfl HX.out ?_; simp only [Act.put, List.setIfInBounds_toArray, List.set_cons_succ, List.set_cons_zero]; go_big_quiet_on)
              | (go_big_quiet_step (first
                | (go_at_call 37; exact Calls.regrown_of (HVA.out _))
                | (go_at_call 38;  exact Calls.regrown_of ((HTK.out _).mono fun e w' h => ⟨h.1, by rw [← h.2]; exact Below.refl _ _⟩))
                | (go_at_call 36; exact Calls.regrown_of (HWR.out _ (TB.out.below (below_regrown _ _ _) GB.out) (Nat.lt_of_lt_of_le GB.out (below_regrown _ _ _).size))))))
            refine wpQuiet_nil ?_
            refine wpQuiet_nil ?_
            refine ⟨⟨rfl, rfl, rfl, rfl⟩, fun w9 n1 n2 n3 n4 => ?_⟩
            go_wp2
            exact bodyPost_ret (v := .tuple #[.agg cs2.toArray, .agg ds2.toArray]) (results_cell_two Tryz.results15 _ w9 (w.heap.size + 1) (w.heap.size + 1 + 1) cs2 ds2 _ _ rfl rfl n1 n2 Tryz.underlying28 rfl (by simpa using HI2.out) Tryz.underlying40 rfl (by simpa using HI3.out)) rfl ⟨rfl, KB.out.trans (n4 _ (by omega) (by omega))⟩
    · rw [if_pos (by simpa using hy)] at hs2 ht2
      have q : (Y != 0) = true := by simpa using hy
      replace HH := Lib.hid (HH.out Y)
      rw [hs2, ht2, hv2, hv3] at HH
      obtain ⟨I, hI⟩ : ∃ I : Ins, fetV zs s.pc = inV I := by
        rw [hfv]
        split
        · exact ⟨⟨0, 0, 0, 0, 0⟩, rfl⟩
        · exact ⟨_, rfl⟩
      rw [hI] at HFE
      clear hs2 ht2 hcs2 hds2 hl2 hl3 ho2 ho3 hv2 hv3 hy hfv hY hI
      obtain ⟨xs, hxs⟩ : ∃ xs, inC I = xs := ⟨_, rfl⟩
      have hx5 : xs.length = 5 := by rw [← hxs]; rfl
      have hxo := in5_one I
      rw [hxs] at hxo
      rw [show inV I = .agg xs.toArray by rw [← hxs]; rfl] at HFE
      have HX := Lib.hid (show (Tryz.prog.info? 50).map (·.size) = some xs.length by rw [hx5]; exact in_info)
      have HXO := Lib.hid hxo
      have HX5 := Lib.hid hx5
      have HXS := Lib.hid hxs
      have P0 := Lib.hid (X1.out.2.1 0 _ H0.out)
      clear hxs hx5 hxo
      have s0 := P0.out
      go_upto_region 5 with (first
        | (go_at_call 31
           refine (HFE.out _ KB.out).mono ?_
           rintro e w1 ⟨rfl, b⟩
           have z1 := X1.out.below b X1.out.1
           have z3 := X3.out.below b X3.out.1
           have z4 := X4.out.below b X4.out.1
           have z5 := KB.out.trans ((b).mono KB.out.size)
           clear X1 X3 X4 KB
           have X1 := Lib.hid z1
           have X3 := Lib.hid z3
           have X4 := Lib.hid z4
           have KB := Lib.hid z5
           clear z1 z3 z4 z5
           clear b s0 s34 P0)
        | (refine wpList_store_new rfl 50 (.tmp 6) (.tmp 22) rfl w1.heap.size rfl _ xs _ rfl rfl (by rw [HX5.out]; rfl) HX.out HXO.out ?_
           intro W2 hb2 hB2 hs2
           have z1 := X1.out.below hb2 X1.out.1
           have z3 := X3.out.below hb2 X3.out.1
           have z4 := X4.out.below hb2 X4.out.1
           have z5 := KB.out.trans ((hb2).mono KB.out.size)
           clear X1 X3 X4 KB
           have X1 := Lib.hid z1
           have X3 := Lib.hid z3
           have X4 := Lib.hid z4
           have KB := Lib.hid z5
           clear z1 z3 z4 z5
           have X2 := Lib.hid hB2
           clear hb2 hB2))
      go_wp2_with (first
        | (refine wpList_load_mid rfl 28 (.tmp 3) rfl _ 0 rfl cs _ X1.out.range Tryz.underlying28 rfl HI.out ?_)
        | (refine wpList_store_blk rfl 28 (.tmp 4) (.tmp 29) rfl (w.heap.size + 1) z35 cs2.toArray X3.out HZ2.out rfl rfl HI2.out HO2.out ?_; intro W7 hB7 hO7 hbl7 hs7; have X4' := hO7 _ _ (by omega) X4.out; replace X4 := Lib.hid X4'; clear X4')
        | (refine wpList_store_blk rfl 40 (.tmp 5) (.tmp 30) rfl (w.heap.size + 1 + 1) z9 ds2.toArray X4.out HZ3.out rfl rfl HI3.out HO3.out ?_; intro W8 hB8 hO8 hbl8 hs8)
        | (go_at_call 32
           refine (HH.out _).mono ?_
           rintro e w3 ⟨rfl, b⟩
           have z1 := X1.out.below b X1.out.1
           have z3 := X3.out.below b X3.out.1
           have z4 := X4.out.below b X4.out.1
           have z5 := KB.out.trans ((b).mono KB.out.size)
           clear X1 X3 X4 KB
           have X1 := Lib.hid z1
           have X3 := Lib.hid z3
           have X4 := Lib.hid z4
           have KB := Lib.hid z5
           clear z1 z3 z4 z5
           clear b))
      exact bodyPost_ret (v := .tuple #[.agg cs2.toArray, .agg ds2.toArray]) (results_cell_two Tryz.results15 _ W8 (w.heap.size + 1) (w.heap.size + 1 + 1) cs2 ds2 _ _ rfl rfl (hO8 _ _ (by omega) hB7) hB8 Tryz.underlying28 rfl (by simpa using HI2.out) Tryz.underlying40 rfl (by simpa using HI3.out)) rfl ⟨rfl, (KB.out.trans (hbl7 _ (by omega))).trans (hbl8 _ (by omega))⟩
  · rw [if_pos hh] at hs2 ht2
    have q : (s.halt != 0) = true := by simpa using hh
    have hcc : cs2 = cs := by rw [← hcs2, ← hs2]; exact HCS.out
    have hdd : ds2 = z9 := by rw [← hds2, ← ht2]; rfl
    clear hs2 ht2 hcs2 hds2 hl2 hl3 ho2 ho3 hv2 hv3
    go_upto_region 2 with fail
    clear s34
    subst hcc
    subst hdd
    go_wp2_with (first
      | (refine wpList_load_mid rfl 28 (.tmp 3) rfl _ 0 rfl cs2 _ X1.out.range Tryz.underlying28 rfl HI.out ?_)
      | (refine wpList_store_blk rfl 28 (.tmp 4) (.tmp 15) rfl (w.heap.size + 1) z35 cs2.toArray X3.out HZ2.out rfl rfl HI2.out HO2.out ?_; intro W7 hB7 hO7 hbl7 hs7; have X4' := hO7 _ _ (by omega) X4.out; replace X4 := Lib.hid X4'; clear X4')
      | (refine wpList_store_blk rfl 40 (.tmp 5) (.tmp 16) rfl (w.heap.size + 1 + 1) z9 z9.toArray X4.out HZ3.out rfl rfl HI3.out HO3.out ?_; intro W8 hB8 hO8 hbl8 hs8))
    exact bodyPost_ret (v := .tuple #[.agg cs2.toArray, .agg z9.toArray]) (results_cell_two Tryz.results15 _ W8 (w.heap.size + 1) (w.heap.size + 1 + 1) cs2 z9 _ _ rfl rfl (hO8 _ _ (by omega) hB7) hB8 Tryz.underlying28 rfl (by simpa using HI2.out) Tryz.underlying40 rfl (by simpa using HI3.out)) rfl ⟨rfl, (KB.out.trans (hbl7 _ (by omega))).trans (hbl8 _ (by omega))⟩
end Go.Proofs.YtkamljmopbocnaaGreatDoor

/- THE MATHEMATICS of package seq, further: what a run keeps; its steps with the runs behind them. -/
namespace Go.Proofs.YtkamljmopbocnaaGreatDoor
open Go.ChangeShapes Go.WideShapes Go.ChangeAt Go.RowKit
set_option maxRecDepth 100000
set_option linter.unusedVariables false

theorem mulW_range (op a b : Int) (ha : 0 ≤ a) (ha' : a < 4294967296) (hb : 0 ≤ b) (hb' : b < 4294967296) : 0 ≤ mulW op a b ∧ mulW op a b < 4294967296 := by
  unfold mulW
  have := prod_lt a b ha ha' hb hb'
  repeat' split
  all_goals omega
theorem valW_range (op imm pc a b : Int) (hi : 0 ≤ imm) (hi' : imm < 4294967296) (ha : 0 ≤ a) (ha' : a < 4294967296) (hb : 0 ≤ b) (hb' : b < 4294967296) : 0 ≤ valW op imm pc a b ∧ valW op imm pc a b < 4294967296 := by
  unfold valW
  have h1 := mulW_range op a b ha ha' hb hb'
  have h2 := divW_range op a b ha ha' hb hb'
  have h3 := aluDo_range (b := imm) op ha ha' hi hi'
  have h4 := aluDo_range (b := b) op ha ha' hb hb'
  repeat' split
  all_goals first | omega | exact h3 | exact h4
theorem nextW_range (op imm pc a b : Int) : 0 ≤ nextW op imm pc a b ∧ nextW op imm pc a b < 4294967296 := by
  unfold nextW
  repeat' split
  all_goals omega
theorem ldV_range (op : Int) (s : ByteArray) : 0 ≤ ldV op s ∧ ldV op s < 4294967296 := by
  unfold ldV
  split
  · rename_i h
    have h4 : s.data.toList.length ≤ 4 := by
      have h1 : s.data.toList.length = s.size := rfl
      have : sizeOp op ≤ 4 := by unfold sizeOp; split; omega; split; omega; split <;> omega
      omega
    have hj := joinN_lt32 h4
    split
    · have := sxt_lt (joinN s.data.toList : Nat) (8 * (s.size : Int)) (by omega)
      omega
    · omega
  · omega
theorem stoV_range (b n : Int) : 0 ≤ stoV b n ∧ stoV b n < 4294967296 := by
  unfold stoV
  split
  · rename_i h
    have hj := joinN_lt32 (l := (stoS b n).data.toList) h
    omega
  · omega
theorem wrote_fst (s : Sq) (op rd next value : Int) (t : St) : (wrote s op rd next value t).1.mem = s.mem ∧ (wrote s op rd next value t).1.halt = s.halt ∧ (wrote s op rd next value t).1.pc = next := ⟨rfl, rfl, rfl⟩
/-- a store keeps the size -/
theorem store_size (m D : ByteArray) (addr : Int) (h0 : 0 ≤ addr) : (if rtB m.size addr D.size = true then wrS m D addr.toNat else ByteArray.empty).size ≤ m.size ∧ (rtB m.size addr D.size = true → (if rtB m.size addr D.size = true then wrS m D addr.toNat else ByteArray.empty).size = m.size) := by
  cases h : rtB m.size addr D.size
  · simp
  · obtain ⟨_, _, h3⟩ := rtB_facts h
    simp only [if_true]
    rw [wr_size m D addr.toNat (by omega)]
    exact ⟨Nat.le_refl _, fun _ => rfl⟩
theorem accS_ok {s : Sq} (h : sqOK s) {i : Ins} (hi : insOK i) (addr b : Int) (h0 : 0 ≤ addr) : sqOK (accS s i addr b).1 := by
  obtain ⟨⟨p0, p1⟩, h2, h3, h4⟩ := h
  unfold accS
  split
  · exact ⟨⟨p0, p1⟩, h2, h3, h4⟩
  · split
    · rename_i hk
      have hq : sqOK { s with mem := (if rtB s.mem.size addr (stoS b (sizeOp i.op)).size then wrS s.mem (stoS b (sizeOp i.op)) addr.toNat else ByteArray.empty) } := ⟨⟨p0, p1⟩, h2, h3, Nat.le_trans (store_size s.mem _ addr h0).1 h4⟩
      exact wrote_ok hq _ _ ⟨by omega, by omega⟩ (Or.inl (hi.2.2.2.2.2.2 hk)) _
    · exact wrote_ok ⟨⟨p0, p1⟩, h2, h3, h4⟩ _ _ ⟨by omega, by omega⟩ (Or.inr (ldV_range _ _)) _
theorem doS_ok {s : Sq} (h : sqOK s) {i : Ins} (hi : insOK i) : sqOK (doS s i).1 := by
  have hx := rg_range h.2.2.1 i.rs1
  have hy := rg_range h.2.2.1 i.rs2
  have hv := valW_range i.op i.imm s.pc (rg s.regs i.rs1) (rg s.regs i.rs2) hi.2.2.2.2.1.1 hi.2.2.2.2.1.2 hx.1 hx.2 hy.1 hy.2
  have hn := nextW_range i.op i.imm s.pc (rg s.regs i.rs1) (rg s.regs i.rs2)
  unfold doS
  simp only
  split
  · exact accS_ok h hi _ _ (by omega)
  · split
    · split
      · exact wrote_ok h _ _ hn (Or.inr hv) _
      · exact h
    · split
      · exact wrote_ok h _ _ ⟨by omega, by omega⟩ (Or.inr hv) _
      · exact wrote_ok h _ _ ⟨by omega, by omega⟩ (Or.inr hv) _
theorem why_zero {zs : List Int} {pc : Int} (h : whyS zs pc = 0) : ftB zs.length pc = true ∧ chB (ftV zs zs.length pc) = true ∧ (insOf (ftV zs zs.length pc)).op ≠ 47 ∧ (insOf (ftV zs zs.length pc)).op ≠ 48 := by
  unfold whyS at h
  cases h1 : ftB zs.length pc
  · rw [h1] at h; simp at h
  · rw [h1] at h
    cases h2 : chB (ftV zs zs.length pc)
    · rw [h2] at h; simp at h
    · rw [h2, if_neg (by simp), if_neg (by simp)] at h
      refine ⟨rfl, rfl, fun h3 => ?_, fun h3 => ?_⟩
      · rw [if_pos h3] at h; omega
      · rw [h3] at h; simp at h
theorem stepS_ok {zs : List Int} {s : Sq} (h : sqOK s) : sqOK (stepS zs s).1 := by
  unfold stepS
  split
  · exact h
  · split
    · exact h
    · rename_i hy
      exact doS_ok h (insOf_ok _ (why_zero (by simpa using hy)).2.1)
theorem runS_ok {zs : List Int} : ∀ (n : Nat) {s : Sq}, sqOK s → sqOK (runS zs n s).1
  | 0, _, h => h
  | n + 1, s, h => by
    by_cases h0 : s.halt = 0
    · rw [runS_goes zs n s h0]; exact runS_ok n (stepS_ok h)
    · rw [runS_halted zs _ s h0]; exact h
theorem newS_ok {m : ByteArray} (hm : m.size ≤ 1000) : sqOK (newS m) := by
  refine ⟨⟨Int.le_refl 0, by show (0 : Int) < 4294967296; decide⟩, by simp [newS], fun z hz => ?_, ?_⟩
  · have := List.eq_of_mem_replicate hz
    subst this
    decide
  · show (clS m).size ≤ 1000
    rw [clS_size]
    have := clN_of (min m.size 256)
    omega
/-- the steps with the runs behind them -/
def pairS (zs : List Int) : Nat → Sq → List (Sq × St)
  | 0, _ => []
  | n + 1, s => if s.halt ≠ 0 then [] else stepS zs s :: pairS zs n (stepS zs s).1
theorem pairS_halted (zs : List Int) (n : Nat) (s : Sq) (h : s.halt ≠ 0) : pairS zs n s = [] := by
  cases n
  · rfl
  · unfold pairS; rw [if_pos h]
theorem pairS_goes (zs : List Int) (n : Nat) (s : Sq) (h : s.halt = 0) : pairS zs (n + 1) s = stepS zs s :: pairS zs n (stepS zs s).1 := by
  show (if s.halt ≠ 0 then _ else _) = _
  rw [if_neg (by simp [h])]
theorem pairS_add (zs : List Int) : ∀ (n m : Nat) (s : Sq), pairS zs (n + m) s = pairS zs n s ++ pairS zs m (runS zs n s).1
  | 0, m, s => by rw [Nat.zero_add]; rfl
  | n + 1, m, s => by
    by_cases h : s.halt = 0
    · rw [show n + 1 + m = (n + m) + 1 by omega, pairS_goes zs _ s h, pairS_goes zs _ s h, pairS_add zs n m, runS_goes zs n s h]
      rfl
    · rw [pairS_halted zs _ s h, pairS_halted zs _ s h, runS_halted zs _ s h, pairS_halted zs _ s h]
      rfl
theorem pairS_snoc (zs : List Int) (n : Nat) (s : Sq) (h : (runS zs n s).1.halt = 0) : pairS zs (n + 1) s = pairS zs n s ++ [stepS zs (runS zs n s).1] := by
  rw [pairS_add zs n 1 s, pairS_goes zs 0 _ h]
  rfl
theorem pairS_prefix (zs : List Int) (n m : Nat) (s : Sq) (h : n ≤ m) : pairS zs n s <+: pairS zs m s := by
  rw [show m = n + (m - n) by omega, pairS_add]
  exact List.prefix_append _ _
theorem pairS_stop (zs : List Int) (n m : Nat) (s : Sq) (h : n ≤ m) (hh : (runS zs n s).1.halt ≠ 0) : pairS zs m s = pairS zs n s := by
  rw [show m = n + (m - n) by omega, pairS_add, pairS_halted zs _ _ hh, List.append_nil]
theorem pairS_steps (zs : List Int) : ∀ (n : Nat) (s : Sq), (pairS zs n s).map (·.2) = (runS zs n s).2
  | 0, _ => rfl
  | n + 1, s => by
    by_cases h : s.halt = 0
    · rw [pairS_goes zs n s h, runS_goes zs n s h, List.map_cons, pairS_steps zs n]
    · rw [pairS_halted zs _ s h, runS_halted zs _ s h]; rfl
theorem pairS_len (zs : List Int) (n : Nat) (s : Sq) : (pairS zs n s).length ≤ n := by
  have := congrArg List.length (pairS_steps zs n s)
  rw [List.length_map] at this
  rw [this]
  exact runS_len zs n s
/-- the run behind the last of them -/
def lastS (s : Sq) : List (Sq × St) → Sq
  | [] => s
  | x :: r => lastS x.1 r
theorem lastS_snoc (s : Sq) (x : Sq × St) : ∀ l, lastS s (l ++ [x]) = x.1
  | [] => rfl
  | y :: r => by show lastS y.1 (r ++ [x]) = x.1; exact lastS_snoc y.1 x r
theorem lastS_pairS (zs : List Int) : ∀ (n : Nat) (s : Sq), lastS s (pairS zs n s) = (runS zs n s).1
  | 0, _ => rfl
  | n + 1, s => by
    by_cases h : s.halt = 0
    · rw [pairS_goes zs n s h, runS_goes zs n s h]
      exact lastS_pairS zs n _
    · rw [pairS_halted zs _ s h, runS_halted zs _ s h]; rfl
theorem pairS_ok {zs : List Int} : ∀ (n : Nat) {s : Sq}, sqOK s → ∀ x ∈ pairS zs n s, sqOK x.1
  | 0, _, _, x, hx => by cases hx
  | n + 1, s, h, x, hx => by
    by_cases h0 : s.halt = 0
    · rw [pairS_goes zs n s h0] at hx
      rcases List.mem_cons.1 hx with rfl | hx
      · exact stepS_ok h
      · exact pairS_ok n (stepS_ok h) x hx
    · rw [pairS_halted zs _ s h0] at hx
      cases hx
end Go.Proofs.YtkamljmopbocnaaGreatDoor
