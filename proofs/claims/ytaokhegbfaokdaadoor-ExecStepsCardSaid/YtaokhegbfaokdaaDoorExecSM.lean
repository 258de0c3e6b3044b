/- THE MATHEMATICS of ExecSteps (auspexlaw18): an entry that is started, gone on with and told, tells what one instruction tells. -/
import Derived.Test.YtaokhegbfaokdaaDoorSeqB
import Derived.Test.YtaokhegbfaokdaaDoorExecG
import Derived.Test.YtaokhegbfaokdaaDoorExecA
namespace Go.Proofs.YtaokhegbfaokdaaDoor
open Go.ChangeShapes Go.WideShapes Go.ChangeAt Go.RowKit
set_option linter.unusedVariables false
set_option linter.unusedSimpArgs false
set_option maxRecDepth 100000

/-- what an entry that is done tells -/
def toldHaltE (e : En) : St := ⟨e.pc, e.pc, 0, 0, if e.halt = 4 ∨ e.halt = 5 then e.addr else 0, 0, false, e.halt, 0⟩
def toldRunE (e : En) : St :=
  let s : St := ⟨e.pc, (e.pc + 4) % 4294967296, wrI e.op e.rd, if wrI e.op e.rd = 0 then 0 else e.value, 0, 0, false, 0, 0⟩
  if kindI e.op = 4 then { s with store := true, value := e.value, addr := e.addr, size := sizeOp e.op }
  else if kindI e.op = 3 then { s with addr := e.addr, size := sizeOp e.op }
  else if kindI e.op = 2 then { s with took := e.took }
  else if kindI e.op = 5 then { s with next := e.next }
  else s
def toldE (e : En) : St := if e.halt ≠ 0 then toldHaltE e else toldRunE e
/-- an entry gone on with so many times -/
def goN : Nat → En → En
  | 0, e => e
  | n + 1, e => goN n (goW e)
theorem goN_snoc : ∀ (n : Nat) (e : En), goN (n + 1) e = goW (goN n e)
  | 0, _ => rfl
  | n + 1, e => goN_snoc n (goW e)
theorem goW_done {e : En} (h : e.is = 3) : goW e = e := by
  unfold goW goE
  rw [if_neg (by omega), if_pos (by omega)]
theorem goN_done {e : En} (h : e.is = 3) : ∀ n, goN n e = e
  | 0 => rfl
  | n + 1 => by show goN n (goW e) = e; rw [goW_done h]; exact goN_done h n
def doneE (e : En) : En := { e with left := 0, is := 3, known := if kindI e.op = 5 ∧ e.halt = 0 then true else e.known }
theorem goN_goes : ∀ (n : Nat) (e : En), e.is = 1 → 0 < e.left → e.left ≤ n → goN n e = doneE e
  | 0, e, _, h1, h2 => by omega
  | n + 1, e, h, h1, h2 => by
    show goN n (goW e) = _
    have e1 : goW e = goE e := by unfold goW; rw [if_neg (by omega)]
    rw [e1]
    unfold goE
    rw [if_neg (by omega)]
    by_cases h3 : 0 < e.left - 1
    · rw [if_pos h3, goN_goes n { e with left := e.left - 1 } h (by show 0 < e.left - 1; omega) (by show e.left - 1 ≤ n; omega)]
      rfl
    · rw [if_neg h3]
      exact goN_done rfl n
theorem took_rangeM (op a b : Int) (hk : kindI op = 2) (ha : 0 ≤ a) (ha' : a < 4294967296) (hb : 0 ≤ b) (hb' : b < 4294967296) : 1 ≤ tookW op a b ∧ tookW op a b ≤ 40 := by
  have ho : 42 ≤ op ∧ op ≤ 45 := by
    unfold kindI at hk
    by_cases h : 42 ≤ op ∧ op ≤ 45
    · exact h
    · exfalso
      revert hk
      repeat' split
      all_goals first | (intro h; omega) | simp
  unfold tookW
  rw [if_pos ho]
  obtain ⟨a0, a1⟩ := sz_range (op := op) ha ha'
  obtain ⟨b0, b1⟩ := sz_range (op := op) hb hb'
  split
  · omega
  · have h1 := nb_mono (m := (sz op b).toNat) (n := (sz op a).toNat) (by omega)
    have h2 := nb_le32 (n := (sz op a).toNat) (by omega)
    omega
/-- the entry of an instruction -/
def entE (pc : Int) (i : Ins) : En := { zeroE with pc := pc, op := i.op, rd := i.rd, rs1 := i.rs1, rs2 := i.rs2, imm := i.imm }
/-- started, with its address -/
def adE (pc : Int) (i : Ins) (size x y : Int) : En := addrE (startE (entE pc i) x y) size x
/-- with its bytes, with its value -/
def inE (pc : Int) (i : Ins) (M : ByteArray) (x y : Int) : En :=
  let e := adE pc i M.size x y
  storeE (if e.known = true ∧ kindI i.op = 3 then takeE e (M.extract e.addr.toNat (e.addr + sizeOp i.op).toNat) else e) y
theorem told_run (s : Sq) (i : Ins) (hw4 : kindI i.op = 4 → wrI i.op i.rd = 0) (hk6 : kindI i.op ≠ 6) (hh : s.halt = 0) (x y : Int) (hx : rg s.regs i.rs1 = x) (hy : rg s.regs i.rs2 = y) (hx0 : 0 ≤ x) (hx1 : x < 4294967296) (hy0 : 0 ≤ y) (hy1 : y < 4294967296) :
    (goN 40 (inE s.pc i s.mem x y)).is = 3 ∧ toldE (goN 40 (inE s.pc i s.mem x y)) = (doS s i).2 := by
  have hr : ∀ a m, rtA (s.mem.size : Int) a m = rtB (s.mem.size : Int) a m := fun a m => rfl
  unfold doS
  simp only
  rw [hx, hy]
  obtain ⟨op, rd, r1, r2, im⟩ := i
  simp only at hw4 hk6 hx hy ⊢
  by_cases h3 : kindI op = 3
  · have hS : startE (entE s.pc ⟨op, rd, r1, r2, im⟩) x y = entE s.pc ⟨op, rd, r1, r2, im⟩ := by unfold startE; rw [if_pos (by right; left; exact h3)]
    rw [if_pos (Or.inl h3)]
    unfold inE adE accS
    simp only
    rw [hS]
    cases hb : rtB (s.mem.size : Int) ((x + im) % 4294967296) (sizeOp op)
    · have hA : addrE (entE s.pc ⟨op, rd, r1, r2, im⟩) s.mem.size x = { entE s.pc ⟨op, rd, r1, r2, im⟩ with addr := (x + im) % 4294967296, halt := 4, is := 3 } := by
        unfold addrE
        rw [if_neg (by simp [entE, zeroE, h3]), hr]
        show (if rtB _ ((x + im) % 4294967296) (sizeOp op) = true then _ else if kindI op = 3 then _ else _) = _
        rw [hb, if_neg (by simp), if_pos h3]
        rfl
      rw [hA, if_neg (by simp [entE, zeroE])]
      have hT : storeE { entE s.pc ⟨op, rd, r1, r2, im⟩ with addr := (x + im) % 4294967296, halt := 4, is := 3 } y = { entE s.pc ⟨op, rd, r1, r2, im⟩ with addr := (x + im) % 4294967296, halt := 4, is := 3 } := by
        unfold storeE; rw [if_pos (by left; show kindI op ≠ 4; omega)]
      rw [hT, goN_done rfl, if_pos rfl, if_neg (by omega)]
      exact ⟨rfl, rfl⟩
    · have hA : addrE (entE s.pc ⟨op, rd, r1, r2, im⟩) s.mem.size x = { entE s.pc ⟨op, rd, r1, r2, im⟩ with addr := (x + im) % 4294967296, known := true } := by
        unfold addrE
        rw [if_neg (by simp [entE, zeroE, h3]), hr]
        show (if rtB _ ((x + im) % 4294967296) (sizeOp op) = true then _ else if kindI op = 3 then _ else _) = _
        rw [hb, if_pos rfl]
        rfl
      rw [hA, if_pos ⟨rfl, h3⟩, if_neg (by simp), if_neg (by omega)]
      have hK : takeE { entE s.pc ⟨op, rd, r1, r2, im⟩ with addr := (x + im) % 4294967296, known := true } (s.mem.extract ((x + im) % 4294967296).toNat ((x + im) % 4294967296 + sizeOp op).toNat) = { entE s.pc ⟨op, rd, r1, r2, im⟩ with addr := (x + im) % 4294967296, known := true, is := 1, left := 1, value := if wrI op rd = 0 then 0 else ldV op (s.mem.extract ((x + im) % 4294967296).toNat ((x + im) % 4294967296 + sizeOp op).toNat) } := by
        unfold takeE
        rw [if_neg (by simp [entE, zeroE, h3])]
        rfl
      simp only
      rw [hK]
      have hT : ∀ e : En, e.op = op → storeE e y = e := fun e he => by unfold storeE; rw [if_pos (by left; rw [he]; omega)]
      rw [hT _ rfl, goN_goes 40 _ rfl (by show (0 : Int) < 1; decide) (by show (1 : Int) ≤ ((40 : Nat) : Int); decide)]
      refine ⟨rfl, ?_⟩
      unfold toldE
      rw [if_neg (by simp [doneE, entE, zeroE])]
      unfold toldRunE wrote
      simp only [doneE, entE, zeroE, h3]
      by_cases hz : wrI op rd = 0 <;> simp [hz]
  · by_cases h4 : kindI op = 4
    · have hS : startE (entE s.pc ⟨op, rd, r1, r2, im⟩) x y = entE s.pc ⟨op, rd, r1, r2, im⟩ := by unfold startE; rw [if_pos (by right; right; exact h4)]
      rw [if_pos (Or.inr h4)]
      unfold inE adE accS
      simp only
      rw [hS]
      cases hb : rtB (s.mem.size : Int) ((x + im) % 4294967296) (sizeOp op)
      · have hA : addrE (entE s.pc ⟨op, rd, r1, r2, im⟩) s.mem.size x = { entE s.pc ⟨op, rd, r1, r2, im⟩ with addr := (x + im) % 4294967296, halt := 5, is := 3 } := by
          unfold addrE
          rw [if_neg (by simp [entE, zeroE, h4]), hr]
          show (if rtB _ ((x + im) % 4294967296) (sizeOp op) = true then _ else if kindI op = 3 then _ else _) = _
          rw [hb, if_neg (by simp), if_neg h3]
          rfl
        rw [hA, if_neg (by simp [entE, zeroE])]
        have hT : storeE { entE s.pc ⟨op, rd, r1, r2, im⟩ with addr := (x + im) % 4294967296, halt := 5, is := 3 } y = { entE s.pc ⟨op, rd, r1, r2, im⟩ with addr := (x + im) % 4294967296, halt := 5, is := 3 } := by
          unfold storeE; rw [if_pos (by right; left; rfl)]
        rw [hT, goN_done rfl, if_pos rfl, if_pos h4]
        exact ⟨rfl, rfl⟩
      · have hA : addrE (entE s.pc ⟨op, rd, r1, r2, im⟩) s.mem.size x = { entE s.pc ⟨op, rd, r1, r2, im⟩ with addr := (x + im) % 4294967296, known := true } := by
          unfold addrE
          rw [if_neg (by simp [entE, zeroE, h4]), hr]
          show (if rtB _ ((x + im) % 4294967296) (sizeOp op) = true then _ else if kindI op = 3 then _ else _) = _
          rw [hb, if_pos rfl]
          rfl
        rw [hA, if_neg (by simp [h3]), if_neg (by simp), if_pos h4]
        have hT : storeE { entE s.pc ⟨op, rd, r1, r2, im⟩ with addr := (x + im) % 4294967296, known := true } y = { entE s.pc ⟨op, rd, r1, r2, im⟩ with addr := (x + im) % 4294967296, known := true, is := 3, value := stoV y (sizeOp op) } := by
          unfold storeE
          rw [if_neg (by simp [entE, zeroE, h4])]
          rfl
        rw [hT, goN_done rfl]
        refine ⟨rfl, ?_⟩
        unfold toldE
        rw [if_neg (by simp [entE, zeroE])]
        unfold toldRunE wrote
        simp [entE, zeroE, h4, hw4 h4]
    · have hS : startE (entE s.pc ⟨op, rd, r1, r2, im⟩) x y = startG (entE s.pc ⟨op, rd, r1, r2, im⟩) x y := by unfold startE; rw [if_neg (by simp [entE, zeroE, h3, h4])]
      have hA : ∀ e : En, e.op = op → addrE e s.mem.size x = e := fun e he => by unfold addrE; rw [if_pos (by right; right; rw [he]; exact ⟨h3, h4⟩)]
      have hT : ∀ e : En, e.op = op → storeE e y = e := fun e he => by unfold storeE; rw [if_pos (by left; rw [he]; exact h4)]
      have hop : (startG (entE s.pc ⟨op, rd, r1, r2, im⟩) x y).op = op := by
        unfold startG
        repeat' split
        all_goals rfl
      rw [if_neg (by simp [h3, h4])]
      unfold inE adE
      simp only
      rw [hS, hA _ hop, if_neg (by simp [h3]), hT _ hop]
      unfold startG
      simp only
      by_cases h1 : kindI op = 1
      · rw [if_pos (show kindI (entE s.pc ⟨op, rd, r1, r2, im⟩).op = 1 from h1), if_neg (show ¬ kindI op = 5 by omega), if_neg (show ¬ kindI op = 2 by omega), goN_goes 40 _ rfl (by show (0 : Int) < 3; decide) (by show (3 : Int) ≤ ((40 : Nat) : Int); decide)]
        refine ⟨rfl, ?_⟩
        unfold toldE
        rw [if_neg (by simp [doneE, entE, zeroE])]
        unfold toldRunE wrote
        simp only [doneE, entE, zeroE, h1]
        by_cases hz : wrI op rd = 0 <;> simp [hz, zeroSt]
      · by_cases h2 : kindI op = 2
        · have ht := took_rangeM op x y h2 hx0 hx1 hy0 hy1
          rw [if_neg (show ¬ kindI (entE s.pc ⟨op, rd, r1, r2, im⟩).op = 1 from h1), if_pos (show kindI (entE s.pc ⟨op, rd, r1, r2, im⟩).op = 2 from h2), if_neg (show ¬ kindI op = 5 by omega), if_pos h2, goN_goes 40 _ rfl (by show 0 < tookW op x y; omega) (by show tookW op x y ≤ ((40 : Nat) : Int); omega)]
          refine ⟨rfl, ?_⟩
          unfold toldE
          rw [if_neg (by simp [doneE, entE, zeroE])]
          unfold toldRunE wrote
          simp only [doneE, entE, zeroE, h2]
          by_cases hz : wrI op rd = 0 <;> simp [hz, zeroSt]
        · by_cases h5 : kindI op = 5
          · rw [if_neg (show ¬ kindI (entE s.pc ⟨op, rd, r1, r2, im⟩).op = 1 from h1), if_neg (show ¬ kindI (entE s.pc ⟨op, rd, r1, r2, im⟩).op = 2 from h2), if_pos (show kindI (entE s.pc ⟨op, rd, r1, r2, im⟩).op = 5 from h5), if_pos h5]
            by_cases hn : nextW op im s.pc x y % 4 = 0
            · rw [if_pos (show nextW (entE s.pc ⟨op, rd, r1, r2, im⟩).op (entE s.pc ⟨op, rd, r1, r2, im⟩).imm (entE s.pc ⟨op, rd, r1, r2, im⟩).pc x y % 4 = 0 from hn), if_pos hn, goN_goes 40 _ rfl (by show (0 : Int) < 1; decide) (by show (1 : Int) ≤ ((40 : Nat) : Int); decide)]
              refine ⟨rfl, ?_⟩
              unfold toldE
              rw [if_neg (by simp [doneE, entE, zeroE])]
              unfold toldRunE wrote
              simp only [doneE, entE, zeroE, h5]
              by_cases hz : wrI op rd = 0 <;> simp [hz, zeroSt]
            · rw [if_neg (show ¬ nextW (entE s.pc ⟨op, rd, r1, r2, im⟩).op (entE s.pc ⟨op, rd, r1, r2, im⟩).imm (entE s.pc ⟨op, rd, r1, r2, im⟩).pc x y % 4 = 0 from hn), if_neg hn, goN_goes 40 _ rfl (by show (0 : Int) < 1; decide) (by show (1 : Int) ≤ ((40 : Nat) : Int); decide)]
              refine ⟨rfl, ?_⟩
              unfold toldE
              rw [if_pos (by show (3 : Int) ≠ 0; decide)]
              rfl
          · rw [if_neg (show ¬ kindI (entE s.pc ⟨op, rd, r1, r2, im⟩).op = 1 from h1), if_neg (show ¬ kindI (entE s.pc ⟨op, rd, r1, r2, im⟩).op = 2 from h2), if_neg (show ¬ kindI (entE s.pc ⟨op, rd, r1, r2, im⟩).op = 5 from h5), if_neg h5, if_neg h2, goN_goes 40 _ rfl (by show (0 : Int) < 1; decide) (by show (1 : Int) ≤ ((40 : Nat) : Int); decide)]
            refine ⟨rfl, ?_⟩
            unfold toldE
            rw [if_neg (by simp [doneE, entE, zeroE])]
            unfold toldRunE wrote
            simp only [doneE, entE, zeroE, h5, h2, h3, h4, if_false]
            by_cases hz : wrI op rd = 0 <;> simp [hz, zeroSt]
end Go.Proofs.YtaokhegbfaokdaaDoor
