import Derived.Test.YtkamljmopbocnaaDoorSeqD
import Derived.Test.YtkamljmopbocnaaDoorEntries
import Derived.Deep.QuietTactic
import Derived.BigQuiet
import Derived.Test.YtkamljmopbocnaaDoorTraceB
import Derived.Lib.ConvBytes
/- WHAT SeqGoes (auspexlaw06) WANTS: the reference's Like on two rows of the same steps. -/
namespace Go.Proofs.YtkamljmopbocnaaDoor
open Go.ChangeShapes Go.WideShapes Go.ChangeAt Go.RowKit Go.Sort
set_option linter.unusedVariables false
set_option linter.unusedSimpArgs false
set_option maxHeartbeats 4000000
set_option maxRecDepth 100000

/-- a struct is read whole where the class of worlds holds its cells -/
theorem quiet_load_drew {P : Program} {op : Oper} {a : Act} {K : Act → Prop} {w : World} (ty : TypeId) (x : Operand) (ho : op.op = .load ty x)
    (p : Addr) (hx : a.eval x = .pointer (some p)) (cs : List Value) (d : TypeDesc) (hc : ∀ j v, cs[j]? = some v → w.cell? (p.add j) = some v)
    (hu : P.underlying ty = some d) (hd : d.isRow = true) (hi : (P.info? ty).map (·.size) = some cs.length)
    (hk : K (a.put op.dst (.agg cs.toArray))) : op.quiet P a (fun w' => ∃ n, w' = w.drewN n) K := by
  refine ⟨_, ?_, hk⟩
  rintro w' ⟨q, rfl⟩
  have hr := run_loadVar_row (P := P) (w.drewN q) p ty cs d (fun j v hv => hc j v hv) hu hd hi
  unfold Oper.quietAt execOp
  simp only [ho, hx, Instr.loadAt, Instr.sureAddr, Sem.run_bind, Sem.run_pure, Result.andThen_ok, hr]
  exact ⟨rfl, rfl⟩
theorem like06_any (A B : Option Addr) (n ca cb : Nat) (ss : List St) (hn : n ≤ 1000) (w : World) (ha : StepsAt w A n ss) (hb : StepsAt w B n ss) :
    Calls Tryd.prog 11 #[.slice A n ca, .slice B n cb] w fun e w' => e = .returned (.bool true) ∧ Below w.heap.size w w' := by
  have la := Lib.hid ha.len
  have HA := Lib.hid ha
  have HB := Lib.hid hb
  clear ha hb
  go_enter Tryd.func11, Tryd.ntmps11
  go_wp2
  go_loopw [13] (fun i wr => ∃ k : Nat, k ≤ n ∧ i = .int .i64 k ∧ Below w.heap.size w wr) (fun i _ => n - (intOf i).toNat)
  case atStart => exact ⟨0, Nat.zero_le _, rfl, Below.refl _ _⟩
  case round =>
    obtain ⟨k, hk, rfl, hbel⟩ := hrel
    by_cases hkn : k < n
    · obtain ⟨x, hx⟩ : ∃ r, ss[k]? = some r := ⟨_, List.getElem?_eq_getElem (by rw [la.out]; exact hkn)⟩
      obtain ⟨cx, hcx⟩ : ∃ c, stC x = c := ⟨_, rfl⟩
      have hl : cx.length = 9 := by rw [← hcx]; rfl
      have hxc : (ss.map stC)[k]? = some cx := by rw [List.getElem?_map, hx, ← hcx]; rfl
      obtain ⟨_, pa, rfl, hpa, hva⟩ := (HA.out.below hbel).2 k cx hxc
      obtain ⟨_, pb, rfl, hpb, hvb⟩ := (HB.out.below hbel).2 k cx hxc
      have heq := fun w => eql_st x w
      rw [hcx] at heq
      have HEQ := Lib.hid heq
      have HI := Lib.hid (show (Tryd.prog.info? 33).map (·.size) = some cx.length by rw [hl]; exact st_info)
      have HVA := Lib.hid (show ∀ j v, cx[j]? = some v → wr.cell? ((pa.add (k * 9)).add j) = some v from fun j v hj => by have := hva j v hj; rwa [Addr.add_add])
      have HVB := Lib.hid (show ∀ j v, cx[j]? = some v → wr.cell? ((pb.add (k * 9)).add j) = some v from fun j v hj => by have := hvb j v hj; rwa [Addr.add_add])
      have HPA := Lib.hid (show (pa.add (k * 9)).block < wr.heap.size by rw [block_add]; exact hpa)
      have HPB := Lib.hid (show (pb.add (k * 9)).block < wr.heap.size by rw [block_add]; exact hpb)
      have HBL := Lib.hid hbel
      clear hx hcx hl hxc hva hvb hpa hpb heq hbel
      go_wp2
      refine wp_region_quiet_lit (by kernel_rfl) (by kernel_rfl) ?_
      repeat (first
        | (go_big_quiet_want; refine quiet_load_drew 33 (.tmp 18) rfl (pa.add (k * 9)) rfl cx _ HVA.out Tryd.underlying33 rfl HI.out ?_; simp only [Act.put, List.setIfInBounds_toArray, List.set_cons_succ, List.set_cons_zero]; go_big_quiet_on)
        | (go_big_quiet_want; refine quiet_load_drew 33 (.tmp 22) rfl (pb.add (k * 9)) rfl cx _ HVB.out Tryd.underlying33 rfl HI.out ?_; simp only [Act.put, List.setIfInBounds_toArray, List.set_cons_succ, List.set_cons_zero]; go_big_quiet_on)
        | (go_big_quiet_want; refine quiet_neq 33 33 (.tmp 19) (.tmp 23) rfl cx.toArray cx.toArray rfl rfl true HEQ.out guard_st ?_; simp only [Act.put, List.setIfInBounds_toArray, List.set_cons_succ, List.set_cons_zero]; go_big_quiet_on)
        | (go_big_quiet_step (fail)))
      refine wpQuiet_nil ?_
      intro _ hw'
      obtain ⟨nq, hw''⟩ := hw'
      subst hw''
      go_wp2
      go_roundw
      case rel => exact ⟨k + 1, by omega, by go_num, HBL.out.trans ⟨rfl, rfl, rfl, Nat.le_refl _, fun _ _ => rfl⟩⟩
      case measure => simp [intOf]; omega
    · have hkn' : k = n := by omega
      subst hkn'
      go_wp2
      go_ret
      exact ⟨rfl, hbel⟩
theorem own_stayW {K : Nat → Prop} {w w2 : World} {B e size n : Nat} {v : Value} {xs : List Value} (h : w.ownsRow B e size v n xs) (hs : Stay K w w2) (hK : ∀ k, v.ownBlock = some k → K k) : w2.ownsRow B e size v n xs := by
  refine ⟨h.1, ?_⟩
  rcases h.2 with h0 | ⟨g, cap, cur, hv, hg, hh, r⟩
  · exact .inl h0
  · have hlt : g < w.heap.size := (Array.getElem?_eq_some_iff.1 hh).1
    exact .inr ⟨g, cap, cur, hv, hg, (hs.block g hlt (hK g (by rw [hv]; rfl))).trans hh, r⟩
theorem rows_stay {K : Nat → Prop} {A B : World} {Y : Option Addr} {n sz : Nat} {cs : List (List Value)} (h : RowsAt A Y n sz cs) (hs : Stay K A B) (hK : ∀ a, Y = some a → a.block < A.heap.size → K a.block) : RowsAt B Y n sz cs :=
  ⟨h.1, fun j c hc => by
    obtain ⟨e, a, ha, hl, hv⟩ := h.2 j c hc
    exact ⟨e, a, ha, Nat.lt_of_lt_of_le hl hs.size, fun i v hi => hs.cell (hv i v hi) (by rw [block_add]; exact hK a ha hl)⟩⟩
/-- one cell is read, in the class of worlds that only grew -/
theorem quiet_load_cell {P : Program} {op : Oper} {a : Act} {K : Act → Prop} {w : World} (ty : TypeId) (x : Operand) (ho : op.op = .load ty x)
    (p : Addr) (hx : a.eval x = .pointer (some p)) (v : Value) (hc : w.cell? p = some v) (hp : p.block < w.heap.size)
    (hl : ∀ w2 : World, w2.cell? p = some v → (loadVar ty p).run P w2 = .ok v w2)
    (hk : K (a.put op.dst v)) : op.quiet P a (fun w' => ∃ p : Regrown, w' = grow (redrawn w p.d) p.os) K := by
  refine ⟨_, ?_, hk⟩
  rintro w' ⟨q, rfl⟩
  have hr := hl (grow (redrawn w q.d) q.os) (((below_regrown w q.d q.os).cell hp).trans hc)
  unfold Oper.quietAt execOp
  simp only [ho, hx, Instr.loadAt, Instr.sureAddr, Sem.run_bind, Sem.run_pure, Result.andThen_ok, hr]
  exact ⟨rfl, rfl⟩
theorem quiet_run {P : Program} {op : Oper} {a : Act} {K : Act → Prop} {C : World → Prop} (v : Value) (h : ∀ w, C w → (execOp a.eval op).run P w = .ok (.value v) w) (hk : K (a.put op.dst v)) : op.quiet P a C K := by
  refine ⟨v, fun w hw => ?_, hk⟩
  unfold Oper.quietAt
  rw [h w hw]
  exact ⟨rfl, rfl⟩
theorem quiet_field_mem {op : Oper} {a : Act} {K : Act → Prop} {C : World → Prop} (x : Operand) (ho : op.op = .field 28 x 2) (cs : Array Value) (v : Value) (hx : a.eval x = .agg cs) (hv : cs[33]? = some v)
    (hk : K (a.put op.dst v)) : op.quiet Tryd.prog a C K := by
  refine quiet_run v (fun w _ => ?_) hk
  unfold execOp
  simp only [ho, hx]
  simp [Instr.field, asAgg, part, isAgg, run_underlying Tryd.underlying28, run_underlying Tryd.underlying9, hv]
/-- append tells where its answer lies: in the block that it had, or in a new one -/
theorem run_append_where {P : Program} (w : World) (base : Nat) (t ty e : TypeId) (i : TypeInfo) (z : Value) (size bytes : Nat) (ht : P.underlying t = some (.slice e)) (hi : P.info? e = some i) (hz : i.zero = some z)
    (hsize : i.size = size) (hby : i.bytes = bytes) (hzs : z.cells.size = size) (hsz : 0 < size)
    (v : Value) (n : Nat) (xs : List Value) (hown : w.ownsRow base e size v n xs)
    (a : Addr) (m c : Nat) (news : List Value) (hl : news.length = m * size) (hnews : ∀ j u, news[j]? = some u → w.cell? (a.add j) = some u) (h1 : ∀ u ∈ news, u.oneCell' = true)
    (h63 : n + m ≤ maxLen) (hbytes : (n + m) * bytes ≤ 140737488355328) (hbase : base ≤ w.heap.size) :
    ∃ v' w', (Builtin.append_ #[t, t] ty #[v, .slice (some a) m c]).run P w = .ok v' w' ∧ w'.ownsRow base e size v' (n + m) (xs ++ news) ∧ w.grownBy w' v.ownBlock ∧
      ∀ j, v'.ownBlock = some j → v.ownBlock = some j ∨ w.heap.size ≤ j := by
  obtain ⟨v', w', hr, h2, h3, -⟩ := run_append_own w base t ty e i z size bytes ht hi hz hsize hby hzs hsz v n xs hown a m c news hl hnews h1 h63 hbytes hbase
  refine ⟨v', w', hr, h2, h3, ?_⟩
  have hown0 := hown
  rcases hown.2 with ⟨rfl, rfl⟩ | ⟨g, cap, cur, rfl, hbg, hg, hnc, hcm, hcs, htake⟩
  · have hx : xs = [] := List.eq_nil_of_length_eq_zero (by simpa using hown.1)
    subst hx
    obtain ⟨v2, w2, hr2, h5, -, -⟩ := run_append_own w w.heap.size t ty e i z size bytes ht hi hz hsize hby hzs hsz (.slice none 0 0) 0 [] (World.ownsRow_nil w _ e size) a m c news hl hnews h1 h63 hbytes (Nat.le_refl _)
    rw [hr] at hr2
    obtain ⟨rfl, rfl⟩ := Result.ok.inj hr2
    exact fun j hj => .inr (h5.lt j hj).1
  · subst hsize
    by_cases hroom : n + m ≤ cap
    · have hfit : n * i.size + news.length ≤ cur.size := by rw [hl, hcs, ← Nat.add_mul]; exact Nat.mul_le_mul_right _ hroom
      have hr2 := run_append_room (P := P) w t ty e i ht hi g n cap cur hg a m c news hl hnews h1 hroom hfit
      rw [hr] at hr2
      obtain ⟨rfl, -⟩ := Result.ok.inj hr2
      exact fun j hj => .inl hj
    · have holds : ∀ j u, xs[j]? = some u → w.cell? ((⟨g, 0, none⟩ : Addr).add j) = some u := hown.cells (g := g) rfl
      subst hby
      have hsmall : n + m ≤ 9223372036854775807 := by simp only [maxLen] at h63; omega
      have hr2 := run_append_grow (P := P) w t ty e i z ht hi hz ⟨g, 0, none⟩ n cap xs hown.1 holds a m c news hl hnews (by omega) (by omega) (growslice_fits (by omega) hbytes)
      rw [hr] at hr2
      obtain ⟨rfl, -⟩ := Result.ok.inj hr2
      intro j hj
      simp only [Value.ownBlock] at hj
      cases hj
      exact .inr (Nat.le_refl _)
theorem wpList_append_where {P : Program} {ops : Array Oper} {rest : List Oper} {w : World} {o : Oper} {a : Act} {Q : Exit → Act → World → Prop} (hgd : o.guard = none) (s x : Operand) (t : TypeId)
    (ho : o.op = .call { callee := .builtin .append, args := #[s, x], argTypes := #[t, t] })
    (base : Nat) (e : TypeId) (i : TypeInfo) (z : Value) (size bytes : Nat) (ht : P.underlying t = some (.slice e)) (hi : P.info? e = some i) (hz : i.zero = some z)
    (hsize : i.size = size) (hby : i.bytes = bytes) (hzs : z.cells.size = size) (hsz : 0 < size)
    (v : Value) (n : Nat) (xs : List Value) (hs : a.eval s = v) (hown : w.ownsRow base e size v n xs)
    (ad : Addr) (m c : Nat) (news : List Value) (hx : a.eval x = .slice (some ad) m c) (hl : news.length = m * size) (hnews : ∀ j u, news[j]? = some u → w.cell? (ad.add j) = some u) (h1 : ∀ u ∈ news, u.oneCell' = true)
    (h63 : n + m ≤ maxLen) (hbytes : (n + m) * bytes ≤ 140737488355328) (hbase : base ≤ w.heap.size)
    (h : ∀ v' w', w'.ownsRow base e size v' (n + m) (xs ++ news) → w.grownBy w' v.ownBlock → (∀ j, v'.ownBlock = some j → v.ownBlock = some j ∨ w.heap.size ≤ j) → wpList P ops Q rest (a.put o.dst v') w') :
    wpList P ops Q (o :: rest) a w := by
  refine BigFrame.wpList_want (by unfold Region.wanted; rw [hgd]) fun _ hK => ?_
  obtain ⟨v', w', hr, h2, h3, h4⟩ := run_append_where (P := P) w base t o.type e i z size bytes ht hi hz hsize hby hzs hsz v n xs hown ad m c news hl hnews h1 h63 hbytes hbase
  unfold Oper.wp execOp
  simp only [ho, resolve, invoke, builtin, Sem.run_bind, Sem.run_pure, Result.andThen_ok, List.map_toArray, List.map_cons, List.map_nil, hs, hx, hr]
  exact hK _ _ (h v' w' h2 h3 h4)
end Go.Proofs.YtkamljmopbocnaaDoor

namespace Go.Proofs.YtkamljmopbocnaaDoor.seqGoes
open Go.ChangeShapes Go.WideShapes Go.ChangeAt Go.RowKit Go.Sort
set_option linter.unusedVariables false
set_option linter.unusedSimpArgs false
set_option maxHeartbeats 8000000
set_option maxRecDepth 100000

end Go.Proofs.YtkamljmopbocnaaDoor.seqGoes

/- THE MATHEMATICS OF TWO MEMORIES: runs that agree in their architectural events; runs whose memories differ in one byte. -/
namespace Go.Proofs.YtkamljmopbocnaaDoor
open Go.ChangeShapes Go.WideShapes Go.ChangeAt Go.RowKit
set_option linter.unusedVariables false
set_option linter.unusedSimpArgs false
set_option maxHeartbeats 2000000
set_option maxRecDepth 100000

/-- two runs that are the same but for what their memories hold -/
def twinS (s t : Sq) : Prop := t.pc = s.pc ∧ t.regs = s.regs ∧ t.halt = s.halt ∧ t.mem.size = s.mem.size
theorem wrote_twin {s t : Sq} (h : twinS s t) (op rd next v v' : Int) (x : St) (hv : wrI op rd = 0 ∨ v' = v) : (wrote t op rd next v' x).2 = (wrote s op rd next v x).2 ∧ twinS (wrote s op rd next v x).1 (wrote t op rd next v' x).1 := by
  obtain ⟨h1, h2, h3, h4⟩ := h
  unfold wrote twinS
  by_cases hw : wrI op rd = 0
  · simp [hw, h1, h2, h3, h4]
  · obtain rfl := hv.resolve_left hw
    simp [hw, h1, h2, h3, h4]
theorem haltS_twin {s t : Sq} (h : twinS s t) (why addr : Int) : (haltS t why addr).2 = (haltS s why addr).2 ∧ twinS (haltS s why addr).1 (haltS t why addr).1 := by
  obtain ⟨h1, h2, h3, h4⟩ := h
  unfold haltS twinS
  simp [h1, h2, h3, h4]
/-- a store leaves memories of one size -/
theorem stored_size (m : ByteArray) (b n addr : Int) (h0 : 0 ≤ addr) (hm : m.size ≤ 1000) (hr : rtB m.size addr n = true) : (if rtB m.size addr (stoS b n).size then wrS m (stoS b n) addr.toNat else ByteArray.empty).size = m.size := by
  have e := stoS_is b n (rtB_facts hr).1
  exact (store_size m (stoS b n) addr h0).2 (by rw [e]; exact hr)
theorem accS_twin {s t : Sq} (h : twinS s t) (hs : sqOK s) (i : Ins) (addr b : Int) (ha : 0 ≤ addr) (hk : kindI i.op = 3 ∨ kindI i.op = 4)
    (hl : kindI i.op = 3 → wrI i.op i.rd ≠ 0 → rtB s.mem.size addr (sizeOp i.op) = true → ldV i.op (t.mem.extract addr.toNat (addr + sizeOp i.op).toNat) = ldV i.op (s.mem.extract addr.toNat (addr + sizeOp i.op).toNat)) :
    (accS t i addr b).2 = (accS s i addr b).2 ∧ twinS (accS s i addr b).1 (accS t i addr b).1 := by
  have h0 := h
  obtain ⟨h1, h2, h3, h4⟩ := h
  unfold accS
  rw [h4, h1]
  by_cases hr : rtB s.mem.size addr (sizeOp i.op) = false
  · rw [if_pos hr, if_pos hr]
    exact haltS_twin h0 _ _
  · rw [if_neg hr, if_neg hr]
    have hr' : rtB s.mem.size addr (sizeOp i.op) = true := by simpa using hr
    by_cases h5 : kindI i.op = 4
    · rw [if_pos h5, if_pos h5]
      refine wrote_twin ?_ _ _ _ _ _ _ (.inr rfl)
      refine ⟨rfl, h2, h3, ?_⟩
      have a1 := stored_size s.mem b (sizeOp i.op) addr ha hs.2.2.2 hr'
      have a2 := stored_size t.mem b (sizeOp i.op) addr ha (by rw [h4]; exact hs.2.2.2) (by rw [h4]; exact hr')
      rw [h4] at a2
      exact a2.trans a1.symm
    · rw [if_neg h5, if_neg h5]
      refine wrote_twin h0 _ _ _ _ _ _ ?_
      by_cases hw : wrI i.op i.rd = 0
      · exact .inl hw
      · exact .inr (hl (hk.resolve_right h5) hw hr')
/-- what a step that loads tells -/
theorem doS_twin {s t : Sq} (h : twinS s t) (hs : sqOK s) (i : Ins)
    (hl : kindI i.op = 3 → wrI i.op i.rd ≠ 0 → rtB s.mem.size ((rg s.regs i.rs1 + i.imm) % 4294967296) (sizeOp i.op) = true → ldV i.op (t.mem.extract ((rg s.regs i.rs1 + i.imm) % 4294967296).toNat ((rg s.regs i.rs1 + i.imm) % 4294967296 + sizeOp i.op).toNat) = ldV i.op (s.mem.extract ((rg s.regs i.rs1 + i.imm) % 4294967296).toNat ((rg s.regs i.rs1 + i.imm) % 4294967296 + sizeOp i.op).toNat)) :
    (doS t i).2 = (doS s i).2 ∧ twinS (doS s i).1 (doS t i).1 := by
  have h0 := h
  obtain ⟨h1, h2, h3, h4⟩ := h
  unfold doS
  simp only
  rw [h2, h1]
  split
  · rename_i hk
    exact accS_twin h0 hs i _ _ (Int.emod_nonneg _ (by omega)) hk hl
  · split
    · split
      · exact wrote_twin h0 _ _ _ _ _ _ (.inr rfl)
      · exact haltS_twin h0 _ _
    · split
      · exact wrote_twin h0 _ _ _ _ _ _ (.inr rfl)
      · exact wrote_twin h0 _ _ _ _ _ _ (.inr rfl)
/-- the event of a load tells what it loaded -/
theorem doS_load (s : Sq) (i : Ins) (hk : kindI i.op = 3) (hr : rtB s.mem.size ((rg s.regs i.rs1 + i.imm) % 4294967296) (sizeOp i.op) = true) :
    (doS s i).2 = ⟨s.pc, (s.pc + 4) % 4294967296, wrI i.op i.rd, if wrI i.op i.rd = 0 then 0 else ldV i.op (s.mem.extract ((rg s.regs i.rs1 + i.imm) % 4294967296).toNat ((rg s.regs i.rs1 + i.imm) % 4294967296 + sizeOp i.op).toNat), (rg s.regs i.rs1 + i.imm) % 4294967296, sizeOp i.op, false, 0, 0⟩ := by
  unfold doS
  simp only
  rw [if_pos (.inl hk)]
  unfold accS
  rw [if_neg (by simp [hr]), if_neg (by omega)]
  rfl
theorem stepS_agree {zs : List Int} {s t : Sq} (h : twinS s t) (hs : sqOK s) (he : evOf true (stepS zs t).2 = evOf true (stepS zs s).2) :
    (stepS zs t).2 = (stepS zs s).2 ∧ twinS (stepS zs s).1 (stepS zs t).1 := by
  have h0 := h
  obtain ⟨h1, h2, h3, h4⟩ := h
  unfold stepS at he ⊢
  rw [h3, h1] at he ⊢
  split
  · exact ⟨rfl, h0⟩
  · rename_i hh
    rw [if_neg hh, if_neg hh] at he
    split
    · exact haltS_twin h0 _ _
    · rename_i hy
      rw [if_neg hy, if_neg hy] at he
      refine doS_twin h0 hs _ fun hk hw hr => ?_
      rw [doS_load s _ hk hr, doS_load t _ hk (by rw [h4, h2]; exact hr), if_neg hw, if_neg hw, h2] at he
      have hz : 0 < sizeOp (insOf (ftV zs zs.length s.pc)).op := by rcases (rtB_facts hr).1 with e | e | e <;> omega
      have := congrArg Ev.loaded he
      simpa [evOf, hz] using this
/-- as far as the events agree the steps do -/
theorem runS_agree {zs : List Int} : ∀ (n : Nat) {s t : Sq}, twinS s t → sqOK s → ∀ k, k = sameL ((runS zs n s).2.map (evOf true)) ((runS zs n t).2.map (evOf true)) →
    (∀ i, i < k → (runS zs n t).2[i]? = (runS zs n s).2[i]?) ∧ k ≤ sameL ((runS zs n s).2.map (evOf false)) ((runS zs n t).2.map (evOf false)) ∧
    (k = (runS zs n s).2.length → k = (runS zs n t).2.length → twinS (runS zs n s).1 (runS zs n t).1)
  | 0, s, t, h, hs, k, hk => by
    subst hk
    exact ⟨fun i hi => rfl, Nat.le_refl _, fun _ _ => h⟩
  | n + 1, s, t, h, hs, k, hk => by
    by_cases h0 : s.halt = 0
    · have h0' : t.halt = 0 := by rw [h.2.2.1]; exact h0
      rw [runS_goes zs n s h0, runS_goes zs n t h0'] at hk ⊢
      simp only [List.map_cons, List.length_cons] at hk ⊢
      by_cases he : evOf true (stepS zs s).2 = evOf true (stepS zs t).2
      · obtain ⟨e1, e2⟩ := stepS_agree h hs he.symm
        have hk' : k = sameL ((runS zs n (stepS zs s).1).2.map (evOf true)) ((runS zs n (stepS zs t).1).2.map (evOf true)) + 1 := by
          rw [hk]
          show (if _ = _ then _ else _) = _
          rw [if_pos he]
        obtain ⟨a1, a2, a3⟩ := runS_agree (zs := zs) n e2 (stepS_ok (zs := zs) hs) (k - 1) (by omega)
        refine ⟨fun i hi => ?_, ?_, fun b1 b2 => a3 (by omega) (by omega)⟩
        · cases i with
          | zero => simp [e1]
          | succ i => simpa using a1 i (by omega)
        · show k ≤ (if _ = _ then _ else _)
          rw [e1, if_pos rfl]
          omega
      · have hk' : k = 0 := by
          rw [hk]
          show (if _ = _ then _ else _) = _
          rw [if_neg he]
        subst hk'
        exact ⟨fun i hi => absurd hi (by omega), Nat.zero_le _, fun b1 _ => by omega⟩
    · have h0' : t.halt ≠ 0 := by rw [h.2.2.1]; exact h0
      rw [runS_halted zs _ s h0, runS_halted zs _ t h0'] at hk ⊢
      subst hk
      exact ⟨fun i hi => rfl, Nat.le_refl _, fun _ _ => h⟩
theorem newS_twin (m w : ByteArray) (h : (clS w).size = (clS m).size) : twinS (newS m) (newS w) := ⟨rfl, rfl, rfl, h⟩

/-- two runs that are the same but for one byte of memory -/
def butS (at_ : Nat) (s t : Sq) : Prop := twinS s t ∧ ∀ i, i ≠ at_ → t.mem.data.toList[i]? = s.mem.data.toList[i]?
/-- a step touches a place -/
def inB (at_ : Nat) (x : St) : Bool := decide (0 < x.size ∧ x.addr ≤ (at_ : Int) ∧ (at_ : Int) < x.addr + x.size)
/-- the first step that touches a place, if there is one, stores -/
def safeL (at_ : Nat) : List St → Bool
  | [] => true
  | x :: l => if inB at_ x = true then x.store else safeL at_ l
theorem rtB_range {size addr many : Int} (h : rtB size addr many = true) : 0 < many ∧ addr + many ≤ size := by
  obtain ⟨h1, _, h3⟩ := rtB_facts h
  exact ⟨by omega, h3⟩
theorem addr_nonneg (a b : Int) : 0 ≤ (a + b) % 4294967296 := Int.emod_nonneg _ (by omega)
theorem stoS_nat (b n : Int) (h : n = 1 ∨ n = 2 ∨ n = 4) : (stoS b n).size = n.toNat := by have := stoS_is b n h; omega
/-- what a step does to memory -/
theorem doS_mem (s : Sq) (i : Ins) : 
    (kindI i.op = 4 ∧ rtB s.mem.size ((rg s.regs i.rs1 + i.imm) % 4294967296) (sizeOp i.op) = true ∧
      (doS s i).1.mem = wrS s.mem (stoS (rg s.regs i.rs2) (sizeOp i.op)) ((rg s.regs i.rs1 + i.imm) % 4294967296).toNat ∧ (doS s i).2.addr = (rg s.regs i.rs1 + i.imm) % 4294967296 ∧ (doS s i).2.size = sizeOp i.op ∧ (doS s i).2.store = true) ∨
    ((doS s i).1.mem = s.mem ∧ (doS s i).2.store = false) := by
  unfold doS
  simp only
  split
  · rename_i hk
    unfold accS
    split
    · exact .inr ⟨rfl, rfl⟩
    · rename_i hr
      have hr' : rtB s.mem.size ((rg s.regs i.rs1 + i.imm) % 4294967296) (sizeOp i.op) = true := by simpa using hr
      split
      · rename_i h4
        refine .inl ⟨h4, hr', ?_, rfl, rfl, rfl⟩
        show (if rtB s.mem.size ((rg s.regs i.rs1 + i.imm) % 4294967296) (stoS (rg s.regs i.rs2) (sizeOp i.op)).size then wrS s.mem (stoS (rg s.regs i.rs2) (sizeOp i.op)) ((rg s.regs i.rs1 + i.imm) % 4294967296).toNat else ByteArray.empty) = _
        rw [stoS_is _ _ (rtB_facts hr').1, if_pos hr']
      · exact .inr ⟨rfl, rfl⟩
  · split
    · split
      · exact .inr ⟨rfl, rfl⟩
      · exact .inr ⟨rfl, rfl⟩
    · split
      · exact .inr ⟨rfl, rfl⟩
      · exact .inr ⟨rfl, rfl⟩
theorem ex_but {m w : ByteArray} {at_ : Nat} (h : ∀ i, i ≠ at_ → w.data.toList[i]? = m.data.toList[i]?) (i j : Nat) (ho : at_ < i ∨ j ≤ at_) : w.extract i j = m.extract i j := by
  refine ba_ext fun k => ?_
  rw [ex_get, ex_get]
  split
  · exact h _ (by omega)
  · rfl
theorem doS_but {at_ : Nat} {s t : Sq} (h : butS at_ s t) (hs : sqOK s) (i : Ins) :
    (inB at_ (doS s i).2 = false → (doS t i).2 = (doS s i).2 ∧ butS at_ (doS s i).1 (doS t i).1) ∧
    (inB at_ (doS s i).2 = true → (doS s i).2.store = true → (doS t i).2 = (doS s i).2 ∧ (doS t i).1 = (doS s i).1) := by
  obtain ⟨h0, hb⟩ := h
  have h0' := h0
  obtain ⟨h1, h2, h3, h4⟩ := h0'
  have hld : (inB at_ (doS s i).2 = false ∨ (doS s i).2.store = true) → (doS t i).2 = (doS s i).2 ∧ twinS (doS s i).1 (doS t i).1 := fun hin => by
    refine doS_twin h0 hs i fun hk hw hr => ?_
    rw [doS_load s i hk hr] at hin
    obtain ⟨r1, r2⟩ := rtB_range hr
    have a0 := addr_nonneg (rg s.regs i.rs1) i.imm
    rcases hin with hin | hin
    · simp only [inB, decide_eq_false_iff_not] at hin
      have ho : at_ < ((rg s.regs i.rs1 + i.imm) % 4294967296).toNat ∨ ((rg s.regs i.rs1 + i.imm) % 4294967296 + sizeOp i.op).toNat ≤ at_ := by omega
      rw [ex_but hb _ _ ho]
    · cases hin
  have hmem : ((doS s i).2.store = false → (doS t i).2.store = false → (doS t i).1.mem = t.mem ∧ (doS s i).1.mem = s.mem) := fun e1 e2 => by
    rcases doS_mem s i with ⟨_, _, _, _, _, e⟩ | ⟨m1, _⟩
    · rw [e] at e1; cases e1
    · rcases doS_mem t i with ⟨_, _, _, _, _, e⟩ | ⟨m2, _⟩
      · rw [e] at e2; cases e2
      · exact ⟨m2, m1⟩
  have hsto : (doS s i).2.store = true → ∃ D A, A + D.size ≤ s.mem.size ∧ (doS s i).1.mem = wrS s.mem D A ∧ (doS t i).1.mem = wrS t.mem D A ∧ ((A : Int) = (doS s i).2.addr ∧ (D.size : Int) = (doS s i).2.size) := fun e1 => by
    rcases doS_mem s i with ⟨k1, k2, k3, k4, k5, _⟩ | ⟨_, e⟩
    · rcases doS_mem t i with ⟨j1, j2, j3, j4, j5, _⟩ | ⟨j1, j2⟩
      · obtain ⟨r1, r2⟩ := rtB_range k2
        have a0 := addr_nonneg (rg s.regs i.rs1) i.imm
        have e5 := stoS_nat (rg s.regs i.rs2) _ (rtB_facts k2).1
        rw [h2] at j3
        exact ⟨_, _, by rw [e5]; omega, k3, j3, by rw [k4]; omega, by rw [k5, e5]; omega⟩
      · exact absurd (hld (.inr e1)).1 (fun e => by rw [e, e1] at j2; cases j2)
    · rw [e] at e1; cases e1
  constructor
  · intro hin
    obtain ⟨e1, e2⟩ := hld (.inl hin)
    refine ⟨e1, e2, fun k hk => ?_⟩
    cases hst : (doS s i).2.store with
    | false =>
      obtain ⟨m1, m2⟩ := hmem hst (by rw [e1]; exact hst)
      rw [m1, m2]
      exact hb k hk
    | true =>
      obtain ⟨D, A, hD, m1, m2, _⟩ := hsto hst
      rw [m1, m2, wr_get _ _ _ (by rw [h4]; exact hD), wr_get _ _ _ hD]
      split
      · rfl
      · exact hb k hk
  · intro hin hst
    obtain ⟨e1, e2⟩ := hld (.inr hst)
    refine ⟨e1, ?_⟩
    obtain ⟨D, A, hD, m1, m2, n1, n2⟩ := hsto hst
    simp only [inB, decide_eq_true_eq] at hin
    have hm : (doS t i).1.mem = (doS s i).1.mem := by
      rw [m1, m2]
      refine ba_ext fun k => ?_
      rw [wr_get _ _ _ (by rw [h4]; exact hD), wr_get _ _ _ hD]
      split
      · rfl
      · exact hb k (by omega)
    obtain ⟨f1, f2, f3, _⟩ := e2
    generalize (doS t i).1 = T at *
    generalize (doS s i).1 = S at *
    obtain ⟨a, b, c, d⟩ := T
    obtain ⟨a', b', c', d'⟩ := S
    simp only at f1 f2 f3 hm
    rw [f1, f2, f3, hm]
theorem haltS_in (at_ : Nat) (s : Sq) (why addr : Int) : inB at_ (haltS s why addr).2 = false := by simp [inB, haltS]
theorem stepS_but {zs : List Int} {at_ : Nat} {s t : Sq} (h : butS at_ s t) (hs : sqOK s) :
    (inB at_ (stepS zs s).2 = false → (stepS zs t).2 = (stepS zs s).2 ∧ butS at_ (stepS zs s).1 (stepS zs t).1) ∧
    (inB at_ (stepS zs s).2 = true → (stepS zs s).2.store = true → (stepS zs t).2 = (stepS zs s).2 ∧ (stepS zs t).1 = (stepS zs s).1) := by
  obtain ⟨⟨h1, h2, h3, h4⟩, hb⟩ := h
  have h : butS at_ s t := ⟨⟨h1, h2, h3, h4⟩, hb⟩
  unfold stepS
  rw [h3, h1]
  split
  · exact ⟨fun _ => ⟨rfl, h⟩, fun e => absurd e (by simp [inB, zeroSt])⟩
  · split
    · exact ⟨fun _ => ⟨(haltS_twin h.1 _ _).1, (haltS_twin h.1 _ _).2, hb⟩, fun e => by rw [haltS_in] at e; cases e⟩
    · exact doS_but h hs _
theorem runS_but {zs : List Int} {at_ : Nat} : ∀ (n : Nat) {s t : Sq}, butS at_ s t → sqOK s → safeL at_ (runS zs n s).2 = true → (runS zs n t).2 = (runS zs n s).2
  | 0, s, t, h, hs, hf => rfl
  | n + 1, s, t, h, hs, hf => by
    by_cases h0 : s.halt = 0
    · have h0' : t.halt = 0 := by rw [h.1.2.2.1]; exact h0
      rw [runS_goes zs n s h0] at hf ⊢
      rw [runS_goes zs n t h0']
      obtain ⟨g1, g2⟩ := stepS_but (zs := zs) h hs
      unfold safeL at hf
      cases hin : inB at_ (stepS zs s).2 with
      | false =>
        rw [hin, if_neg (by simp)] at hf
        obtain ⟨e1, e2⟩ := g1 hin
        rw [e1, runS_but n e2 (stepS_ok (zs := zs) hs) hf]
      | true =>
        rw [hin, if_pos rfl] at hf
        obtain ⟨e1, e2⟩ := g2 hin hf
        rw [e1, e2]
    · have h0' : t.halt ≠ 0 := by rw [h.1.2.2.1]; exact h0
      rw [runS_halted zs _ s h0, runS_halted zs _ t h0']
theorem safeL_none {at_ : Nat} : ∀ {l : List St}, (∀ (j : Nat) (x : St), l[j]? = some x → inB at_ x = false) → safeL at_ l = true
  | [], _ => rfl
  | x :: l, h => by
    unfold safeL
    rw [h 0 x rfl, if_neg (by simp)]
    exact safeL_none fun j y hj => h (j + 1) y (by simpa using hj)
theorem safeL_first {at_ : Nat} : ∀ {l : List St} (k : Nat) (x : St), (∀ (j : Nat) (y : St), j < k → l[j]? = some y → inB at_ y = false) → l[k]? = some x → inB at_ x = true → x.store = true → safeL at_ l = true
  | [], k, x, _, hx, _, _ => by cases k <;> cases hx
  | y :: l, 0, x, _, hx, hi, hs => by
    obtain rfl : y = x := by simpa using hx
    unfold safeL
    rw [if_pos hi]; exact hs
  | y :: l, k + 1, x, h, hx, hi, hs => by
    unfold safeL
    rw [h 0 y (by omega) rfl, if_neg (by simp)]
    exact safeL_first k x (fun j z hj hz => h (j + 1) z (by omega) (by simpa using hz)) (by simpa using hx) hi hs
end Go.Proofs.YtkamljmopbocnaaDoor

/- WHAT SeqReads WANTS beside SeqT: fields of steps; a memory that is clean stays; a string's bytes in a block of the call's own. -/
namespace Go.Proofs.YtkamljmopbocnaaDoor
open Go.ChangeShapes Go.WideShapes Go.ChangeAt Go.RowKit Go.Lib
set_option linter.unusedVariables false
set_option linter.unusedSimpArgs false
set_option maxHeartbeats 2000000
set_option maxRecDepth 100000

def stFine (x : St) : Prop := (0 ≤ x.addr ∧ x.addr < 4294967296) ∧ 0 ≤ x.size ∧ x.size ≤ 4
theorem sizeOp_le (op : Int) : 0 ≤ sizeOp op ∧ sizeOp op ≤ 4 := by unfold sizeOp; repeat' split <;> omega
theorem doS_fine (s : Sq) (i : Ins) : stFine (doS s i).2 := by
  have h1 : 0 ≤ (rg s.regs i.rs1 + i.imm) % 4294967296 ∧ (rg s.regs i.rs1 + i.imm) % 4294967296 < 4294967296 := by omega
  have h2 := sizeOp_le i.op
  unfold doS
  simp only
  split
  · unfold accS
    split
    · exact ⟨h1, Int.le_refl 0, show (0 : Int) ≤ 4 by decide⟩
    · split
      · exact ⟨h1, h2⟩
      · exact ⟨h1, h2⟩
  · have h0 : ∀ x : St, x.addr = 0 → x.size = 0 → stFine x := fun x a b => ⟨by rw [a]; decide, by rw [b]; decide⟩
    split
    · split
      · exact h0 _ rfl rfl
      · exact h0 _ rfl rfl
    · split
      · exact h0 _ rfl rfl
      · exact h0 _ rfl rfl
theorem stepS_fine (zs : List Int) (s : Sq) : stFine (stepS zs s).2 := by
  have h0 : ∀ x : St, x.addr = 0 → x.size = 0 → stFine x := fun x a b => ⟨by rw [a]; decide, by rw [b]; decide⟩
  unfold stepS
  split
  · exact h0 _ rfl rfl
  · split
    · exact h0 _ rfl rfl
    · exact doS_fine s _
theorem runS_fine (zs : List Int) : ∀ (n : Nat) (s : Sq), ∀ x ∈ (runS zs n s).2, stFine x
  | 0, s, x, hx => by cases hx
  | n + 1, s, x, hx => by
    by_cases h : s.halt = 0
    · rw [runS_goes zs n s h] at hx
      rcases List.mem_cons.1 hx with rfl | hx
      · exact stepS_fine zs s
      · exact runS_fine zs n _ x hx
    · rw [runS_halted zs _ s h] at hx; cases hx
theorem clS_fix (m : ByteArray) (h : clN (min m.size 256) = m.size) (h2 : m.size ≤ 256) : clS m = m := by
  refine ba_ext fun j => ?_
  show (clL m)[j]? = _
  unfold clL
  rw [h, show min m.size 256 = m.size by omega, Nat.sub_self, List.replicate_zero, List.append_nil, List.take_of_length_le (by rw [ba_len]; omega)]
/-- the bytes of a string, with another one at a place -/
def numsB (m : ByteArray) : List Int := m.data.toList.map fun x => (x.toNat : Int)
def putB (m : ByteArray) (k : Nat) (v : Int) : ByteArray := strOfNums ((numsB m).set k v)
theorem putB_size (m : ByteArray) (k : Nat) (v : Int) : (putB m k v).size = m.size := by
  unfold putB numsB
  rw [strOfNums_size, List.length_set, List.length_map]
  rfl
theorem putB_get (m : ByteArray) (k : Nat) (v : Int) (i : Nat) (hi : i ≠ k) : (putB m k v).data.toList[i]? = m.data.toList[i]? := by
  unfold putB numsB strOfNums
  show ((((m.data.toList.map fun x => (x.toNat : Int)).set k v).map fun x => UInt8.ofNat x.toNat).toArray).toList[i]? = _
  rw [List.toList_toArray, List.getElem?_map, List.getElem?_set_ne (by omega), List.getElem?_map]
  cases m.data.toList[i]? with
  | none => rfl
  | some x => simp
theorem putB_clean (m : ByteArray) (k : Nat) (v : Int) : clS (putB (clS m) k v) = putB (clS m) k v := by
  have hs := clS_size m
  have hn := clN_of (min m.size 256)
  have h256 : (clS m).size ≤ 256 := by omega
  refine clS_fix _ ?_ (by rw [putB_size]; exact h256)
  rw [putB_size, show min (clS m).size 256 = (clS m).size by omega, hs]
  rcases hn with e | e | e | e | e <;> rw [e] <;> rfl
/-- a string's bytes as a slice of the call's own -/
theorem conv_ownR (w : World) (m : ByteArray) (hm : m.size ≤ maxLen) :
    ∃ cap w1, (convert 9 35 (.string m)).run Tryd.prog w = .ok (.slice (some ⟨w.heap.size, 0, none⟩) m.size cap) w1 ∧ m.size ≤ cap ∧ cap ≤ maxLen ∧ Below w.heap.size w w1 ∧ Blk w1 w.heap.size ((numsB m).map (Value.int .u8)) := by
  refine ⟨_, _, Go.Lib.run_convert_string_bytes w 9 35 5 m Tryd.underlying9 Tryd.underlying35 Tryd.underlying5, grownCap_ge _ _ _ _, grownCap_le_maxLen _ _ _ _ hm, ?_, ?_, fun j v hj => ?_, fun j hj => ?_⟩
  · exact grow_below ⟨rfl, rfl, rfl, by rw [bytesWorld_size]; omega, fun k hk _ => bytesWorld_at_old _ _ _ k hk⟩
  · rw [bytesWorld_size]; omega
  · have hjl : j < m.size := by
      have := (List.getElem?_eq_some_iff.1 hj).1
      simp only [numsB, List.length_map] at this
      exact this
    rw [bytesWorld_cell _ _ _ j hjl]
    have hl : j < m.data.toList.length := hjl
    rw [← hj]
    simp [numsB, List.getD, List.getElem?_eq_getElem hl]
  · have hjl : j < m.size := by
      simp only [numsB, List.length_map] at hj
      exact hj
    simp only [World.frozen?, bytesWorld_at_new]
    have : m.size ≤ (bytesCells w 5 m).size := by
      unfold bytesCells
      rw [Array.size_append, Array.size_map]
      exact Nat.le_add_right _ _
    have h2 : ¬ (bytesCells w 5 m).size ≤ j := by omega
    simp [h2]
/-- such a slice as a string -/
theorem conv_blk {w : World} {b n cap : Nat} {xs : List Int} (h : Blk w b (xs.map (Value.int .u8))) (hn : xs.length = n) :
    (convert 35 9 (.slice (some ⟨b, 0, none⟩) n cap)).run Tryd.prog w = .ok (.string (strOfNums xs)) w := by
  refine run_convert_bytes_arg w 35 5 Tryd.underlying35 Tryd.underlying5 b 0 n cap xs hn (fun i hi => ?_) 9 Tryd.underlying9
  rw [Nat.zero_add]
  refine h.2.1 i _ ?_
  rw [List.getElem?_map, List.getElem?_eq_getElem (by omega)]
  simp [List.getD, show i < xs.length by omega]
end Go.Proofs.YtkamljmopbocnaaDoor
