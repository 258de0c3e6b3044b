import Derived.Test.YtkamljmopbocnaaGreatDoorSeqD
import Derived.Test.YtkamljmopbocnaaGreatDoorEntries
import Derived.Deep.QuietTactic
import Derived.BigQuiet
/- WHAT SeqGoes (auspexlaw06) WANTS: the reference's Like on two rows of the same steps. -/
namespace Go.Proofs.YtkamljmopbocnaaGreatDoor
open Go.ChangeShapes Go.WideShapes Go.ChangeAt Go.RowKit Go.Sort
set_option linter.unusedVariables false
set_option linter.unusedSimpArgs false
set_option maxHeartbeats 4000000
set_option maxRecDepth 100000

/-- a struct is read whole where the class of worlds holds its cells -/
theorem quiet_load_drew {P : Program} {op : Oper} {a : Act} {K : Act → Prop} {w : World} (ty : TypeId) (x : Operand) (ho : op.op = .load ty x)
    (p : Addr) (hx : a.eval x = .pointer (some p)) (cs : List Value) (d : TypeDesc) (hc : ∀ j v, cs[j]? = some v → w.cell? (p.add j) = some v)
    (hu : P.underlying ty = some d) (hd : d.isRow = true) (hi : (P.info? ty).map (·.size) = some cs.length)
    (hk : K (a.put op.dst (.agg cs.toArray))) : op.quiet P a (fun w' => ∃ n, w' = w.drewN n) K := by
  refine ⟨_, ?_, hk⟩
  rintro w' ⟨q, rfl⟩
  have hr := run_loadVar_row (P := P) (w.drewN q) p ty cs d (fun j v hv => hc j v hv) hu hd hi
  unfold Oper.quietAt execOp
  simp only [ho, hx, Instr.loadAt, Instr.sureAddr, Sem.run_bind, Sem.run_pure, Result.andThen_ok, hr]
  exact ⟨rfl, rfl⟩
theorem like06_any (A B : Option Addr) (n ca cb : Nat) (ss : List St) (hn : n ≤ 1000) (w : World) (ha : StepsAt w A n ss) (hb : StepsAt w B n ss) :
    Calls Tryz.prog 8 #[.slice A n ca, .slice B n cb] w fun e w' => e = .returned (.bool true) ∧ Below w.heap.size w w' := by
  have la := Lib.hid ha.len
  have HA := Lib.hid ha
  have HB := Lib.hid hb
  clear ha hb
  go_enter Tryz.func8, Tryz.ntmps8
  go_wp2
  go_loopw [13] (fun i wr => ∃ k : Nat, k ≤ n ∧ i = .int .i64 k ∧ Below w.heap.size w wr) (fun i _ => n - (intOf i).toNat)
  case atStart => exact ⟨0, Nat.zero_le _, rfl, Below.refl _ _⟩
  case round =>
    obtain ⟨k, hk, rfl, hbel⟩ := hrel
    by_cases hkn : k < n
    · obtain ⟨x, hx⟩ : ∃ r, ss[k]? = some r := ⟨_, List.getElem?_eq_getElem (by rw [la.out]; exact hkn)⟩
      obtain ⟨cx, hcx⟩ : ∃ c, stC x = c := ⟨_, rfl⟩
      have hl : cx.length = 9 := by rw [← hcx]; rfl
      have hxc : (ss.map stC)[k]? = some cx := by rw [List.getElem?_map, hx, ← hcx]; rfl
      obtain ⟨_, pa, rfl, hpa, hva⟩ := (HA.out.below hbel).2 k cx hxc
      obtain ⟨_, pb, rfl, hpb, hvb⟩ := (HB.out.below hbel).2 k cx hxc
      have heq := fun w => eql_st x w
      rw [hcx] at heq
      have HEQ := Lib.hid heq
      have HI := Lib.hid (show (Tryz.prog.info? 40).map (·.size) = some cx.length by rw [hl]; exact st_info)
      have HVA := Lib.hid (show ∀ j v, cx[j]? = some v → wr.cell? ((pa.add (k * 9)).add j) = some v from fun j v hj => by have := hva j v hj; rwa [Addr.add_add])
      have HVB := Lib.hid (show ∀ j v, cx[j]? = some v → wr.cell? ((pb.add (k * 9)).add j) = some v from fun j v hj => by have := hvb j v hj; rwa [Addr.add_add])
      have HPA := Lib.hid (show (pa.add (k * 9)).block < wr.heap.size by rw [block_add]; exact hpa)
      have HPB := Lib.hid (show (pb.add (k * 9)).block < wr.heap.size by rw [block_add]; exact hpb)
      have HBL := Lib.hid hbel
      clear hx hcx hl hxc hva hvb hpa hpb heq hbel
      go_wp2
      refine wp_region_quiet_lit (by kernel_rfl) (by kernel_rfl) ?_
      repeat (first
        | (go_big_quiet_want; refine quiet_load_drew 40 (.tmp 18) rfl (pa.add (k * 9)) rfl cx _ HVA.out Tryz.underlying40 rfl HI.out ?_; simp only [Act.put, List.setIfInBounds_toArray, List.set_cons_succ, List.set_cons_zero]; go_big_quiet_on)
        | (go_big_quiet_want; refine quiet_load_drew 40 (.tmp 22) rfl (pb.add (k * 9)) rfl cx _ HVB.out Tryz.underlying40 rfl HI.out ?_; simp only [Act.put, List.setIfInBounds_toArray, List.set_cons_succ, List.set_cons_zero]; go_big_quiet_on)
        | (go_big_quiet_want; refine quiet_neq 40 40 (.tmp 19) (.tmp 23) rfl cx.toArray cx.toArray rfl rfl true HEQ.out guard_st ?_; simp only [Act.put, List.setIfInBounds_toArray, List.set_cons_succ, List.set_cons_zero]; go_big_quiet_on)
        | (go_big_quiet_step (fail)))
      refine wpQuiet_nil ?_
      intro _ hw'
      obtain ⟨nq, hw''⟩ := hw'
      subst hw''
      go_wp2
      go_roundw
      case rel => exact ⟨k + 1, by omega, by go_num, HBL.out.trans ⟨rfl, rfl, rfl, Nat.le_refl _, fun _ _ => rfl⟩⟩
      case measure => simp [intOf]; omega
    · have hkn' : k = n := by omega
      subst hkn'
      go_wp2
      go_ret
      exact ⟨rfl, hbel⟩
theorem own_stayW {K : Nat → Prop} {w w2 : World} {B e size n : Nat} {v : Value} {xs : List Value} (h : w.ownsRow B e size v n xs) (hs : Stay K w w2) (hK : ∀ k, v.ownBlock = some k → K k) : w2.ownsRow B e size v n xs := by
  refine ⟨h.1, ?_⟩
  rcases h.2 with h0 | ⟨g, cap, cur, hv, hg, hh, r⟩
  · exact .inl h0
  · have hlt : g < w.heap.size := (Array.getElem?_eq_some_iff.1 hh).1
    exact .inr ⟨g, cap, cur, hv, hg, (hs.block g hlt (hK g (by rw [hv]; rfl))).trans hh, r⟩
theorem rows_stay {K : Nat → Prop} {A B : World} {Y : Option Addr} {n sz : Nat} {cs : List (List Value)} (h : RowsAt A Y n sz cs) (hs : Stay K A B) (hK : ∀ a, Y = some a → a.block < A.heap.size → K a.block) : RowsAt B Y n sz cs :=
  ⟨h.1, fun j c hc => by
    obtain ⟨e, a, ha, hl, hv⟩ := h.2 j c hc
    exact ⟨e, a, ha, Nat.lt_of_lt_of_le hl hs.size, fun i v hi => hs.cell (hv i v hi) (by rw [block_add]; exact hK a ha hl)⟩⟩
/-- one cell is read, in the class of worlds that only grew -/
theorem quiet_load_cell {P : Program} {op : Oper} {a : Act} {K : Act → Prop} {w : World} (ty : TypeId) (x : Operand) (ho : op.op = .load ty x)
    (p : Addr) (hx : a.eval x = .pointer (some p)) (v : Value) (hc : w.cell? p = some v) (hp : p.block < w.heap.size)
    (hl : ∀ w2 : World, w2.cell? p = some v → (loadVar ty p).run P w2 = .ok v w2)
    (hk : K (a.put op.dst v)) : op.quiet P a (fun w' => ∃ p : Regrown, w' = grow (redrawn w p.d) p.os) K := by
  refine ⟨_, ?_, hk⟩
  rintro w' ⟨q, rfl⟩
  have hr := hl (grow (redrawn w q.d) q.os) (((below_regrown w q.d q.os).cell hp).trans hc)
  unfold Oper.quietAt execOp
  simp only [ho, hx, Instr.loadAt, Instr.sureAddr, Sem.run_bind, Sem.run_pure, Result.andThen_ok, hr]
  exact ⟨rfl, rfl⟩
theorem quiet_run {P : Program} {op : Oper} {a : Act} {K : Act → Prop} {C : World → Prop} (v : Value) (h : ∀ w, C w → (execOp a.eval op).run P w = .ok (.value v) w) (hk : K (a.put op.dst v)) : op.quiet P a C K := by
  refine ⟨v, fun w hw => ?_, hk⟩
  unfold Oper.quietAt
  rw [h w hw]
  exact ⟨rfl, rfl⟩
theorem quiet_field_mem {op : Oper} {a : Act} {K : Act → Prop} {C : World → Prop} (x : Operand) (ho : op.op = .field 28 x 2) (cs : Array Value) (v : Value) (hx : a.eval x = .agg cs) (hv : cs[33]? = some v)
    (hk : K (a.put op.dst v)) : op.quiet Tryz.prog a C K := by
  refine quiet_run v (fun w _ => ?_) hk
  unfold execOp
  simp only [ho, hx]
  simp [Instr.field, asAgg, part, isAgg, run_underlying Tryz.underlying28, run_underlying Tryz.underlying9, hv]
/-- append tells where its answer lies: in the block that it had, or in a new one -/
theorem run_append_where {P : Program} (w : World) (base : Nat) (t ty e : TypeId) (i : TypeInfo) (z : Value) (size bytes : Nat) (ht : P.underlying t = some (.slice e)) (hi : P.info? e = some i) (hz : i.zero = some z)
    (hsize : i.size = size) (hby : i.bytes = bytes) (hzs : z.cells.size = size) (hsz : 0 < size)
    (v : Value) (n : Nat) (xs : List Value) (hown : w.ownsRow base e size v n xs)
    (a : Addr) (m c : Nat) (news : List Value) (hl : news.length = m * size) (hnews : ∀ j u, news[j]? = some u → w.cell? (a.add j) = some u) (h1 : ∀ u ∈ news, u.oneCell' = true)
    (h63 : n + m ≤ maxLen) (hbytes : (n + m) * bytes ≤ 140737488355328) (hbase : base ≤ w.heap.size) :
    ∃ v' w', (Builtin.append_ #[t, t] ty #[v, .slice (some a) m c]).run P w = .ok v' w' ∧ w'.ownsRow base e size v' (n + m) (xs ++ news) ∧ w.grownBy w' v.ownBlock ∧
      ∀ j, v'.ownBlock = some j → v.ownBlock = some j ∨ w.heap.size ≤ j := by
  obtain ⟨v', w', hr, h2, h3, -⟩ := run_append_own w base t ty e i z size bytes ht hi hz hsize hby hzs hsz v n xs hown a m c news hl hnews h1 h63 hbytes hbase
  refine ⟨v', w', hr, h2, h3, ?_⟩
  have hown0 := hown
  rcases hown.2 with ⟨rfl, rfl⟩ | ⟨g, cap, cur, rfl, hbg, hg, hnc, hcm, hcs, htake⟩
  · have hx : xs = [] := List.eq_nil_of_length_eq_zero (by simpa using hown.1)
    subst hx
    obtain ⟨v2, w2, hr2, h5, -, -⟩ := run_append_own w w.heap.size t ty e i z size bytes ht hi hz hsize hby hzs hsz (.slice none 0 0) 0 [] (World.ownsRow_nil w _ e size) a m c news hl hnews h1 h63 hbytes (Nat.le_refl _)
    rw [hr] at hr2
    obtain ⟨rfl, rfl⟩ := Result.ok.inj hr2
    exact fun j hj => .inr (h5.lt j hj).1
  · subst hsize
    by_cases hroom : n + m ≤ cap
    · have hfit : n * i.size + news.length ≤ cur.size := by rw [hl, hcs, ← Nat.add_mul]; exact Nat.mul_le_mul_right _ hroom
      have hr2 := run_append_room (P := P) w t ty e i ht hi g n cap cur hg a m c news hl hnews h1 hroom hfit
      rw [hr] at hr2
      obtain ⟨rfl, -⟩ := Result.ok.inj hr2
      exact fun j hj => .inl hj
    · have holds : ∀ j u, xs[j]? = some u → w.cell? ((⟨g, 0, none⟩ : Addr).add j) = some u := hown.cells (g := g) rfl
      subst hby
      have hsmall : n + m ≤ 9223372036854775807 := by simp only [maxLen] at h63; omega
      have hr2 := run_append_grow (P := P) w t ty e i z ht hi hz ⟨g, 0, none⟩ n cap xs hown.1 holds a m c news hl hnews (by omega) (by omega) (growslice_fits (by omega) hbytes)
      rw [hr] at hr2
      obtain ⟨rfl, -⟩ := Result.ok.inj hr2
      intro j hj
      simp only [Value.ownBlock] at hj
      cases hj
      exact .inr (Nat.le_refl _)
theorem wpList_append_where {P : Program} {ops : Array Oper} {rest : List Oper} {w : World} {o : Oper} {a : Act} {Q : Exit → Act → World → Prop} (hgd : o.guard = none) (s x : Operand) (t : TypeId)
    (ho : o.op = .call { callee := .builtin .append, args := #[s, x], argTypes := #[t, t] })
    (base : Nat) (e : TypeId) (i : TypeInfo) (z : Value) (size bytes : Nat) (ht : P.underlying t = some (.slice e)) (hi : P.info? e = some i) (hz : i.zero = some z)
    (hsize : i.size = size) (hby : i.bytes = bytes) (hzs : z.cells.size = size) (hsz : 0 < size)
    (v : Value) (n : Nat) (xs : List Value) (hs : a.eval s = v) (hown : w.ownsRow base e size v n xs)
    (ad : Addr) (m c : Nat) (news : List Value) (hx : a.eval x = .slice (some ad) m c) (hl : news.length = m * size) (hnews : ∀ j u, news[j]? = some u → w.cell? (ad.add j) = some u) (h1 : ∀ u ∈ news, u.oneCell' = true)
    (h63 : n + m ≤ maxLen) (hbytes : (n + m) * bytes ≤ 140737488355328) (hbase : base ≤ w.heap.size)
    (h : ∀ v' w', w'.ownsRow base e size v' (n + m) (xs ++ news) → w.grownBy w' v.ownBlock → (∀ j, v'.ownBlock = some j → v.ownBlock = some j ∨ w.heap.size ≤ j) → wpList P ops Q rest (a.put o.dst v') w') :
    wpList P ops Q (o :: rest) a w := by
  refine BigFrame.wpList_want (by unfold Region.wanted; rw [hgd]) fun _ hK => ?_
  obtain ⟨v', w', hr, h2, h3, h4⟩ := run_append_where (P := P) w base t o.type e i z size bytes ht hi hz hsize hby hzs hsz v n xs hown ad m c news hl hnews h1 h63 hbytes hbase
  unfold Oper.wp execOp
  simp only [ho, resolve, invoke, builtin, Sem.run_bind, Sem.run_pure, Result.andThen_ok, List.map_toArray, List.map_cons, List.map_nil, hs, hx, hr]
  exact hK _ _ (h v' w' h2 h3 h4)
end Go.Proofs.YtkamljmopbocnaaGreatDoor

namespace Go.Proofs.YtkamljmopbocnaaGreatDoor.seqGoes
open Go.ChangeShapes Go.WideShapes Go.ChangeAt Go.RowKit Go.Sort
set_option linter.unusedVariables false
set_option linter.unusedSimpArgs false
set_option maxHeartbeats 8000000
set_option maxRecDepth 100000

end Go.Proofs.YtkamljmopbocnaaGreatDoor.seqGoes
