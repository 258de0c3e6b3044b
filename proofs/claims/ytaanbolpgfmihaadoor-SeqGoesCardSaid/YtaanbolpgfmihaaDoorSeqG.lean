import Derived.Test.YtaanbolpgfmihaaDoorSeqD
import Derived.Test.YtaanbolpgfmihaaDoorEntries
import Derived.Deep.QuietTactic
import Derived.BigQuiet
/- WHAT SeqGoes (auspexlaw06) WANTS: the reference's Like on two rows of the same steps. -/
namespace Go.Proofs.YtaanbolpgfmihaaDoor
open Go.ChangeShapes Go.WideShapes Go.ChangeAt Go.RowKit Go.Sort
set_option linter.unusedVariables false
set_option linter.unusedSimpArgs false
set_option maxHeartbeats 4000000
set_option maxRecDepth 100000

/-- a struct is read whole where the class of worlds holds its cells -/
theorem quiet_load_drew {P : Program} {op : Oper} {a : Act} {K : Act → Prop} {w : World} (ty : TypeId) (x : Operand) (ho : op.op = .load ty x)
    (p : Addr) (hx : a.eval x = .pointer (some p)) (cs : List Value) (d : TypeDesc) (hc : ∀ j v, cs[j]? = some v → w.cell? (p.add j) = some v)
    (hu : P.underlying ty = some d) (hd : d.isRow = true) (hi : (P.info? ty).map (·.size) = some cs.length)
    (hk : K (a.put op.dst (.agg cs.toArray))) : op.quiet P a (fun w' => ∃ n, w' = w.drewN n) K := by
  refine ⟨_, ?_, hk⟩
  rintro w' ⟨q, rfl⟩
  have hr := run_loadVar_row (P := P) (w.drewN q) p ty cs d (fun j v hv => hc j v hv) hu hd hi
  unfold Oper.quietAt execOp
  simp only [ho, hx, Instr.loadAt, Instr.sureAddr, Sem.run_bind, Sem.run_pure, Result.andThen_ok, hr]
  exact ⟨rfl, rfl⟩
theorem like06_any (A B : Option Addr) (n ca cb : Nat) (ss : List St) (hn : n ≤ 1000) (w : World) (ha : StepsAt w A n ss) (hb : StepsAt w B n ss) :
    Calls Tryd.prog 14 #[.slice A n ca, .slice B n cb] w fun e w' => e = .returned (.bool true) ∧ Below w.heap.size w w' := by
  have la := Lib.hid ha.len
  have HA := Lib.hid ha
  have HB := Lib.hid hb
  clear ha hb
  go_enter Tryd.func14, Tryd.ntmps14
  go_wp2
  go_loopw [13] (fun i wr => ∃ k : Nat, k ≤ n ∧ i = .int .i64 k ∧ Below w.heap.size w wr) (fun i _ => n - (intOf i).toNat)
  case atStart => exact ⟨0, Nat.zero_le _, rfl, Below.refl _ _⟩
  case round =>
    obtain ⟨k, hk, rfl, hbel⟩ := hrel
    by_cases hkn : k < n
    · obtain ⟨x, hx⟩ : ∃ r, ss[k]? = some r := ⟨_, List.getElem?_eq_getElem (by rw [la.out]; exact hkn)⟩
      obtain ⟨cx, hcx⟩ : ∃ c, stC x = c := ⟨_, rfl⟩
      have hl : cx.length = 9 := by rw [← hcx]; rfl
      have hxc : (ss.map stC)[k]? = some cx := by rw [List.getElem?_map, hx, ← hcx]; rfl
      obtain ⟨_, pa, rfl, hpa, hva⟩ := (HA.out.below hbel).2 k cx hxc
      obtain ⟨_, pb, rfl, hpb, hvb⟩ := (HB.out.below hbel).2 k cx hxc
      have heq := fun w => eql_st x w
      rw [hcx] at heq
      have HEQ := Lib.hid heq
      have HI := Lib.hid (show (Tryd.prog.info? 33).map (·.size) = some cx.length by rw [hl]; exact st_info)
      have HVA := Lib.hid (show ∀ j v, cx[j]? = some v → wr.cell? ((pa.add (k * 9)).add j) = some v from fun j v hj => by have := hva j v hj; rwa [Addr.add_add])
      have HVB := Lib.hid (show ∀ j v, cx[j]? = some v → wr.cell? ((pb.add (k * 9)).add j) = some v from fun j v hj => by have := hvb j v hj; rwa [Addr.add_add])
      have HPA := Lib.hid (show (pa.add (k * 9)).block < wr.heap.size by rw [block_add]; exact hpa)
      have HPB := Lib.hid (show (pb.add (k * 9)).block < wr.heap.size by rw [block_add]; exact hpb)
      have HBL := Lib.hid hbel
      clear hx hcx hl hxc hva hvb hpa hpb heq hbel
      go_wp2
      refine wp_region_quiet_lit (by kernel_rfl) (by kernel_rfl) ?_
      repeat (first
        | (go_big_quiet_want; refine quiet_load_drew 33 (.tmp 18) rfl (pa.add (k * 9)) rfl cx _ HVA.out Tryd.underlying33 rfl HI.out ?_; simp only [Act.put, List.setIfInBounds_toArray, List.set_cons_succ, List.set_cons_zero]; go_big_quiet_on)
        | (go_big_quiet_want; refine quiet_load_drew 33 (.tmp 22) rfl (pb.add (k * 9)) rfl cx _ HVB.out Tryd.underlying33 rfl HI.out ?_; simp only [Act.put, List.setIfInBounds_toArray, List.set_cons_succ, List.set_cons_zero]; go_big_quiet_on)
        | (go_big_quiet_want; refine quiet_neq 33 33 (.tmp 19) (.tmp 23) rfl cx.toArray cx.toArray rfl rfl true HEQ.out guard_st ?_; simp only [Act.put, List.setIfInBounds_toArray, List.set_cons_succ, List.set_cons_zero]; go_big_quiet_on)
        | (go_big_quiet_step (fail)))
      refine wpQuiet_nil ?_
      intro _ hw'
      obtain ⟨nq, hw''⟩ := hw'
      subst hw''
      go_wp2
      go_roundw
      case rel => exact ⟨k + 1, by omega, by go_num, HBL.out.trans ⟨rfl, rfl, rfl, Nat.le_refl _, fun _ _ => rfl⟩⟩
      case measure => simp [intOf]; omega
    · have hkn' : k = n := by omega
      subst hkn'
      go_wp2
      go_ret
      exact ⟨rfl, hbel⟩
theorem own_stayW {K : Nat → Prop} {w w2 : World} {B e size n : Nat} {v : Value} {xs : List Value} (h : w.ownsRow B e size v n xs) (hs : Stay K w w2) (hK : ∀ k, v.ownBlock = some k → K k) : w2.ownsRow B e size v n xs := by
  refine ⟨h.1, ?_⟩
  rcases h.2 with h0 | ⟨g, cap, cur, hv, hg, hh, r⟩
  · exact .inl h0
  · have hlt : g < w.heap.size := (Array.getElem?_eq_some_iff.1 hh).1
    exact .inr ⟨g, cap, cur, hv, hg, (hs.block g hlt (hK g (by rw [hv]; rfl))).trans hh, r⟩
theorem rows_stay {K : Nat → Prop} {A B : World} {Y : Option Addr} {n sz : Nat} {cs : List (List Value)} (h : RowsAt A Y n sz cs) (hs : Stay K A B) (hK : ∀ a, Y = some a → a.block < A.heap.size → K a.block) : RowsAt B Y n sz cs :=
  ⟨h.1, fun j c hc => by
    obtain ⟨e, a, ha, hl, hv⟩ := h.2 j c hc
    exact ⟨e, a, ha, Nat.lt_of_lt_of_le hl hs.size, fun i v hi => hs.cell (hv i v hi) (by rw [block_add]; exact hK a ha hl)⟩⟩
/-- one cell is read, in the class of worlds that only grew -/
theorem quiet_load_cell {P : Program} {op : Oper} {a : Act} {K : Act → Prop} {w : World} (ty : TypeId) (x : Operand) (ho : op.op = .load ty x)
    (p : Addr) (hx : a.eval x = .pointer (some p)) (v : Value) (hc : w.cell? p = some v) (hp : p.block < w.heap.size)
    (hl : ∀ w2 : World, w2.cell? p = some v → (loadVar ty p).run P w2 = .ok v w2)
    (hk : K (a.put op.dst v)) : op.quiet P a (fun w' => ∃ p : Regrown, w' = grow (redrawn w p.d) p.os) K := by
  refine ⟨_, ?_, hk⟩
  rintro w' ⟨q, rfl⟩
  have hr := hl (grow (redrawn w q.d) q.os) (((below_regrown w q.d q.os).cell hp).trans hc)
  unfold Oper.quietAt execOp
  simp only [ho, hx, Instr.loadAt, Instr.sureAddr, Sem.run_bind, Sem.run_pure, Result.andThen_ok, hr]
  exact ⟨rfl, rfl⟩
theorem quiet_run {P : Program} {op : Oper} {a : Act} {K : Act → Prop} {C : World → Prop} (v : Value) (h : ∀ w, C w → (execOp a.eval op).run P w = .ok (.value v) w) (hk : K (a.put op.dst v)) : op.quiet P a C K := by
  refine ⟨v, fun w hw => ?_, hk⟩
  unfold Oper.quietAt
  rw [h w hw]
  exact ⟨rfl, rfl⟩
theorem quiet_field_mem {op : Oper} {a : Act} {K : Act → Prop} {C : World → Prop} (x : Operand) (ho : op.op = .field 28 x 2) (cs : Array Value) (v : Value) (hx : a.eval x = .agg cs) (hv : cs[33]? = some v)
    (hk : K (a.put op.dst v)) : op.quiet Tryd.prog a C K := by
  refine quiet_run v (fun w _ => ?_) hk
  unfold execOp
  simp only [ho, hx]
  simp [Instr.field, asAgg, part, isAgg, run_underlying Tryd.underlying28, run_underlying Tryd.underlying9, hv]
/-- append tells where its answer lies: in the block that it had, or in a new one -/
theorem run_append_where {P : Program} (w : World) (base : Nat) (t ty e : TypeId) (i : TypeInfo) (z : Value) (size bytes : Nat) (ht : P.underlying t = some (.slice e)) (hi : P.info? e = some i) (hz : i.zero = some z)
    (hsize : i.size = size) (hby : i.bytes = bytes) (hzs : z.cells.size = size) (hsz : 0 < size)
    (v : Value) (n : Nat) (xs : List Value) (hown : w.ownsRow base e size v n xs)
    (a : Addr) (m c : Nat) (news : List Value) (hl : news.length = m * size) (hnews : ∀ j u, news[j]? = some u → w.cell? (a.add j) = some u) (h1 : ∀ u ∈ news, u.oneCell' = true)
    (h63 : n + m ≤ maxLen) (hbytes : (n + m) * bytes ≤ 140737488355328) (hbase : base ≤ w.heap.size) :
    ∃ v' w', (Builtin.append_ #[t, t] ty #[v, .slice (some a) m c]).run P w = .ok v' w' ∧ w'.ownsRow base e size v' (n + m) (xs ++ news) ∧ w.grownBy w' v.ownBlock ∧
      ∀ j, v'.ownBlock = some j → v.ownBlock = some j ∨ w.heap.size ≤ j := by
  obtain ⟨v', w', hr, h2, h3, -⟩ := run_append_own w base t ty e i z size bytes ht hi hz hsize hby hzs hsz v n xs hown a m c news hl hnews h1 h63 hbytes hbase
  refine ⟨v', w', hr, h2, h3, ?_⟩
  have hown0 := hown
  rcases hown.2 with ⟨rfl, rfl⟩ | ⟨g, cap, cur, rfl, hbg, hg, hnc, hcm, hcs, htake⟩
  · have hx : xs = [] := List.eq_nil_of_length_eq_zero (by simpa using hown.1)
    subst hx
    obtain ⟨v2, w2, hr2, h5, -, -⟩ := run_append_own w w.heap.size t ty e i z size bytes ht hi hz hsize hby hzs hsz (.slice none 0 0) 0 [] (World.ownsRow_nil w _ e size) a m c news hl hnews h1 h63 hbytes (Nat.le_refl _)
    rw [hr] at hr2
    obtain ⟨rfl, rfl⟩ := Result.ok.inj hr2
    exact fun j hj => .inr (h5.lt j hj).1
  · subst hsize
    by_cases hroom : n + m ≤ cap
    · have hfit : n * i.size + news.length ≤ cur.size := by rw [hl, hcs, ← Nat.add_mul]; exact Nat.mul_le_mul_right _ hroom
      have hr2 := run_append_room (P := P) w t ty e i ht hi g n cap cur hg a m c news hl hnews h1 hroom hfit
      rw [hr] at hr2
      obtain ⟨rfl, -⟩ := Result.ok.inj hr2
      exact fun j hj => .inl hj
    · have holds : ∀ j u, xs[j]? = some u → w.cell? ((⟨g, 0, none⟩ : Addr).add j) = some u := hown.cells (g := g) rfl
      subst hby
      have hsmall : n + m ≤ 9223372036854775807 := by simp only [maxLen] at h63; omega
      have hr2 := run_append_grow (P := P) w t ty e i z ht hi hz ⟨g, 0, none⟩ n cap xs hown.1 holds a m c news hl hnews (by omega) (by omega) (growslice_fits (by omega) hbytes)
      rw [hr] at hr2
      obtain ⟨rfl, -⟩ := Result.ok.inj hr2
      intro j hj
      simp only [Value.ownBlock] at hj
      cases hj
      exact .inr (Nat.le_refl _)
theorem wpList_append_where {P : Program} {ops : Array Oper} {rest : List Oper} {w : World} {o : Oper} {a : Act} {Q : Exit → Act → World → Prop} (hgd : o.guard = none) (s x : Operand) (t : TypeId)
    (ho : o.op = .call { callee := .builtin .append, args := #[s, x], argTypes := #[t, t] })
    (base : Nat) (e : TypeId) (i : TypeInfo) (z : Value) (size bytes : Nat) (ht : P.underlying t = some (.slice e)) (hi : P.info? e = some i) (hz : i.zero = some z)
    (hsize : i.size = size) (hby : i.bytes = bytes) (hzs : z.cells.size = size) (hsz : 0 < size)
    (v : Value) (n : Nat) (xs : List Value) (hs : a.eval s = v) (hown : w.ownsRow base e size v n xs)
    (ad : Addr) (m c : Nat) (news : List Value) (hx : a.eval x = .slice (some ad) m c) (hl : news.length = m * size) (hnews : ∀ j u, news[j]? = some u → w.cell? (ad.add j) = some u) (h1 : ∀ u ∈ news, u.oneCell' = true)
    (h63 : n + m ≤ maxLen) (hbytes : (n + m) * bytes ≤ 140737488355328) (hbase : base ≤ w.heap.size)
    (h : ∀ v' w', w'.ownsRow base e size v' (n + m) (xs ++ news) → w.grownBy w' v.ownBlock → (∀ j, v'.ownBlock = some j → v.ownBlock = some j ∨ w.heap.size ≤ j) → wpList P ops Q rest (a.put o.dst v') w') :
    wpList P ops Q (o :: rest) a w := by
  refine BigFrame.wpList_want (by unfold Region.wanted; rw [hgd]) fun _ hK => ?_
  obtain ⟨v', w', hr, h2, h3, h4⟩ := run_append_where (P := P) w base t o.type e i z size bytes ht hi hz hsize hby hzs hsz v n xs hown ad m c news hl hnews h1 h63 hbytes hbase
  unfold Oper.wp execOp
  simp only [ho, resolve, invoke, builtin, Sem.run_bind, Sem.run_pure, Result.andThen_ok, List.map_toArray, List.map_cons, List.map_nil, hs, hx, hr]
  exact hK _ _ (h v' w' h2 h3 h4)
end Go.Proofs.YtaanbolpgfmihaaDoor

/- The walk of SeqGoes (auspexlaw06): a run of more steps goes on from where a run of fewer steps ended. -/
namespace Go.Proofs.YtaanbolpgfmihaaDoor.seqGoes
open Go.ChangeShapes Go.WideShapes Go.ChangeAt Go.RowKit Go.Sort
set_option linter.unusedVariables false
set_option linter.unusedSimpArgs false
set_option maxHeartbeats 8000000
set_option maxRecDepth 100000

theorem walk (A : Option Addr) (n c : Nat) (zs : List Int) (m : ByteArray) (z u : Int) (hn : n ≤ c) (hc : c ≤ maxLen) (hz : ∀ z ∈ zs, 0 ≤ z ∧ z < 4294967296) (hm : m.size ≤ maxLen) (hzi : -9223372036854775808 ≤ z ∧ z ≤ 9223372036854775807) (hui : -9223372036854775808 ≤ u ∧ u ≤ 9223372036854775807) (w : World) (hI : IntsAt w A n .u32 zs) (ht : TabIs w ∧ 0 < w.heap.size) :
    Calls Tryd.prog 3 #[.slice A n c, .string m, .int .i64 z, .int .i64 u] w fun e w' => e = .returned (.bool true) ∧ Below w.heap.size w w' := by
  obtain ⟨htb, hg⟩ := ht
  have HSH := Lib.hid (fun w => short_any A n c m hn hc hm w)
  have hI' := hI.take (Nat.min_le_left n 64)
  have hz' : ∀ z ∈ zs.take (min n 64), 0 ≤ z ∧ z < 4294967296 := fun x hx => hz x (List.mem_of_mem_take hx)
  have k1 : min n 64 ≤ 64 := Nat.min_le_right _ _
  have k2 : min n 64 ≤ c := Nat.le_trans (Nat.min_le_left _ _) hn
  generalize zs.take (min n 64) = zs' at hI' hz'
  generalize min n 64 = n' at HSH hI' k1 k2
  have k3 : (m.extract 0 (min m.size 300)).size ≤ 300 := by rw [ByteArray.size_extract]; omega
  generalize m.extract 0 (min m.size 300) = m' at HSH k3
  obtain ⟨z1, hz1⟩ : ∃ y, (if z < 0 then 0 else z) = y := ⟨_, rfl⟩
  obtain ⟨z2, hz2⟩ : ∃ y, (if 150 < z1 then 150 else z1) = y := ⟨_, rfl⟩
  obtain ⟨u1, hu1⟩ : ∃ y, (if u < 0 then 0 else u) = y := ⟨_, rfl⟩
  obtain ⟨u2, hu2⟩ : ∃ y, (if 150 < u1 then 150 else u1) = y := ⟨_, rfl⟩
  have q1 : 0 ≤ z1 := by rw [← hz1]; split <;> omega
  have q2 : 0 ≤ z2 ∧ z2 ≤ 150 := by rw [← hz2]; split <;> omega
  have q3 : 0 ≤ u1 := by rw [← hu1]; split <;> omega
  have q4 : 0 ≤ u2 ∧ u2 ≤ 150 := by rw [← hu2]; split <;> omega
  obtain ⟨uu, huu⟩ : ∃ k : Nat, (k : Int) = u2 := ⟨u2.toNat, by omega⟩
  have hok0 : sqOK (newS m') := newS_ok (by omega)
  have hokR : sqOK (runR zs' m' z2).1 := runS_ok _ hok0
  have hokQ : sqOK (runR zs' m' (z2 + u2)).1 := runS_ok _ hok0
  have hadd : (runS zs' uu (runR zs' m' z2).1).1 = (runR zs' m' (z2 + u2)).1 ∧ (runR zs' m' z2).2 ++ (runS zs' uu (runR zs' m' z2).1).2 = (runR zs' m' (z2 + u2)).2 := by
    have e3 : (min (z2 + u2) 10000).toNat = (min z2 10000).toNat + uu := by omega
    have e4 : runR zs' m' (z2 + u2) = runS zs' ((min z2 10000).toNat + uu) (newS m') := by unfold runR; rw [e3]
    rw [e4, runS_add]
    exact ⟨rfl, rfl⟩
  have hlR : (runR zs' m' z2).2.length ≤ 150 := Nat.le_trans (runS_len _ _ _) (by omega)
  have hlQ : (runR zs' m' (z2 + u2)).2.length ≤ 300 := Nat.le_trans (runS_len _ _ _) (by omega)
  have hkeep : (runR zs' m' (z2 + u2)).1.regs.getD 0 0 = 0 ∧ (runR zs' m' (z2 + u2)).1.mem.size = (newS m').mem.size := by
    have := runS_kept (zs := zs') (min (z2 + u2) 10000).toNat hok0
    exact ⟨this.1.trans rfl, this.2⟩
  have HRN := Lib.hid (fun W t g h => run_own A n' c zs' m' z2 (by omega) hz' (by omega) (by omega) W t g h)
  have HQN := Lib.hid (fun W t g h => run_any A n' c zs' m' (z2 + u2) (by omega) hz' (by omega) (by omega) W t g h)
  have k7 : n' ≤ 200 := by omega
  have k8 : m'.size ≤ 1000 := by omega
  have hhal : ∀ (j : Nat) (x : St), (runR zs' m' (z2 + u2)).2[j]? = some x → x.halt ≠ 0 → j + 1 = (runR zs' m' (z2 + u2)).2.length := by
    intro j x hx hh
    by_cases h0 : (runR zs' m' (z2 + u2)).1.halt = 0
    · exact absurd (runS_alive (zs := zs') (min (z2 + u2) 10000).toNat (s := newS m') rfl h0 x (List.mem_of_getElem? hx)) hh
    · obtain ⟨ini, t, a1, -, -, -, a5⟩ := runS_last (zs := zs') (min (z2 + u2) 10000).toNat (s := newS m') rfl h0
      have a1' : (runR zs' m' (z2 + u2)).2 = ini ++ [t] := a1
      have hlt := (List.getElem?_eq_some_iff.1 hx).1
      rw [a1'] at hx hlt ⊢
      rw [List.length_append, List.length_singleton] at hlt ⊢
      by_cases hj : j < ini.length
      · rw [List.getElem?_append_left hj] at hx
        exact absurd (a5 x (List.mem_of_getElem? hx)) hh
      · omega
  obtain ⟨R, hR⟩ : ∃ R, runR zs' m' z2 = R := ⟨_, rfl⟩
  obtain ⟨Q, hQ⟩ : ∃ Q, runR zs' m' (z2 + u2) = Q := ⟨_, rfl⟩
  rw [hR] at HRN hokR hadd hlR
  rw [hQ] at HQN hokQ hadd hlQ hkeep hhal
  have HHL := Lib.hid hhal
  have HAD := Lib.hid hadd
  have HSP := Lib.hid (fun (s : Sq) (hs : sqOK s) W t g h => step_any A n' c zs' s hs k7 hz' W t g h)
  obtain ⟨cn, hcn⟩ : ∃ cn, sqC (newS m') = cn := ⟨_, rfl⟩
  have n33 := sqC_mem hok0.2.1
  rw [hcn] at n33
  have HNW := Lib.hid (fun W => (show Calls Tryd.prog 15 #[.slice A n' c, .string m'] W fun r w' => r = .returned (.agg cn.toArray) ∧ Below W.heap.size W w' by rw [← hcn]; exact new_any A n' c m' k8 W))
  have N33 := Lib.hid n33
  clear n33 hcn
  obtain ⟨cs, hcs⟩ : ∃ cs, sqC R.1 = cs := ⟨_, rfl⟩
  have hlc : cs.length = 35 := by rw [← hcs]; exact sqC_len hokR.2.1
  have hoc := sqC_one R.1
  rw [hcs] at hoc
  have hvc : sqV R.1 = .agg cs.toArray := by rw [← hcs]; rfl
  obtain ⟨ds, hds⟩ : ∃ ds, sqC Q.1 = ds := ⟨_, rfl⟩
  have hld : ds.length = 35 := by rw [← hds]; exact sqC_len hokQ.2.1
  have hod := sqC_one Q.1
  have d33 := sqC_mem hokQ.2.1
  have dR := sqC_reg hokQ.2.1 0 (by omega)
  have heq : ∀ w, (binOp .eql 28 (.agg ds.toArray) (.agg ds.toArray)).run Tryd.prog w = .ok (.bool true) w := fun w => by rw [← hds]; exact bin_sq Q.1 hokQ.2.1 w
  rw [hds] at hod d33 dR
  have hvd : sqV Q.1 = .agg ds.toArray := by rw [← hds]; rfl
  rw [hvc] at HRN
  rw [hvd] at HQN
  rw [hkeep.1] at dR
  have HI := Lib.hid (show (Tryd.prog.info? 28).map (·.size) = some cs.length by rw [hlc]; exact sq_info)
  have HO := Lib.hid hoc
  have HL := Lib.hid hlc
  have DI := Lib.hid (show (Tryd.prog.info? 28).map (·.size) = some ds.length by rw [hld]; exact sq_info)
  have DO := Lib.hid hod
  have DL := Lib.hid hld
  have DC := Lib.hid (And.intro d33 dR)
  have DE := Lib.hid heq
  have DM := Lib.hid hkeep.2
  have HCS := Lib.hid hcs
  have HDS := Lib.hid hds
  have HOK := Lib.hid hokR
  have HLR := Lib.hid hlR
  have HLQ := Lib.hid hlQ
  have HAL := Lib.hid (fun W t g => alive06_any W t g)
  have HA := Lib.hid hI
  have HA' := Lib.hid hI'
  have HT := Lib.hid htb
  have HG := Lib.hid hg
  clear hok0 hokR hokQ hadd hlR hlQ hkeep hhal hR hQ hcs hlc hoc hvc hds hld hod d33 dR heq hvd hI hI' htb hg hz hz' k7 k8
  go_enter Tryd.func3, Tryd.ntmps3
  replace HA := HA'
  go_upto_region 5 with (first
    | (go_at_call 10
       refine (HSH.out _).mono ?_
       rintro e w1 ⟨rfl, b⟩
       have x1 := HA.out.below b
       have x2 := HT.out.below b HG.out
       have A1 := Lib.hid x1
       have T1 := Lib.hid x2
       have G1 := Lib.hid (Nat.lt_of_lt_of_le HG.out b.size)
       have K1 := Lib.hid b
       clear x1 x2 b)
    | (go_at_call 11
       refine (HRN.out _ T1.out G1.out A1.out).mono ?_
       rintro e w2 ⟨B, c2, rfl, -, -, -, h4, h5, base, h6, h8, h7⟩
       have A2 := Lib.hid (A1.out.below h5)
       have T2 := Lib.hid (T1.out.below h5 G1.out)
       have G2 := Lib.hid (Nat.lt_of_lt_of_le G1.out h5.size)
       have K2 := Lib.hid (K1.out.trans (h5.mono K1.out.size))
       have O2 := Lib.hid h7
       have M2 := Lib.hid (show w.heap.size ≤ base from Nat.le_trans K1.out.size h6)
       have M9 := Lib.hid (show base ≤ w2.heap.size from h8)
       clear h4 h5 h6 h7 h8)
    | (refine wpList_store_new rfl 28 (.tmp 9) (.tmp 34) rfl w2.heap.size rfl _ cs _ rfl rfl (by rw [HL.out]; rfl) HI.out HO.out ?_
       intro W3 b3 k3 s3
       have A3 := Lib.hid (A2.out.below b3)
       have T3 := Lib.hid (T2.out.below b3 G2.out)
       have G3 := Lib.hid (Nat.lt_of_lt_of_le G2.out b3.size)
       have K3 := Lib.hid (K2.out.trans (b3.mono K2.out.size))
       have B3 := Lib.hid k3
       have O3 := Lib.hid (own_stay O2.out (Stay.of_below (K := fun _ => True) b3 (fun k hk _ => hk)) (fun _ _ => trivial))
       clear b3 k3 s3 A1 T1 G1 K1)
    | (go_at_call 11
       refine (HQN.out _ T3.out G3.out A3.out).mono ?_
       rintro e w4 ⟨Y, c4, rfl, h1, h2, h3, h4, h5⟩
       have A4 := Lib.hid (A3.out.below h5)
       have T4 := Lib.hid (T3.out.below h5 G3.out)
       have G4 := Lib.hid (Nat.lt_of_lt_of_le G3.out h5.size)
       have K4 := Lib.hid (K3.out.trans (h5.mono K3.out.size))
       have B4 := Lib.hid (B3.out.below h5 B3.out.1)
       have O4 := Lib.hid (own_stay O3.out (Stay.of_below (K := fun _ => True) h5 (fun k hk _ => hk)) (fun _ _ => trivial))
       have S4 := Lib.hid h3
       have F4 := Lib.hid (show ∀ a, Y = some a → w2.heap.size < a.block from fun a ha => Nat.lt_of_lt_of_le B3.out.1 (h4 a ha))
       have L4 := Lib.hid (And.intro h1 h2)
       clear h1 h2 h3 h4 h5)
    | (refine wpList_store_new rfl 28 (.tmp 11) (.tmp 43) rfl w4.heap.size rfl _ ds _ rfl rfl (by rw [DL.out]; rfl) DI.out DO.out ?_
       intro W5 b5 k5 s5
       have A5 := Lib.hid (A4.out.below b5)
       have T5 := Lib.hid (T4.out.below b5 G4.out)
       have G5 := Lib.hid (Nat.lt_of_lt_of_le G4.out b5.size)
       have K5 := Lib.hid (K4.out.trans (b5.mono K4.out.size))
       have B5 := Lib.hid (B4.out.below b5 B4.out.1)
       have D5 := Lib.hid k5
       have O5 := Lib.hid (own_stay O4.out (Stay.of_below (K := fun _ => True) b5 (fun k hk _ => hk)) (fun _ _ => trivial))
       have S5 := Lib.hid (S4.out.below b5)
       have N5 := Lib.hid (show w2.heap.size < w4.heap.size from B4.out.1)
       clear b5 k5 s5))
  obtain ⟨i0, hi, hz0, hz1', hz2⟩ := info_parts info_step
  have hv0 := O2.out.lt
  have HV0 := Lib.hid hv0
  have hN := K4.out.size
  have HNN := Lib.hid (And.intro K2.out.size (And.intro N5.out (show w4.heap.size < W5.heap.size from D5.out.1)))
  clear hv0 hN
  go_wp2_with fail
  go_loopw [10, 46] (fun v i wr => ∃ k : Nat, k ≤ uu ∧ i = .int .i64 k ∧ wr.ownsRow base 33 9 v (R.2 ++ (runS zs' k R.1).2).length (stepCells (R.2 ++ (runS zs' k R.1).2)) ∧ (∀ j, v.ownBlock = some j → (Value.slice B R.2.length c2).ownBlock = some j ∨ W5.heap.size ≤ j) ∧ Blk wr w2.heap.size (sqC (runS zs' k R.1).1) ∧ Stay (fun j => j < W5.heap.size ∧ (Value.slice B R.2.length c2).ownBlock ≠ some j ∧ j ≠ w2.heap.size) W5 wr) (fun v i _ => uu - (intOf i).toNat)
  case atStart =>
    refine ⟨0, Nat.zero_le _, rfl, ?_, fun j hj => .inl hj, ?_, Stay.refl _ _⟩
    · rw [show (runS zs' 0 R.1).2 = [] from rfl, List.append_nil]; exact O5.out
    · rw [show (runS zs' 0 R.1).1 = R.1 from rfl, HCS.out]; exact B5.out
  case round =>
    obtain ⟨k, hk, rfl, ho, hw, hb, hs⟩ := hrel
    have bel : Below w.heap.size W5 wr := hs.below K5.out.size (fun j hj => ⟨by have := HNN.out; omega, fun e => by have := (HV0.out j e).1; have := M2.out; omega, by have := HNN.out.1; omega⟩)
    have KW := Lib.hid (K5.out.trans bel)
    clear bel
    have okS : sqOK (runS zs' k R.1).1 := runS_ok k HOK.out
    have hlS : (runS zs' k R.1).2.length ≤ k := runS_len _ _ _
    by_cases hku : k < uu
    · by_cases hal : (runS zs' k R.1).1.halt = 0
      · have hsn := runS_snoc zs' k R.1 hal
        obtain ⟨S, hS⟩ : ∃ S, runS zs' k R.1 = S := ⟨_, rfl⟩
        rw [hS] at ho hb okS hsn hal hlS
        have okS' : sqOK (stepS zs' S.1).1 := stepS_ok okS
        have HST := Lib.hid (HSP.out S.1 okS)
        obtain ⟨cx, hcx⟩ : ∃ cx, sqC S.1 = cx := ⟨_, rfl⟩
        have hlx : cx.length = 35 := by rw [← hcx]; exact sqC_len okS.2.1
        have x34 := sqC_halt okS.2.1
        rw [show sqV S.1 = .agg cx.toArray by rw [← hcx]; rfl] at HST
        rw [hcx] at hb x34
        rw [hal] at x34
        obtain ⟨D, hD⟩ : ∃ D, stepS zs' S.1 = D := ⟨_, rfl⟩
        rw [hD] at HST okS' hsn
        obtain ⟨cy, hcy⟩ : ∃ cy, sqC D.1 = cy := ⟨_, rfl⟩
        have hly : cy.length = 35 := by rw [← hcy]; exact sqC_len okS'.2.1
        have hoy := sqC_one D.1
        rw [hcy] at hoy
        rw [show sqV D.1 = .agg cy.toArray by rw [← hcy]; rfl] at HST
        obtain ⟨es, hes⟩ : ∃ es, stC D.2 = es := ⟨_, rfl⟩
        have hle : es.length = 9 := by rw [← hes]; rfl
        have hoe := stC_one D.2
        rw [hes] at hoe
        rw [show stV D.2 = .agg es.toArray by rw [← hes]; rfl] at HST
        have XI := Lib.hid (show (Tryd.prog.info? 28).map (·.size) = some cx.length by rw [hlx]; exact sq_info)
        have YI := Lib.hid (show (Tryd.prog.info? 28).map (·.size) = some cy.length by rw [hly]; exact sq_info)
        have YO := Lib.hid hoy
        have YL := Lib.hid hly
        have XL := Lib.hid (show cx.length = cy.toArray.size by rw [List.size_toArray, hlx, hly])
        have EI := Lib.hid (show (Tryd.prog.info? 33).map (·.size) = some es.length by rw [hle]; exact st_info)
        have EO := Lib.hid hoe
        have EL := Lib.hid hle
        have HES := Lib.hid hes
        have HCY := Lib.hid hcy
        have HSN := Lib.hid hsn
        have HLS := Lib.hid hlS
        have p34 := hb.2.1 34 _ x34
        have BX := Lib.hid hb
        have OW := Lib.hid ho
        have WH := Lib.hid hw
        have SW := Lib.hid hs
        have TW := Lib.hid (HT.out.below KW.out HG.out)
        have GW := Lib.hid (Nat.lt_of_lt_of_le HG.out KW.out.size)
        have AW := Lib.hid (HA.out.below KW.out)
        clear hS ho hb okS hal hsn hlS okS' hcx hlx x34 hD hcy hly hoy hes hle hoe hw hs
        go_upto_region 9 with (first
          | (refine wpList_load_mid rfl 28 (.tmp 9) rfl w2.heap.size 0 rfl cx _ BX.out.range Tryd.underlying28 rfl XI.out ?_)
          | (go_at_call 12
             refine (HST.out _ TW.out GW.out AW.out).mono ?_
             rintro e w6 ⟨rfl, b6⟩
             have BX6 := Lib.hid (BX.out.below b6 BX.out.1)
             have BL6 := Lib.hid b6
             clear b6)
          | (refine wpList_store_blk rfl 28 (.tmp 13) (.tmp 55) rfl w6.heap.size z35 cy.toArray ((allocsL_spec [(z35, 28), (z9, 33)] w6).2.2 0 _ rfl) (by rw [List.size_toArray, YL.out]; rfl) rfl rfl (by simpa using YI.out) YO.out ?_
             intro W7 h7 o7 b7 s7
             have bb := ((allocsL_spec [(z35, 28), (z9, 33)] w6).2.1).trans (b7 w6.heap.size (Nat.le_refl _))
             have X7 := Lib.hid (show Blk W7 w6.heap.size cy by simpa using h7)
             have Z7 := Lib.hid (o7 _ _ (by simp) ((allocsL_spec [(z35, 28), (z9, 33)] w6).2.2 1 _ rfl))
             have BB7 := Lib.hid bb
             clear h7 o7 b7 s7 bb)
          | (refine wpList_store_blk rfl 33 (.tmp 14) (.tmp 56) rfl (w6.heap.size + 1) z9 es.toArray Z7.out (by rw [List.size_toArray, EL.out]; rfl) rfl rfl (by simpa using EI.out) EO.out ?_
             intro W8 h8 o8 b8 s8
             have x8 := o8 _ _ (by omega) X7.out
             have z8 := show Blk W8 (w6.heap.size + 1) es by simpa using h8
             have bb := BB7.out.trans (b8 w6.heap.size (by omega))
             have X8 := Lib.hid x8
             have Z8 := Lib.hid z8
             have BB8 := Lib.hid (show RowKit.Below wr.heap.size wr W8 from BL6.out.trans (bb.mono BL6.out.size))
             have S68 := Lib.hid (show wr.heap.size ≤ w6.heap.size from BL6.out.size)
             clear h8 o8 b8 s8 x8 z8 bb))
        have bx8 := BX.out.below BB8.out BX.out.1
        have n1 : w2.heap.size < wr.heap.size := BX.out.1
        have n2 := S68.out
        have n3 : w6.heap.size + 1 < W8.heap.size := Z8.out.1
        have BX8 := Lib.hid bx8
        have N68 := Lib.hid (And.intro n1 (And.intro n2 n3))
        have OW8 := Lib.hid (own_stayW OW.out (Stay.of_below (K := fun _ => True) BB8.out (fun k hk _ => hk)) (fun _ _ => trivial))
        clear bx8 n1 n2 n3
        go_upto_region 10 with (first
          | (refine wpList_load_mid rfl 28 (.tmp 13) rfl w6.heap.size 0 rfl cy _ X8.out.range Tryd.underlying28 rfl YI.out ?_)
          | (refine wpList_store_blkS rfl 28 (.tmp 9) (.tmp 57) rfl w2.heap.size cx cy BX8.out (by rw [XL.out, List.size_toArray]) rfl rfl YI.out YO.out ?_
             intro W9 c1 c2' c3
             have z9' := c2' _ _ (by have := N68.out; omega) Z8.out
             have X9 := Lib.hid c1
             have Z9 := Lib.hid z9'
             have S9 := Lib.hid c3
             have OW9 := Lib.hid (own_stayW OW8.out c3 (fun j hj => by
               rcases WH.out j hj with e | e
               · have := (HV0.out j e).2; omega
               · have := HNN.out; omega))
             clear c1 c2' c3 z9'))
        have z9 := Z9.out
        rw [← HES.out] at z9
        simp only [stC] at z9
        have UT := Lib.hid z9
        have hbase : base ≤ W9.heap.size + 1 := by
          have a2 := S9.out.size
          have a3 := BB8.out.size
          have a4 := SW.out.size
          have a5 := M9.out
          have a6 := HNN.out
          omega
        have HBS := Lib.hid hbase
        have huge : (R.2 ++ S.2).length ≤ 300 := by rw [List.length_append]; have := HLR.out; have := HLS.out; omega
        have HUG := Lib.hid huge
        clear z9 hbase huge
        go_wp2_with (first
          | (refine wpList_load_mid rfl 33 (.tmp 14) rfl (w6.heap.size + 1) 0 rfl _ _ UT.out.range Tryd.underlying33 rfl st_info ?_)
          | (at_builtin
             refine wpList_append_where rfl (.tmp 58) (.tmp 60) 29 rfl base 33 i0 _ 9 56 Tryd.underlying29 hi hz0 hz1' hz2 rfl (by decide) _ _ _ rfl (OW9.out.alloc _) ⟨W9.heap.size, 0, none⟩ 1 1 (stC D.2) rfl rfl (cell_newL _ _ _) (stC_one' _) (by unfold maxLen; have := HUG.out; omega) (by have := HUG.out; omega) (by simp; exact HBS.out) ?_
             intro v' W10 hown10 hgrow10 hwhere10
             have s10 : Stay (fun j => u10.ownBlock ≠ some j) W9 W10 := (Stay.of_below ((RowKit.Below.refl W9.heap.size W9).alloc (Nat.le_refl _) _) (fun k hk _ => hk)).trans (stay_grown hgrow10 (fun j hj h => h hj))
             have w10 : ∀ j, v'.ownBlock = some j → (Value.slice B R.2.length c2).ownBlock = some j ∨ W5.heap.size ≤ j := fun j hj => by
               rcases hwhere10 j hj with e | e
               · exact WH.out j e
               · right
                 have a2 := S9.out.size
                 have a3 := BB8.out.size
                 have a4 := SW.out.size
                 simp at e
                 omega
             have S10 := Lib.hid s10
             have W10' := Lib.hid w10
             have O10 := Lib.hid hown10
             clear s10 w10 hown10 hgrow10 hwhere10))
        go_roundw
        case rel =>
          refine ⟨k + 1, by omega, by go_num, ?_, W10'.out, ?_, ?_⟩
          · rw [HSN.out]
            show W10.ownsRow base _ 9 v' (R.2 ++ (S.2 ++ [D.2])).length (stepCells (R.2 ++ (S.2 ++ [D.2])))
            rw [← List.append_assoc, stepCells_snoc, List.length_append]
            exact O10.out
          · rw [HSN.out, HCY.out]
            exact S10.out.blk X9.out (fun e => by
              rcases WH.out _ e with e | e
              · have := (HV0.out _ e).2; omega
              · have := HNN.out; omega)
          · refine ((SW.out.trans (Stay.of_below BB8.out (fun k hk _ => hk))).trans (S9.out.mono (fun j _ hj => hj.2.2))).trans (S10.out.mono (fun j _ hj e => ?_))
            rcases WH.out _ e with e | e
            · exact hj.2.1 e
            · have := hj.1; omega
        case measure => simp [intOf]; omega
      · have hSQ : (runS zs' k R.1).1 = Q.1 ∧ R.2 ++ (runS zs' k R.1).2 = Q.2 := by
          obtain ⟨d, rfl⟩ : ∃ d, uu = k + d := ⟨uu - k, by omega⟩
          have := HAD.out
          rw [runS_add, runS_halted zs' d _ hal] at this
          simpa using this
        have p34 := hb.2.1 34 _ (sqC_halt okS.2.1)
        have hnb : ((runS zs' k R.1).1.halt != 0) = true := by simp [hal]
        generalize (runS zs' k R.1).1.halt = hh at p34 hnb
        have hd : decide ((k : Int) < u2) = true := decide_eq_true (by omega)
        clear hal
        rw [hSQ.1, HDS.out] at hb
        rw [hSQ.2] at ho
        have rD := hs.blk D5.out ⟨by have := HNN.out; omega, fun e => by have := (HV0.out _ e).2; have := HNN.out; omega, by have := HNN.out; omega⟩
        have rY := rows_stay S5.out hs (fun a ha hlt => ⟨hlt, fun e => by have := (HV0.out _ e).2; have := F4.out a ha; omega, by have := F4.out a ha; omega⟩)
        obtain ⟨X, cx, hx, -, -, rX⟩ := RowsAt.own ho (by rw [List.length_map]) stC_len
        subst hx
        have RB := Lib.hid hb
        have RD := Lib.hid rD
        have RY := Lib.hid (show StepsAt wr Y Q.2.length Q.2 from rY)
        have RX := Lib.hid (show StepsAt wr X Q.2.length Q.2 from rX)
        have TW := Lib.hid (HT.out.below KW.out HG.out)
        have GW := Lib.hid (Nat.lt_of_lt_of_le HG.out KW.out.size)
        have NW := Lib.hid (And.intro hb.1 rD.1)
        clear hb ho hs hw rD rY rX hSQ okS hlS
        go_wp2_with fail
        generalize wr = WX at *
        clear huu
        go_loopw [8, 65] (fun b i W => ∃ kk : Nat, kk ≤ Q.2.length ∧ b = .bool false ∧ i = .int .i64 kk ∧ RowKit.Below WX.heap.size WX W) (fun b i _ => Q.2.length - (intOf i).toNat)
        case atStart => exact ⟨0, Nat.zero_le _, rfl, rfl, RowKit.Below.refl _ _⟩
        case round =>
          obtain ⟨kk, hkk, rfl, rfl, hbW⟩ := hrel
          have HBW := Lib.hid hbW
          by_cases hlt : kk < Q.2.length
          · obtain ⟨x, hx⟩ : ∃ x, Q.2[kk]? = some x := ⟨_, List.getElem?_eq_getElem hlt⟩
            obtain ⟨ex, hex⟩ : ∃ e, stC x = e := ⟨_, rfl⟩
            obtain ⟨_, yp, rfl, hyl, hyv⟩ := (RY.out.below hbW).2 kk ex (by rw [List.getElem?_map, hx, ← hex]; rfl)
            have HY := Lib.hid (show ∀ j v, ex[j]? = some v → wr.cell? ((yp.add (kk * 9)).add j) = some v from fun j v hj => by have := hyv j v hj; rwa [Addr.add_add])
            have x7 : ex[7]? = some (.int .i64 x.halt) := by rw [← hex]; rfl
            have EX := Lib.hid (show (Tryd.prog.info? 33).map (·.size) = some ex.length by rw [← hex]; exact st_info)
            have EXO := Lib.hid (show ex.toArray.all (·.oneCell') = true by rw [← hex]; exact stC_one x)
            have EXL := Lib.hid (show ex.length = 9 by rw [← hex]; rfl)
            have hend := HHL.out kk x hx
            have hQl := HLQ.out
            clear hyv hyl hex hx hbW
            by_cases hh : x.halt = 0
            · rw [hh] at x7
              have X7 := Lib.hid x7
              clear x7 hend
              go_wp2_with (first
                | (refine wpList_load_row rfl 33 (.tmp 68) rfl (yp.add (kk * 9)) (by first | rfl | simp) ex _ HY.out Tryd.underlying33 rfl EX.out ?_)
                | (refine wpList_store_new rfl 33 (.tmp 16) (.tmp 69) rfl wr.heap.size rfl _ ex _ rfl rfl (by rw [EXL.out]; rfl) EX.out EXO.out ?_
                   intro V1 vb1 vB1 vs1
                   have p7 := vB1.2.1 7 _ X7.out
                   have VB := Lib.hid (HBW.out.trans (vb1.mono HBW.out.size))
                   clear vb1 vB1 vs1))
              go_roundw
              case rel => exact ⟨kk + 1, by omega, rfl, by go_num, VB.out⟩
              case measure => simp [intOf]; omega
            · have hne : ((kk : Int) != (Q.2.length : Int) - 1) = false := by have := hend hh; simp; omega
              have X7 := Lib.hid x7
              clear x7 hend
              go_wp2_with (first
                | (refine wpList_load_row rfl 33 (.tmp 68) rfl (yp.add (kk * 9)) (by first | rfl | simp) ex _ HY.out Tryd.underlying33 rfl EX.out ?_)
                | (refine wpList_store_new rfl 33 (.tmp 16) (.tmp 69) rfl wr.heap.size rfl _ ex _ rfl rfl (by rw [EXL.out]; rfl) EX.out EXO.out ?_
                   intro V1 vb1 vB1 vs1
                   have p7 := vB1.2.1 7 _ X7.out
                   have VB := Lib.hid (HBW.out.trans (vb1.mono HBW.out.size))
                   clear vb1 vB1 vs1))
              go_roundw
              case rel => exact ⟨kk + 1, by omega, rfl, by go_num, VB.out⟩
              case measure => simp [intOf]; omega
          · have hkq : kk = Q.2.length := by omega
            have hQl := HLQ.out
            go_upto_region 18 with fail
            have RB2 := Lib.hid (RB.out.below hbW RB.out.1)
            have RD2 := Lib.hid (RD.out.below hbW RD.out.1)
            have RY2 := Lib.hid (RY.out.below hbW)
            have RX2 := Lib.hid (RX.out.below hbW)
            have TW2 := Lib.hid (TW.out.below hbW GW.out)
            have GW2 := Lib.hid (Nat.lt_of_lt_of_le GW.out hbW.size)
            have KW2 := Lib.hid (KW.out.trans (hbW.mono KW.out.size))
            have y1 := RD2.out.2.1 1 _ DC.out.2
            have y33 := RD2.out.2.1 33 _ DC.out.1
            have hms := DM.out
            have hn33 := N33.out
            have hn33' : cn.toArray[33]? = some (.string (newS m').mem) := by rw [List.getElem?_toArray]; exact hn33
            generalize (newS m').mem = M2 at *
            generalize Q.1.mem = M1 at *
            have L33 := RD2.out.1
            have y1' := Lib.hid y1
            have y33' := Lib.hid y33
            clear hbW HBW RB RD RY RX TW GW KW
            refine wp_region_quiet_below (by kernel_rfl) (by kernel_rfl) ?_
            repeat (first
              | (go_big_quiet_want; refine quiet_load_mid 28 (.tmp 9) rfl _ rfl ds _ RB2.out Tryd.underlying28 rfl DI.out ?_; simp only [Act.put, List.setIfInBounds_toArray, List.set_cons_succ, List.set_cons_zero]; go_big_quiet_on)
              | (go_big_quiet_want; refine quiet_load_mid 28 (.tmp 11) rfl _ rfl ds _ RD2.out Tryd.underlying28 rfl DI.out ?_; simp only [Act.put, List.setIfInBounds_toArray, List.set_cons_succ, List.set_cons_zero]; go_big_quiet_on)
              | (go_big_quiet_want; refine quiet_eql 28 28 (.tmp 83) (.tmp 84) rfl ds.toArray ds.toArray rfl rfl true DE.out guard_sq ?_; simp only [Act.put, List.setIfInBounds_toArray, List.set_cons_succ, List.set_cons_zero]; go_big_quiet_on)
              | (go_big_quiet_want; refine quiet_load_cell 25 (.tmp 94) rfl ⟨w4.heap.size, 1, none⟩ rfl (.int .u32 0) y1'.out L33 (fun w2 h => by go_simp) ?_; simp only [Act.put, List.setIfInBounds_toArray, List.set_cons_succ, List.set_cons_zero]; go_big_quiet_on)
              | (go_big_quiet_want; refine quiet_load_cell 9 (.tmp 99) rfl ⟨w4.heap.size, 33, none⟩ rfl (.string M1) y33'.out L33 (fun w2 h => by go_simp) ?_; simp only [Act.put, List.setIfInBounds_toArray, List.set_cons_succ, List.set_cons_zero]; go_big_quiet_on)
              | (go_big_quiet_want; refine quiet_field_mem (.tmp 104) rfl cn.toArray (.string M2) rfl hn33' ?_; simp only [Act.put, List.setIfInBounds_toArray, List.set_cons_succ, List.set_cons_zero]; go_big_quiet_on)
              | (go_big_quiet_step (first
                | (go_at_call 13; exact Calls.regrown_of (HAL.out _ (TW2.out.below (below_regrown _ _ _) GW2.out) (Nat.lt_of_lt_of_le GW2.out (below_regrown _ _ _).size)))
                | (go_at_call 14; exact Calls.regrown_of (like06_any _ _ _ _ _ _ (Nat.le_trans HLQ.out (by omega)) _ (RX2.out.below (below_regrown _ _ _)) (RY2.out.below (below_regrown _ _ _))))
                | (go_at_call 15; exact Calls.regrown_of (HNW.out _)))))
            refine wpQuiet_nil ?_
            rintro w9 ⟨q9, rfl⟩
            go_wp2
            go_ret
            exact ⟨by first | rfl | simp_all, KW2.out.trans ((below_regrown _ q9.d q9.os).mono KW2.out.size)⟩
    · obtain rfl : k = uu := by omega
      have hSQ := HAD.out
      rw [hSQ.1, HDS.out] at hb
      rw [hSQ.2] at ho
      have rD := hs.blk D5.out ⟨by have := HNN.out; omega, fun e => by have := (HV0.out _ e).2; have := HNN.out; omega, by have := HNN.out; omega⟩
      have rY := rows_stay S5.out hs (fun a ha hlt => ⟨hlt, fun e => by have := (HV0.out _ e).2; have := F4.out a ha; omega, by have := F4.out a ha; omega⟩)
      obtain ⟨X, cx, hx, -, -, rX⟩ := RowsAt.own ho (by rw [List.length_map]) stC_len
      subst hx
      have RB := Lib.hid hb
      have RD := Lib.hid rD
      have RY := Lib.hid (show StepsAt wr Y Q.2.length Q.2 from rY)
      have RX := Lib.hid (show StepsAt wr X Q.2.length Q.2 from rX)
      have TW := Lib.hid (HT.out.below KW.out HG.out)
      have GW := Lib.hid (Nat.lt_of_lt_of_le HG.out KW.out.size)
      have NW := Lib.hid (And.intro hb.1 rD.1)
      clear hb ho hs hw rD rY rX hSQ okS hlS
      go_wp2_with fail
      generalize wr = WX at *
      clear huu
      go_loopw [8, 65] (fun b i W => ∃ kk : Nat, kk ≤ Q.2.length ∧ b = .bool false ∧ i = .int .i64 kk ∧ RowKit.Below WX.heap.size WX W) (fun b i _ => Q.2.length - (intOf i).toNat)
      case atStart => exact ⟨0, Nat.zero_le _, rfl, rfl, RowKit.Below.refl _ _⟩
      case round =>
        obtain ⟨kk, hkk, rfl, rfl, hbW⟩ := hrel
        have HBW := Lib.hid hbW
        by_cases hlt : kk < Q.2.length
        · obtain ⟨x, hx⟩ : ∃ x, Q.2[kk]? = some x := ⟨_, List.getElem?_eq_getElem hlt⟩
          obtain ⟨ex, hex⟩ : ∃ e, stC x = e := ⟨_, rfl⟩
          obtain ⟨_, yp, rfl, hyl, hyv⟩ := (RY.out.below hbW).2 kk ex (by rw [List.getElem?_map, hx, ← hex]; rfl)
          have HY := Lib.hid (show ∀ j v, ex[j]? = some v → wr.cell? ((yp.add (kk * 9)).add j) = some v from fun j v hj => by have := hyv j v hj; rwa [Addr.add_add])
          have x7 : ex[7]? = some (.int .i64 x.halt) := by rw [← hex]; rfl
          have EX := Lib.hid (show (Tryd.prog.info? 33).map (·.size) = some ex.length by rw [← hex]; exact st_info)
          have EXO := Lib.hid (show ex.toArray.all (·.oneCell') = true by rw [← hex]; exact stC_one x)
          have EXL := Lib.hid (show ex.length = 9 by rw [← hex]; rfl)
          have hend := HHL.out kk x hx
          have hQl := HLQ.out
          clear hyv hyl hex hx hbW
          by_cases hh : x.halt = 0
          · rw [hh] at x7
            have X7 := Lib.hid x7
            clear x7 hend
            go_wp2_with (first
              | (refine wpList_load_row rfl 33 (.tmp 68) rfl (yp.add (kk * 9)) (by first | rfl | simp) ex _ HY.out Tryd.underlying33 rfl EX.out ?_)
              | (refine wpList_store_new rfl 33 (.tmp 16) (.tmp 69) rfl wr.heap.size rfl _ ex _ rfl rfl (by rw [EXL.out]; rfl) EX.out EXO.out ?_
                 intro V1 vb1 vB1 vs1
                 have p7 := vB1.2.1 7 _ X7.out
                 have VB := Lib.hid (HBW.out.trans (vb1.mono HBW.out.size))
                 clear vb1 vB1 vs1))
            go_roundw
            case rel => exact ⟨kk + 1, by omega, rfl, by go_num, VB.out⟩
            case measure => simp [intOf]; omega
          · have hne : ((kk : Int) != (Q.2.length : Int) - 1) = false := by have := hend hh; simp; omega
            have X7 := Lib.hid x7
            clear x7 hend
            go_wp2_with (first
              | (refine wpList_load_row rfl 33 (.tmp 68) rfl (yp.add (kk * 9)) (by first | rfl | simp) ex _ HY.out Tryd.underlying33 rfl EX.out ?_)
              | (refine wpList_store_new rfl 33 (.tmp 16) (.tmp 69) rfl wr.heap.size rfl _ ex _ rfl rfl (by rw [EXL.out]; rfl) EX.out EXO.out ?_
                 intro V1 vb1 vB1 vs1
                 have p7 := vB1.2.1 7 _ X7.out
                 have VB := Lib.hid (HBW.out.trans (vb1.mono HBW.out.size))
                 clear vb1 vB1 vs1))
            go_roundw
            case rel => exact ⟨kk + 1, by omega, rfl, by go_num, VB.out⟩
            case measure => simp [intOf]; omega
        · have hkq : kk = Q.2.length := by omega
          have hQl := HLQ.out
          go_upto_region 18 with fail
          have RB2 := Lib.hid (RB.out.below hbW RB.out.1)
          have RD2 := Lib.hid (RD.out.below hbW RD.out.1)
          have RY2 := Lib.hid (RY.out.below hbW)
          have RX2 := Lib.hid (RX.out.below hbW)
          have TW2 := Lib.hid (TW.out.below hbW GW.out)
          have GW2 := Lib.hid (Nat.lt_of_lt_of_le GW.out hbW.size)
          have KW2 := Lib.hid (KW.out.trans (hbW.mono KW.out.size))
          have y1 := RD2.out.2.1 1 _ DC.out.2
          have y33 := RD2.out.2.1 33 _ DC.out.1
          have hms := DM.out
          have hn33 := N33.out
          have hn33' : cn.toArray[33]? = some (.string (newS m').mem) := by rw [List.getElem?_toArray]; exact hn33
          generalize (newS m').mem = M2 at *
          generalize Q.1.mem = M1 at *
          have L33 := RD2.out.1
          have y1' := Lib.hid y1
          have y33' := Lib.hid y33
          clear hbW HBW RB RD RY RX TW GW KW
          refine wp_region_quiet_below (by kernel_rfl) (by kernel_rfl) ?_
          repeat (first
            | (go_big_quiet_want; refine quiet_load_mid 28 (.tmp 9) rfl _ rfl ds _ RB2.out Tryd.underlying28 rfl DI.out ?_; simp only [Act.put, List.setIfInBounds_toArray, List.set_cons_succ, List.set_cons_zero]; go_big_quiet_on)
            | (go_big_quiet_want; refine quiet_load_mid 28 (.tmp 11) rfl _ rfl ds _ RD2.out Tryd.underlying28 rfl DI.out ?_; simp only [Act.put, List.setIfInBounds_toArray, List.set_cons_succ, List.set_cons_zero]; go_big_quiet_on)
            | (go_big_quiet_want; refine quiet_eql 28 28 (.tmp 83) (.tmp 84) rfl ds.toArray ds.toArray rfl rfl true DE.out guard_sq ?_; simp only [Act.put, List.setIfInBounds_toArray, List.set_cons_succ, List.set_cons_zero]; go_big_quiet_on)
            | (go_big_quiet_want; refine quiet_load_cell 25 (.tmp 94) rfl ⟨w4.heap.size, 1, none⟩ rfl (.int .u32 0) y1'.out L33 (fun w2 h => by go_simp) ?_; simp only [Act.put, List.setIfInBounds_toArray, List.set_cons_succ, List.set_cons_zero]; go_big_quiet_on)
            | (go_big_quiet_want; refine quiet_load_cell 9 (.tmp 99) rfl ⟨w4.heap.size, 33, none⟩ rfl (.string M1) y33'.out L33 (fun w2 h => by go_simp) ?_; simp only [Act.put, List.setIfInBounds_toArray, List.set_cons_succ, List.set_cons_zero]; go_big_quiet_on)
            | (go_big_quiet_want; refine quiet_field_mem (.tmp 104) rfl cn.toArray (.string M2) rfl hn33' ?_; simp only [Act.put, List.setIfInBounds_toArray, List.set_cons_succ, List.set_cons_zero]; go_big_quiet_on)
            | (go_big_quiet_step (first
              | (go_at_call 13; exact Calls.regrown_of (HAL.out _ (TW2.out.below (below_regrown _ _ _) GW2.out) (Nat.lt_of_lt_of_le GW2.out (below_regrown _ _ _).size)))
              | (go_at_call 14; exact Calls.regrown_of (like06_any _ _ _ _ _ _ (Nat.le_trans HLQ.out (by omega)) _ (RX2.out.below (below_regrown _ _ _)) (RY2.out.below (below_regrown _ _ _))))
              | (go_at_call 15; exact Calls.regrown_of (HNW.out _)))))
          refine wpQuiet_nil ?_
          rintro w9 ⟨q9, rfl⟩
          go_wp2
          go_ret
          exact ⟨by first | rfl | simp_all, KW2.out.trans ((below_regrown _ q9.d q9.os).mono KW2.out.size)⟩
end Go.Proofs.YtaanbolpgfmihaaDoor.seqGoes
