/- THE CONTRACTS of package bus: rows of requests. -/
import Derived.Test.YtebeelphilfjhaaStructs
namespace Go.Proofs.Ytebeelphilfjhaa
open Go.ChangeShapes Go.WideShapes Go.ChangeAt Go.RowKit
set_option linter.unusedVariables false
set_option linter.unusedSimpArgs false

/-- a request -/
structure Req where
  kind : Int
  line : Int
  left : Int
  data : ByteArray

def reqC (r : Req) : List Value := [.int .i64 r.kind, .int .u32 r.line, .int .i64 r.left, .string r.data]
def reqV (r : Req) : Value := .agg #[.int .i64 r.kind, .int .u32 r.line, .int .i64 r.left, .string r.data]
/-- the slice A, of n elements, holds these requests -/
def ReqsAt (w : World) (A : Option Addr) (n : Nat) (rs : List Req) : Prop := RowsAt w A n 4 (rs.map reqC)
theorem ReqsAt.len {w : World} {A : Option Addr} {n : Nat} {rs : List Req} (h : ReqsAt w A n rs) : rs.length = n := by have := h.1; simpa using this
theorem ReqsAt.below {w w' : World} {A : Option Addr} {n : Nat} {rs : List Req} (h : ReqsAt w A n rs) (hb : Below w.heap.size w w') : ReqsAt w' A n rs := RowsAt.below h hb
theorem ReqsAt.take {w : World} {A : Option Addr} {n m : Nat} {rs : List Req} (h : ReqsAt w A n rs) (hm : m ≤ n) : ReqsAt w A m (rs.take m) := by
  have := RowsAt.take h hm
  rw [← List.map_take] at this
  exact this
theorem ReqsAt.drop {w : World} {a : Addr} {n k : Nat} {rs : List Req} (h : ReqsAt w (some a) n rs) (hk : k ≤ n) {A' : Option Addr} (hA : k < n → A' = some (a.add (k * 4))) : ReqsAt w A' (n - k) (rs.drop k) := by
  have := RowsAt.drop h hk hA
  rw [← List.map_drop] at this
  exact this
theorem ReqsAt.at_ {w : World} {A : Option Addr} {n : Nat} {rs : List Req} (h : ReqsAt w A n rs) {j : Nat} {r : Req} (hj : rs[j]? = some r) :
    ∃ a, A = some a ∧ a.block < w.heap.size ∧ w.cell? (a.add (j * 4)) = some (.int .i64 r.kind) ∧ w.cell? ⟨(a.add (j * 4)).block, (a.add (j * 4)).off + 1, none⟩ = some (.int .u32 r.line) ∧
      w.cell? ⟨(a.add (j * 4)).block, (a.add (j * 4)).off + 2, none⟩ = some (.int .i64 r.left) ∧ w.cell? ⟨(a.add (j * 4)).block, (a.add (j * 4)).off + 3, none⟩ = some (.string r.data) := by
  obtain ⟨a, ha, hl, h0, h1⟩ := RowsAt.at_ h (j := j) (c := reqC r) (by rw [List.getElem?_map, hj]; rfl)
  exact ⟨a, ha, hl, h0 _ rfl, h1 0 _ rfl, h1 1 _ rfl, h1 2 _ rfl⟩
theorem reqC_len (rs : List Req) : ∀ (j : Nat) (c : List Value), (rs.map reqC)[j]? = some c → c.length = 4 := by
  intro j c hc
  rw [List.getElem?_map] at hc
  obtain ⟨r, _, rfl⟩ := Option.map_eq_some_iff.1 hc
  rfl
theorem ReqsAt.own {w : World} {B n : Nat} {v : Value} {rs : List Req} (h : w.ownsRow B 39 4 v n (rs.map reqC).flatten) (hn : rs.length = n) :
    ∃ A cap, v = .slice A n cap ∧ n ≤ cap ∧ cap ≤ maxLen ∧ ReqsAt w A n rs := RowsAt.own h (by simpa using hn) (reqC_len rs)
theorem reqC_one (rs : List Req) : ∀ u ∈ (rs.map reqC).flatten, u.oneCell' = true := by
  intro u hu
  obtain ⟨c, hc, hu⟩ := List.mem_flatten.1 hu
  obtain ⟨r, _, rfl⟩ := List.mem_map.1 hc
  simp only [reqC, List.mem_cons, List.not_mem_nil, or_false] at hu
  rcases hu with rfl | rfl | rfl | rfl <;> rfl

def reqOK (r : Req) : Prop := (Lit.int .i64 r.kind).wf = true ∧ (Lit.int .u32 r.line).wf = true ∧ (Lit.int .i64 r.left).wf = true ∧ r.data.size ≤ maxLen
set_option maxRecDepth 100000 in
theorem arg_reqs {H : Type} {enc : TypeId × Value → H} {w : World} {base : Nat} {held : Bool} {r : Reach} {b0 : Nat} {v : Value} {d : DataW H} {p : List MemPlace}
    (hv : Value.okWide Try.prog w r b0 36 v) (h : DataW.Trod enc Try.prog w base (fun _ => true) held 36 v d p) :
    ∃ (A : Option Addr) (n cap : Nat) (rs : List Req), v = .slice A n cap ∧ n ≤ cap ∧ cap ≤ maxLen ∧ ReqsAt w A n rs ∧ (A = none → cap = 0) ∧ ∀ r ∈ rs, reqOK r := by
  obtain ⟨A, n, cap, cs, rfl, h1, h2, h3, h4, h5⟩ := arg_rows Try.underlying36 Try.underlying39 (by kernel_rfl) (by kernel_rfl) (by decide) hv h
  obtain ⟨rs, rfl, hw⟩ := list_of (f := reqC) (W := reqOK) cs (fun c hc => by
    obtain ⟨hl, hf⟩ := h5 c hc
    obtain ⟨c0, y0, n0, g0, t0⟩ := hf 0 _ rfl
    obtain ⟨c1, y1, n1, g1, t1⟩ := hf 1 _ rfl
    obtain ⟨c2, y2, n2, g2, t2⟩ := hf 2 _ rfl
    obtain ⟨c3, y3, n3, g3, t3⟩ := hf 3 _ rfl
    obtain ⟨k, rfl, w0⟩ := arg_int Try.underlying3 t0
    obtain ⟨ln, rfl, w1⟩ := arg_int Try.underlying30 t1
    obtain ⟨lf, rfl, w2⟩ := arg_int Try.underlying3 t2
    obtain ⟨s, e3, -, w3⟩ := DataW.trod_string Try.underlying9 t3
    obtain rfl : c3 = .string s := by simpa using e3
    refine ⟨⟨k, ln, lf, s⟩, ?_, w0, w1, w2, w3⟩
    have hl4 : c.length = 4 := hl
    match c, hl4, g0, g1, g2, g3 with
    | [x0, x1, x2, x3], _, g0, g1, g2, g3 =>
      simp at g0 g1 g2 g3
      subst g0 g1 g2 g3
      rfl)
  exact ⟨A, n, cap, rs, rfl, h1, h2, h4, h3, hw⟩

/-- a block of four cells of the call's own, told cell by cell -/
def Four (w : World) (b : Nat) (v0 v1 v2 v3 : Value) : Prop :=
  (w.cell? ⟨b, 0, none⟩ = some v0 ∧ w.cell? ⟨b, 1, none⟩ = some v1 ∧ w.cell? ⟨b, 2, none⟩ = some v2 ∧ w.cell? ⟨b, 3, none⟩ = some v3) ∧
  (w.frozen? ⟨b, 0, none⟩ = false ∧ w.frozen? ⟨b, 1, none⟩ = false ∧ w.frozen? ⟨b, 2, none⟩ = false ∧ w.frozen? ⟨b, 3, none⟩ = false)
theorem four_new (w : World) (t : TypeId) (v0 v1 v2 v3 : Value) : Four (w.alloc (.cells #[v0, v1, v2, v3] t)) w.heap.size v0 v1 v2 v3 :=
  ⟨⟨World.cell?_alloc_at _ _ _ _ rfl, World.cell?_alloc_at _ _ _ _ rfl, World.cell?_alloc_at _ _ _ _ rfl, World.cell?_alloc_at _ _ _ _ rfl⟩,
   ⟨World.frozen?_alloc_at _ _ _ _ rfl, World.frozen?_alloc_at _ _ _ _ rfl, World.frozen?_alloc_at _ _ _ _ rfl, World.frozen?_alloc_at _ _ _ _ rfl⟩⟩
theorem Four.below {w w' : World} {b B : Nat} {v0 v1 v2 v3 : Value} (h : Four w b v0 v1 v2 v3) (hb : Below B w w') (hB : b < B) : Four w' b v0 v1 v2 v3 := by
  obtain ⟨⟨a0, a1, a2, a3⟩, ⟨f0, f1, f2, f3⟩⟩ := h
  exact ⟨⟨(hb.cell hB).trans a0, (hb.cell hB).trans a1, (hb.cell hB).trans a2, (hb.cell hB).trans a3⟩, ⟨(hb.frozen hB).trans f0, (hb.frozen hB).trans f1, (hb.frozen hB).trans f2, (hb.frozen hB).trans f3⟩⟩
theorem ret_int {k : IntKind} {a b : Int} (h : a = b) : Ending.returned (.int k a) = .returned (.int k b) := by rw [h]
theorem ret_bool {a b : Bool} (h : a = b) : Ending.returned (.bool a) = .returned (.bool b) := by rw [h]

/-- how many do not write -/
def readsN (rs : List Req) : Nat := (rs.filter fun r => r.kind != 4).length
theorem readsN_take (rs : List Req) (k : Nat) (r : Req) (h : rs[k]? = some r) : readsN (rs.take (k + 1)) = readsN (rs.take k) + (if r.kind = 4 then 0 else 1) := by
  unfold readsN
  rw [List.take_add_one, h, List.filter_append, List.length_append]
  congr 1
  by_cases c : r.kind = 4
  · simp [c]
  · simp [c]

set_option maxHeartbeats 1000000
theorem reads_any (A : Option Addr) (n cap : Nat) (rs : List Req) (hn : n ≤ 100) (w : World) (h : ReqsAt w A n rs) :
    Calls Try.prog 42 #[.slice A n cap] w fun e w' => e = .returned (.int .i64 (readsN rs : Nat)) ∧ Below w.heap.size w w' := by
  go_enter Try.func42, Try.ntmps42
  go_wp2
  go_loopw [3, 8] (fun t i wr => ∃ k c : Nat, k ≤ n ∧ c ≤ k ∧ i = .int .i64 k ∧ t = .int .i64 (c : Nat) ∧ readsN (rs.take k) = c ∧ Below w.heap.size w wr) (fun _ i _ => n - (intOf i).toNat)
  case atStart => exact ⟨0, 0, Nat.zero_le _, Nat.le_refl _, rfl, rfl, rfl, Below.refl _ _⟩
  case round =>
    obtain ⟨k, c, hk, hck, rfl, rfl, hcn, hbel⟩ := hrel
    have HC := Lib.hid hcn
    clear hcn
    by_cases hkn : k < n
    · have hw := h.below hbel
      obtain ⟨r, hr⟩ : ∃ r, rs[k]? = some r := ⟨_, List.getElem?_eq_getElem (by rw [h.len]; exact hkn)⟩
      have HT := Lib.hid (readsN_take rs k r hr)
      obtain ⟨a, rfl, hl, h0, h1, h2, h3⟩ := hw.at_ hr
      clear hr
      have hf := four_new wr 39 (.int .i64 r.kind) (.int .u32 r.line) (.int .i64 r.left) (.string r.data)
      by_cases c4 : r.kind = 4
      · have e4 : (r.kind != 4) = false := by simp [c4]
        have HT2 := Lib.hid (show readsN (rs.take (k + 1)) = c by rw [HT.out, HC.out, if_pos c4]; rfl)
        clear c4
        go_wp2
        go_roundw
        case rel => exact ⟨k + 1, c, by omega, by omega, by go_num, rfl, HT2.out, hbel.alloc hbel.size _⟩
        case measure => simp [intOf]; omega
      · have e4 : (r.kind != 4) = true := by simp [c4]
        have HT2 := Lib.hid (show readsN (rs.take (k + 1)) = c + 1 by rw [HT.out, HC.out, if_neg c4])
        clear c4
        go_wp2
        go_roundw
        case rel => exact ⟨k + 1, c + 1, by omega, by omega, by go_num, by go_num, HT2.out, hbel.alloc hbel.size _⟩
        case measure => simp [intOf]; omega
    · have hkN : k = n := by omega
      have HK := Lib.hid (show readsN rs = c by have := HC.out; rw [hkN, List.take_of_length_le (by rw [h.len]; exact Nat.le_refl _)] at this; exact this)
      subst hkN
      go_wp2
      go_ret
      exact ⟨ret_int (by rw [HK.out]), hbel⟩

theorem lineOf_any (a : Int) (h0 : 0 ≤ a) (h1 : a < 4294967296) (w : World) : Calls Try.prog 41 #[.int .u32 a] w fun e w' => e = .returned (.int .u32 (a - a % 16)) ∧ w = w' := by
  go_enter Try.func41, Try.ntmps41
  go_wp2
  go_ret
  exact ⟨rfl, rfl⟩

theorem index_any (A : Option Addr) (n cap : Nat) (zs : List Int) (v : Int) (hn : n ≤ 1000) (w : World) (h : IntsAt w A n .i64 zs) :
    Calls Try.prog 97 #[.slice A n cap, .int .i64 v] w fun e w' => (∃ i : Int, e = .returned (.int .i64 i) ∧ (0 ≤ i ↔ v ∈ zs)) ∧ w = w' := by
  go_enter Try.func97, Try.ntmps97
  go_wp2
  go_loop [8] (fun i => ∃ k : Nat, k ≤ n ∧ i = .int .i64 k ∧ v ∉ zs.take k) (fun i => n - (intOf i).toNat)
  case atStart => exact ⟨0, Nat.zero_le _, rfl, by simp⟩
  case round =>
    obtain ⟨k, hk, rfl, hnot⟩ := hrel
    have HN := Lib.hid hnot
    clear hnot
    have hl := h.1
    by_cases hkn : k < n
    · obtain ⟨a, rfl, hc⟩ := h.at_ hkn
      have hg : zs.getD k 0 = zs[k]'(by omega) := by rw [List.getD_eq_getElem?_getD, List.getElem?_eq_getElem (by omega)]; rfl
      obtain ⟨z, hz⟩ : ∃ z, zs.getD k 0 = z := ⟨_, rfl⟩
      rw [hz] at hc
      have HZ := Lib.hid (hg.symm.trans hz)
      clear hg hz
      by_cases e : v = z
      · subst e
        have HM := Lib.hid (show v ∈ zs by rw [← HZ.out]; exact List.getElem_mem _)
        have hl' := Lib.hid hl
        clear HZ hl
        go_wp2
        go_ret
        exact ⟨⟨_, rfl, ⟨fun _ => HM.out, fun _ => by omega⟩⟩, rfl⟩
      · have e1 : (v == z) = false := by simpa using e
        have HM := Lib.hid (show v ∉ zs.take (k + 1) by rw [List.take_succ_eq_append_getElem (by omega), HZ.out]; simp [HN.out, e])
        have hl' := Lib.hid hl
        clear HZ hl e
        go_wp2
        go_round
        case rel => exact ⟨k + 1, by omega, by go_num, HM.out⟩
        case measure => simp [intOf]; omega
    · have hkN : k = n := by omega
      have HM := Lib.hid (show v ∉ zs by have := HN.out; rw [List.take_of_length_le (by omega)] at this; exact this)
      clear hl
      subst hkN
      go_wp2
      go_ret
      exact ⟨⟨_, rfl, ⟨fun h => by omega, fun h => absurd h HM.out⟩⟩, rfl⟩
theorem contains_any (A : Option Addr) (n cap : Nat) (zs : List Int) (v : Int) (hn : n ≤ 1000) (w : World) (h : IntsAt w A n .i64 zs) :
    Calls Try.prog 84 #[.slice A n cap, .int .i64 v] w fun e w' => e = .returned (.bool (zs.contains v)) ∧ w = w' := by
  have HI := Lib.hid (index_any A n cap zs v hn w h)
  clear h
  go_enter Try.func84, Try.ntmps84
  go_wp2_with fail
  refine HI.out.mono ?_
  rintro e w1 ⟨⟨i, rfl, hi⟩, rfl⟩
  have HB := Lib.hid (show zs.contains v = decide (0 ≤ i) by rw [Bool.eq_iff_iff]; simp [hi])
  clear hi
  go_wp2
  go_ret
  exact ⟨ret_bool HB.out.symm, rfl⟩

/-- does a request of these kinds wait for this line? -/
def hasB (rs : List Req) (line : Int) (ks : List Int) : Bool := rs.any fun r => r.line == line && ks.contains r.kind
theorem hasB_take (rs : List Req) (line : Int) (ks : List Int) (k : Nat) (r : Req) (h : rs[k]? = some r) : hasB (rs.take (k + 1)) line ks = (hasB (rs.take k) line ks || (r.line == line && ks.contains r.kind)) := by
  unfold hasB
  rw [List.take_add_one, h, List.any_append]
  simp
theorem hasB_of (rs : List Req) (line : Int) (ks : List Int) (k : Nat) (r : Req) (h : rs[k]? = some r) (hb : (r.line == line && ks.contains r.kind) = true) : hasB rs line ks = true := by
  unfold hasB
  exact List.any_eq_true.2 ⟨r, List.mem_of_getElem? h, hb⟩
theorem has_any (A K : Option Addr) (n cap m c : Nat) (rs : List Req) (line : Int) (ks : List Int) (hn : n ≤ 100) (hm : m ≤ 1000) (w : World) (h : ReqsAt w A n rs) (hK : IntsAt w K m .i64 ks) :
    Calls Try.prog 43 #[.slice A n cap, .int .u32 line, .slice K m c] w fun e w' => e = .returned (.bool (hasB rs line ks)) ∧ Below w.heap.size w w' := by
  go_enter Try.func43, Try.ntmps43
  go_wp2
  go_loopw [11] (fun i wr => ∃ k : Nat, k ≤ n ∧ i = .int .i64 k ∧ hasB (rs.take k) line ks = false ∧ Below w.heap.size w wr) (fun i _ => n - (intOf i).toNat)
  case atStart => exact ⟨0, Nat.zero_le _, rfl, rfl, Below.refl _ _⟩
  case round =>
    obtain ⟨k, hk, rfl, hcn, hbel⟩ := hrel
    have HC := Lib.hid hcn
    clear hcn
    by_cases hkn : k < n
    · have hw := h.below hbel
      have hwK := hK.below hbel
      obtain ⟨r, hr⟩ : ∃ r, rs[k]? = some r := ⟨_, List.getElem?_eq_getElem (by rw [h.len]; exact hkn)⟩
      have HT := Lib.hid (hasB_take rs line ks k r hr)
      have HO := Lib.hid (hasB_of rs line ks k r hr)
      obtain ⟨a, rfl, hl, h0, h1, h2, h3⟩ := hw.at_ hr
      clear hr
      have hf := four_new wr 39 (.int .i64 r.kind) (.int .u32 r.line) (.int .i64 r.left) (.string r.data)
      have hbel' := hbel.alloc hbel.size (.cells #[.int .i64 r.kind, .int .u32 r.line, .int .i64 r.left, .string r.data] 39)
      have hwK' := hwK.below ((Below.refl wr.heap.size wr).alloc (Nat.le_refl _) (.cells #[.int .i64 r.kind, .int .u32 r.line, .int .i64 r.left, .string r.data] 39))
      by_cases cl : r.line = line
      · subst cl
        go_wp2_with fail
        refine (contains_any K m c ks r.kind hm _ hwK').mono ?_
        rintro e w1 ⟨rfl, rfl⟩
        cases hc : ks.contains r.kind
        · have HN := Lib.hid (show hasB (rs.take (k + 1)) r.line ks = false by rw [HT.out, HC.out, hc]; simp)
          clear hc
          go_wp2
          go_roundw
          case rel => exact ⟨k + 1, by omega, by go_num, HN.out, hbel'⟩
          case measure => simp [intOf]; omega
        · have HN := Lib.hid (show hasB rs r.line ks = true from HO.out (by rw [hc]; simp))
          clear hc
          go_wp2
          go_ret
          exact ⟨ret_bool HN.out.symm, hbel'⟩
      · have e4 : (r.line == line) = false := by simpa using cl
        have HN := Lib.hid (show hasB (rs.take (k + 1)) line ks = false by rw [HT.out, HC.out, e4]; simp)
        clear cl
        go_wp2
        go_roundw
        case rel => exact ⟨k + 1, by omega, by go_num, HN.out, hbel'⟩
        case measure => simp [intOf]; omega
    · have hkN : k = n := by omega
      have HK := Lib.hid (show hasB rs line ks = false by have := HC.out; rw [hkN, List.take_of_length_le (by rw [h.len]; exact Nat.le_refl _)] at this; exact this)
      subst hkN
      go_wp2
      go_ret
      exact ⟨ret_bool HK.out.symm, hbel⟩

end Go.Proofs.Ytebeelphilfjhaa
