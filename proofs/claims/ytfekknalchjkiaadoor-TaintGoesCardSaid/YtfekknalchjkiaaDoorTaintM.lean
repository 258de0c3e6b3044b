/- WHO MADE A REGISTER, AND THE ROOTS: the mathematics. -/
import Derived.Test.YtfekknalchjkiaaDoorTaint
import Derived.Test.YtfekknalchjkiaaDoorInstWrites
namespace Go.Proofs.YtfekknalchjkiaaDoor
set_option maxRecDepth 100000
set_option linter.unusedVariables false
set_option linter.unusedSimpArgs false

def makN (es : List En) (reg : Int) : Nat → Int
  | 0 => -1
  | k + 1 => match es[k]? with
    | some e => if wrI e.op e.rd = reg then (k : Int) else makN es reg k
    | none => makN es reg k
theorem makN_range (es : List En) (reg : Int) : ∀ k : Nat, -1 ≤ makN es reg k ∧ makN es reg k < k
  | 0 => by simp [makN]
  | k + 1 => by
    have h := makN_range es reg k
    unfold makN
    split
    · split
      · push_cast; omega
      · push_cast; omega
    · push_cast; omega
theorem makN_len (es : List En) (reg : Int) (k : Nat) (hk : k ≤ es.length) : makN es reg k < es.length := by
  have := (makN_range es reg k).2
  omega
theorem makN_at {es : List En} {reg : Int} {k : Nat} {e : En} (h : es[k]? = some e) : makN es reg (k + 1) = if wrI e.op e.rd = reg then (k : Int) else makN es reg k := by
  rw [makN, h]
def isW (reg : Int) : Bool := decide (1 ≤ reg ∧ reg ≤ 31)
/-- how many entries are ahead -/
def ahdN (n : Nat) (i : Int) : Nat := (min (max i 0) n).toNat
theorem ahd_le (n : Nat) (i : Int) : ahdN n i ≤ n := by unfold ahdN; omega
theorem ahd_nat (n k : Nat) (h : k ≤ n) : ahdN n k = k := by unfold ahdN; omega
def makI (es : List En) (i reg : Int) : Int := if isW reg = true then makN es reg (ahdN es.length i) else -1
theorem makI_range (es : List En) (i reg : Int) : -1 ≤ makI es i reg ∧ makI es i reg < es.length := by
  unfold makI
  split
  · have h1 := makN_range es reg (ahdN es.length i)
    have h2 := ahd_le es.length i
    omega
  · omega
theorem makI_lt (es : List En) (k : Nat) (reg : Int) (hk : k ≤ es.length) : makI es k reg < k := by
  unfold makI
  split
  · rw [ahd_nat _ _ hk]
    exact (makN_range es reg k).2
  · omega
/-- a root of what a register holds -/
def rof (rs : List Int) (m : Int) : Int := if m < 0 then -1 else rs[m.toNat]?.getD (-1)
def rootAt (es : List En) (f : Nat) (rs : List Int) (k : Nat) (e : En) : Int :=
  if kindI e.op = 3 then (if f < k then (k : Int) else -1) else max (rof rs (makI es k e.rs1)) (rof rs (makI es k e.rs2))
def rootsN (es : List En) (f : Nat) : Nat → List Int
  | 0 => []
  | k + 1 => rootsN es f k ++ [match es[k]? with | some e => rootAt es f (rootsN es f k) k e | none => -1]
theorem rootsN_len (es : List En) (f : Nat) : ∀ k, (rootsN es f k).length = k
  | 0 => rfl
  | k + 1 => by simp [rootsN, rootsN_len es f k]
theorem rootsN_at {es : List En} {f k : Nat} {e : En} (h : es[k]? = some e) : rootsN es f (k + 1) = rootsN es f k ++ [rootAt es f (rootsN es f k) k e] := by
  rw [rootsN, h]
theorem rootsN_get (es : List En) (f : Nat) (j : Nat) : ∀ m, j < m → (rootsN es f m)[j]? = (rootsN es f (j + 1))[j]?
  | 0, h => absurd h (Nat.not_lt_zero _)
  | m + 1, h => by
    by_cases e : j = m
    · subst e; rfl
    · have hm : j < m := by omega
      rw [rootsN, List.getElem?_append_left (by rw [rootsN_len]; exact hm)]
      exact rootsN_get es f j m hm
def rootsL (es : List En) : List Int := rootsN es (frontN es) es.length
theorem rootsL_len (es : List En) : (rootsL es).length = es.length := rootsN_len _ _ _
def rootI (es : List En) (k : Nat) : Int := (rootsL es)[k]?.getD (-1)
theorem rof_range {rs : List Int} {b : Int} (hb : -1 ≤ b) (h : ∀ (j : Nat) v, rs[j]? = some v → -1 ≤ v ∧ v ≤ b) (m : Int) : -1 ≤ rof rs m ∧ rof rs m ≤ b := by
  unfold rof
  split
  · omega
  · cases hj : rs[m.toNat]? with
    | none => simp; omega
    | some v => simpa using h _ _ hj
/-- what is a root: a load that is not visible, not behind its entry -/
def rootOK (es : List En) (f : Nat) (k : Nat) (r : Int) : Prop := -1 ≤ r ∧ r ≤ k ∧ (0 ≤ r → (f : Int) < r ∧ ∃ e, es[r.toNat]? = some e ∧ kindI e.op = 3)
theorem rof_ok {es : List En} {f k : Nat} {rs : List Int} (h : ∀ (j : Nat) v, rs[j]? = some v → rootOK es f j v) (m : Int) (hm : m < k) : rootOK es f k (rof rs m) := by
  unfold rof
  split
  · exact ⟨by omega, by omega, fun h => by omega⟩
  · cases hj : rs[m.toNat]? with
    | none => exact ⟨by simp, by simp, fun h => by simp at h⟩
    | some v =>
      obtain ⟨h1, h2, h3⟩ := h _ _ hj
      exact ⟨by simpa using h1, by simp; omega, by simpa using h3⟩
theorem rootsN_ok (es : List En) (f : Nat) : ∀ k, k ≤ es.length → ∀ (j : Nat) v, (rootsN es f k)[j]? = some v → rootOK es f j v
  | 0, _, j, v, h => by simp [rootsN] at h
  | k + 1, hk, j, v, h => by
    obtain ⟨e, he⟩ : ∃ e, es[k]? = some e := ⟨_, List.getElem?_eq_getElem (by omega)⟩
    have ih := rootsN_ok es f k (by omega)
    rw [rootsN_at he] at h
    by_cases hj : j < k
    · rw [List.getElem?_append_left (by rw [rootsN_len]; exact hj)] at h
      exact ih j v h
    · have hl := (List.getElem?_eq_some_iff.1 h).1
      simp [rootsN_len] at hl
      obtain rfl : j = k := by omega
      rw [List.getElem?_append_right (by rw [rootsN_len]; exact Nat.le_refl _), rootsN_len, Nat.sub_self] at h
      have hv : rootAt es f (rootsN es f j) j e = v := by simpa using h
      subst hv
      unfold rootAt
      split
      · rename_i h3
        split
        · exact ⟨by omega, by omega, fun _ => ⟨by omega, e, by simpa using he, h3⟩⟩
        · exact ⟨by omega, by omega, fun h => by omega⟩
      · have h1 := rof_ok ih (makI es j e.rs1) (makI_lt es j e.rs1 (by omega))
        have h2 := rof_ok ih (makI es j e.rs2) (makI_lt es j e.rs2 (by omega))
        rcases Int.le_total (rof (rootsN es f j) (makI es j e.rs1)) (rof (rootsN es f j) (makI es j e.rs2)) with c | c
        · rw [Int.max_eq_right c]; exact h2
        · rw [Int.max_eq_left c]; exact h1
theorem rootI_ok (es : List En) (k : Nat) (hk : k < es.length) : rootOK es (frontN es) k (rootI es k) := by
  obtain ⟨v, hv⟩ : ∃ v, (rootsL es)[k]? = some v := ⟨_, List.getElem?_eq_getElem (by rw [rootsL_len]; exact hk)⟩
  unfold rootI
  rw [hv]
  exact rootsN_ok es (frontN es) es.length (Nat.le_refl _) k v hv
theorem rootI_seen (es : List En) (k : Nat) (hk : k < es.length) (hf : k ≤ frontN es) : rootI es k = -1 := by
  obtain ⟨h1, h2, h3⟩ := rootI_ok es k hk
  by_cases h : 0 ≤ rootI es k
  · have := (h3 h).1
    omega
  · omega
def taintB (es : List En) (i reg : Int) : Bool := decide (0 ≤ makI es i reg ∧ 0 ≤ rootI es (makI es i reg).toNat)
/-- what is visible reads nothing tainted -/
theorem taint_seen (es : List En) (i : Nat) (reg : Int) (hi : i ≤ es.length) (hf : i ≤ frontN es) : taintB es i reg = false := by
  refine decide_eq_false fun ⟨h1, h2⟩ => ?_
  have h3 := makI_lt es i reg hi
  have h4 := rootI_seen es (makI es i reg).toNat (by omega) (by omega)
  omega

/-- the entries ahead of one, the last one first -/
def dnF (es : List En) (m j : Nat) : Nat × En := (m - 1 - j, es[m - 1 - j]?.getD zeroE)
def uptoF {α : Type} (f : Nat → α) (k : Nat) : List α := (List.range k).map f
theorem uptoF_succ {α : Type} (f : Nat → α) (k : Nat) : uptoF f (k + 1) = uptoF f k ++ [f k] := by simp [uptoF, List.range_succ]
theorem uptoF_len {α : Type} (f : Nat → α) (k : Nat) : (uptoF f k).length = k := by simp [uptoF]
theorem makN_none (es : List En) (reg : Int) : ∀ m : Nat, (∀ (j : Nat) e, j < m → es[j]? = some e → wrI e.op e.rd ≠ reg) → makN es reg m = -1
  | 0, _ => rfl
  | m + 1, h => by
    unfold makN
    cases he : es[m]? with
    | none => exact makN_none es reg m fun j e hj => h j e (by omega)
    | some e =>
      simp only
      rw [if_neg (h m e (by omega) he)]
      exact makN_none es reg m fun j e hj => h j e (by omega)
theorem makN_hit (es : List En) (reg : Int) (q : Nat) (e0 : En) (h0 : es[q]? = some e0) (hw : wrI e0.op e0.rd = reg) : ∀ m : Nat, q < m → (∀ (j : Nat) e, q < j → j < m → es[j]? = some e → wrI e.op e.rd ≠ reg) → makN es reg m = q
  | 0, h, _ => absurd h (Nat.not_lt_zero _)
  | m + 1, h, hn => by
    unfold makN
    by_cases hq : q = m
    · subst hq
      rw [h0]
      simp only
      rw [if_pos hw]
    · cases he : es[m]? with
      | none => exact makN_hit es reg q e0 h0 hw m (by omega) fun j e h1 h2 => hn j e h1 (by omega)
      | some e =>
        simp only
        rw [if_neg (hn m e (by omega) (by omega) he)]
        exact makN_hit es reg q e0 h0 hw m (by omega) fun j e h1 h2 => hn j e h1 (by omega)
/-- none of all that came writes it -/
theorem mak_done {es : List En} {reg : Int} {m : Nat} (hm : m ≤ es.length) (h : ∀ x ∈ uptoF (dnF es m) m, wrI x.2.op x.2.rd ≠ reg) : makN es reg m = -1 := by
  refine makN_none es reg m fun j e hj he => ?_
  have := h (dnF es m (m - 1 - j)) (List.mem_map.2 ⟨m - 1 - j, List.mem_range.2 (by omega), rfl⟩)
  unfold dnF at this
  rw [show m - 1 - (m - 1 - j) = j by omega, he] at this
  exact this
theorem mak_stop {es : List En} {reg : Int} {m k : Nat} (hm : m ≤ es.length) (hk : k < m) (h : ∀ x ∈ uptoF (dnF es m) k, wrI x.2.op x.2.rd ≠ reg) (hw : wrI (dnF es m k).2.op (dnF es m k).2.rd = reg) : makN es reg m = ((dnF es m k).1 : Nat) := by
  obtain ⟨e0, he0⟩ : ∃ e0, es[m - 1 - k]? = some e0 := ⟨_, List.getElem?_eq_getElem (by omega)⟩
  unfold dnF at hw ⊢
  rw [he0] at hw
  refine makN_hit es reg (m - 1 - k) e0 he0 hw m (by omega) fun j e h1 h2 he => ?_
  have := h (dnF es m (m - 1 - j)) (List.mem_map.2 ⟨m - 1 - j, List.mem_range.2 (by omega), rfl⟩)
  unfold dnF at this
  rw [show m - 1 - (m - 1 - j) = j by omega, he] at this
  exact this
end Go.Proofs.YtfekknalchjkiaaDoor
