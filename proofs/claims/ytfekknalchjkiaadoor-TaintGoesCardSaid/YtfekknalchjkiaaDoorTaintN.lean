/- ENTRIES OF WHICH MORE ARE KNOWN; ONE MORE ENTRY: the mathematics of fronts, roots and what may. -/
import Derived.Test.YtfekknalchjkiaaDoorGate
namespace Go.Proofs.YtfekknalchjkiaaDoor
set_option linter.unusedVariables false
set_option linter.unusedSimpArgs false

/-- the same entries, of which more may be known -/
def Rel (es fs : List En) : Prop := fs.length = es.length ∧ ∀ (j : Nat) e e', es[j]? = some e → fs[j]? = some e' → e' = e ∨ e' = { e with known := true }
theorem Rel.refl (es : List En) : Rel es es := ⟨rfl, fun j e e' h h' => Or.inl (by rw [h] at h'; exact (Option.some.inj h').symm)⟩
theorem Rel.set {es fs : List En} (h : Rel es fs) {k : Nat} {e : En} (hk : fs[k]? = some e) : Rel es (fs.set k { e with known := true }) := by
  refine ⟨by rw [List.length_set]; exact h.1, fun j a b ha hb => ?_⟩
  rw [List.getElem?_set] at hb
  by_cases hj : k = j
  · subst hj
    rw [if_pos rfl] at hb
    have hlt := (List.getElem?_eq_some_iff.1 hk).1
    rw [if_pos hlt] at hb
    have hb' := Option.some.inj hb
    subst hb'
    rcases h.2 k a e ha hk with rfl | rfl
    · exact Or.inr rfl
    · exact Or.inr rfl
  · rw [if_neg hj] at hb
    exact h.2 j a b ha hb
theorem Rel.at_ {es fs : List En} (h : Rel es fs) {k : Nat} {e : En} (hk : es[k]? = some e) : ∃ e', fs[k]? = some e' ∧ (e' = e ∨ e' = { e with known := true }) := by
  have hl := (List.getElem?_eq_some_iff.1 hk).1
  obtain ⟨e', he'⟩ : ∃ e', fs[k]? = some e' := ⟨_, List.getElem?_eq_getElem (by rw [h.1]; exact hl)⟩
  exact ⟨e', he', h.2 k e e' hk he'⟩
theorem Rel.same {e e' : En} (h : e' = e ∨ e' = { e with known := true }) : e'.op = e.op ∧ e'.rd = e.rd ∧ e'.rs1 = e.rs1 ∧ e'.rs2 = e.rs2 := by
  rcases h with rfl | rfl <;> exact ⟨rfl, rfl, rfl, rfl⟩
theorem Rel.safe {e e' : En} (h : e' = e ∨ e' = { e with known := true }) (hs : safeB e = true) : safeB e' = true := by
  rcases h with rfl | rfl
  · exact hs
  · unfold safeB at hs ⊢
    simp only at hs ⊢
    split at hs
    · cases hs
    · rename_i h1
      rw [if_neg h1]
      split at hs
      · cases hs
      · rename_i h2
        rw [if_neg h2]
        split <;> rfl
theorem Rel.front {es fs : List En} (h : Rel es fs) : frontN es ≤ frontN fs := by
  have h1 := front_le fs
  by_cases hl : frontN fs < es.length
  · refine Nat.le_of_not_lt fun hlt => ?_
    obtain ⟨e, he⟩ : ∃ e, es[frontN fs]? = some e := ⟨_, List.getElem?_eq_getElem hl⟩
    obtain ⟨e', he', hr⟩ := h.at_ he
    have h2 := front_not he' rfl
    have h3 := Rel.safe hr (front_before he hlt)
    rw [h2] at h3
    cases h3
  · have := front_le es
    omega
theorem Rel.mak {es fs : List En} (h : Rel es fs) (reg : Int) : ∀ k, makN fs reg k = makN es reg k
  | 0 => rfl
  | k + 1 => by
    unfold makN
    cases he : es[k]? with
    | none =>
      have hl := List.getElem?_eq_none_iff.1 he
      have : fs[k]? = none := List.getElem?_eq_none (by rw [h.1]; exact hl)
      rw [this]
      exact Rel.mak h reg k
    | some e =>
      obtain ⟨e', he', hr⟩ := h.at_ he
      obtain ⟨s1, s2, -, -⟩ := Rel.same hr
      rw [he']
      simp only [s1, s2]
      rw [Rel.mak h reg k]
theorem Rel.makI {es fs : List En} (h : Rel es fs) (i reg : Int) : makI fs i reg = makI es i reg := by
  unfold Go.Proofs.YtfekknalchjkiaaDoor.makI
  rw [h.1, Rel.mak h]
/-- no root comes to be -/
theorem Rel.roots {es fs : List En} (h : Rel es fs) : ∀ k, k ≤ es.length → ∀ (j : Nat) a b, (rootsN es (frontN es) k)[j]? = some a → (rootsN fs (frontN fs) k)[j]? = some b → 0 ≤ b → 0 ≤ a
  | 0, _, j, a, b, ha, _, _ => by simp [rootsN] at ha
  | k + 1, hk, j, a, b, ha, hb, h0 => by
    obtain ⟨e, he⟩ : ∃ e, es[k]? = some e := ⟨_, List.getElem?_eq_getElem (by omega)⟩
    obtain ⟨e', he', hr⟩ := h.at_ he
    have ih := Rel.roots h k (by omega)
    rw [rootsN_at he] at ha
    rw [rootsN_at he'] at hb
    by_cases hj : j < k
    · rw [List.getElem?_append_left (by rw [rootsN_len]; exact hj)] at ha hb
      exact ih j a b ha hb h0
    · have hl := (List.getElem?_eq_some_iff.1 ha).1
      simp [rootsN_len] at hl
      obtain rfl : j = k := by omega
      rw [List.getElem?_append_right (by rw [rootsN_len]; exact Nat.le_refl _), rootsN_len, Nat.sub_self] at ha hb
      have ha' : rootAt es (frontN es) (rootsN es (frontN es) j) j e = a := by simpa using ha
      have hb' : rootAt fs (frontN fs) (rootsN fs (frontN fs) j) j e' = b := by simpa using hb
      subst ha' hb'
      obtain ⟨s1, s2, s3, s4⟩ := Rel.same hr
      have hf := h.front
      have hrof : ∀ m : Int, m < j → 0 ≤ rof (rootsN fs (frontN fs) j) m → 0 ≤ rof (rootsN es (frontN es) j) m := fun m hm hb0 => by
        unfold rof at hb0 ⊢
        by_cases h1 : m < 0
        · rw [if_pos h1] at hb0; omega
        · rw [if_neg h1] at hb0 ⊢
          obtain ⟨x, hx⟩ : ∃ x, (rootsN es (frontN es) j)[m.toNat]? = some x := ⟨_, List.getElem?_eq_getElem (by rw [rootsN_len]; omega)⟩
          obtain ⟨y, hy⟩ : ∃ y, (rootsN fs (frontN fs) j)[m.toNat]? = some y := ⟨_, List.getElem?_eq_getElem (by rw [rootsN_len]; omega)⟩
          rw [hy] at hb0
          rw [hx]
          exact ih m.toNat x y hx hy hb0
      unfold rootAt at h0 ⊢
      rw [s1, s3, s4] at h0
      by_cases hk3 : kindI e.op = 3
      · rw [if_pos hk3] at h0 ⊢
        by_cases hfj : frontN fs < j
        · rw [if_pos (by omega)]; omega
        · rw [if_neg hfj] at h0; omega
      · rw [if_neg hk3] at h0 ⊢
        rw [h.makI, h.makI] at h0
        have m1 := makI_lt es j e.rs1 (by omega)
        have m2 := makI_lt es j e.rs2 (by omega)
        have r1 := hrof _ m1
        have r2 := hrof _ m2
        omega
theorem Rel.rootI {es fs : List En} (h : Rel es fs) {k : Nat} (hk : k < es.length) (h0 : 0 ≤ rootI fs k) : 0 ≤ rootI es k := by
  obtain ⟨x, hx⟩ : ∃ x, (rootsL es)[k]? = some x := ⟨_, List.getElem?_eq_getElem (by rw [rootsL_len]; exact hk)⟩
  obtain ⟨y, hy⟩ : ∃ y, (rootsL fs)[k]? = some y := ⟨_, List.getElem?_eq_getElem (by rw [rootsL_len, h.1]; exact hk)⟩
  unfold Go.Proofs.YtfekknalchjkiaaDoor.rootI at h0 ⊢
  rw [hy] at h0
  rw [hx]
  unfold rootsL at hx hy
  rw [h.1] at hy
  exact Rel.roots h es.length (Nat.le_refl _) k x y hx hy h0
theorem Rel.taint {es fs : List En} (h : Rel es fs) (i reg : Int) (ht : taintB fs i reg = true) : taintB es i reg = true := by
  have h1 := of_decide_eq_true ht
  rw [h.makI] at h1
  have h2 := makI_range es i reg
  exact decide_eq_true ⟨h1.1, h.rootI (by omega) h1.2⟩
theorem Rel.may {es fs : List En} (h : Rel es fs) (mode i : Int) (hm : mayB mode es i = true) : mayB mode fs i = true := by
  unfold mayB at hm ⊢
  rw [h.1]
  by_cases hi : i < 0 ∨ (es.length : Int) ≤ i
  · rw [if_pos hi] at hm; cases hm
  · rw [if_neg hi] at hm ⊢
    obtain ⟨e, he⟩ : ∃ e, es[i.toNat]? = some e := ⟨_, List.getElem?_eq_getElem (by omega)⟩
    obtain ⟨e', he', hr⟩ := h.at_ he
    obtain ⟨s1, s2, s3, s4⟩ := Rel.same hr
    rw [he] at hm
    rw [he']
    simp only at hm ⊢
    have ht : tellB e' = tellB e := by unfold tellB; rw [s1]
    have hn : needL e' = needL e := by unfold needL; rw [s1, s3, s4]
    rw [ht, hn]
    by_cases q : tellB e = false
    · rw [if_pos q]
    · rw [if_neg q] at hm ⊢
      by_cases m0 : mode = 0
      · rw [if_pos m0]
      · rw [if_neg m0] at hm ⊢
        by_cases m1 : mode = 1
        · rw [if_pos m1] at hm ⊢
          cases hx : (needL e).any (taintB fs i)
          · rfl
          · obtain ⟨x, hx1, hx2⟩ := List.any_eq_true.1 hx
            have : (needL e).any (taintB es i) = true := List.any_eq_true.2 ⟨x, hx1, h.taint i x hx2⟩
            rw [this] at hm
            cases hm
        · rw [if_neg m1] at hm ⊢
          by_cases m2 : mode = 2
          · rw [if_pos m2] at hm ⊢
            have h1 := of_decide_eq_true hm
            have h2 := h.front
            exact decide_eq_true (by omega)
          · rw [if_neg m2] at hm; cases hm
/-- what may in a mode -/
theorem may_off {es : List En} {i : Nat} (hi : i < es.length) : mayB 0 es i = true := by
  unfold mayB
  obtain ⟨e, he⟩ : ∃ e, es[i]? = some e := ⟨_, List.getElem?_eq_getElem hi⟩
  rw [if_neg (by omega), Int.toNat_natCast, he]
  simp
theorem may_out (mode : Int) (es : List En) : mayB mode es es.length = false := by
  unfold mayB
  rw [if_pos (by omega)]
theorem may_strict {es : List En} {i : Nat} (hi : i < es.length) (h : mayB 2 es i = true) : mayB 1 es i = true := by
  unfold mayB at h ⊢
  obtain ⟨e, he⟩ : ∃ e, es[i]? = some e := ⟨_, List.getElem?_eq_getElem hi⟩
  rw [if_neg (by omega), Int.toNat_natCast, he] at h ⊢
  simp only at h ⊢
  by_cases q : tellB e = false
  · rw [if_pos q]
  · rw [if_neg q] at h ⊢
    have h1 : (i : Int) ≤ frontN es := by simpa using h
    suffices hx : (needL e).any (taintB es (i : Int)) = false by simp [hx]
    cases hx : (needL e).any (taintB es (i : Int))
    · rfl
    · obtain ⟨x, hx1, hx2⟩ := List.any_eq_true.1 hx
      rw [taint_seen es i x (by omega) (by omega)] at hx2
      cases hx2
theorem may_first (es : List En) (h : 0 < es.length) : mayB 2 es 0 = true := by
  unfold mayB
  obtain ⟨e, he⟩ : ∃ e, es[0]? = some e := ⟨_, List.getElem?_eq_getElem h⟩
  rw [if_neg (by omega)]
  show (match es[0]? with | none => false | some e => _) = true
  rw [he]
  simp
end Go.Proofs.YtfekknalchjkiaaDoor
