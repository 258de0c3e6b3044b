/- THE CONTRACT of Write, of package mem. -/
import Derived.Test.YtkamljmopbocnaaDoorMem
import Derived.Lib.AppendZeros
namespace Go.Proofs.YtkamljmopbocnaaDoor
open Go.ChangeShapes Go.WideShapes Go.ChangeAt Go.RowKit Go.Lib
set_option maxRecDepth 100000
set_option linter.unusedVariables false

/-- the bytes behind a write -/
def wrL (m b : ByteArray) (A : Nat) : List UInt8 := m.data.toList.take A ++ b.data.toList ++ m.data.toList.drop (A + b.size)
def wrS (m b : ByteArray) (A : Nat) : ByteArray := ⟨(wrL m b A).toArray⟩
theorem grow_below {w w' : World} (h : w.grownBy w' none) : Below w.heap.size w w' := (Below.refl _ _).grown h (Nat.le_refl _) (fun k hk => by cases hk)

/-- a string's bytes as a slice -/
theorem conv_str (w : World) (m : ByteArray) (hm : m.size ≤ maxLen) :
    ∃ cap w1, (convert 9 35 (.string m)).run Tryd.prog w = .ok (.slice (some ⟨w.heap.size, 0, none⟩) m.size cap) w1 ∧ m.size ≤ cap ∧ cap ≤ maxLen ∧ w1.heap.size = w.heap.size + 1 ∧ Below w.heap.size w w1 ∧
      ∀ j, j < m.size → w1.cell? ⟨w.heap.size, j, none⟩ = some (.int .u8 (m.data.toList.getD j 0).toNat) := by
  refine ⟨_, _, Go.Lib.run_convert_string_bytes w 9 35 5 m Tryd.underlying9 Tryd.underlying35 Tryd.underlying5, grownCap_ge _ _ _ _, grownCap_le_maxLen _ _ _ _ hm, bytesWorld_size _ _ _, ?_, fun j hj => bytesWorld_cell _ _ _ j hj⟩
  exact grow_below ⟨rfl, rfl, rfl, by rw [bytesWorld_size]; omega, fun k hk _ => bytesWorld_at_old _ _ _ k hk⟩

/-- bytes behind a beginning without room -/
theorem app_cut (w : World) (B n : Nat) (b : ByteArray) (m : ByteArray) (hn : n ≤ m.size) (hb : 0 < b.size) (hs : m.size ≤ 1000000) (hbs : b.size ≤ 1000000)
    (hc : ∀ j, j < m.size → w.cell? ⟨B, j, none⟩ = some (.int .u8 (m.data.toList.getD j 0).toNat)) (ty : TypeId) :
    ∃ v w1, (Builtin.append_ #[35, 9] ty #[.slice (some ⟨B, 0, none⟩) n n, .string b]).run Tryd.prog w = .ok v w1 ∧
      w1.ownsRow w.heap.size 5 1 v (n + b.size) ((m.data.toList.take n ++ b.data.toList).map fun x => Value.int .u8 x.toNat) ∧ Below w.heap.size w w1 ∧ w.heap.size ≤ w1.heap.size ∧ (v = .slice none 0 0 → False) := by
  obtain ⟨i0, hi, hz0, hz1, hz2⟩ := info_parts info_byte
  have hll : m.data.toList.length = m.size := rfl
  have hbl : b.data.toList.length = b.size := rfl
  have hol : ((m.data.toList.take n).map fun x : UInt8 => Value.int .u8 x.toNat).length = n * i0.size := by rw [hz1]; simp; omega
  have hr := run_append_grow_string (P := Tryd.prog) (w := w) 35 9 ty 5 i0 (.int .u8 0) Tryd.underlying35 Tryd.underlying9 hi hz0 ⟨B, 0, none⟩ n n ((m.data.toList.take n).map fun x => Value.int .u8 x.toNat) hol (fun j v hj => by
      have hadd : (⟨B, 0, none⟩ : Addr).add j = ⟨B, j, none⟩ := by unfold Addr.add; split <;> simp_all
      rw [List.getElem?_map, List.getElem?_take] at hj
      by_cases hjn : j < n
      · rw [if_pos hjn, List.getElem?_eq_getElem (by omega)] at hj
        rw [hadd, hc j (by omega), ← hj]
        simp [List.getD, List.getElem?_eq_getElem (show j < m.data.toList.length by omega)]
      · rw [if_neg hjn] at hj
        cases hj) b (by omega) (by omega) (by rw [hz2]; exact growslice_fits (by omega) (by omega))
  have hge := grownCap_ge w (n + b.size) n 5
  have hcm : grownCap w (n + b.size) n 5 ≤ maxLen := grownCap_le_maxLen w (n + b.size) n 5 (by unfold maxLen; omega)
  generalize grownCap w (n + b.size) n 5 = cap at *
  refine ⟨_, _, hr, ⟨by simp; omega, .inr ⟨w.heap.size, _, _, rfl, Nat.le_refl _, heap_alloc_new w.drew _, hge, hcm, ?_, ?_⟩⟩, grow_below ⟨rfl, rfl, rfl, by simp, fun k hk _ => heap_alloc_old w.drew _ hk⟩, by simp, fun h => by cases h⟩
  · have hz1 : (Value.int IntKind.u8 0).cells.size = 1 := rfl
    simp only [Array.size_append, List.size_toArray, size_zeroCells, hz1, strCells_length]
    simp
    omega
  · simp only [Array.toList_append, List.append_assoc]
    have e : strCells b = b.data.toList.map fun x : UInt8 => Value.int .u8 x.toNat := by simp [strCells]
    rw [e, ← List.append_assoc, ← List.map_append]
    exact List.take_left' (by simp; omega)

set_option maxHeartbeats 1000000
theorem strOfNums_nat (l : List UInt8) : strOfNums (l.map fun x => (x.toNat : Int)) = ⟨l.toArray⟩ := by
  unfold strOfNums
  rw [List.map_map]
  congr 2
  conv => rhs; rw [← List.map_id l]
  apply List.map_congr_left
  intro x _
  simp
theorem map_u8 (xs : List UInt8) : (xs.map fun x : UInt8 => Value.int .u8 x.toNat) = (xs.map fun x => (x.toNat : Int)).map (Value.int .u8) := by simp
theorem write_any (m : ByteArray) (addr : Int) (b : ByteArray) (s1 : m.size ≤ 1000) (s2 : b.size ≤ 1000) (h0 : 0 ≤ addr) (h1 : addr < 4294967296) (w : World) :
    Calls Tryd.prog 110 #[.string m, .int .u32 addr, .string b] w fun e w' => e = .returned (.tuple #[.string (if rtB m.size addr b.size then wrS m b addr.toNat else ByteArray.empty), .int .i64 (if rtB m.size addr b.size then 0 else 1)]) ∧ Below w.heap.size w w' := by
  have HR := Lib.hid (right_any m.size addr b.size (by omega) (by unfold maxLen; omega) h0 h1 w)
  cases hr : rtB m.size addr b.size
  · go_enter Tryd.func110, Tryd.ntmps110
    rw [hr] at HR
    clear hr
    go_wp2_with fail
    refine HR.out.mono ?_
    rintro e w1 ⟨rfl, rfl⟩
    go_wp2
    go_ret2
    exact ⟨rfl, Below.refl _ _⟩
  · obtain ⟨f1, f2, f3⟩ := rtB_facts hr
    rw [hr] at HR
    have g1 : 1 ≤ b.size := by omega
    have g2 : b.size ≤ 4 := by omega
    clear hr f1 f2
    have f4 : addr.toNat + b.size ≤ m.size := by omega
    have f5 : addr ≤ m.size := by omega
    have f6 : m.size ≤ 1000 := s1
    obtain ⟨cap, w1, hconv, hc1, hc2, hsz, hbel, hcell⟩ := conv_str w m (by unfold maxLen; omega)
    obtain ⟨v2, w2, happ, hown2, hbel2, hsz2, hv2⟩ := app_cut w1 w.heap.size addr.toNat b m (by omega) (by omega) (by omega) (by omega) hcell 35
    obtain ⟨i0, hi, hz0, hz1, hz2⟩ := info_parts info_byte
    have Hcell := Lib.hid (show ∀ j, j < m.size → w2.cell? ⟨w.heap.size, j, none⟩ = some (.int .u8 (m.data.toList.getD j 0).toNat) from fun j hj => (hbel2.cell (p := ⟨w.heap.size, j, none⟩) (by rw [hsz]; exact Nat.lt_succ_self _)).trans (hcell j hj))
    have Hn := Lib.hid (show ∀ (ad : Addr), (∀ j, j < m.size - (addr + b.size).toNat → ad.add j = ⟨w.heap.size, (addr + b.size).toNat + j, none⟩) → ∀ (j : Nat) u, ((m.data.toList.drop (addr + b.size).toNat).map fun x : UInt8 => Value.int .u8 x.toNat)[j]? = some u → w2.cell? (ad.add j) = some u from fun ad had j u hu => by
      have hll : m.data.toList.length = m.size := rfl
      rw [List.getElem?_map, List.getElem?_drop] at hu
      by_cases hj : (addr + b.size).toNat + j < m.size
      · rw [had j (by omega), Hcell.out _ hj]
        rw [List.getElem?_eq_getElem (by omega)] at hu
        rw [← hu]
        simp [List.getD, List.getElem?_eq_getElem (show (addr + b.size).toNat + j < m.data.toList.length by omega)]
      · rw [List.getElem?_eq_none (by omega)] at hu
        cases hu)
    have hone : ∀ u ∈ (m.data.toList.drop (addr + b.size).toNat).map (fun x : UInt8 => Value.int .u8 x.toNat), u.oneCell' = true := by
      intro u hu
      obtain ⟨x, _, rfl⟩ := List.mem_map.1 hu
      rfl
    have Hone := Lib.hid hone
    have hnl : ((m.data.toList.drop (addr + b.size).toNat).map (fun x : UInt8 => Value.int .u8 x.toNat)).length = (m.size - (addr + b.size).toNat) * 1 := by
      simp
    have Hnl := Lib.hid hnl
    have Hsz := Lib.hid hsz
    have hbel' : Below w.heap.size w w2 := hbel.trans (hbel2.mono (by omega))
    clear hcell hsz hv2 hone hnl hbel hbel2
    by_cases hcap : cap = (addr + b.size).toNat
    · subst hcap
      have hwr : wrL m b addr.toNat = m.data.toList.take addr.toNat ++ b.data.toList := by
        unfold wrL
        rw [List.drop_eq_nil_of_le (by have : m.data.toList.length = m.size := rfl; omega), List.append_nil]
      have Hwr := Lib.hid hwr
      clear hwr
      go_enter Tryd.func110, Tryd.ntmps110
      go_wp2_with fail
      refine HR.out.mono ?_
      rintro e w1 ⟨rfl, rfl⟩
      go_wp2_with (first | (at_builtin; refine Lib.wpList_append_run _ rfl (.tmp 25) (.tmp 26) _ _ rfl _ _ rfl rfl _ _ happ ?_) | (at_builtin; refine wpList_append_own _ rfl (.tmp 28) (.tmp 34) 35 rfl w1.heap.size 5 i0 (.int .u8 0) 1 1 Tryd.underlying35 hi hz0 hz1 hz2 rfl (by decide) _ _ _ rfl hown2 ⟨w.heap.size, 0, none⟩ 0 _ [] rfl rfl (by intro j u hj; simp at hj) (by intro u hu; cases hu) (by unfold maxLen; omega) (by omega) (by have := Hsz.out; omega) ?_; intro v3 w3 hown3 hgrow3 _))
      have hbel3 := hbel'.grown hgrow3 (by have := Hsz.out; omega) (fun k hk => by have := hown2.lt k hk; have := Hsz.out; omega)
      rw [List.append_nil, map_u8] at hown3
      have hconv3 := conv_bytes (by simp; have : m.data.toList.length = m.size := rfl; have : b.data.toList.length = b.size := rfl; omega) hown3
      rw [strOfNums_nat] at hconv3
      clear hgrow3 hown3 hown2
      rw [hconv3]
      clear hconv3
      go_wp2
      go_ret2
      exact ⟨by unfold wrS; rw [Hwr.out]; rfl, hbel3⟩
    · have hcap' : (addr + b.size).toNat < cap := by omega
      have hne : ¬ cap = (addr + b.size).toNat := hcap
      have Hwr := Lib.hid (show wrL m b addr.toNat = m.data.toList.take addr.toNat ++ b.data.toList ++ m.data.toList.drop (addr + b.size).toNat by
        unfold wrL
        rw [show addr.toNat + b.size = (addr + b.size).toNat by omega])
      clear hcap hcap'
      go_enter Tryd.func110, Tryd.ntmps110
      go_wp2_with fail
      refine HR.out.mono ?_
      rintro e w1 ⟨rfl, rfl⟩
      go_wp2_with (first | (at_builtin; refine Lib.wpList_append_run _ rfl (.tmp 25) (.tmp 26) _ _ rfl _ _ rfl rfl _ _ happ ?_) | (at_builtin; refine wpList_append_own _ rfl (.tmp 28) (.tmp 34) 35 rfl w1.heap.size 5 i0 (.int .u8 0) 1 1 Tryd.underlying35 hi hz0 hz1 hz2 rfl (by decide) _ _ _ rfl hown2 ⟨w.heap.size, (addr + b.size).toNat, none⟩ _ _ _ rfl Hnl.out (Hn.out _ (fun j hj => by unfold Addr.add; split <;> simp_all)) Hone.out (by unfold maxLen; omega) (by omega) (by have := Hsz.out; omega) ?_; intro v3 w3 hown3 hgrow3 _))
      have hbel3 := hbel'.grown hgrow3 (by have := Hsz.out; omega) (fun k hk => by have := hown2.lt k hk; have := Hsz.out; omega)
      rw [← List.map_append, map_u8] at hown3
      have hconv3 := conv_bytes (by simp; have : m.data.toList.length = m.size := rfl; have : b.data.toList.length = b.size := rfl; omega) hown3
      rw [strOfNums_nat] at hconv3
      clear hgrow3 hown3 hown2
      rw [hconv3]
      clear hconv3
      go_wp2
      go_ret2
      exact ⟨by unfold wrS; rw [Hwr.out, List.append_assoc]; rfl, hbel3⟩

end Go.Proofs.YtkamljmopbocnaaDoor
