/- THE CONTRACT of Clean, of package mem. -/
import Derived.Test.YtkamljmopbocnaaDoorMemM
import Derived.Lib.BufferWrite
namespace Go.Proofs.YtkamljmopbocnaaDoor
open Go.ChangeShapes Go.WideShapes Go.ChangeAt Go.RowKit Go.Lib
set_option linter.unusedVariables false
set_option linter.unusedSimpArgs false

/-- how many bytes a memory of so many has -/
def clN (k : Nat) : Nat := if k ≤ 16 then 16 else if k ≤ 32 then 32 else if k ≤ 64 then 64 else if k ≤ 128 then 128 else 256
def clL (m : ByteArray) : List UInt8 := m.data.toList.take 256 ++ List.replicate (clN (min m.size 256) - min m.size 256) 0
def clS (m : ByteArray) : ByteArray := ⟨(clL m).toArray⟩
theorem clN_ge (k : Nat) (h : k ≤ 256) : k ≤ clN k := by unfold clN; split; omega; split; omega; split; omega; split <;> omega
theorem clN_of (k : Nat) : clN k = 16 ∨ clN k = 32 ∨ clN k = 64 ∨ clN k = 128 ∨ clN k = 256 := by unfold clN; split; simp; split; simp; split; simp; split <;> simp
theorem clN_exit (k s : Nat) (hk : k ≤ 256) (hs : s = 16 ∨ s = 32 ∨ s = 64 ∨ s = 128 ∨ s = 256) (h : s = 16 ∨ s < 2 * k) (he : k ≤ s) : clN k = s := by
  unfold clN
  split
  · omega
  · split
    · omega
    · split
      · omega
      · split <;> omega
theorem clL_len (m : ByteArray) : (clL m).length = clN (min m.size 256) := by
  have h1 := ba_len m
  have h2 := clN_ge (min m.size 256) (Nat.min_le_right _ _)
  unfold clL
  rw [List.length_append, List.length_take, List.length_replicate]
  omega
theorem clS_size (m : ByteArray) : (clS m).size = clN (min m.size 256) := clL_len m
theorem clS_get (m : ByteArray) (j : Nat) (hj : j < min m.size 256) : (clS m).data.toList[j]? = m.data.toList[j]? := by
  have h1 := ba_len m
  show (clL m)[j]? = _
  unfold clL
  rw [List.getElem?_append_left (by rw [List.length_take]; omega), List.getElem?_take, if_pos (by omega)]
theorem clS_pre (m : ByteArray) (k : Nat) (hk : k ≤ min m.size 256) : (clS m).extract 0 k = m.extract 0 k := by
  refine ba_ext fun j => ?_
  rw [ex_get, ex_get]
  by_cases c : 0 + j < k
  · rw [if_pos c, if_pos c, clS_get m (0 + j) (by omega)]
  · rw [if_neg c, if_neg c]
theorem clS_twice (m : ByteArray) : clS (clS m) = clS m := by
  have hs := clS_size m
  have hn := clN_of (min m.size 256)
  have hc : clN (min (clS m).size 256) = (clS m).size := by
    rw [hs]
    rcases hn with e | e | e | e | e <;> rw [e] <;> rfl
  have hm : min (clS m).size 256 = (clS m).size := by omega
  refine ba_ext fun j => ?_
  show (clL (clS m))[j]? = _
  unfold clL
  rw [hc, hm, Nat.sub_self, List.replicate_zero, List.append_nil, List.take_of_length_le (by rw [ba_len]; omega)]

theorem strCells_eq (b : ByteArray) : byteCells b.data.toList = (b.data.toList.map fun x : UInt8 => (x.toNat : Int)).map (Value.int .u8) := by simp [byteCells]

/-- a string that fits is copied over zeros -/
theorem copy_over {w : World} {B g s : Nat} (h : w.ownsRow B 5 1 (.slice (some ⟨g, 0, none⟩) s s) s ((List.replicate s (0 : Int)).map (Value.int .u8))) (t : ByteArray) (ht : t.size ≤ s) (ty : TypeId) :
    ∃ w1, (Builtin.copy_ #[35, 9] ty #[.slice (some ⟨g, 0, none⟩) s s, .string t]).run Tryd.prog w = .ok (goInt t.size) w1 ∧
      w1.ownsRow B 5 1 (.slice (some ⟨g, 0, none⟩) s s) s (((t.data.toList ++ List.replicate (s - t.size) 0).map fun x : UInt8 => (x.toNat : Int)).map (Value.int .u8)) ∧ w.grownBy w1 (some g) := by
  obtain ⟨i0, hi, hz0, hz1, hz2⟩ := info_parts info_byte
  have hl := ba_len t
  rcases h.2 with ⟨h0, _⟩ | ⟨g', cap, cur, hv, hb, hg, hnc, hcm, hcs, htk⟩
  · cases h0
  · injection hv with e1 e2 e3
    injection e1 with e1
    injection e1 with e1
    subst e1 e3
    have hcl : cur.toList.length = s := by simpa using hcs
    rw [Nat.mul_one, List.take_of_length_le (by omega)] at htk
    have hr := run_copy_row_string (P := Tryd.prog) w 35 9 ty 5 g 0 s s t cur 5 Tryd.underlying35 (by rw [hi]; simp [hz1]) hg ht (by rw [Nat.zero_add]; simpa using (show t.size ≤ cur.toList.length by omega))
    rw [Nat.zero_add, List.take_zero, List.nil_append, htk, strCells_eq, ← List.map_drop, List.drop_replicate] at hr
    have e : ((t.data.toList.map fun x : UInt8 => (x.toNat : Int)).map (Value.int .u8) ++ (List.replicate (s - t.size) (0 : Int)).map (Value.int .u8)) = ((t.data.toList ++ List.replicate (s - t.size) (0 : UInt8)).map fun x : UInt8 => (x.toNat : Int)).map (Value.int .u8) := by
      simp
    rw [e] at hr
    have hlen : (((t.data.toList ++ List.replicate (s - t.size) (0 : UInt8)).map fun x : UInt8 => (x.toNat : Int)).map (Value.int .u8)).length = s := by simp; omega
    generalize ((t.data.toList ++ List.replicate (s - t.size) (0 : UInt8)).map fun x : UInt8 => (x.toNat : Int)).map (Value.int .u8) = xs at *
    refine ⟨_, hr, ⟨by simpa using hlen, .inr ⟨g, s, _, rfl, hb, setRow_heap w g cur _ 5 _ hg, Nat.le_refl _, hcm, by simpa using hlen, by rw [Nat.mul_one]; exact List.take_of_length_le (Nat.le_of_eq hlen)⟩⟩, ⟨rfl, rfl, rfl, by simp, fun k _ hk => setRow_other w g k _ (fun e => hk (by rw [e]))⟩⟩
theorem strOfNums_nat' (l : List UInt8) : strOfNums (l.map fun x => (x.toNat : Int)) = ⟨l.toArray⟩ := strOfNums_nat l

set_option maxHeartbeats 1000000
set_option maxRecDepth 100000
theorem clean_any (m : ByteArray) (hm : m.size ≤ 1000) (w : World) : Calls Tryd.prog 29 #[.string m] w fun e w' => e = .returned (.string (clS m)) ∧ Below w.heap.size w w' := by
  obtain ⟨i0, hi, hz0, hz1, hz2⟩ := info_parts info_byte
  by_cases h : m.size ≤ 256
  · have h2 : (m.size : Int) ≤ 256 := by omega
    go_enter Tryd.func29, Tryd.ntmps29
    go_wp2
    go_loop [3] (fun i => ∃ s : Nat, (s = 16 ∨ s = 32 ∨ s = 64 ∨ s = 128 ∨ s = 256) ∧ (s = 16 ∨ s < 2 * m.size) ∧ i = .int .i64 s) (fun i => 600 - (intOf i).toNat)
    case atStart => exact ⟨16, Or.inl rfl, Or.inl rfl, rfl⟩
    case round =>
      obtain ⟨s, hs, hs2, rfl⟩ := hrel
      have HS := Lib.hid (And.intro hs hs2)
      by_cases hlt : s < m.size
      · clear hs hs2
        go_wp2
        go_round
        case rel => exact ⟨2 * s, by have := HS.out; omega, by have := HS.out; omega, by congr 1; omega⟩
        case measure => have := HS.out; simp [intOf]; omega
      · have hs3 : s ≤ 256 := by omega
        have hex := clN_exit m.size s (by omega) hs hs2 (by omega)
        have HX := Lib.hid hex
        clear hs hs2 hex
        have hsn : 600 ≥ s := by omega
        have hcl : (⟨(m.data.toList ++ List.replicate (s - m.size) (0 : UInt8)).toArray⟩ : ByteArray) = clS m := by
          unfold clS clL
          have h1 := ba_len m
          rw [Nat.min_eq_left h, HX.out, List.take_of_length_le (by omega)]
        have HC := Lib.hid hcl
        clear hcl
        go_wp2_with (at_make; refine wpList_make_full _ rfl _ _ 35 rfl w.heap.size 5 i0 (.int .u8 0) 1 Tryd.underlying35 hi hz0 hz1 .i64 .i64 _ _ s rfl rfl rfl rfl (by rw [hz2]; omega) (by unfold maxLen; omega) (Nat.le_refl _) ?_; intro w0 hown0 hgrow0)
        have hbel0 : Below w.heap.size w w0 := (Below.refl _ _).grown hgrow0 (Nat.le_refl _) (fun k hk => by cases hk)
        rw [show (madeCells (Value.int .u8 0).cells (s * 1)).toList = (List.replicate s (0 : Int)).map (Value.int .u8) by rw [Nat.mul_one]; simp [Value.cells, toList_madeCells_one]] at hown0
        clear hgrow0
        obtain ⟨w1, hrun, hown1, hgr1⟩ := copy_over hown0 m (by omega) 3
        have hbel1 := hbel0.grown hgr1 hbel0.size (fun k hk => by cases hk; exact Nat.le_refl _)
        have hconv := conv_bytes (by rw [List.length_map, List.length_append, List.length_replicate, ba_len]; omega) hown1
        rw [strOfNums_nat] at hconv
        clear hown0 hown1 hgr1
        rw [hrun]
        clear hrun
        go_wp2
        go_ret
        exact ⟨by rw [← HC.out]; rfl, hbel1⟩
  · have h2 : 256 < (m.size : Int) := by omega
    have hex : (m.extract 0 256).size = 256 := by rw [ex_size _ _ _ (by omega) (by omega)]
    have HE := Lib.hid hex
    have H' := Lib.hid h
    have hd : (m.extract 0 256).data.toList = m.data.toList.take 256 := by rw [ex_data]; rfl
    have HD := Lib.hid hd
    clear hex hd h
    go_enter Tryd.func29, Tryd.ntmps29
    go_wp2
    go_loop [3] (fun i => ∃ s : Nat, (s = 16 ∨ s = 32 ∨ s = 64 ∨ s = 128 ∨ s = 256) ∧ (s = 16 ∨ s < 2 * 256) ∧ i = .int .i64 s) (fun i => 600 - (intOf i).toNat)
    case atStart => exact ⟨16, Or.inl rfl, Or.inl rfl, rfl⟩
    case round =>
      obtain ⟨s, hs, hs2, rfl⟩ := hrel
      have HS := Lib.hid (And.intro hs hs2)
      by_cases hlt : s < 256
      · clear hs hs2
        go_wp2
        go_round
        case rel => exact ⟨2 * s, by have := HS.out; omega, by have := HS.out; omega, by congr 1; omega⟩
        case measure => have := HS.out; simp [intOf]; omega
      · have hs3 : s ≤ 256 := by omega
        have hex := clN_exit 256 s (by omega) hs hs2 (by omega)
        have HX := Lib.hid hex
        clear hs hs2 hex
        have hsn : 600 ≥ s := by omega
        have hcl : (⟨((m.extract 0 256).data.toList ++ List.replicate (s - 256) (0 : UInt8)).toArray⟩ : ByteArray) = clS m := by
          unfold clS clL
          have h1 := ba_len m
          rw [Nat.min_eq_right (by omega), HX.out, HD.out]
        have HC := Lib.hid hcl
        clear hcl
        go_wp2_with (at_make; refine wpList_make_full _ rfl _ _ 35 rfl w.heap.size 5 i0 (.int .u8 0) 1 Tryd.underlying35 hi hz0 hz1 .i64 .i64 _ _ s rfl rfl rfl rfl (by rw [hz2]; omega) (by unfold maxLen; omega) (Nat.le_refl _) ?_; intro w0 hown0 hgrow0)
        have hbel0 : Below w.heap.size w w0 := (Below.refl _ _).grown hgrow0 (Nat.le_refl _) (fun k hk => by cases hk)
        rw [show (madeCells (Value.int .u8 0).cells (s * 1)).toList = (List.replicate s (0 : Int)).map (Value.int .u8) by rw [Nat.mul_one]; simp [Value.cells, toList_madeCells_one]] at hown0
        clear hgrow0
        obtain ⟨w1, hrun, hown1, hgr1⟩ := copy_over hown0 (m.extract 0 256) (by rw [HE.out]; omega) 3
        have hbel1 := hbel0.grown hgr1 hbel0.size (fun k hk => by cases hk; exact Nat.le_refl _)
        have hconv := conv_bytes (by rw [List.length_map, List.length_append, List.length_replicate, ba_len, HE.out]; omega) hown1
        rw [strOfNums_nat] at hconv
        clear hown0 hown1 hgr1
        rw [hrun]
        clear hrun
        go_wp2
        go_ret
        exact ⟨by show Ending.returned (Value.string ⟨(m.data.toList.take 256 ++ List.replicate (s - min 256 m.size) 0).toArray⟩) = _; rw [← HC.out, HD.out, show min 256 m.size = 256 by omega], hbel1⟩

end Go.Proofs.YtkamljmopbocnaaDoor
