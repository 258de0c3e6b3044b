/- THE CONTRACTS of retire.Stored, of auspexref20's Stored, of alive. -/
import Derived.Test.YtjhkebabbldfcaaRetireA
import Derived.Test.YtjhkebabbldfcaaWordB
namespace Go.Proofs.Ytjhkebabbldfcaa
open Go.ChangeShapes Go.WideShapes Go.ChangeAt Go.RowKit
set_option linter.unusedVariables false
set_option linter.unusedSimpArgs false
set_option maxHeartbeats 2000000
set_option maxRecDepth 100000

theorem applyL_len (zs : List Int) (s : St) : (applyL zs s).length = zs.length := by unfold applyL; split <;> simp
theorem alive20_any (w : World) : Calls Try.prog 21 #[] w fun e w' => e = .returned (.bool true) ∧ Below w.heap.size w w' := by
  have HA := Lib.hid (apply_any (List.replicate 32 0) ⟨0, 0, 1, 5, 0, 0, false, 0, 0⟩ (by simp))
  have hc : (regL (applyL (List.replicate 32 0) ⟨0, 0, 1, 5, 0, 0, false, 0, 0⟩))[1]? = some (.int .u32 5) := rfl
  have hl : (applyL (List.replicate 32 0) ⟨0, 0, 1, 5, 0, 0, false, 0, 0⟩).length = 32 := by rw [applyL_len]; simp
  have HC := Lib.hid hc
  obtain ⟨X, hX⟩ : ∃ X, X = applyL (List.replicate 32 0) ⟨0, 0, 1, 5, 0, 0, false, 0, 0⟩ := ⟨_, rfl⟩
  rw [← hX] at HA HC hl
  have hl2 : (regL X).toArray.size = 32 := by rw [List.size_toArray, regL, List.length_map, hl]
  have HI := Lib.hid (show (Try.prog.info? 43).map (·.size) = some (regL X).toArray.size by rw [hl2]; exact regs_info)
  have HZ := Lib.hid (show z32.toArray.size = (regL X).toArray.size by rw [hl2]; rfl)
  clear hc hl hX hl2
  go_enter Try.func21, Try.ntmps21
  go_wp2_with fail
  go_at_call 22
  refine (HA.out _).mono ?_
  rintro e w1 ⟨rfl, hb1⟩
  unfold regV
  have HB1 := Lib.hid hb1
  clear hb1
  go_wp2_with (refine wpList_store_fresh_at rfl 43 (.tmp 1) (.tmp 4) rfl w1.heap.size rfl _ (regL X).toArray _ rfl rfl HZ.out HI.out (regL_one X) ?_; intro W4 hb4 hB4 hs4; have c1 := hB4.2.1 1 _ HC.out; have HB4 := Lib.hid hb4; clear hb4 hB4)
  go_ret
  exact ⟨rfl, HB1.out.trans (HB4.out.mono HB1.out.size)⟩

/-- which bytes a step stores -/
def storedB (s : St) : Bool := s.store && decide (s.halt = 0) && (decide (s.size = 1) || decide (s.size = 2) || decide (s.size = 4))
def storedV (s : St) : Value := .tuple #[.agg #[.int .u32 (if storedB s then s.addr else 0), .string (if storedB s then strOfNums (bytL s.value s.size.toNat) else ⟨#[]⟩)], .bool (storedB s)]
theorem bytes_of (a n : Int) (ha : 0 ≤ a) (ha' : a < 4294967296) (h0 : 0 ≤ n) (h1 : n ≤ 4) (w : World) :
    Calls Try.prog 27 #[.int .u32 a, .int .i64 n] w fun e w' => e = .returned (.tuple #[.string (strOfNums (bytL a n.toNat)), .int .i64 0]) ∧ Below w.heap.size w w' := by
  have := bytes_any a n ha ha' w
  rw [if_pos ⟨h0, h1⟩, if_pos ⟨h0, h1⟩] at this
  exact this
theorem refBytes_of (a n : Int) (ha : 0 ≤ a) (h0 : 0 ≤ n) (h1 : n ≤ 4) (w : World) :
    Calls Try.prog 28 #[.int .u32 a, .int .i64 n] w fun e w' => e = .returned (.tuple #[.string (strOfNums (bytL a n.toNat)), .int .i64 0]) ∧ Below w.heap.size w w' := by
  have := refBytes_any a n ha w
  rw [if_pos ⟨h0, h1⟩, if_pos ⟨h0, h1⟩] at this
  exact this
theorem stored_any (s : St) (hv0 : 0 ≤ s.value) (hv1 : s.value < 4294967296) (w : World) : Calls Try.prog 19 #[stV s] w fun e w' => e = .returned (storedV s) ∧ Below w.heap.size w w' := by
  obtain ⟨pc, next, rd, value, addr, size, store, halt, took⟩ := s
  have hv : storedV ⟨pc, next, rd, value, addr, size, store, halt, took⟩ = .tuple #[.agg #[.int .u32 (if (store && decide (halt = 0) && (decide (size = 1) || decide (size = 2) || decide (size = 4))) then addr else 0), .string (if (store && decide (halt = 0) && (decide (size = 1) || decide (size = 2) || decide (size = 4))) then strOfNums (bytL value size.toNat) else ⟨#[]⟩)], .bool (store && decide (halt = 0) && (decide (size = 1) || decide (size = 2) || decide (size = 4)))] := rfl
  simp only at hv0 hv1
  unfold stV
  cases store
  · simp only [Bool.false_and, Bool.false_eq_true, if_false] at hv
    have HV := Lib.hid hv
    clear hv
    go_enter Try.func19, Try.ntmps19
    go_wp2
    refine bodyPost_ret (v := .tuple #[.agg #[.int .u32 0, .string ⟨#[]⟩], .bool false]) (by simp [results, Try.results19, go_sem]) rfl ⟨by rw [HV.out], ?_⟩
    repeat (first | exact Below.refl _ _ | refine Below.alloc ?_ (by first | (simp; done) | (simp; omega)) _)
  · by_cases h0 : halt = 0
    · subst h0
      by_cases h1 : size = 1
      · subst h1
        simp only [decide_true, Bool.and_self, Bool.true_or, if_true] at hv
        have HV := Lib.hid hv
        clear hv
        go_enter Try.func19, Try.ntmps19
        go_wp2_with (first
          | (go_at_call 27; refine (bytes_of value 1 (by omega) (by omega) (by omega) (by omega) _).mono ?_; rintro e w1 ⟨rfl, hb1⟩; obtain ⟨D, hD⟩ : ∃ D, strOfNums (bytL value (1 : Int).toNat) = D := ⟨_, rfl⟩; rw [hD]; have HD := Lib.hid hD; have hs1 := hb1.size; simp at hs1; have c0 := (hb1.cell (p := ⟨w.heap.size, 4, none⟩) (by first | (simp; done) | (simp; omega))); have f0 := (hb1.frozen (p := ⟨w.heap.size + 1, 0, none⟩) (by first | (simp; done) | (simp; omega))); have f1 := (hb1.frozen (p := ⟨w.heap.size + 1, 1, none⟩) (by first | (simp; done) | (simp; omega))); have x0 := (hb1.cell (p := ⟨w.heap.size + 1, 0, none⟩) (by first | (simp; done) | (simp; omega))); have x1 := (hb1.cell (p := ⟨w.heap.size + 1, 1, none⟩) (by first | (simp; done) | (simp; omega))); simp [go_sem] at c0 f0 f1 x0 x1; have HB1 := Lib.hid hb1; clear hb1 hD)
          | (go_at_call 28; refine (refBytes_of value 1 (by omega) (by omega) (by omega) _).mono ?_; rintro e w1 ⟨rfl, hb1⟩; obtain ⟨D, hD⟩ : ∃ D, strOfNums (bytL value (1 : Int).toNat) = D := ⟨_, rfl⟩; rw [hD]; have HD := Lib.hid hD; have hs1 := hb1.size; simp at hs1; have c0 := (hb1.cell (p := ⟨w.heap.size, 4, none⟩) (by first | (simp; done) | (simp; omega))); have f0 := (hb1.frozen (p := ⟨w.heap.size + 1, 0, none⟩) (by first | (simp; done) | (simp; omega))); have f1 := (hb1.frozen (p := ⟨w.heap.size + 1, 1, none⟩) (by first | (simp; done) | (simp; omega))); have x0 := (hb1.cell (p := ⟨w.heap.size + 1, 0, none⟩) (by first | (simp; done) | (simp; omega))); have x1 := (hb1.cell (p := ⟨w.heap.size + 1, 1, none⟩) (by first | (simp; done) | (simp; omega))); simp [go_sem] at c0 f0 f1 x0 x1; have HB1 := Lib.hid hb1; clear hb1 hD))
        refine bodyPost_ret (v := .tuple #[.agg #[.int .u32 addr, .string D], .bool true]) (by simp [results, Try.results19, go_sem, x0, x1]) rfl ⟨by rw [HV.out, ← HD.out], ?_⟩
        exact (((((Below.refl w.heap.size w).alloc (Nat.le_refl _) _).alloc (by simp) _).trans (HB1.out.mono (by simp; omega))).setCell (by show w.heap.size ≤ w.heap.size + 1; omega) _).setCell (by show w.heap.size ≤ w.heap.size + 1; omega) _
      · by_cases h2 : size = 2
        · subst h2
          simp only [decide_true, Bool.and_self, Bool.true_or, Bool.or_true, Bool.or_self, if_true, Bool.true_and, show decide ((2 : Int) = 1) = false from rfl, Bool.false_or] at hv
          have HV := Lib.hid hv
          clear hv
          go_enter Try.func19, Try.ntmps19
          go_wp2_with (first
            | (go_at_call 27; refine (bytes_of value 2 (by omega) (by omega) (by omega) (by omega) _).mono ?_; rintro e w1 ⟨rfl, hb1⟩; obtain ⟨D, hD⟩ : ∃ D, strOfNums (bytL value (2 : Int).toNat) = D := ⟨_, rfl⟩; rw [hD]; have HD := Lib.hid hD; have hs1 := hb1.size; simp at hs1; have c0 := (hb1.cell (p := ⟨w.heap.size, 4, none⟩) (by first | (simp; done) | (simp; omega))); have f0 := (hb1.frozen (p := ⟨w.heap.size + 1, 0, none⟩) (by first | (simp; done) | (simp; omega))); have f1 := (hb1.frozen (p := ⟨w.heap.size + 1, 1, none⟩) (by first | (simp; done) | (simp; omega))); have x0 := (hb1.cell (p := ⟨w.heap.size + 1, 0, none⟩) (by first | (simp; done) | (simp; omega))); have x1 := (hb1.cell (p := ⟨w.heap.size + 1, 1, none⟩) (by first | (simp; done) | (simp; omega))); simp [go_sem] at c0 f0 f1 x0 x1; have HB1 := Lib.hid hb1; clear hb1 hD)
            | (go_at_call 28; refine (refBytes_of value 2 (by omega) (by omega) (by omega) _).mono ?_; rintro e w1 ⟨rfl, hb1⟩; obtain ⟨D, hD⟩ : ∃ D, strOfNums (bytL value (2 : Int).toNat) = D := ⟨_, rfl⟩; rw [hD]; have HD := Lib.hid hD; have hs1 := hb1.size; simp at hs1; have c0 := (hb1.cell (p := ⟨w.heap.size, 4, none⟩) (by first | (simp; done) | (simp; omega))); have f0 := (hb1.frozen (p := ⟨w.heap.size + 1, 0, none⟩) (by first | (simp; done) | (simp; omega))); have f1 := (hb1.frozen (p := ⟨w.heap.size + 1, 1, none⟩) (by first | (simp; done) | (simp; omega))); have x0 := (hb1.cell (p := ⟨w.heap.size + 1, 0, none⟩) (by first | (simp; done) | (simp; omega))); have x1 := (hb1.cell (p := ⟨w.heap.size + 1, 1, none⟩) (by first | (simp; done) | (simp; omega))); simp [go_sem] at c0 f0 f1 x0 x1; have HB1 := Lib.hid hb1; clear hb1 hD))
          refine bodyPost_ret (v := .tuple #[.agg #[.int .u32 addr, .string D], .bool true]) (by simp [results, Try.results19, go_sem, x0, x1]) rfl ⟨by rw [HV.out, ← HD.out], ?_⟩
          exact (((((Below.refl w.heap.size w).alloc (Nat.le_refl _) _).alloc (by simp) _).trans (HB1.out.mono (by simp; omega))).setCell (by show w.heap.size ≤ w.heap.size + 1; omega) _).setCell (by show w.heap.size ≤ w.heap.size + 1; omega) _
        · by_cases h4 : size = 4
          · subst h4
            simp only [decide_true, Bool.and_self, Bool.true_or, Bool.or_true, Bool.or_self, if_true, Bool.true_and, show decide ((4 : Int) = 1) = false from rfl, show decide ((4 : Int) = 2) = false from rfl, Bool.false_or] at hv
            have HV := Lib.hid hv
            clear hv
            go_enter Try.func19, Try.ntmps19
            go_wp2_with (first
              | (go_at_call 27; refine (bytes_of value 4 (by omega) (by omega) (by omega) (by omega) _).mono ?_; rintro e w1 ⟨rfl, hb1⟩; obtain ⟨D, hD⟩ : ∃ D, strOfNums (bytL value (4 : Int).toNat) = D := ⟨_, rfl⟩; rw [hD]; have HD := Lib.hid hD; have hs1 := hb1.size; simp at hs1; have c0 := (hb1.cell (p := ⟨w.heap.size, 4, none⟩) (by first | (simp; done) | (simp; omega))); have f0 := (hb1.frozen (p := ⟨w.heap.size + 1, 0, none⟩) (by first | (simp; done) | (simp; omega))); have f1 := (hb1.frozen (p := ⟨w.heap.size + 1, 1, none⟩) (by first | (simp; done) | (simp; omega))); have x0 := (hb1.cell (p := ⟨w.heap.size + 1, 0, none⟩) (by first | (simp; done) | (simp; omega))); have x1 := (hb1.cell (p := ⟨w.heap.size + 1, 1, none⟩) (by first | (simp; done) | (simp; omega))); simp [go_sem] at c0 f0 f1 x0 x1; have HB1 := Lib.hid hb1; clear hb1 hD)
              | (go_at_call 28; refine (refBytes_of value 4 (by omega) (by omega) (by omega) _).mono ?_; rintro e w1 ⟨rfl, hb1⟩; obtain ⟨D, hD⟩ : ∃ D, strOfNums (bytL value (4 : Int).toNat) = D := ⟨_, rfl⟩; rw [hD]; have HD := Lib.hid hD; have hs1 := hb1.size; simp at hs1; have c0 := (hb1.cell (p := ⟨w.heap.size, 4, none⟩) (by first | (simp; done) | (simp; omega))); have f0 := (hb1.frozen (p := ⟨w.heap.size + 1, 0, none⟩) (by first | (simp; done) | (simp; omega))); have f1 := (hb1.frozen (p := ⟨w.heap.size + 1, 1, none⟩) (by first | (simp; done) | (simp; omega))); have x0 := (hb1.cell (p := ⟨w.heap.size + 1, 0, none⟩) (by first | (simp; done) | (simp; omega))); have x1 := (hb1.cell (p := ⟨w.heap.size + 1, 1, none⟩) (by first | (simp; done) | (simp; omega))); simp [go_sem] at c0 f0 f1 x0 x1; have HB1 := Lib.hid hb1; clear hb1 hD))
            refine bodyPost_ret (v := .tuple #[.agg #[.int .u32 addr, .string D], .bool true]) (by simp [results, Try.results19, go_sem, x0, x1]) rfl ⟨by rw [HV.out, ← HD.out], ?_⟩
            exact (((((Below.refl w.heap.size w).alloc (Nat.le_refl _) _).alloc (by simp) _).trans (HB1.out.mono (by simp; omega))).setCell (by show w.heap.size ≤ w.heap.size + 1; omega) _).setCell (by show w.heap.size ≤ w.heap.size + 1; omega) _
          · have g1 : (size == 1) = false := by simpa using h1
            have g2 : (size == 2) = false := by simpa using h2
            have g4 : (size == 4) = false := by simpa using h4
            simp only [decide_eq_false h1, decide_eq_false h2, decide_eq_false h4, Bool.or_self, Bool.and_false, Bool.false_eq_true, if_false] at hv
            have HV := Lib.hid hv
            clear hv
            go_enter Try.func19, Try.ntmps19
            go_wp2
            refine bodyPost_ret (v := .tuple #[.agg #[.int .u32 0, .string ⟨#[]⟩], .bool false]) (by simp [results, Try.results19, go_sem]) rfl ⟨by rw [HV.out], ?_⟩
            repeat (first | exact Below.refl _ _ | refine Below.alloc ?_ (by first | (simp; done) | (simp; omega)) _)
    · have h0' : (halt == 0) = false := by simpa using h0
      have h0'' : (halt != 0) = true := by simpa using h0
      simp only [decide_eq_false h0, Bool.and_false, Bool.false_and, Bool.false_eq_true, if_false] at hv
      have HV := Lib.hid hv
      clear hv
      go_enter Try.func19, Try.ntmps19
      go_wp2
      refine bodyPost_ret (v := .tuple #[.agg #[.int .u32 0, .string ⟨#[]⟩], .bool false]) (by simp [results, Try.results19, go_sem]) rfl ⟨by rw [HV.out], ?_⟩
      repeat (first | exact Below.refl _ _ | refine Below.alloc ?_ (by first | (simp; done) | (simp; omega)) _)
theorem refStored_any (s : St) (hv0 : 0 ≤ s.value) (hv1 : s.value < 4294967296) (w : World) : Calls Try.prog 20 #[stV s] w fun e w' => e = .returned (storedV s) ∧ Below w.heap.size w w' := by
  obtain ⟨pc, next, rd, value, addr, size, store, halt, took⟩ := s
  have hv : storedV ⟨pc, next, rd, value, addr, size, store, halt, took⟩ = .tuple #[.agg #[.int .u32 (if (store && decide (halt = 0) && (decide (size = 1) || decide (size = 2) || decide (size = 4))) then addr else 0), .string (if (store && decide (halt = 0) && (decide (size = 1) || decide (size = 2) || decide (size = 4))) then strOfNums (bytL value size.toNat) else ⟨#[]⟩)], .bool (store && decide (halt = 0) && (decide (size = 1) || decide (size = 2) || decide (size = 4)))] := rfl
  simp only at hv0 hv1
  unfold stV
  cases store
  · simp only [Bool.false_and, Bool.false_eq_true, if_false] at hv
    have HV := Lib.hid hv
    clear hv
    go_enter Try.func20, Try.ntmps20
    go_wp2
    refine bodyPost_ret (v := .tuple #[.agg #[.int .u32 0, .string ⟨#[]⟩], .bool false]) (by simp [results, Try.results20, go_sem]) rfl ⟨by rw [HV.out], ?_⟩
    repeat (first | exact Below.refl _ _ | refine Below.alloc ?_ (by first | (simp; done) | (simp; omega)) _)
  · by_cases h0 : halt = 0
    · subst h0
      by_cases h1 : size = 1
      · subst h1
        simp only [decide_true, Bool.and_self, Bool.true_or, if_true] at hv
        have HV := Lib.hid hv
        clear hv
        go_enter Try.func20, Try.ntmps20
        go_wp2_with (first
          | (go_at_call 27; refine (bytes_of value 1 (by omega) (by omega) (by omega) (by omega) _).mono ?_; rintro e w1 ⟨rfl, hb1⟩; obtain ⟨D, hD⟩ : ∃ D, strOfNums (bytL value (1 : Int).toNat) = D := ⟨_, rfl⟩; rw [hD]; have HD := Lib.hid hD; have hs1 := hb1.size; simp at hs1; have c0 := (hb1.cell (p := ⟨w.heap.size, 4, none⟩) (by first | (simp; done) | (simp; omega))); have f0 := (hb1.frozen (p := ⟨w.heap.size + 1, 0, none⟩) (by first | (simp; done) | (simp; omega))); have f1 := (hb1.frozen (p := ⟨w.heap.size + 1, 1, none⟩) (by first | (simp; done) | (simp; omega))); have x0 := (hb1.cell (p := ⟨w.heap.size + 1, 0, none⟩) (by first | (simp; done) | (simp; omega))); have x1 := (hb1.cell (p := ⟨w.heap.size + 1, 1, none⟩) (by first | (simp; done) | (simp; omega))); simp [go_sem] at c0 f0 f1 x0 x1; have HB1 := Lib.hid hb1; clear hb1 hD)
          | (go_at_call 28; refine (refBytes_of value 1 (by omega) (by omega) (by omega) _).mono ?_; rintro e w1 ⟨rfl, hb1⟩; obtain ⟨D, hD⟩ : ∃ D, strOfNums (bytL value (1 : Int).toNat) = D := ⟨_, rfl⟩; rw [hD]; have HD := Lib.hid hD; have hs1 := hb1.size; simp at hs1; have c0 := (hb1.cell (p := ⟨w.heap.size, 4, none⟩) (by first | (simp; done) | (simp; omega))); have f0 := (hb1.frozen (p := ⟨w.heap.size + 1, 0, none⟩) (by first | (simp; done) | (simp; omega))); have f1 := (hb1.frozen (p := ⟨w.heap.size + 1, 1, none⟩) (by first | (simp; done) | (simp; omega))); have x0 := (hb1.cell (p := ⟨w.heap.size + 1, 0, none⟩) (by first | (simp; done) | (simp; omega))); have x1 := (hb1.cell (p := ⟨w.heap.size + 1, 1, none⟩) (by first | (simp; done) | (simp; omega))); simp [go_sem] at c0 f0 f1 x0 x1; have HB1 := Lib.hid hb1; clear hb1 hD))
        refine bodyPost_ret (v := .tuple #[.agg #[.int .u32 addr, .string D], .bool true]) (by simp [results, Try.results20, go_sem, x0, x1]) rfl ⟨by rw [HV.out, ← HD.out], ?_⟩
        exact (((((Below.refl w.heap.size w).alloc (Nat.le_refl _) _).alloc (by simp) _).trans (HB1.out.mono (by simp; omega))).setCell (by show w.heap.size ≤ w.heap.size + 1; omega) _).setCell (by show w.heap.size ≤ w.heap.size + 1; omega) _
      · by_cases h2 : size = 2
        · subst h2
          simp only [decide_true, Bool.and_self, Bool.true_or, Bool.or_true, Bool.or_self, if_true, Bool.true_and, show decide ((2 : Int) = 1) = false from rfl, Bool.false_or] at hv
          have HV := Lib.hid hv
          clear hv
          go_enter Try.func20, Try.ntmps20
          go_wp2_with (first
            | (go_at_call 27; refine (bytes_of value 2 (by omega) (by omega) (by omega) (by omega) _).mono ?_; rintro e w1 ⟨rfl, hb1⟩; obtain ⟨D, hD⟩ : ∃ D, strOfNums (bytL value (2 : Int).toNat) = D := ⟨_, rfl⟩; rw [hD]; have HD := Lib.hid hD; have hs1 := hb1.size; simp at hs1; have c0 := (hb1.cell (p := ⟨w.heap.size, 4, none⟩) (by first | (simp; done) | (simp; omega))); have f0 := (hb1.frozen (p := ⟨w.heap.size + 1, 0, none⟩) (by first | (simp; done) | (simp; omega))); have f1 := (hb1.frozen (p := ⟨w.heap.size + 1, 1, none⟩) (by first | (simp; done) | (simp; omega))); have x0 := (hb1.cell (p := ⟨w.heap.size + 1, 0, none⟩) (by first | (simp; done) | (simp; omega))); have x1 := (hb1.cell (p := ⟨w.heap.size + 1, 1, none⟩) (by first | (simp; done) | (simp; omega))); simp [go_sem] at c0 f0 f1 x0 x1; have HB1 := Lib.hid hb1; clear hb1 hD)
            | (go_at_call 28; refine (refBytes_of value 2 (by omega) (by omega) (by omega) _).mono ?_; rintro e w1 ⟨rfl, hb1⟩; obtain ⟨D, hD⟩ : ∃ D, strOfNums (bytL value (2 : Int).toNat) = D := ⟨_, rfl⟩; rw [hD]; have HD := Lib.hid hD; have hs1 := hb1.size; simp at hs1; have c0 := (hb1.cell (p := ⟨w.heap.size, 4, none⟩) (by first | (simp; done) | (simp; omega))); have f0 := (hb1.frozen (p := ⟨w.heap.size + 1, 0, none⟩) (by first | (simp; done) | (simp; omega))); have f1 := (hb1.frozen (p := ⟨w.heap.size + 1, 1, none⟩) (by first | (simp; done) | (simp; omega))); have x0 := (hb1.cell (p := ⟨w.heap.size + 1, 0, none⟩) (by first | (simp; done) | (simp; omega))); have x1 := (hb1.cell (p := ⟨w.heap.size + 1, 1, none⟩) (by first | (simp; done) | (simp; omega))); simp [go_sem] at c0 f0 f1 x0 x1; have HB1 := Lib.hid hb1; clear hb1 hD))
          refine bodyPost_ret (v := .tuple #[.agg #[.int .u32 addr, .string D], .bool true]) (by simp [results, Try.results20, go_sem, x0, x1]) rfl ⟨by rw [HV.out, ← HD.out], ?_⟩
          exact (((((Below.refl w.heap.size w).alloc (Nat.le_refl _) _).alloc (by simp) _).trans (HB1.out.mono (by simp; omega))).setCell (by show w.heap.size ≤ w.heap.size + 1; omega) _).setCell (by show w.heap.size ≤ w.heap.size + 1; omega) _
        · by_cases h4 : size = 4
          · subst h4
            simp only [decide_true, Bool.and_self, Bool.true_or, Bool.or_true, Bool.or_self, if_true, Bool.true_and, show decide ((4 : Int) = 1) = false from rfl, show decide ((4 : Int) = 2) = false from rfl, Bool.false_or] at hv
            have HV := Lib.hid hv
            clear hv
            go_enter Try.func20, Try.ntmps20
            go_wp2_with (first
              | (go_at_call 27; refine (bytes_of value 4 (by omega) (by omega) (by omega) (by omega) _).mono ?_; rintro e w1 ⟨rfl, hb1⟩; obtain ⟨D, hD⟩ : ∃ D, strOfNums (bytL value (4 : Int).toNat) = D := ⟨_, rfl⟩; rw [hD]; have HD := Lib.hid hD; have hs1 := hb1.size; simp at hs1; have c0 := (hb1.cell (p := ⟨w.heap.size, 4, none⟩) (by first | (simp; done) | (simp; omega))); have f0 := (hb1.frozen (p := ⟨w.heap.size + 1, 0, none⟩) (by first | (simp; done) | (simp; omega))); have f1 := (hb1.frozen (p := ⟨w.heap.size + 1, 1, none⟩) (by first | (simp; done) | (simp; omega))); have x0 := (hb1.cell (p := ⟨w.heap.size + 1, 0, none⟩) (by first | (simp; done) | (simp; omega))); have x1 := (hb1.cell (p := ⟨w.heap.size + 1, 1, none⟩) (by first | (simp; done) | (simp; omega))); simp [go_sem] at c0 f0 f1 x0 x1; have HB1 := Lib.hid hb1; clear hb1 hD)
              | (go_at_call 28; refine (refBytes_of value 4 (by omega) (by omega) (by omega) _).mono ?_; rintro e w1 ⟨rfl, hb1⟩; obtain ⟨D, hD⟩ : ∃ D, strOfNums (bytL value (4 : Int).toNat) = D := ⟨_, rfl⟩; rw [hD]; have HD := Lib.hid hD; have hs1 := hb1.size; simp at hs1; have c0 := (hb1.cell (p := ⟨w.heap.size, 4, none⟩) (by first | (simp; done) | (simp; omega))); have f0 := (hb1.frozen (p := ⟨w.heap.size + 1, 0, none⟩) (by first | (simp; done) | (simp; omega))); have f1 := (hb1.frozen (p := ⟨w.heap.size + 1, 1, none⟩) (by first | (simp; done) | (simp; omega))); have x0 := (hb1.cell (p := ⟨w.heap.size + 1, 0, none⟩) (by first | (simp; done) | (simp; omega))); have x1 := (hb1.cell (p := ⟨w.heap.size + 1, 1, none⟩) (by first | (simp; done) | (simp; omega))); simp [go_sem] at c0 f0 f1 x0 x1; have HB1 := Lib.hid hb1; clear hb1 hD))
            refine bodyPost_ret (v := .tuple #[.agg #[.int .u32 addr, .string D], .bool true]) (by simp [results, Try.results20, go_sem, x0, x1]) rfl ⟨by rw [HV.out, ← HD.out], ?_⟩
            exact (((((Below.refl w.heap.size w).alloc (Nat.le_refl _) _).alloc (by simp) _).trans (HB1.out.mono (by simp; omega))).setCell (by show w.heap.size ≤ w.heap.size + 1; omega) _).setCell (by show w.heap.size ≤ w.heap.size + 1; omega) _
          · have g1 : (size == 1) = false := by simpa using h1
            have g2 : (size == 2) = false := by simpa using h2
            have g4 : (size == 4) = false := by simpa using h4
            simp only [decide_eq_false h1, decide_eq_false h2, decide_eq_false h4, Bool.or_self, Bool.and_false, Bool.false_eq_true, if_false] at hv
            have HV := Lib.hid hv
            clear hv
            go_enter Try.func20, Try.ntmps20
            go_wp2
            refine bodyPost_ret (v := .tuple #[.agg #[.int .u32 0, .string ⟨#[]⟩], .bool false]) (by simp [results, Try.results20, go_sem]) rfl ⟨by rw [HV.out], ?_⟩
            repeat (first | exact Below.refl _ _ | refine Below.alloc ?_ (by first | (simp; done) | (simp; omega)) _)
    · have h0' : (halt == 0) = false := by simpa using h0
      have h0'' : (halt != 0) = true := by simpa using h0
      simp only [decide_eq_false h0, Bool.and_false, Bool.false_and, Bool.false_eq_true, if_false] at hv
      have HV := Lib.hid hv
      clear hv
      go_enter Try.func20, Try.ntmps20
      go_wp2
      refine bodyPost_ret (v := .tuple #[.agg #[.int .u32 0, .string ⟨#[]⟩], .bool false]) (by simp [results, Try.results20, go_sem]) rfl ⟨by rw [HV.out], ?_⟩
      repeat (first | exact Below.refl _ _ | refine Below.alloc ?_ (by first | (simp; done) | (simp; omega)) _)

end Go.Proofs.Ytjhkebabbldfcaa
