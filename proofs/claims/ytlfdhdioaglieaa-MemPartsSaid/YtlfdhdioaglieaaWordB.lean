/- THE CONTRACTS of Bytes and Join, of package word and of auspexref01. -/
import Derived.Test.YtlfdhdioaglieaaWordLaw
import Derived.Test.YtlfdhdioaglieaaMathW
import Derived.Laws.BytesArg
import Derived.WalkLawsBesides
namespace Go.Proofs.Ytlfdhdioaglieaa
open Go.ChangeShapes Go.WideShapes Go.ChangeAt Go.RowKit

theorem info_u8 : (Try.prog.info? 5).map (fun i => (i.zero, i.size, i.bytes)) = some (some (.int .u8 0), 1, 1) := by kernel_rfl

/-- byte k of a word -/
def byt (a : Int) (k : Nat) : Nat := fld a (8 * (k : Int)) 8
def bytL (a : Int) (n : Nat) : List Int := (List.range n).map fun k => (byt a k : Int)
theorem byt_lt (a : Int) (k : Nat) : byt a k < 256 := by
  unfold byt fld
  cases fitsB (8 * (k : Int)) 8
  · simp
  · rw [cond_true]; exact Nat.lt_of_lt_of_le (mk_lt _ _) (by decide)
theorem bytL_succ (a : Int) (k : Nat) : bytL a (k + 1) = bytL a k ++ [(byt a k : Int)] := by simp [bytL, List.range_succ]
theorem bytL_len (a : Int) (n : Nat) : (bytL a n).length = n := by simp [bytL]

/-- a slice that owns a row of bytes, as a string -/
theorem conv_own {w : World} {base : Nat} {v : Value} {xs : List Int} {n : Nat} (hn : xs.length = n) (hown : w.ownsRow base 5 1 v n (xs.map (Value.int .u8))) :
    (convert 42 9 v).run Try.prog w = .ok (.string (strOfNums xs)) w := by
  rcases hown.2 with ⟨rfl, h0⟩ | ⟨g, cap, cur, rfl, hg, hh, r⟩
  · have : xs = [] := by cases xs; rfl; simp at hn; omega
    subst this
    exact run_convert_bytes_nil w 42 5 Try.underlying42 Try.underlying5 0 0 9 Try.underlying9
  · refine run_convert_bytes_arg w 42 5 Try.underlying42 Try.underlying5 g 0 n cap xs hn (fun i hi => ?_) 9 Try.underlying9
    have := hown.cellAt i (by omega)
    rw [Nat.zero_add, this]
    simp [List.getD, show i < xs.length by omega]

theorem stored_byte {w : World} {base g N k : Nat} {a : Int} (hk : k < N)
    (h : w.ownsRow base 5 1 (.slice (some ⟨g, 0, none⟩) N N) N ((bytL a k ++ List.replicate (N - k) 0).map (Value.int .u8))) :
    (w.setCell ⟨g, k, none⟩ (.int .u8 (byt a k : Nat))).ownsRow base 5 1 (.slice (some ⟨g, 0, none⟩) N N) N ((bytL a (k + 1) ++ List.replicate (N - (k + 1)) 0).map (Value.int .u8)) := by
  have := h.stored k (.int .u8 (byt a k : Nat))
  have e : ((bytL a k ++ List.replicate (N - k) 0).map (Value.int .u8)).set k (.int .u8 (byt a k : Nat)) = (bytL a (k + 1) ++ List.replicate (N - (k + 1)) 0).map (Value.int .u8) := by
    rw [← List.map_set, bytL_succ]
    congr 1
    have hl := bytL_len a k
    rw [show N - k = (N - (k + 1)) + 1 by omega, List.replicate_succ, List.set_append_right _ _ (by omega), hl]
    simp
  rw [e] at this
  exact this.1

/-- the word that bytes make -/
def joinN : List UInt8 → Nat
  | [] => 0
  | b :: r => 256 * joinN r + b.toNat
theorem joinN_lt : ∀ l, joinN l < 2 ^ (8 * l.length)
  | [] => by simp [joinN]
  | b :: r => by
    have h := joinN_lt r
    have hb := b.toNat_lt
    simp only [joinN, List.length_cons]
    rw [show 8 * (r.length + 1) = 8 * r.length + 8 by omega, Nat.pow_add]
    generalize 2 ^ (8 * r.length) = P at *
    omega
theorem joinN_lt32 {l : List UInt8} (h : l.length ≤ 4) : joinN l < 4294967296 :=
  Nat.lt_of_lt_of_le (joinN_lt l) (Nat.pow_le_pow_right (n := 2) (by omega) (show 8 * l.length ≤ 32 by omega))
theorem joinN_snoc : ∀ (l : List UInt8) (b : UInt8), joinN (l ++ [b]) = joinN l + 2 ^ (8 * l.length) * b.toNat
  | [], b => by simp [joinN]
  | c :: r, b => by
    simp only [List.cons_append, joinN, joinN_snoc r b, List.length_cons]
    rw [show 8 * (r.length + 1) = 8 * r.length + 8 by omega, Nat.pow_add, Nat.mul_add, Nat.add_right_comm]
    congr 1
    rw [Nat.mul_comm (2 ^ (8 * r.length)) (2 ^ 8), Nat.mul_assoc]

/-- a byte set behind the others -/
theorem stw_join (l : List UInt8) (b : UInt8) (h : l.length < 4) : stw (joinN l : Nat) (8 * (l.length : Int)) 8 (b.toNat : Nat) = joinN (l ++ [b]) := by
  have hf : fitsB (8 * (l.length : Int)) 8 = true := fitsB_iff.2 (by omega)
  have hlt := joinN_lt l
  have hlt32 := joinN_lt32 (l := l) (by omega)
  have hb := b.toNat_lt
  rw [joinN_snoc]
  refine Nat.eq_of_testBit_eq fun k => ?_
  rw [testBit_stw _ _ _ _ _ hf, Nat.add_comm, Nat.testBit_two_pow_mul_add _ hlt]
  unfold stb
  simp only [Int.toNat_natCast]
  rw [show (8 * (l.length : Int)).toNat = 8 * l.length by omega, show (8 : Int).toNat = 8 from rfl]
  by_cases h1 : k < 8 * l.length
  · simp [h1, show ¬ 8 * l.length ≤ k by omega, show k < 32 by omega]
  · by_cases h2 : k < 8 * l.length + 8
    · simp [h1, h2, show 8 * l.length ≤ k by omega, show k < 32 by omega]
    · have e1 : b.toNat.testBit (k - 8 * l.length) = false := Nat.testBit_lt_two_pow (Nat.lt_of_lt_of_le hb (Nat.pow_le_pow_right (n := 2) (by omega) (show 8 ≤ k - 8 * l.length by omega)))
      have e2 : (joinN l).testBit k = false := Nat.testBit_lt_two_pow (Nat.lt_of_lt_of_le hlt (Nat.pow_le_pow_right (n := 2) (by omega) (show 8 * l.length ≤ k by omega)))
      simp [h1, h2, e1, e2]

theorem join_any (s : ByteArray) (hs : s.size ≤ 9223372036854775807) (w : World) :
    Calls Try.prog 21 #[.string s] w fun e w' => e = .returned (.tuple #[.int .u32 (if s.size ≤ 4 then joinN s.data.toList else 0 : Nat), .int .i64 (if s.size ≤ 4 then 0 else 2)]) ∧ Below w.heap.size w w' := by
  by_cases h4 : s.size ≤ 4
  · rw [if_pos h4, if_pos h4]
    go_enter Try.func21, Try.ntmps21
    go_wp2
    go_loopw [4, 11] (fun t i wr => ∃ k : Nat, k ≤ s.size ∧ i = .int .i64 k ∧ t = .int .u32 (joinN (s.data.toList.take k) : Nat) ∧ Below w.heap.size w wr) (fun _ i _ => s.size - (intOf i).toNat)
    case atStart => exact ⟨0, Nat.zero_le _, rfl, by simp [joinN], Below.refl _ _⟩
    case round =>
      obtain ⟨k, hk, rfl, rfl, hbel⟩ := hrel
      by_cases hkn : k < s.size
      · have hlen : (s.data.toList.take k).length = k := by rw [List.length_take]; have : s.data.toList.length = s.size := rfl; omega
        have hlt := joinN_lt32 (l := s.data.toList.take k) (by omega)
        have hsn : s.data.toList.take (k + 1) = s.data.toList.take k ++ [s[k]] := by rw [List.take_succ_eq_append_getElem (by simpa using hkn)]; rfl
        have E := stw_join (s.data.toList.take k) s[k] (by omega)
        rw [hlen, ← hsn] at E
        have H := Lib.hid E
        have hb := s[k].toNat_lt
        clear E hsn hlen
        go_wp2_with fail
        refine (set_any _ _ _ _ (by omega) (by omega) (by omega) (by omega) _).mono ?_
        rintro e w2 ⟨rfl, m, rfl⟩
        rw [H.out]
        go_wp2
        go_roundw
        case rel => exact ⟨k + 1, by omega, by go_num, rfl, bdrewN hbel m⟩
        case measure => simp [intOf]; omega
      · have hkN : k = s.size := by omega
        subst hkN
        have e : s.data.toList.take s.size = s.data.toList := List.take_of_length_le (Nat.le_refl _)
        rw [e]
        go_wp2
        go_ret2
        exact ⟨rfl, hbel⟩
  · rw [if_neg h4, if_neg h4]
    go_enter Try.func21, Try.ntmps21
    go_wp2
    go_ret2
    exact ⟨rfl, Below.refl _ _⟩

end Go.Proofs.Ytlfdhdioaglieaa
