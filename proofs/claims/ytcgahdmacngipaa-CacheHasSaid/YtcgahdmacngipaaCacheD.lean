/- THE CONTRACT of cache.Find. -/
import Derived.Test.YtcgahdmacngipaaCacheC
import Derived.Test.YtcgahdmacngipaaCacheP
namespace Go.Proofs.Ytcgahdmacngipaa
open Go.ChangeShapes Go.WideShapes Go.ChangeAt Go.RowKit Go.Sort
set_option linter.unusedVariables false
set_option linter.unusedSimpArgs false
set_option maxHeartbeats 2000000
set_option maxRecDepth 100000

theorem findS_no {ways : Int} {ss : List (List Wy)} (line : Int) (h : rightC ways ss = false) : findS ways ss line = (0, 0, false) := by
  unfold findS
  rw [if_neg (by simp [h])]
/-- where a line stands, of a cache that may be -/
theorem findS_yes {ways : Int} {ss : List (List Wy)} (line : Int) (h : rightC ways ss = true) :
    ∃ (k : Nat) (s : List Wy), setI ss.length (line - line % 16) = k ∧ ss[k]? = some s ∧ findS ways ss line = (if placeI s (line - line % 16) < 0 then ((k : Int), 0, false) else ((k : Int), placeI s (line - line % 16), true)) := by
  have hn := (right_at h).1
  have hr := setI_range (n := ss.length) (by omega) (line - line % 16)
  obtain ⟨k, hk⟩ : ∃ k : Nat, setI ss.length (line - line % 16) = k := ⟨(setI ss.length (line - line % 16)).toNat, by omega⟩
  obtain ⟨s, hs⟩ : ∃ s, ss[k]? = some s := ⟨_, List.getElem?_eq_getElem (by omega)⟩
  refine ⟨k, s, hk, hs, ?_⟩
  unfold findS
  rw [if_pos h, hk, Int.toNat_natCast, List.getD_eq_getElem?_getD, hs]
  rfl
def findV (f : Int × Int × Bool) : Value := .tuple #[.int .i64 f.1, .int .i64 f.2.1, .bool f.2.2]
theorem ret_val {a b : Value} (h : a = b) : Ending.returned a = .returned b := by rw [h]
theorem find_any (ways : Int) (A : Option Addr) (n cap : Nat) (hs : List Hd) (ss : List (List Wy)) (line : Int) (hn : n ≤ cap) (hc : cap ≤ maxLen) (hss : setsOK ss) (h0 : 0 ≤ line) (h1 : line < 4294967296) (w : World) (hS : SetsAt w A n hs ss) :
    Calls Try.prog 10 #[caV ways A n cap, .int .u32 line] w fun e w' => e = .returned (findV (findS ways ss line)) ∧ Below w.heap.size w w' := by
  have HR := Lib.hid (fun w h => right_anyC ways A n cap hs ss hn hc hss w h)
  have HLO := Lib.hid (fun w => cLineOf_any line h0 h1 w)
  have hl := hS.len
  unfold maxLen at hc
  have f1 := Blk.new w 24 [.int .i64 ways, .slice A n cap]
  have f3 : Below w.heap.size w (w.alloc (.cells #[.int .i64 ways, .slice A n cap] 24)) := (Below.refl _ _).alloc (Nat.le_refl _) _
  have S1 := Lib.hid (hS.below f3)
  clear hS
  unfold caV at HR ⊢
  cases hr : rightC ways ss
  · rw [hr] at HR
    have HF := Lib.hid (findS_no line hr)
    clear hr
    go_enter Try.func10, Try.ntmps10
    go_upto_region 1 with fail
    generalize w.alloc (.cells #[.int .i64 ways, .slice A n cap] 24) = W0 at *
    have X1 := Lib.hid f1
    have KB := Lib.hid f3
    clear f1 f3
    go_wp2_with (first
      | (refine wpList_load_mid rfl 24 (.tmp 2) rfl w.heap.size 0 rfl [.int .i64 ways, .slice A n cap] _ X1.out.range Try.underlying24 rfl ca_info ?_)
      | (go_at_call 13; refine (HR.out _ S1.out).mono ?_; rintro e w1 ⟨rfl, b⟩; have K1 := Lib.hid (KB.out.trans (b.mono KB.out.size)); clear b))
    go_ret3
    exact ⟨ret_val (by rw [HF.out]; rfl), K1.out⟩
  · rw [hr] at HR
    obtain ⟨k, s, hk, hsk, hf⟩ := findS_yes line hr
    have hn4 := (right_at hr).1
    obtain ⟨L, hL⟩ : ∃ L, line - line % 16 = L := ⟨_, rfl⟩
    rw [hL] at HLO hk hf
    have hL0 : 0 ≤ L ∧ L < 4294967296 := by omega
    have HSO := Lib.hid (fun w => setOf_any L n hL0.1 hL0.2 (by omega) (by omega) w)
    rw [← hl, hk] at HSO
    rw [hl] at HSO
    obtain ⟨a, q, rfl, hal, hq, hcj, hqn, hqa⟩ := S1.out.at_ hsk
    have hkl : (k : Int) < n := by have := (List.getElem?_eq_some_iff.1 hsk).1; omega
    have HPL := Lib.hid (fun w h => place_any q.at_ s.length q.cap s L (by have := hqa.1; have := hqa.2.1; omega) w h)
    obtain ⟨pl, hpl⟩ : ∃ p, placeI s L = p := ⟨_, rfl⟩
    rw [hpl] at HPL hf
    have ZQ := Lib.hid (show WaysAt _ q.at_ s.length s by rw [← hqn]; exact hqa.2.2.2)
    have CJ := Lib.hid hcj
    have HF := Lib.hid hf
    have hal' := hal
    clear hr hk hsk hq hcj hqn hqa hpl hf hn4 hL
    go_enter Try.func10, Try.ntmps10
    go_upto_region 1 with fail
    generalize w.alloc (.cells #[.int .i64 ways, .slice (some a) n cap] 24) = W0 at *
    have X1 := Lib.hid f1
    have KB := Lib.hid f3
    clear f1 f3
    go_upto_region 3 with (first
      | (refine wpList_load_mid rfl 24 (.tmp 2) rfl w.heap.size 0 rfl [.int .i64 ways, .slice (some a) n cap] _ X1.out.range Try.underlying24 rfl ca_info ?_)
      | (go_at_call 13
         refine (HR.out _ S1.out).mono ?_
         rintro e w1 ⟨rfl, b⟩
         have K1 := Lib.hid (KB.out.trans (b.mono KB.out.size))
         have X2 := Lib.hid (X1.out.below b X1.out.1)
         have hcj1 := (b.cell (p := a.add k) (by rw [block_add]; exact hal)).trans CJ.out
         have Z1 := Lib.hid (ZQ.out.below b)
         clear b))
    have c1 := X2.out.2.1 1 _ rfl
    by_cases hp : pl < 0
    · have d : decide (pl < 0) = true := decide_eq_true hp
      have HF2 := Lib.hid (HF.out.trans (if_pos hp))
      clear hp
      go_wp2_with (first
        | (go_at_call 33; refine (HLO.out _).mono ?_; rintro e w2 ⟨rfl, rfl⟩)
        | (go_at_call 34; refine (HSO.out _).mono ?_; rintro e w3 ⟨rfl, rfl⟩)
        | (go_at_call 35; refine (HPL.out _ Z1.out).mono ?_; rintro e w4 ⟨rfl, b⟩; have K2 := Lib.hid (K1.out.trans (b.mono K1.out.size)); clear b))
      go_ret3
      exact ⟨ret_val (by rw [HF2.out]; rfl), K2.out⟩
    · have d : decide (pl < 0) = false := decide_eq_false hp
      have HF2 := Lib.hid (HF.out.trans (if_neg hp))
      clear hp
      go_wp2_with (first
        | (go_at_call 33; refine (HLO.out _).mono ?_; rintro e w2 ⟨rfl, rfl⟩)
        | (go_at_call 34; refine (HSO.out _).mono ?_; rintro e w3 ⟨rfl, rfl⟩)
        | (go_at_call 35; refine (HPL.out _ Z1.out).mono ?_; rintro e w4 ⟨rfl, b⟩; have K2 := Lib.hid (K1.out.trans (b.mono K1.out.size)); clear b))
      go_ret3
      exact ⟨ret_val (by rw [HF2.out]; rfl), K2.out⟩
end Go.Proofs.Ytcgahdmacngipaa
