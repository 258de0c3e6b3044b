/- THE CONTRACTS of taint.Safe, Front, Visible. -/
import Derived.Test.YtfekknalchjkiaaDoorEntries
import Derived.Test.YtfekknalchjkiaaDoorInstKinds
import Derived.Test.YtfekknalchjkiaaDoorOwn
import Derived.Deep.QuietTactic
import Derived.BigQuiet
namespace Go.Proofs.YtfekknalchjkiaaDoor
open Go.ChangeShapes Go.WideShapes Go.ChangeAt Go.RowKit Go.Sort
set_option linter.unusedVariables false
set_option linter.unusedSimpArgs false
set_option maxHeartbeats 2000000
set_option maxRecDepth 100000

def safeB (e : En) : Bool := if e.halt ≠ 0 then false else if kindI e.op = 6 then false else if kindI e.op = 3 ∨ kindI e.op = 4 ∨ kindI e.op = 5 then e.known else true
theorem kindI_cases (op : Int) : kindI op = 0 ∨ kindI op = 1 ∨ kindI op = 2 ∨ kindI op = 3 ∨ kindI op = 4 ∨ kindI op = 5 ∨ kindI op = 6 := by
  unfold kindI
  repeat' split
  all_goals simp
theorem safe_any (e : En) (w : World) : Calls Tryd.prog 72 #[enV e] w fun r w' => r = .returned (.bool (safeB e)) ∧ Below w.heap.size w w' := by
  obtain ⟨no, pc, op, rd, rs1, rs2, imm, guess, is, left, value, next, addr, halt, took, known, filled⟩ := e
  unfold enV enC
  obtain ⟨sb, hsb⟩ : ∃ sb, safeB ⟨no, pc, op, rd, rs1, rs2, imm, guess, is, left, value, next, addr, halt, took, known, filled⟩ = sb := ⟨_, rfl⟩
  rw [hsb]
  unfold safeB at hsb
  simp only at hsb
  have HK := Lib.hid (fun w => kind_any op rd rs1 rs2 imm w)
  have HC := kindI_cases op
  obtain ⟨kd, hkd⟩ : ∃ kd, kindI op = kd := ⟨_, rfl⟩
  rw [hkd] at HK HC hsb
  clear hkd
  have HSB := Lib.hid hsb
  have HKC := Lib.hid HC
  clear hsb HC
  go_enter Tryd.func72, Tryd.ntmps72
  by_cases h0 : halt = 0
  · subst h0
    go_wp2_with fail
    go_at_call 33
    refine (HK.out _).mono ?_
    rintro r w1 ⟨rfl, b⟩
    have g := (Blk.new w 60 [.int .i64 no, .int .u32 pc, .int .i64 op, .int .i64 rd, .int .i64 rs1, .int .i64 rs2, .int .u32 imm, .int .u32 guess, .int .i64 is, .int .i64 left, .int .u32 value, .int .u32 next, .int .u32 addr, .int .i64 0, .int .i64 took, .bool known, .bool filled]).below b (by simp)
    have c15 := g.2.1 15 _ rfl
    have HB := Lib.hid (((Below.refl w.heap.size w).alloc (Nat.le_refl _) (.cells #[.int .i64 no, .int .u32 pc, .int .i64 op, .int .i64 rd, .int .i64 rs1, .int .i64 rs2, .int .u32 imm, .int .u32 guess, .int .i64 is, .int .i64 left, .int .u32 value, .int .u32 next, .int .u32 addr, .int .i64 0, .int .i64 took, .bool known, .bool filled] 60)).trans (b.mono (by simp)))
    clear b g
    rcases HKC.out with rfl | rfl | rfl | rfl | rfl | rfl | rfl
    all_goals
      go_wp2
      go_ret
      exact ⟨retb (by rw [← HSB.out]; simp), HB.out⟩
  · have hb : (halt != 0) = true := by simpa using h0
    go_wp2
    go_ret
    exact ⟨retb (by rw [← HSB.out, if_pos h0]), (Below.refl _ _).alloc (Nat.le_refl _) _⟩

def frontN (es : List En) : Nat := es.findIdx (fun e => !safeB e)
theorem front_le (es : List En) : frontN es ≤ es.length := List.findIdx_le_length
theorem front_at {es : List En} {e : En} {k : Nat} (hk : es[k]? = some e) (h : safeB e = false) (hle : k ≤ frontN es) : frontN es = k := by
  have hlt := (List.getElem?_eq_some_iff.1 hk).1
  have he := (List.getElem?_eq_some_iff.1 hk).2
  refine Nat.le_antisymm ?_ hle
  refine Nat.le_of_not_lt fun hgt => ?_
  have := List.not_of_lt_findIdx hgt
  rw [he, h] at this
  simp at this
theorem front_on {es : List En} {e : En} {k : Nat} (hk : es[k]? = some e) (h : safeB e = true) (hle : k ≤ frontN es) : k + 1 ≤ frontN es := by
  refine Nat.lt_of_le_of_ne hle fun hc => ?_
  have hlt := (List.getElem?_eq_some_iff.1 hk).1
  have he := (List.getElem?_eq_some_iff.1 hk).2
  have := List.findIdx_getElem (p := fun e => !safeB e) (xs := es) (w := by unfold frontN at hc; omega)
  unfold frontN at hc
  simp only [← hc] at this
  rw [he, h] at this
  simp at this
theorem front_not {es : List En} {e : En} {k : Nat} (hk : es[k]? = some e) (hle : frontN es = k) : safeB e = false := by
  cases h : safeB e
  · rfl
  · have := front_on hk h (by omega)
    omega
theorem front_before {es : List En} {e : En} {k : Nat} (hk : es[k]? = some e) (hlt : k < frontN es) : safeB e = true := by
  cases h : safeB e
  · have := front_at hk h (by omega)
    omega
  · rfl
theorem front_take (es : List En) (k : Nat) (hk : k ≤ frontN es) : frontN (es.take k) = k := by
  have hl : (es.take k).length = k := by rw [List.length_take]; have := front_le es; omega
  have h1 := front_le (es.take k)
  rw [hl] at h1
  refine Nat.le_antisymm h1 ?_
  refine Nat.le_of_not_lt fun hlt => ?_
  obtain ⟨e, he⟩ : ∃ e, (es.take k)[frontN (es.take k)]? = some e := ⟨_, List.getElem?_eq_getElem (by omega)⟩
  have h2 := front_not he rfl
  have he' : es[frontN (es.take k)]? = some e := by rw [List.getElem?_take, if_pos hlt] at he; exact he
  have h3 := front_before he' (by omega)
  rw [h2] at h3
  cases h3

theorem front_any (A : Option Addr) (n cap : Nat) (es : List En) (hn : n ≤ cap) (hc : cap ≤ maxLen) (w : World) (hE : EntsAt w A n es) :
    Calls Tryd.prog 31 #[.slice A n cap] w fun r w' => r = .returned (.int .i64 (frontN es)) ∧ Below w.heap.size w w' := by
  have HL := hE.len
  have HE := Lib.hid hE
  clear hE
  have HF := Lib.hid (front_le es)
  unfold maxLen at hc
  go_enter Tryd.func31, Tryd.ntmps31
  go_wp2
  go_loopw [7] (fun i wr => ∃ k : Nat, k ≤ n ∧ k ≤ frontN es ∧ i = .int .i64 k ∧ Below w.heap.size w wr) (fun i _ => n - (intOf i).toNat)
  case atStart => exact ⟨0, by omega, by omega, rfl, Below.refl _ _⟩
  case round =>
    obtain ⟨k, hk, hkf, rfl, hb⟩ := hrel
    have HB := Lib.hid hb
    have HKF := Lib.hid hkf
    clear hb hkf
    by_cases hlt : k < n
    · obtain ⟨e, he⟩ : ∃ e, es[k]? = some e := ⟨_, List.getElem?_eq_getElem (by omega)⟩
      obtain ⟨a, rfl, hal, hcell⟩ := (HE.out.below HB.out).at_ he
      have HS := Lib.hid (fun w => safe_any e w)
      unfold enV at HS
      have HQ := Lib.hid he
      clear he
      cases hsb : safeB e
      · rw [hsb] at HS
        have HT := Lib.hid hsb
        clear hsb
        obtain ⟨cs, hcs⟩ : ∃ cs, enC e = cs := ⟨_, rfl⟩
        have h17 : cs.length = 17 := by rw [← hcs]; rfl
        have h1 : cs.toArray.all (·.oneCell') = true := by rw [← hcs]; exact enC_one e
        rw [hcs] at HS hcell
        clear hcs
        have HX := Lib.hid hcell
        have HI := Lib.hid (show (Tryd.prog.info? 60).map (·.size) = some cs.length by rw [h17]; exact ent_info)
        have HA := Lib.hid h1
        have HZ := Lib.hid h17
        clear hcell h1 h17
        go_wp2_with (first
          | (refine wpList_load_row rfl 60 (.tmp 10) rfl _ rfl cs _ HX.out Tryd.underlying60 rfl HI.out ?_)
          | (refine wpList_store_new rfl 60 (.tmp 4) (.tmp 11) rfl wr.heap.size rfl _ cs _ rfl rfl HZ.out.symm HI.out HA.out ?_; intro W4 hb4 hB4 hs4; have G := Lib.hid hB4; have GB := Lib.hid (HB.out.trans (hb4.mono HB.out.size)); clear hb4 hB4)
          | (refine wpList_load_mid rfl 60 (.tmp 4) rfl wr.heap.size 0 rfl cs _ G.out.range Tryd.underlying60 rfl HI.out ?_)
          | (go_at_call 72; refine (HS.out _).mono ?_; rintro r w5 ⟨rfl, b5⟩; have KB := Lib.hid (GB.out.trans (b5.mono GB.out.size)); clear b5))
        go_ret
        exact ⟨ret_int (by rw [front_at HQ.out HT.out HKF.out]), KB.out⟩
      · rw [hsb] at HS
        have HT := Lib.hid hsb
        clear hsb
        obtain ⟨cs, hcs⟩ : ∃ cs, enC e = cs := ⟨_, rfl⟩
        have h17 : cs.length = 17 := by rw [← hcs]; rfl
        have h1 : cs.toArray.all (·.oneCell') = true := by rw [← hcs]; exact enC_one e
        rw [hcs] at HS hcell
        clear hcs
        have HX := Lib.hid hcell
        have HI := Lib.hid (show (Tryd.prog.info? 60).map (·.size) = some cs.length by rw [h17]; exact ent_info)
        have HA := Lib.hid h1
        have HZ := Lib.hid h17
        clear hcell h1 h17
        go_wp2_with (first
          | (refine wpList_load_row rfl 60 (.tmp 10) rfl _ rfl cs _ HX.out Tryd.underlying60 rfl HI.out ?_)
          | (refine wpList_store_new rfl 60 (.tmp 4) (.tmp 11) rfl wr.heap.size rfl _ cs _ rfl rfl HZ.out.symm HI.out HA.out ?_; intro W4 hb4 hB4 hs4; have G := Lib.hid hB4; have GB := Lib.hid (HB.out.trans (hb4.mono HB.out.size)); clear hb4 hB4)
          | (refine wpList_load_mid rfl 60 (.tmp 4) rfl wr.heap.size 0 rfl cs _ G.out.range Tryd.underlying60 rfl HI.out ?_)
          | (go_at_call 72; refine (HS.out _).mono ?_; rintro r w5 ⟨rfl, b5⟩; have KB := Lib.hid (GB.out.trans (b5.mono GB.out.size)); clear b5))
        go_roundw
        case rel => exact ⟨k + 1, by omega, front_on HQ.out HT.out HKF.out, by go_num, KB.out⟩
        case measure => simp [intOf]; omega
    · obtain rfl : k = n := by omega
      go_wp2
      go_ret
      refine ⟨ret_int ?_, HB.out⟩
      have := HKF.out
      have := HF.out
      omega

theorem visible_any (A : Option Addr) (n cap : Nat) (es : List En) (i : Int) (hn : n ≤ cap) (hc : cap ≤ maxLen) (w : World) (hE : EntsAt w A n es) :
    Calls Tryd.prog 32 #[.slice A n cap, .int .i64 i] w fun r w' => r = .returned (.bool (decide (0 ≤ i ∧ i ≤ frontN es))) ∧ Below w.heap.size w w' := by
  have HF := Lib.hid (front_any A n cap es hn hc w hE)
  clear hE
  go_enter Tryd.func32, Tryd.ntmps32
  by_cases h0 : 0 ≤ i
  · have hd : decide (0 ≤ i) = true := decide_eq_true h0
    go_wp2_with (go_at_call 31; refine HF.out.mono ?_; rintro r w5 ⟨rfl, b5⟩; have KB := Lib.hid b5; clear b5)
    go_ret
    refine ⟨retb ?_, KB.out⟩
    simp [h0]
  · have hd : decide (0 ≤ i) = false := decide_eq_false h0
    go_wp2
    go_ret
    refine ⟨retb ?_, Below.refl _ _⟩
    simp [h0]
theorem alive14_any (w : World) : Calls Tryd.prog 30 #[] w fun r w' => r = .returned (.bool true) ∧ Below w.heap.size w w' := by
  have k1 : safeB ⟨0, 0, 28, 0, 0, 0, 0, 0, 0, 0, 0, 0, 0, 0, 0, false, false⟩ = true := by simp [safeB, kindI]
  have k2 : safeB ⟨0, 0, 5, 0, 0, 0, 0, 0, 0, 0, 0, 0, 0, 0, 0, false, false⟩ = false := by simp [safeB, kindI]
  have h1 := fun w => safe_any ⟨0, 0, 28, 0, 0, 0, 0, 0, 0, 0, 0, 0, 0, 0, 0, false, false⟩ w
  have h2 := fun w => safe_any ⟨0, 0, 5, 0, 0, 0, 0, 0, 0, 0, 0, 0, 0, 0, 0, false, false⟩ w
  rw [k1] at h1
  rw [k2] at h2
  have H1 := Lib.hid h1
  have H2 := Lib.hid h2
  clear h1 h2 k1 k2
  go_enter Tryd.func30, Tryd.ntmps30
  go_wp2_with fail
  go_at_call 72
  refine (H1.out _).mono ?_
  rintro r w5 ⟨rfl, b5⟩
  have KB := Lib.hid b5
  clear b5
  go_wp2_with fail
  go_at_call 72
  refine (H2.out _).mono ?_
  rintro r w6 ⟨rfl, b6⟩
  have KB2 := Lib.hid (KB.out.trans (b6.mono KB.out.size))
  clear b6
  go_wp2
  go_ret
  exact ⟨rfl, KB2.out⟩
theorem few14_any (A : Option Addr) (n cap : Nat) (hn : n ≤ cap) (hc : cap ≤ maxLen) (w : World) :
    Calls Tryd.prog 28 #[.slice A n cap] w fun r w' => r = .returned (.slice A (min n 20) cap) ∧ Below w.heap.size w w' := by
  unfold maxLen at hc
  go_enter Tryd.func28, Tryd.ntmps28
  by_cases h : n ≤ 20
  · have hm : min (n : Int) 20 = n := by omega
    have hm2 : min n 20 = n := by omega
    rw [hm2]
    go_wp2
    go_ret
    exact ⟨rfl, Below.refl _ _⟩
  · have hm : min (n : Int) 20 = 20 := by omega
    have hm2 : min n 20 = 20 := by omega
    rw [hm2]
    go_wp2
    go_ret
    exact ⟨rfl, Below.refl _ _⟩
end Go.Proofs.YtfekknalchjkiaaDoor
