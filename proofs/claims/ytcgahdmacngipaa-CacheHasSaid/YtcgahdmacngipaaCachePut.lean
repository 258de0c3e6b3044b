/- THE CONTRACT of cache.Put: of a cache that may not be, of a line that stands there. -/
import Derived.Test.YtcgahdmacngipaaCacheI
namespace Go.Proofs.Ytcgahdmacngipaa
open Go.ChangeShapes Go.WideShapes Go.ChangeAt Go.RowKit Go.Sort
set_option linter.unusedVariables false
set_option linter.unusedSimpArgs false
set_option maxHeartbeats 8000000
set_option maxRecDepth 100000

theorem results_ccs {P : Program} {fn : Func} {p q r : Tmp} {ty tz : TypeId} (h : fn.results = #[.cell p ty, .cell q tz, .tmp r]) (tmps : Array Value) (w : World) (b c : Nat) (cs ds : List Value) (v : Value) (d e : TypeDesc)
    (hp : tmps.getD p undef = .pointer (some ⟨b, 0, none⟩)) (hq : tmps.getD q undef = .pointer (some ⟨c, 0, none⟩)) (hr : tmps.getD r undef = v) (hB : Blk w b cs) (hD : Blk w c ds) (hu : P.underlying ty = some d) (hd : d.isRow = true) (hi : (P.info? ty).map (·.size) = some cs.length)
    (hv : P.underlying tz = some e) (he : e.isRow = true) (hj : (P.info? tz).map (·.size) = some ds.length) :
    (results fn tmps).run P w = .ok (.tuple #[.agg cs.toArray, .agg ds.toArray, v]) w := by
  have hp' : tmps[p]?.getD undef = .pointer (some ⟨b, 0, none⟩) := by simpa using hp
  have hq' : tmps[q]?.getD undef = .pointer (some ⟨c, 0, none⟩) := by simpa using hq
  have hr' : tmps[r]?.getD undef = v := by simpa using hr
  simp [results, h, hp', hq', hr', asAddr, run_loadVar_mid w b 0 ty cs d hB.range hu hd hi, run_loadVar_mid w c 0 tz ds e hD.range hv he hj]
def zW : List Value := [.int .u32 0, .bool false, .string ByteArray.empty]
def putV (ways : Int) (A : Option Addr) (n c : Nat) (p : List (List Wy) × Wy × Bool) : Value := .tuple #[caV ways A n c, wyV p.2.1, .bool p.2.2]
theorem put_bad (ways : Int) (A : Option Addr) (n cap : Nat) (hs : List Hd) (ss : List (List Wy)) (line : Int) (data : ByteArray) (dirty : Bool) (hn : n ≤ cap) (hc : cap ≤ maxLen) (hss : setsOK ss) (w : World) (hS : SetsAt w A n hs ss)
    (hr : rightC ways ss = false) :
    Calls Try.prog 21 #[caV ways A n cap, .int .u32 line, .string data, .bool dirty] w fun e w' => e = .returned (putV ways A n cap (ss, zeroW, false)) ∧ Below w.heap.size w w' := by
  have HR := Lib.hid (fun w h => right_anyC ways A n cap hs ss hn hc hss w h)
  have HS := Lib.hid hS
  rw [hr] at HR
  clear hS hr
  have HZI := Lib.hid (show (Try.prog.info? 24).map (·.size) = some (#[.int .i64 ways, .slice A n cap] : Array Value).size by kernel_rfl)
  have HZO := Lib.hid (show (#[.int .i64 ways, .slice A n cap] : Array Value).all (·.oneCell') = true by simp [Value.oneCell'])
  have HWI := Lib.hid (show (Try.prog.info? 37).map (·.size) = some zW.toArray.size by kernel_rfl)
  have HWO := Lib.hid (show zW.toArray.all (·.oneCell') = true by simp [zW, Value.oneCell'])
  unfold caV at HR ⊢
  go_enter Try.func21, Try.ntmps21
  go_upto_region 1 with fail
  refine wp_allocs [([.int .i64 ways, .slice A n cap], 24), ([.int .i64 0, .slice none 0 0], 24), (zW, 37)] rfl ?_
  intro W0 y1 KB y3
  have x1 := y3 0 _ rfl
  have x2 := y3 1 _ rfl
  have x3 := y3 2 _ rfl
  rw [Nat.add_zero] at x1
  have X1 := Lib.hid x1
  have X2 := Lib.hid x2
  have X3 := Lib.hid x3
  replace KB := Lib.hid KB
  have hb3 := x3.1
  clear y1 y3 x1 x2 x3
  go_wp2_with (first
    | (refine wpList_load_mid rfl 24 (.tmp 4) rfl w.heap.size 0 rfl [.int .i64 ways, .slice A n cap] _ X1.out.range Try.underlying24 rfl ca_info ?_)
    | (go_at_call 13
       refine (HR.out _ (HS.out.below KB.out)).mono ?_
       rintro e W1 ⟨rfl, b⟩
       have z1 := X1.out.below b X1.out.1
       have z2 := X2.out.below b X2.out.1
       have z4 := X3.out.below b X3.out.1
       have z3 := KB.out.trans (b.mono KB.out.size)
       have hbs := b.size
       clear X1 X2 X3 KB b
       have X1 := Lib.hid z1
       have X2 := Lib.hid z2
       have X3 := Lib.hid z4
       have KB := Lib.hid z3
       clear z1 z2 z3 z4)
    | (refine wpList_store_blk3 rfl 24 (.tmp 8) (.tmp 22) rfl (w.heap.size + 1) _ #[.int .i64 ways, .slice A n cap] X2.out rfl rfl rfl HZI.out HZO.out ?_
       intro W4 q1 q2 q2f q3 q4
       have G1 := Lib.hid q1
       have G3 := Lib.hid (KB.out.trans (q3 w.heap.size (by omega)))
       have Y3 := Lib.hid (show Blk W4 (w.heap.size + 2) zW from ⟨by rw [q4]; exact X3.out.1, fun i v hi => by rw [q2 _ (by simp)]; exact X3.out.2.1 i v hi, fun i hi => by rw [q2f]; exact X3.out.2.2 i hi⟩)
       clear q1 q2 q2f q3 q4)
    | (refine wpList_store_blk3 rfl 37 (.tmp 9) (.tmp 23) rfl (w.heap.size + 2) _ zW.toArray Y3.out rfl rfl rfl HWI.out HWO.out ?_
       intro W5 q1 q2 q2f q3 q4
       have R3 := Lib.hid q1
       have R2 := Lib.hid (show Blk W5 (w.heap.size + 1) [.int .i64 ways, .slice A n cap] from ⟨by rw [q4]; exact G1.out.1, fun i v hi => by rw [q2 _ (by simp)]; exact G1.out.2.1 i v hi, fun i hi => by rw [q2f]; exact G1.out.2.2 i hi⟩)
       have R1 := Lib.hid (G3.out.trans (q3 w.heap.size (by omega)))
       clear q1 q2 q2f q3 q4))
  exact bodyPost_ret (v := .tuple #[.agg #[.int .i64 ways, .slice A n cap], .agg zW.toArray, .bool false]) (results_ccs Try.results21 _ W5 (w.heap.size + 1) (w.heap.size + 2) [.int .i64 ways, .slice A n cap] zW (.bool false) _ _ rfl rfl rfl R2.out R3.out Try.underlying24 rfl ca_info Try.underlying37 rfl wy_info) rfl ⟨rfl, R1.out⟩
theorem Blk.same {w W : World} {b b' : Nat} {cs : List Value} (h : Blk w b' cs) (hb : b' ≠ b) (hc : ∀ p : Addr, p.block ≠ b → W.cell? p = w.cell? p) (hf : ∀ p : Addr, W.frozen? p = w.frozen? p) (hs : W.heap.size = w.heap.size) : Blk W b' cs :=
  ⟨by rw [hs]; exact h.1, fun i v hi => by rw [hc _ (by simpa using hb)]; exact h.2.1 i v hi, fun i hi => by rw [hf]; exact h.2.2 i hi⟩
theorem putS_found {ways : Int} {ss : List (List Wy)} {line : Int} {data : ByteArray} {dirty : Bool} (hr : rightC ways ss = true) {k i : Nat} {s : List Wy} {x : Wy} (hsk : ss[k]? = some s) (hx : s[i]? = some x) (hf : findS ways ss line = ((k : Int), (i : Int), true)) :
    putS ways ss line data dirty = (ss.set k (putOn x data dirty :: (s.take i ++ s.drop (i + 1))), zeroW, false) := by
  unfold putS
  rw [if_pos hr, hf, if_pos rfl]
  simp only [Int.toNat_natCast]
  unfold setAt toF
  rw [Int.toNat_natCast, List.getD_eq_getElem?_getD, hsk, Option.getD_some, hx]
  rfl
theorem put_found (ways : Int) (A : Option Addr) (n cap : Nat) (hs : List Hd) (ss : List (List Wy)) (line : Int) (data : ByteArray) (dirty : Bool) (hn : n ≤ cap) (hc : cap ≤ maxLen) (hss : setsOK ss) (h0 : 0 ≤ line) (h1 : line < 4294967296) (w : World) (hS : SetsAt w A n hs ss)
    (hr : rightC ways ss = true) (k i : Nat) (s : List Wy) (x : Wy) (hsk : ss[k]? = some s) (hx : s[i]? = some x) (hf : findS ways ss line = ((k : Int), (i : Int), true)) :
    Calls Try.prog 21 #[caV ways A n cap, .int .u32 line, .string data, .bool dirty] w fun e w' => ∃ (A' : Option Addr) (c' : Nat) (hs' : List Hd), e = .returned (putV ways A' n c' (putS ways ss line data dirty)) ∧ n ≤ c' ∧ c' ≤ maxLen ∧ (A' = none → c' = 0) ∧ SetsAt w' A' n hs' (putS ways ss line data dirty).1 ∧ Below w.heap.size w w' := by
  have hil := (List.getElem?_eq_some_iff.1 hx).1
  have hl := hS.len
  have hhl := hS.hlen
  have hkn : k < n := by have := (List.getElem?_eq_some_iff.1 hsk).1; omega
  have HR := Lib.hid (fun w h => right_anyC ways A n cap hs ss hn hc hss w h)
  have HF := Lib.hid (fun w h => find_any ways A n cap hs ss line hn hc hss h0 h1 w h)
  have HT := Lib.hid (fun w h => touch_yes ways A n cap hs ss line hn hc hss h0 h1 w h hr k s i hsk hil hf)
  rw [putS_found hr hsk hx hf]
  have hws : toF s i = x :: (s.take i ++ s.drop (i + 1)) := by unfold toF; rw [hx]
  obtain ⟨rest, hrest⟩ : ∃ r, s.take i ++ s.drop (i + 1) = r := ⟨_, rfl⟩
  rw [hrest] at hws ⊢
  rw [hws] at HT
  rw [hr] at HR
  rw [hf] at HF
  unfold findV at HF
  have HS := Lib.hid hS
  clear hS hr hsk hf hrest hws hx
  have HWI := Lib.hid (show (Try.prog.info? 37).map (·.size) = some zW.toArray.size by kernel_rfl)
  have HWO := Lib.hid (show zW.toArray.all (·.oneCell') = true by simp [zW, Value.oneCell'])
  unfold caV at HF HT
  unfold putV
  unfold caV at HR ⊢
  go_enter Try.func21, Try.ntmps21
  go_upto_region 1 with fail
  refine wp_allocs [([.int .i64 ways, .slice A n cap], 24), ([.int .i64 0, .slice none 0 0], 24), (zW, 37)] rfl ?_
  intro W0 y1 KB y3
  have x1 := y3 0 _ rfl
  have x2 := y3 1 _ rfl
  have x3 := y3 2 _ rfl
  rw [Nat.add_zero] at x1
  have X1 := Lib.hid x1
  have X2 := Lib.hid x2
  have X3 := Lib.hid x3
  replace KB := Lib.hid KB
  have hb3 := x3.1
  clear y1 y3 x1 x2 x3
  have hki : (k : Int) < n := by omega
  cases e16 : ((data.size : Int) == 16)
  all_goals
    go_upto_region 7 with (first
      | (refine wpList_load_mid rfl 24 (.tmp 4) rfl w.heap.size 0 rfl [.int .i64 ways, .slice A n cap] _ X1.out.range Try.underlying24 rfl ca_info ?_)
      | (go_at_call 13
         refine (HR.out _ (HS.out.below KB.out)).mono ?_
         rintro e W1 ⟨rfl, b⟩
         have z1 := X1.out.below b X1.out.1
         have z2 := X2.out.below b X2.out.1
         have z4 := X3.out.below b X3.out.1
         have z3 := KB.out.trans (b.mono KB.out.size)
         have hbs := b.size
         clear X1 X2 X3 KB b
         have X1 := Lib.hid z1
         have X2 := Lib.hid z2
         have X3 := Lib.hid z4
         have KB := Lib.hid z3
         clear z1 z2 z3 z4)
      | (go_at_call 10
         refine (HF.out _ (HS.out.below KB.out)).mono ?_
         rintro e W2 ⟨rfl, b⟩
         have z1 := X1.out.below b X1.out.1
         have z2 := X2.out.below b X2.out.1
         have z4 := X3.out.below b X3.out.1
         have z3 := KB.out.trans (b.mono KB.out.size)
         have hbs := b.size
         clear X1 X2 X3 KB b
         have X1 := Lib.hid z1
         have X2 := Lib.hid z2
         have X3 := Lib.hid z4
         have KB := Lib.hid z3
         clear z1 z2 z3 z4)
      | (go_at_call 23
         refine (HT.out _ (HS.out.below KB.out)).mono ?_
         rintro e W3 ⟨A', c', ⟨qa, qn, qc⟩, B, rfl, g1, g2, g3, hqn, hq1, hq2, hq3, hB, hlt, hA, hH, hQ, b⟩
         have OA := Lib.hid hA
         have OQ := Lib.hid hQ
         have z1 := X1.out.below b X1.out.1
         have z2 := X2.out.below b X2.out.1
         have z4 := X3.out.below b X3.out.1
         have z3 := KB.out.trans (b.mono KB.out.size)
         have hbs := b.size
         clear X1 X2 X3 KB b
         have X1 := Lib.hid z1
         have X2 := Lib.hid z2
         have X3 := Lib.hid z4
         have KB := Lib.hid z3
         clear z1 z2 z3 z4
         clear hA hH hQ
         have HZI := Lib.hid (show (Try.prog.info? 24).map (·.size) = some (#[.int .i64 ways, .slice A' n c'] : Array Value).size by kernel_rfl)
         have HZO := Lib.hid (show (#[.int .i64 ways, .slice A' n c'] : Array Value).all (·.oneCell') = true by simp [Value.oneCell']))
      | (refine wpList_store_blk3 rfl 24 (.tmp 4) (.tmp 37) rfl w.heap.size _ #[.int .i64 ways, .slice A' n c'] X1.out rfl rfl rfl HZI.out HZO.out ?_
         intro W4 q1 q2 q2f q3 q4
         have Y1 := Lib.hid q1
         have Y2 := Lib.hid (X2.out.same (by omega) q2 q2f q4)
         have Y3 := Lib.hid (X3.out.same (by omega) q2 q2f q4)
         have YB := Lib.hid (KB.out.trans (q3 w.heap.size (by omega)))
         have YA := Lib.hid (OA.out.same (b := w.heap.size) (by omega) q2 q2f q4)
         have YQ := Lib.hid (OQ.out.same (b := w.heap.size) (by omega) q2 q2f q4)
         clear q1 q2 q2f q3 q4))
    clear X1 X2 X3 KB OA OQ
    have X1 := Y1
    have X2 := Y2
    have X3 := Y3
    have KB := YB
    have OA := YA
    have OQ := YQ
    clear Y1 Y2 Y3 YB YA YQ
    obtain ⟨xl, xd, xb⟩ := x
    have hch : ((hs.set k ⟨qa, qn, qc⟩).map hdC)[k]? = some (hdC ⟨qa, qn, qc⟩) := by rw [List.getElem?_map, List.getElem?_set_self (by omega)]; rfl
    obtain ⟨g, rfl, hg1, hg2, hcell, hfr⟩ := OA.out.at_ hch
    obtain ⟨g4, rfl, hg41, hg42, hcell4, hfr4⟩ := OQ.out.at_ (j := 0) (c := wyC ⟨xl, xd, xb⟩) rfl
    have hg4B := hlt g4 rfl
    have d0 := hcell 0 _ rfl
    rw [Nat.mul_one, Nat.add_zero] at d0
    have e1 := hcell4 1 _ rfl
    have f1 := hfr4 1 (by omega)
    rw [Nat.zero_mul, Nat.zero_add] at e1 f1
    have hq0 : 0 < qn := by omega
    have c1 := X1.out.2.1 1 _ rfl
    clear hcell hfr hcell4 hfr4 hch hlt hq3
    go_upto_region 8 with fail
    clear d0 c1
    cases xd
    all_goals
      go_upto_region 9 with fail
  · have HPO := Lib.hid (show putOn ⟨xl, false, xb⟩ data dirty = ⟨xl, dirty, xb⟩ by unfold putOn; rw [if_neg (by simp at e16; omega)]; rfl)
    clear e1 f1
    have z1 := X1.out.other (p := ⟨g4, 1, none⟩) (v := .bool dirty) (by simp; omega)
    have z2 := X2.out.other (p := ⟨g4, 1, none⟩) (v := .bool dirty) (by simp; omega)
    have z3 := X3.out.other (p := ⟨g4, 1, none⟩) (v := .bool dirty) (by simp; omega)
    have z4 := KB.out.setCell (p := ⟨g4, 1, none⟩) (by show w.heap.size ≤ g4; omega) (.bool dirty)
    have z5 := OA.out.far (p := ⟨g4, 1, none⟩) (by show g4 < B; omega) (.bool dirty)
    have z6 := OQ.out.set (j := 0) (c := wyC ⟨xl, false, xb⟩) rfl (i := 1) (by omega) (.bool dirty)
    rw [Nat.zero_mul, Nat.zero_add, show ((⟨xl, false, xb⟩ :: rest).map wyC).set 0 ((wyC ⟨xl, false, xb⟩).set 1 (.bool dirty)) = (⟨xl, dirty, xb⟩ :: rest).map wyC from rfl] at z6
    clear X1 X2 X3 KB OA OQ
    generalize World.setCell W4 ⟨g4, 1, none⟩ (.bool dirty) = W5 at *
    have X1 := Lib.hid z1
    have X2 := Lib.hid z2
    have X3 := Lib.hid z3
    have KB := Lib.hid z4
    have OA := Lib.hid z5
    have OQ := Lib.hid z6
    clear z1 z2 z3 z4 z5 z6
    go_wp2_with (first
      | (refine wpList_load_mid rfl 24 (.tmp 4) rfl w.heap.size 0 rfl [.int .i64 ways, .slice (some ⟨g, 0, none⟩) n c'] _ X1.out.range Try.underlying24 rfl ca_info ?_)
      | (refine wpList_store_blk3 rfl 24 (.tmp 8) (.tmp 59) rfl (w.heap.size + 1) _ #[.int .i64 ways, .slice (some ⟨g, 0, none⟩) n c'] X2.out rfl rfl rfl HZI.out HZO.out ?_
         intro W7 q1 q2 q2f q3 q4
         have Y2 := Lib.hid q1
         have Y3 := Lib.hid (X3.out.same (by omega) q2 q2f q4)
         have YB := Lib.hid (KB.out.trans (q3 w.heap.size (by omega)))
         have YA := Lib.hid (OA.out.same (b := w.heap.size + 1) (by omega) q2 q2f q4)
         have YQ := Lib.hid (OQ.out.same (b := w.heap.size + 1) (by omega) q2 q2f q4)
         clear q1 q2 q2f q3 q4)
      | (refine wpList_store_blk3 rfl 37 (.tmp 9) (.tmp 60) rfl (w.heap.size + 2) _ zW.toArray Y3.out rfl rfl rfl HWI.out HWO.out ?_
         intro W8 q1 q2 q2f q3 q4
         have R3 := Lib.hid q1
         have R2 := Lib.hid (Y2.out.same (by omega) q2 q2f q4)
         have RB := Lib.hid (YB.out.trans (q3 w.heap.size (by omega)))
         have RA := Lib.hid (YA.out.same (b := w.heap.size + 2) (by omega) q2 q2f q4)
         have RQ := Lib.hid (YQ.out.same (b := w.heap.size + 2) (by omega) q2 q2f q4)
         clear q1 q2 q2f q3 q4))
    exact bodyPost_ret (v := .tuple #[.agg #[.int .i64 ways, .slice (some ⟨g, 0, none⟩) n c'], .agg zW.toArray, .bool false]) (results_ccs Try.results21 _ W8 (w.heap.size + 1) (w.heap.size + 2) [.int .i64 ways, .slice (some ⟨g, 0, none⟩) n c'] zW (.bool false) _ _ rfl rfl rfl R2.out R3.out Try.underlying24 rfl ca_info Try.underlying37 rfl wy_info) rfl
      ⟨some ⟨g, 0, none⟩, c', rfl, g1, g2, (fun h => by cases h), ⟨hs.set k ⟨some ⟨g4, 0, none⟩, qn, qc⟩, ⟨by have := RA.out.1; first | exact this | (rw [List.map_set] at this; exact this) | (rw [← List.map_set] at this; exact this), by
        rw [HPO.out]
        exact (HS.out.2.below RB.out).set k ⟨some ⟨g4, 0, none⟩, qn, qc⟩ (⟨xl, dirty, xb⟩ :: rest) ⟨hq1, hq2, (fun h => by cases h), RQ.out.1⟩⟩⟩, RB.out⟩
  · have HPO := Lib.hid (show putOn ⟨xl, true, xb⟩ data dirty = ⟨xl, true, xb⟩ by unfold putOn; rw [if_neg (by simp at e16; omega)]; rfl)
    clear e1 f1
    have z1 := X1.out.other (p := ⟨g4, 1, none⟩) (v := .bool true) (by simp; omega)
    have z2 := X2.out.other (p := ⟨g4, 1, none⟩) (v := .bool true) (by simp; omega)
    have z3 := X3.out.other (p := ⟨g4, 1, none⟩) (v := .bool true) (by simp; omega)
    have z4 := KB.out.setCell (p := ⟨g4, 1, none⟩) (by show w.heap.size ≤ g4; omega) (.bool true)
    have z5 := OA.out.far (p := ⟨g4, 1, none⟩) (by show g4 < B; omega) (.bool true)
    have z6 := OQ.out.set (j := 0) (c := wyC ⟨xl, true, xb⟩) rfl (i := 1) (by omega) (.bool true)
    rw [Nat.zero_mul, Nat.zero_add, show ((⟨xl, true, xb⟩ :: rest).map wyC).set 0 ((wyC ⟨xl, true, xb⟩).set 1 (.bool true)) = (⟨xl, true, xb⟩ :: rest).map wyC from rfl] at z6
    clear X1 X2 X3 KB OA OQ
    generalize World.setCell W4 ⟨g4, 1, none⟩ (.bool true) = W5 at *
    have X1 := Lib.hid z1
    have X2 := Lib.hid z2
    have X3 := Lib.hid z3
    have KB := Lib.hid z4
    have OA := Lib.hid z5
    have OQ := Lib.hid z6
    clear z1 z2 z3 z4 z5 z6
    go_wp2_with (first
      | (refine wpList_load_mid rfl 24 (.tmp 4) rfl w.heap.size 0 rfl [.int .i64 ways, .slice (some ⟨g, 0, none⟩) n c'] _ X1.out.range Try.underlying24 rfl ca_info ?_)
      | (refine wpList_store_blk3 rfl 24 (.tmp 8) (.tmp 59) rfl (w.heap.size + 1) _ #[.int .i64 ways, .slice (some ⟨g, 0, none⟩) n c'] X2.out rfl rfl rfl HZI.out HZO.out ?_
         intro W7 q1 q2 q2f q3 q4
         have Y2 := Lib.hid q1
         have Y3 := Lib.hid (X3.out.same (by omega) q2 q2f q4)
         have YB := Lib.hid (KB.out.trans (q3 w.heap.size (by omega)))
         have YA := Lib.hid (OA.out.same (b := w.heap.size + 1) (by omega) q2 q2f q4)
         have YQ := Lib.hid (OQ.out.same (b := w.heap.size + 1) (by omega) q2 q2f q4)
         clear q1 q2 q2f q3 q4)
      | (refine wpList_store_blk3 rfl 37 (.tmp 9) (.tmp 60) rfl (w.heap.size + 2) _ zW.toArray Y3.out rfl rfl rfl HWI.out HWO.out ?_
         intro W8 q1 q2 q2f q3 q4
         have R3 := Lib.hid q1
         have R2 := Lib.hid (Y2.out.same (by omega) q2 q2f q4)
         have RB := Lib.hid (YB.out.trans (q3 w.heap.size (by omega)))
         have RA := Lib.hid (YA.out.same (b := w.heap.size + 2) (by omega) q2 q2f q4)
         have RQ := Lib.hid (YQ.out.same (b := w.heap.size + 2) (by omega) q2 q2f q4)
         clear q1 q2 q2f q3 q4))
    exact bodyPost_ret (v := .tuple #[.agg #[.int .i64 ways, .slice (some ⟨g, 0, none⟩) n c'], .agg zW.toArray, .bool false]) (results_ccs Try.results21 _ W8 (w.heap.size + 1) (w.heap.size + 2) [.int .i64 ways, .slice (some ⟨g, 0, none⟩) n c'] zW (.bool false) _ _ rfl rfl rfl R2.out R3.out Try.underlying24 rfl ca_info Try.underlying37 rfl wy_info) rfl
      ⟨some ⟨g, 0, none⟩, c', rfl, g1, g2, (fun h => by cases h), ⟨hs.set k ⟨some ⟨g4, 0, none⟩, qn, qc⟩, ⟨by have := RA.out.1; first | exact this | (rw [List.map_set] at this; exact this) | (rw [← List.map_set] at this; exact this), by
        rw [HPO.out]
        exact (HS.out.2.below RB.out).set k ⟨some ⟨g4, 0, none⟩, qn, qc⟩ (⟨xl, true, xb⟩ :: rest) ⟨hq1, hq2, (fun h => by cases h), RQ.out.1⟩⟩⟩, RB.out⟩
  · have HPO := Lib.hid (show putOn ⟨xl, false, xb⟩ data dirty = ⟨xl, dirty, data⟩ by unfold putOn; rw [if_pos (by simp at e16; omega)]; rfl)
    clear e1 f1
    have z1 := X1.out.other (p := ⟨g4, 1, none⟩) (v := .bool dirty) (by simp; omega)
    have z2 := X2.out.other (p := ⟨g4, 1, none⟩) (v := .bool dirty) (by simp; omega)
    have z3 := X3.out.other (p := ⟨g4, 1, none⟩) (v := .bool dirty) (by simp; omega)
    have z4 := KB.out.setCell (p := ⟨g4, 1, none⟩) (by show w.heap.size ≤ g4; omega) (.bool dirty)
    have z5 := OA.out.far (p := ⟨g4, 1, none⟩) (by show g4 < B; omega) (.bool dirty)
    have z6 := OQ.out.set (j := 0) (c := wyC ⟨xl, false, xb⟩) rfl (i := 1) (by omega) (.bool dirty)
    rw [Nat.zero_mul, Nat.zero_add, show ((⟨xl, false, xb⟩ :: rest).map wyC).set 0 ((wyC ⟨xl, false, xb⟩).set 1 (.bool dirty)) = (⟨xl, dirty, xb⟩ :: rest).map wyC from rfl] at z6
    clear X1 X2 X3 KB OA OQ
    generalize World.setCell W4 ⟨g4, 1, none⟩ (.bool dirty) = W5 at *
    have X1 := Lib.hid z1
    have X2 := Lib.hid z2
    have X3 := Lib.hid z3
    have KB := Lib.hid z4
    have OA := Lib.hid z5
    have OQ := Lib.hid z6
    clear z1 z2 z3 z4 z5 z6
    obtain ⟨g4', hg4', -, -, hcell4, hfr4⟩ := OQ.out.at_ (j := 0) (c := wyC ⟨xl, dirty, xb⟩) rfl
    cases hg4'
    have e2 := hcell4 2 _ rfl
    have f2 := hfr4 2 (by omega)
    rw [Nat.zero_mul, Nat.zero_add] at e2 f2
    clear hcell4 hfr4
    go_upto_region 11 with fail
    clear e2 f2
    have z1 := X1.out.other (p := ⟨g4, 2, none⟩) (v := .string data) (by simp; omega)
    have z2 := X2.out.other (p := ⟨g4, 2, none⟩) (v := .string data) (by simp; omega)
    have z3 := X3.out.other (p := ⟨g4, 2, none⟩) (v := .string data) (by simp; omega)
    have z4 := KB.out.setCell (p := ⟨g4, 2, none⟩) (by show w.heap.size ≤ g4; omega) (.string data)
    have z5 := OA.out.far (p := ⟨g4, 2, none⟩) (by show g4 < B; omega) (.string data)
    have z6 := OQ.out.set (j := 0) (c := wyC ⟨xl, dirty, xb⟩) rfl (i := 2) (by omega) (.string data)
    rw [Nat.zero_mul, Nat.zero_add, show ((⟨xl, dirty, xb⟩ :: rest).map wyC).set 0 ((wyC ⟨xl, dirty, xb⟩).set 2 (.string data)) = (⟨xl, dirty, data⟩ :: rest).map wyC from rfl] at z6
    clear X1 X2 X3 KB OA OQ
    generalize World.setCell W5 ⟨g4, 2, none⟩ (.string data) = W6 at *
    have X1 := Lib.hid z1
    have X2 := Lib.hid z2
    have X3 := Lib.hid z3
    have KB := Lib.hid z4
    have OA := Lib.hid z5
    have OQ := Lib.hid z6
    clear z1 z2 z3 z4 z5 z6
    go_wp2_with (first
      | (refine wpList_load_mid rfl 24 (.tmp 4) rfl w.heap.size 0 rfl [.int .i64 ways, .slice (some ⟨g, 0, none⟩) n c'] _ X1.out.range Try.underlying24 rfl ca_info ?_)
      | (refine wpList_store_blk3 rfl 24 (.tmp 8) (.tmp 59) rfl (w.heap.size + 1) _ #[.int .i64 ways, .slice (some ⟨g, 0, none⟩) n c'] X2.out rfl rfl rfl HZI.out HZO.out ?_
         intro W7 q1 q2 q2f q3 q4
         have Y2 := Lib.hid q1
         have Y3 := Lib.hid (X3.out.same (by omega) q2 q2f q4)
         have YB := Lib.hid (KB.out.trans (q3 w.heap.size (by omega)))
         have YA := Lib.hid (OA.out.same (b := w.heap.size + 1) (by omega) q2 q2f q4)
         have YQ := Lib.hid (OQ.out.same (b := w.heap.size + 1) (by omega) q2 q2f q4)
         clear q1 q2 q2f q3 q4)
      | (refine wpList_store_blk3 rfl 37 (.tmp 9) (.tmp 60) rfl (w.heap.size + 2) _ zW.toArray Y3.out rfl rfl rfl HWI.out HWO.out ?_
         intro W8 q1 q2 q2f q3 q4
         have R3 := Lib.hid q1
         have R2 := Lib.hid (Y2.out.same (by omega) q2 q2f q4)
         have RB := Lib.hid (YB.out.trans (q3 w.heap.size (by omega)))
         have RA := Lib.hid (YA.out.same (b := w.heap.size + 2) (by omega) q2 q2f q4)
         have RQ := Lib.hid (YQ.out.same (b := w.heap.size + 2) (by omega) q2 q2f q4)
         clear q1 q2 q2f q3 q4))
    exact bodyPost_ret (v := .tuple #[.agg #[.int .i64 ways, .slice (some ⟨g, 0, none⟩) n c'], .agg zW.toArray, .bool false]) (results_ccs Try.results21 _ W8 (w.heap.size + 1) (w.heap.size + 2) [.int .i64 ways, .slice (some ⟨g, 0, none⟩) n c'] zW (.bool false) _ _ rfl rfl rfl R2.out R3.out Try.underlying24 rfl ca_info Try.underlying37 rfl wy_info) rfl
      ⟨some ⟨g, 0, none⟩, c', rfl, g1, g2, (fun h => by cases h), ⟨hs.set k ⟨some ⟨g4, 0, none⟩, qn, qc⟩, ⟨by have := RA.out.1; first | exact this | (rw [List.map_set] at this; exact this) | (rw [← List.map_set] at this; exact this), by
        rw [HPO.out]
        exact (HS.out.2.below RB.out).set k ⟨some ⟨g4, 0, none⟩, qn, qc⟩ (⟨xl, dirty, data⟩ :: rest) ⟨hq1, hq2, (fun h => by cases h), RQ.out.1⟩⟩⟩, RB.out⟩
  · have HPO := Lib.hid (show putOn ⟨xl, true, xb⟩ data dirty = ⟨xl, true, data⟩ by unfold putOn; rw [if_pos (by simp at e16; omega)]; rfl)
    clear e1 f1
    have z1 := X1.out.other (p := ⟨g4, 1, none⟩) (v := .bool true) (by simp; omega)
    have z2 := X2.out.other (p := ⟨g4, 1, none⟩) (v := .bool true) (by simp; omega)
    have z3 := X3.out.other (p := ⟨g4, 1, none⟩) (v := .bool true) (by simp; omega)
    have z4 := KB.out.setCell (p := ⟨g4, 1, none⟩) (by show w.heap.size ≤ g4; omega) (.bool true)
    have z5 := OA.out.far (p := ⟨g4, 1, none⟩) (by show g4 < B; omega) (.bool true)
    have z6 := OQ.out.set (j := 0) (c := wyC ⟨xl, true, xb⟩) rfl (i := 1) (by omega) (.bool true)
    rw [Nat.zero_mul, Nat.zero_add, show ((⟨xl, true, xb⟩ :: rest).map wyC).set 0 ((wyC ⟨xl, true, xb⟩).set 1 (.bool true)) = (⟨xl, true, xb⟩ :: rest).map wyC from rfl] at z6
    clear X1 X2 X3 KB OA OQ
    generalize World.setCell W4 ⟨g4, 1, none⟩ (.bool true) = W5 at *
    have X1 := Lib.hid z1
    have X2 := Lib.hid z2
    have X3 := Lib.hid z3
    have KB := Lib.hid z4
    have OA := Lib.hid z5
    have OQ := Lib.hid z6
    clear z1 z2 z3 z4 z5 z6
    obtain ⟨g4', hg4', -, -, hcell4, hfr4⟩ := OQ.out.at_ (j := 0) (c := wyC ⟨xl, true, xb⟩) rfl
    cases hg4'
    have e2 := hcell4 2 _ rfl
    have f2 := hfr4 2 (by omega)
    rw [Nat.zero_mul, Nat.zero_add] at e2 f2
    clear hcell4 hfr4
    go_upto_region 11 with fail
    clear e2 f2
    have z1 := X1.out.other (p := ⟨g4, 2, none⟩) (v := .string data) (by simp; omega)
    have z2 := X2.out.other (p := ⟨g4, 2, none⟩) (v := .string data) (by simp; omega)
    have z3 := X3.out.other (p := ⟨g4, 2, none⟩) (v := .string data) (by simp; omega)
    have z4 := KB.out.setCell (p := ⟨g4, 2, none⟩) (by show w.heap.size ≤ g4; omega) (.string data)
    have z5 := OA.out.far (p := ⟨g4, 2, none⟩) (by show g4 < B; omega) (.string data)
    have z6 := OQ.out.set (j := 0) (c := wyC ⟨xl, true, xb⟩) rfl (i := 2) (by omega) (.string data)
    rw [Nat.zero_mul, Nat.zero_add, show ((⟨xl, true, xb⟩ :: rest).map wyC).set 0 ((wyC ⟨xl, true, xb⟩).set 2 (.string data)) = (⟨xl, true, data⟩ :: rest).map wyC from rfl] at z6
    clear X1 X2 X3 KB OA OQ
    generalize World.setCell W5 ⟨g4, 2, none⟩ (.string data) = W6 at *
    have X1 := Lib.hid z1
    have X2 := Lib.hid z2
    have X3 := Lib.hid z3
    have KB := Lib.hid z4
    have OA := Lib.hid z5
    have OQ := Lib.hid z6
    clear z1 z2 z3 z4 z5 z6
    go_wp2_with (first
      | (refine wpList_load_mid rfl 24 (.tmp 4) rfl w.heap.size 0 rfl [.int .i64 ways, .slice (some ⟨g, 0, none⟩) n c'] _ X1.out.range Try.underlying24 rfl ca_info ?_)
      | (refine wpList_store_blk3 rfl 24 (.tmp 8) (.tmp 59) rfl (w.heap.size + 1) _ #[.int .i64 ways, .slice (some ⟨g, 0, none⟩) n c'] X2.out rfl rfl rfl HZI.out HZO.out ?_
         intro W7 q1 q2 q2f q3 q4
         have Y2 := Lib.hid q1
         have Y3 := Lib.hid (X3.out.same (by omega) q2 q2f q4)
         have YB := Lib.hid (KB.out.trans (q3 w.heap.size (by omega)))
         have YA := Lib.hid (OA.out.same (b := w.heap.size + 1) (by omega) q2 q2f q4)
         have YQ := Lib.hid (OQ.out.same (b := w.heap.size + 1) (by omega) q2 q2f q4)
         clear q1 q2 q2f q3 q4)
      | (refine wpList_store_blk3 rfl 37 (.tmp 9) (.tmp 60) rfl (w.heap.size + 2) _ zW.toArray Y3.out rfl rfl rfl HWI.out HWO.out ?_
         intro W8 q1 q2 q2f q3 q4
         have R3 := Lib.hid q1
         have R2 := Lib.hid (Y2.out.same (by omega) q2 q2f q4)
         have RB := Lib.hid (YB.out.trans (q3 w.heap.size (by omega)))
         have RA := Lib.hid (YA.out.same (b := w.heap.size + 2) (by omega) q2 q2f q4)
         have RQ := Lib.hid (YQ.out.same (b := w.heap.size + 2) (by omega) q2 q2f q4)
         clear q1 q2 q2f q3 q4))
    exact bodyPost_ret (v := .tuple #[.agg #[.int .i64 ways, .slice (some ⟨g, 0, none⟩) n c'], .agg zW.toArray, .bool false]) (results_ccs Try.results21 _ W8 (w.heap.size + 1) (w.heap.size + 2) [.int .i64 ways, .slice (some ⟨g, 0, none⟩) n c'] zW (.bool false) _ _ rfl rfl rfl R2.out R3.out Try.underlying24 rfl ca_info Try.underlying37 rfl wy_info) rfl
      ⟨some ⟨g, 0, none⟩, c', rfl, g1, g2, (fun h => by cases h), ⟨hs.set k ⟨some ⟨g4, 0, none⟩, qn, qc⟩, ⟨by have := RA.out.1; first | exact this | (rw [List.map_set] at this; exact this) | (rw [← List.map_set] at this; exact this), by
        rw [HPO.out]
        exact (HS.out.2.below RB.out).set k ⟨some ⟨g4, 0, none⟩, qn, qc⟩ (⟨xl, true, data⟩ :: rest) ⟨hq1, hq2, (fun h => by cases h), RQ.out.1⟩⟩⟩, RB.out⟩
end Go.Proofs.Ytcgahdmacngipaa
