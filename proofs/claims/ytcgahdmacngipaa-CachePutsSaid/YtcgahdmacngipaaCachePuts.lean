/- Proved: the statement of CachePuts (auspexlaw10): what touching and putting any line make of any cache, and what had to go, is as the document says; for every input. -/
import Derived.Test.YtcgahdmacngipaaRows
import Derived.Test.YtcgahdmacngipaaCacheQ
import Derived.Deep.RegionHeld3
import Derived.OpenShut
import Derived.WalkKit
import Derived.ProofKit
import Derived.ChangeMaps5
namespace Go.Proofs.Ytcgahdmacngipaa.cachePuts
open Go.ChangeShapes Go.WideShapes Go.ChangeAt Go.RowKit Go.Sort
open Go.ChangeMaps (open_string shut_string)
set_option linter.unusedVariables false
set_option linter.unusedSimpArgs false
set_option maxHeartbeats 8000000
set_option maxRecDepth 100000

theorem refPut_anyC (ways : Int) (A : Option Addr) (n cap : Nat) (hs : List Hd) (ss : List (List Wy)) (line : Int) (data : ByteArray) (dirty : Bool) (hn : n ≤ cap) (hc : cap ≤ maxLen) (hz : A = none → cap = 0) (hss : setsOK ss) (h0 : 0 ≤ line) (h1 : line < 4294967296) (w : World) (hS : SetsAt w A n hs ss) :
    Calls Try.prog 22 #[caV ways A n cap, .int .u32 line, .string data, .bool dirty] w fun e w' => ∃ (A' : Option Addr) (c' : Nat) (hs' : List Hd), e = .returned (putV ways A' n c' (putS ways ss line data dirty)) ∧ n ≤ c' ∧ c' ≤ maxLen ∧ (A' = none → c' = 0) ∧ SetsAt w' A' n hs' (putS ways ss line data dirty).1 ∧ Below w.heap.size w w' := by
  cases hr : rightC ways ss
  · refine (refPut_bad ways A n cap hs ss line data dirty hn hc hss w hS hr).mono ?_
    rintro e w' ⟨he, b⟩
    have hp : putS ways ss line data dirty = (ss, zeroW, false) := by unfold putS; rw [if_neg (by simp [hr])]
    rw [hp]
    exact ⟨A, cap, hs, he, hn, hc, hz, hS.below b, b⟩
  · obtain ⟨k, s, hk, hsk, ⟨hp, hf⟩ | ⟨i, x, hx, hxl, hf⟩⟩ := findS_cases line hr
    · exact refPut_new ways A n cap hs ss line data dirty hn hc hss h0 h1 w hS hr k s hk hsk hp hf
    · exact refPut_found ways A n cap hs ss line data dirty hn hc hss h0 h1 w hS hr k i s x (by rw [hxl]; exact hk) hsk hx hf
theorem ok_sets {ss : List (List Wy)} (h : ∀ s ∈ ss, ∀ r ∈ s, wyOK r) : setsOK ss := fun s hs r hr => by
  have := bounds_u32 (h s hs r hr).1
  omega
theorem walk (ways : Int) (A : Option Addr) (n cap : Nat) (hs : List Hd) (ss : List (List Wy)) (line : Int) (data : ByteArray) (dirty : Bool) (ww : (Lit.int .i64 ways).wf = true) (hn : n ≤ cap) (hc : cap ≤ maxLen) (hz : A = none → cap = 0) (wl : (Lit.int .u32 line).wf = true) (wd : data.size ≤ maxLen) (w : World) (hS : SetsAt w A n hs ss) (hok : ∀ s ∈ ss, ∀ r ∈ s, wyOK r) :
    Calls Try.prog 4 #[caV ways A n cap, .int .u32 line, .string data, .bool dirty] w fun e w' => e = .returned (.bool true) ∧ Below w.heap.size w w' := by
  have hl := bounds_u32 wl
  have hss := fewS_ok (ok_sets hok)
  have HFW := Lib.hid (fun W h => few10_all w ways A n cap hs ss hn hc hz W h hS)
  have HS := Lib.hid hS
  obtain ⟨S1, hS1⟩ : ∃ x, fewS ss = x := ⟨_, rfl⟩
  rw [hS1] at hss HFW
  have HP := Lib.hid (fun A n cap hs hn hc hz w h => put_anyC ways A n cap hs S1 line data dirty hn hc hz hss (by omega) (by omega) w h)
  have HQ := Lib.hid (fun A n cap hs hn hc hz w h => refPut_anyC ways A n cap hs S1 line data dirty hn hc hz hss (by omega) (by omega) w h)
  have HT := Lib.hid (fun A n cap hs hn hc hz w h => touch_anyC ways A n cap hs S1 line hn hc hz hss (by omega) (by omega) w h)
  have HU := Lib.hid (fun A n cap hs hn hc hz w h => refTouch_any ways A n cap hs S1 line hn hc hz hss (by omega) (by omega) w h)
  obtain ⟨p, hp⟩ : ∃ p, putS ways S1 line data dirty = p := ⟨_, rfl⟩
  rw [hp] at HP HQ
  obtain ⟨S2, ⟨gl, gd, gb⟩, gt⟩ := p
  obtain ⟨S3, hS3⟩ : ∃ x, touchS ways S1 line = x := ⟨_, rfl⟩
  rw [hS3] at HT HU
  have HLK := Lib.hid (fun A B n c1 c2 hs gs ss hc w h1 h2 => like10_same ways A B n c1 c2 hs gs ss hc w h1 h2)
  unfold putV wyV at HP HQ
  simp only at HP HQ
  unfold caV at HFW HP HQ HT HU HLK ⊢
  clear hS hok hss hp hS3 hS1 wl ww
  go_enter Try.func4, Try.ntmps4
  go_upto_region 1 with fail
  refine wp_allocs [([.int .i64 ways, .slice A n cap], 24)] rfl ?_
  intro W0 y1 KB y3
  have x1 := y3 0 _ rfl
  rw [Nat.add_zero] at x1
  have X1 := Lib.hid x1
  replace KB := Lib.hid KB
  clear y1 y3 x1
  go_upto_region 2 with (first
    | (refine wpList_load_mid rfl 24 (.tmp 4) rfl w.heap.size 0 rfl [.int .i64 ways, .slice A n cap] _ X1.out.range Try.underlying24 rfl ca_info ?_)
    | (go_at_call 9
       refine (HFW.out _ KB.out).mono ?_
       rintro e w1 ⟨A', n', c', hs', rfl, g0, g1, g2, g3, hO', hH', b⟩
       have O1 := Lib.hid hO'
       have H1 := Lib.hid hH'
       have hlt := X1.out.1
       have Y1 := Lib.hid (X1.out.below b X1.out.1)
       have YB := Lib.hid (KB.out.trans (b.mono KB.out.size))
       have HZI := Lib.hid (show (Try.prog.info? 24).map (·.size) = some (#[.int .i64 ways, .slice A' n' c'] : Array Value).size by kernel_rfl)
       have HZO := Lib.hid (show (#[.int .i64 ways, .slice A' n' c'] : Array Value).all (·.oneCell') = true by simp [Value.oneCell'])
       clear hO' hH' b)
    | (refine wpList_store_blk3 rfl 24 (.tmp 4) (.tmp 16) rfl w.heap.size _ #[.int .i64 ways, .slice A' n' c'] Y1.out rfl rfl rfl HZI.out HZO.out ?_
       intro w2 q1 q2 q2f q3 q4
       have Z1 := Lib.hid (show Blk w2 w.heap.size [.int .i64 ways, .slice A' n' c'] from q1)
       have ZB := Lib.hid (YB.out.trans (q3 w.heap.size (Nat.le_refl _)))
       have SA := Lib.hid (show SetsAt w2 A' n' hs' S1 from ⟨(O1.out.same (b := w.heap.size) hlt q2 q2f q4).1, H1.out.below (YB.out.trans (q3 w.heap.size (Nat.le_refl _)))⟩)
       clear q1 q2 q2f q3 q4))
  clear X1 KB
  go_upto_region 3 with (first
    | (refine wpList_load_mid rfl 24 (.tmp 4) rfl w.heap.size 0 rfl [.int .i64 ways, .slice A' n' c'] _ Z1.out.range Try.underlying24 rfl ca_info ?_)
    | (go_at_call 21
       refine (HP.out A' n' c' hs' g1 g2 g3 _ SA.out).mono ?_
       rintro e w3 ⟨A2, c2, hs2, rfl, k1, k2, k3, hS2, b⟩
       have SB := Lib.hid hS2
       have z1 := Z1.out.below b Z1.out.1
       have z2 := SA.out.below b
       have z3 := ZB.out.trans (b.mono ZB.out.size)
       clear Z1 SA ZB b hS2
       have Z1 := Lib.hid z1
       have SA := Lib.hid z2
       have ZB := Lib.hid z3
       clear z1 z2 z3))
  obtain ⟨f1, f2, f3, f4⟩ := two_new w3 [.int .i64 ways, .slice A2 n' c2] [.int .u32 gl, .bool gd, .string gb] 24 37
  have z1 := Z1.out.below f3 Z1.out.1
  have z2 := SA.out.below f3
  have z5 := SB.out.below f3
  have z3 := ZB.out.trans (f3.mono ZB.out.size)
  clear Z1 SA SB ZB f3 f4
  generalize (w3.alloc (.cells #[.int .i64 ways, .slice A2 n' c2] 24)).alloc (.cells #[.int .u32 gl, .bool gd, .string gb] 37) = W4 at *
  generalize w3.heap.size = b9 at *
  have Z1 := Lib.hid z1
  have SA := Lib.hid z2
  have SB := Lib.hid z5
  have ZB := Lib.hid z3
  have F1 := Lib.hid f1
  have F2 := Lib.hid f2
  clear z1 z2 z5 z3 f1 f2
  go_upto_region 4 with (first
    | (refine wpList_load_mid rfl 24 (.tmp 4) rfl w.heap.size 0 rfl [.int .i64 ways, .slice A' n' c'] _ Z1.out.range Try.underlying24 rfl ca_info ?_)
    | (go_at_call 22
       refine (HQ.out A' n' c' hs' g1 g2 g3 _ SA.out).mono ?_
       rintro e w5 ⟨A3, c3, hs3, rfl, m1, m2, m3, hS3, b⟩
       have SC := Lib.hid hS3
       have z1 := Z1.out.below b Z1.out.1
       have z2 := SA.out.below b
       have z5 := SB.out.below b
       have z3 := ZB.out.trans (b.mono ZB.out.size)
       have z6 := F1.out.below b F1.out.1
       have z7 := F2.out.below b F2.out.1
       clear Z1 SA SB ZB F1 F2 b hS3
       have Z1 := Lib.hid z1
       have SA := Lib.hid z2
       have SB := Lib.hid z5
       have ZB := Lib.hid z3
       have F1 := Lib.hid z6
       have F2 := Lib.hid z7
       clear z1 z2 z5 z3 z6 z7))
  obtain ⟨f1, f2, f3, f4⟩ := two_new w5 [.int .i64 ways, .slice A3 n' c3] [.int .u32 gl, .bool gd, .string gb] 24 37
  have z1 := Z1.out.below f3 Z1.out.1
  have z2 := SA.out.below f3
  have z5 := SB.out.below f3
  have z8 := SC.out.below f3
  have z3 := ZB.out.trans (f3.mono ZB.out.size)
  have z6 := F1.out.below f3 F1.out.1
  have z7 := F2.out.below f3 F2.out.1
  clear Z1 SA SB SC ZB F1 F2 f3 f4
  generalize (w5.alloc (.cells #[.int .i64 ways, .slice A3 n' c3] 24)).alloc (.cells #[.int .u32 gl, .bool gd, .string gb] 37) = W6 at *
  generalize w5.heap.size = b12 at *
  have Z1 := Lib.hid z1
  have SA := Lib.hid z2
  have SB := Lib.hid z5
  have SC := Lib.hid z8
  have ZB := Lib.hid z3
  have F1 := Lib.hid z6
  have F2 := Lib.hid z7
  have F3 := Lib.hid f1
  have F4 := Lib.hid f2
  clear z1 z2 z5 z8 z3 z6 z7 f1 f2
  have hn' : n' ≤ maxLen := by unfold maxLen; omega
  have hq := fun wx => eql_way ⟨gl, gd, gb⟩ wx
  simp only at hq
  have HST := Lib.hid (fun w' (hb : Below W6.heap.size W6 w') => (show w'.cell? ⟨w.heap.size, 0, none⟩ = some (.int .i64 ways) ∧ w'.cell? ⟨w.heap.size, 1, none⟩ = some (.slice A' n' c') ∧ w'.cell? ⟨b9, 0, none⟩ = some (.int .i64 ways) ∧ w'.cell? ⟨b9, 1, none⟩ = some (.slice A2 n' c2) ∧ w'.cell? ⟨b9 + 1, 0, none⟩ = some (.int .u32 gl) ∧ w'.cell? ⟨b9 + 1, 1, none⟩ = some (.bool gd) ∧ w'.cell? ⟨b9 + 1, 2, none⟩ = some (.string gb) ∧ w'.cell? ⟨b12, 0, none⟩ = some (.int .i64 ways) ∧ w'.cell? ⟨b12, 1, none⟩ = some (.slice A3 n' c3) ∧ w'.cell? ⟨b12 + 1, 0, none⟩ = some (.int .u32 gl) ∧ w'.cell? ⟨b12 + 1, 1, none⟩ = some (.bool gd) ∧ w'.cell? ⟨b12 + 1, 2, none⟩ = some (.string gb) from
    ⟨(Z1.out.below hb Z1.out.1).2.1 0 _ rfl, (Z1.out.below hb Z1.out.1).2.1 1 _ rfl, (F1.out.below hb F1.out.1).2.1 0 _ rfl, (F1.out.below hb F1.out.1).2.1 1 _ rfl, (F2.out.below hb F2.out.1).2.1 0 _ rfl, (F2.out.below hb F2.out.1).2.1 1 _ rfl, (F2.out.below hb F2.out.1).2.1 2 _ rfl, (F3.out.below hb F3.out.1).2.1 0 _ rfl, (F3.out.below hb F3.out.1).2.1 1 _ rfl, (F4.out.below hb F4.out.1).2.1 0 _ rfl, (F4.out.below hb F4.out.1).2.1 1 _ rfl, (F4.out.below hb F4.out.1).2.1 2 _ rfl⟩))
  have LD := Lib.hid (show Below W6.heap.size W6 W6.drew from (Below.refl W6.heap.size W6).drew)
  cases gt
  all_goals
    go_region_held3 (fun w' => w'.cell? ⟨w.heap.size, 0, none⟩ = some (.int .i64 ways) ∧ w'.cell? ⟨w.heap.size, 1, none⟩ = some (.slice A' n' c') ∧ w'.cell? ⟨b9, 0, none⟩ = some (.int .i64 ways) ∧ w'.cell? ⟨b9, 1, none⟩ = some (.slice A2 n' c2) ∧ w'.cell? ⟨b9 + 1, 0, none⟩ = some (.int .u32 gl) ∧ w'.cell? ⟨b9 + 1, 1, none⟩ = some (.bool gd) ∧ w'.cell? ⟨b9 + 1, 2, none⟩ = some (.string gb) ∧ w'.cell? ⟨b12, 0, none⟩ = some (.int .i64 ways) ∧ w'.cell? ⟨b12, 1, none⟩ = some (.slice A3 n' c3) ∧ w'.cell? ⟨b12 + 1, 0, none⟩ = some (.int .u32 gl) ∧ w'.cell? ⟨b12 + 1, 1, none⟩ = some (.bool gd) ∧ w'.cell? ⟨b12 + 1, 2, none⟩ = some (.string gb))
      ((first
        | with_reducible exact HST.out _ LD.out
        | with_reducible exact HST.out _ B1.out
        | with_reducible exact HST.out _ B2.out
        | with_reducible exact HST.out _ B3.out
        | with_reducible exact HST.out _ B4.out
        | with_reducible exact HST.out _ B5.out))
      ((first
        | (go_at_call 15
           refine (HLK.out A5 A6 n' c5 c6 hs5 hs6 S3 hn' _ SF.out SE.out).mono ?_
           rintro e v5 ⟨rfl, b⟩
           have B5 := Lib.hid (B4.out.trans (b.mono B4.out.size))
           clear b)
        | (go_at_call 12
           refine (alive10_any _).mono ?_
           rintro e v1 ⟨rfl, b⟩
           have B1 := Lib.hid (LD.out.trans b)
           clear b)
        | (go_at_call 15
           refine (HLK.out A2 A3 n' c2 c3 hs2 hs3 S2 hn' _ (SB.out.below B1.out) (SC.out.below B1.out)).mono ?_
           rintro e v2 ⟨rfl, b⟩
           have B2 := Lib.hid (B1.out.trans (b.mono B1.out.size))
           clear b)
        | (go_at_call 23
           refine (HT.out A' n' c' hs' g1 g2 g3 _ (SA.out.below B2.out)).mono ?_
           rintro e v3 ⟨A5, c5, hs5, rfl, -, -, -, hS5, b⟩
           have B3 := Lib.hid (B2.out.trans (b.mono B2.out.size))
           have SD := Lib.hid hS5
           clear b hS5)
        | (go_at_call 24
           refine (HU.out A' n' c' hs' g1 g2 g3 _ (SA.out.below B3.out)).mono ?_
           rintro e v4 ⟨A6, c6, hs6, rfl, -, -, -, hS6, b⟩
           have B4 := Lib.hid (B3.out.trans (b.mono B3.out.size))
           have SE := Lib.hid hS6
           have SF := Lib.hid (SD.out.below b)
           clear b hS6)))
  all_goals
    go_wp2_with fail
    go_ret
    exact ⟨rfl, ZB.out.trans (B5.out.mono ZB.out.size)⟩
theorem own : ownKnob Try.prog.godebug = none := by kernel_rfl
theorem laidOut : laidOutB Try.prog = true := by kernel_rfl

set_option maxRecDepth 100000 in
theorem lifted (os : Os) (started : os.Started) (H : Type) (enc : TypeId × Value → H) :
    ReturnsInHanded {} Try.checked os 4 .any (Rows.cachePutsSpec.pre6 enc Try.prog Try.f4 Rows.cachePutsRow.domain false) (Rows.cachePutsSpec.post enc Try.prog Try.f4 false true false false) := by
  refine returnsInHanded_of_change (C := Try.checked) own started (by kernel_rfl) Try.func4
    (ChangeSpec.witness6 (enc := enc) (C := Try.checked) false ⟨#[], #[Value.agg #[.int .i64 0, .slice none 0 0], Value.int .u32 0, Value.string ByteArray.empty, Value.bool false], []⟩ 8 (by kernel_rfl) (by kernel_rfl) (by kernel_rfl) (by kernel_rfl)) ?_
  intro W base args ds gs before hval0 hW hcnd _
  have hval : ∀ (j : Nat) t v, Try.f4.params[j]? = some t → args[j]? = some v → Value.okWide Try.prog W .any base t v := hval0
  have hW' := hW
  obtain ⟨p, q, hA0, hV, rfl, hfz, hnd⟩ := hW
  have hA : DataW.TrodAll enc Try.prog W 0 (fun _ => true) true Try.f4.params.toList args.toList ds p := hA0
  rw [Try.params4] at hA hval
  obtain ⟨v0, vs0, d0, ds0, p0, q0, hargs, rfl, rfl, h0, r0⟩ := trodAll_cons hA
  obtain ⟨v1, vs1, d1, ds1, p1, q1, rfl, rfl, rfl, h1, r1⟩ := trodAll_cons r0
  obtain ⟨v2, vs2, d2, ds2, p2, q2, rfl, rfl, rfl, h2, r2⟩ := trodAll_cons r1
  obtain ⟨v3, vs3, d3, ds3, p3, q3, rfl, rfl, rfl, h3, r3⟩ := trodAll_cons r2
  obtain ⟨rfl, rfl, rfl⟩ := trodAll_nil r3
  obtain rfl : args = #[v0, v1, v2, v3] := by cases args; simp_all
  obtain ⟨rfl, rfl⟩ := trodVars_none hV
  have hlt := hW'.lt
  have k0 := h0
  obtain ⟨c_w, c_a, c_n, c_c, c_h, c_s, rfl, w_c_w, w_c_n, w_c_m, w_c_z, w_c, w_c_q⟩ := arg_cache (hval 0 24 v0 rfl rfl) h0
  have k1 := h1
  obtain ⟨line, rfl, -, -, w_line⟩ := open_int Try.underlying25 (hval 1 25 v1 rfl rfl) h1
  have k2 := h2
  obtain ⟨data, rfl, -, -, w_data⟩ := open_string Try.underlying9 (hval 2 9 v2 rfl rfl) h2
  have k3 := h3
  obtain ⟨dirty, rfl, -, -⟩ := open_bool Try.underlying4 (hval 3 4 v3 rfl rfl) h3
  clear hA0 hval0
  simp only [List.append_nil] at hW'
  refine (walk c_w c_a c_n c_c c_h c_s line data dirty w_c_w w_c_n w_c_m w_c_z w_line w_data W w_c w_c_q).mono fun e W' ⟨he, bel⟩ => ?_
  subst he
  exact ⟨_, rfl, _, _, _, [], _, [], hW', trodAll_mk1 (shut_bool Try.underlying4 _), (trodAll_cons_mk (Below.trod laidOut (by kernel_rfl) (of_decide_eq_true (by kernel_rfl)) k0 bel (fun x hx => hlt x (by simp [hx]))) (trodAll_cons_mk (Below.trod laidOut (by kernel_rfl) (of_decide_eq_true (by kernel_rfl)) k1 bel (fun x hx => hlt x (by simp [hx]))) (trodAll_cons_mk (Below.trod laidOut (by kernel_rfl) (of_decide_eq_true (by kernel_rfl)) k2 bel (fun x hx => hlt x (by simp [hx]))) (trodAll_cons_mk (Below.trod laidOut (by kernel_rfl) (of_decide_eq_true (by kernel_rfl)) k3 bel (fun x hx => hlt x (by simp [hx]))) trodAll_mk0)))), rfl, bel.frame _, fun h => by cases h⟩

/-- THE STATEMENT -/
theorem proved : Rows.CachePutsSaid :=
  OpenClaim.holds_of_wide 4 Try.f4 rfl rfl rfl rfl rfl rfl rfl ⟨rfl, rfl, rfl, rfl, rfl⟩ rfl rfl rfl rfl rfl (by kernel_rfl) Try.func4 (by kernel_rfl)
    (of_decide_eq_true (by kernel_rfl)) (by unfold Func.isWrapper; first | (rw [if_pos (by decide +kernel)]; kernel_rfl) | (rw [if_neg (by decide +kernel)]; exact ⟨rfl, rfl⟩))
    (fun os started H enc _ => lifted os started H enc)
#print axioms proved
end Go.Proofs.Ytcgahdmacngipaa.cachePuts
