/- The walk of SeqStops (auspexlaw06): a program that halts stays halted; its last step tells where. -/
import Derived.Test.YtaanbolpgfmihaaDoorSeqD
import Derived.Deep.QuietTactic
import Derived.BigQuiet
namespace Go.Proofs.YtaanbolpgfmihaaDoor.seqStops
open Go.ChangeShapes Go.WideShapes Go.ChangeAt Go.RowKit Go.Sort
set_option linter.unusedVariables false
set_option linter.unusedSimpArgs false
set_option maxHeartbeats 8000000
set_option maxRecDepth 100000



theorem walk (A : Option Addr) (n c : Nat) (zs : List Int) (m : ByteArray) (z : Int) (hn : n ≤ c) (hc : c ≤ maxLen) (hz : ∀ z ∈ zs, 0 ≤ z ∧ z < 4294967296) (hm : m.size ≤ maxLen) (hzi : -9223372036854775808 ≤ z ∧ z ≤ 9223372036854775807) (w : World) (hI : IntsAt w A n .u32 zs) (ht : TabIs w ∧ 0 < w.heap.size) :
    Calls Tryd.prog 5 #[.slice A n c, .string m, .int .i64 z] w fun e w' => e = .returned (.bool true) ∧ Below w.heap.size w w' := by
  obtain ⟨htb, hg⟩ := ht
  have HSH := Lib.hid (fun w => short_any A n c m hn hc hm w)
  have hI' := hI.take (Nat.min_le_left n 64)
  have hz' : ∀ z ∈ zs.take (min n 64), 0 ≤ z ∧ z < 4294967296 := fun x hx => hz x (List.mem_of_mem_take hx)
  have k1 : min n 64 ≤ 64 := Nat.min_le_right _ _
  have k2 : min n 64 ≤ c := Nat.le_trans (Nat.min_le_left _ _) hn
  generalize zs.take (min n 64) = zs' at hI' hz'
  generalize min n 64 = n' at HSH hI' k1 k2
  have k3 : (m.extract 0 (min m.size 300)).size ≤ 300 := by rw [ByteArray.size_extract]; omega
  generalize m.extract 0 (min m.size 300) = m' at HSH k3
  obtain ⟨z1, hz1⟩ : ∃ y, (if z < 0 then 0 else z) = y := ⟨_, rfl⟩
  obtain ⟨z2, hz2⟩ : ∃ y, (if 200 < z1 then 200 else z1) = y := ⟨_, rfl⟩
  have k4 : 0 ≤ z1 := by rw [← hz1]; split <;> omega
  have k5 : 0 ≤ z2 ∧ z2 ≤ 200 := by rw [← hz2]; split <;> omega
  have HRN := Lib.hid (fun W t g h => run_any A n' c zs' m' z2 (by omega) hz' (by omega) (by omega) W t g h)
  have hok0 : sqOK (newS m') := newS_ok (by omega)
  have hok : sqOK (runR zs' m' z2).1 := runS_ok _ hok0
  have e4 : (min z2 10000).toNat = z2.toNat := by rw [show min z2 10000 = z2 by omega]
  have hRl : (runR zs' m' z2).2.length ≤ 200 := Nat.le_trans (runS_len zs' (min z2 10000).toNat (newS m')) (by rw [e4]; omega)
  have k6 : n' ≤ 200 := by omega
  have hal : (runR zs' m' z2).1.halt = 0 → (((runR zs' m' z2).2.length : Nat) : Int) = z2 := fun h => by
    have := runS_all zs' (min z2 10000).toNat (newS m') h
    have e : (runR zs' m' z2).2.length = (min z2 10000).toNat := this
    rw [e, e4]; omega
  have hla : (runR zs' m' z2).1.halt ≠ 0 → ∃ ini t, (runR zs' m' z2).2 = ini ++ [t] ∧ t.halt = (runR zs' m' z2).1.halt ∧ t.pc = (runR zs' m' z2).1.pc ∧ t.next = (runR zs' m' z2).1.pc := fun h => by
    obtain ⟨ini, t, a1, a2, a3, a4, -⟩ := runS_last (zs := zs') (min z2 10000).toNat (s := newS m') rfl h
    exact ⟨ini, t, a1, a2, a3, a4⟩
  have hst : (runR zs' m' z2).1.halt ≠ 0 → stepS zs' (runR zs' m' z2).1 = ((runR zs' m' z2).1, zeroSt) := fun h => by
    unfold stepS; rw [if_pos (by simpa using h)]
  obtain ⟨R, hR⟩ : ∃ R, runR zs' m' z2 = R := ⟨_, rfl⟩
  rw [hR] at HRN hok hal hla hst hRl
  have HSP := Lib.hid (fun W t g h => step_any A n' c zs' R.1 hok k6 hz' W t g h)
  obtain ⟨cs, hcs⟩ : ∃ cs, sqC R.1 = cs := ⟨_, rfl⟩
  have hlc : cs.length = 35 := by rw [← hcs]; exact sqC_len hok.2.1
  have hoc := sqC_one R.1
  have c0 := sqC_pc R.1
  have c34 := sqC_halt hok.2.1
  have heq : ∀ w, (binOp .eql 28 (.agg cs.toArray) (.agg cs.toArray)).run Tryd.prog w = .ok (.bool true) w := fun w => by rw [← hcs]; exact bin_sq R.1 hok.2.1 w
  rw [hcs] at hoc c0 c34
  have hvc : sqV R.1 = .agg cs.toArray := by rw [← hcs]; rfl
  have HEQ := Lib.hid heq
  have HI := Lib.hid (show (Tryd.prog.info? 28).map (·.size) = some cs.length by rw [hlc]; exact sq_info)
  have HO := Lib.hid hoc
  have HL := Lib.hid hlc
  have HC := Lib.hid (And.intro c0 c34)
  have HA := Lib.hid hI
  have HA' := Lib.hid hI'
  have HT := Lib.hid htb
  have HG := Lib.hid hg
  rw [hvc] at HRN
  by_cases hh : R.1.halt = 0
  · rw [hh] at HC
    have hlen := hal hh
    have HAL := Lib.hid (fun W t g => alive06_any W t g)
    clear hal hla hst hoc c0 c34 hvc hlc hcs hok0 hok heq hI hI' htb hg hz hz' hR e4
    go_enter Tryd.func5, Tryd.ntmps5
    replace HA := HA'
    go_wp2_with (first
      | (go_at_call 10
         refine (HSH.out _).mono ?_
         rintro e w1 ⟨rfl, b⟩
         have x1 := HA.out.below b
         have x2 := HT.out.below b HG.out
         have A1 := Lib.hid x1
         have T1 := Lib.hid x2
         have G1 := Lib.hid (Nat.lt_of_lt_of_le HG.out b.size)
         have K1 := Lib.hid b
         clear x1 x2 b)
      | (go_at_call 11
         refine (HRN.out _ T1.out G1.out A1.out).mono ?_
         rintro e w2 ⟨B, c2, rfl, h1, h2, h3, h4, h5⟩
         have A2 := Lib.hid (A1.out.below h5)
         have T2 := Lib.hid (T1.out.below h5 G1.out)
         have G2 := Lib.hid (Nat.lt_of_lt_of_le G1.out h5.size)
         have K2 := Lib.hid (K1.out.trans (h5.mono K1.out.size))
         have S2 := Lib.hid h3
         have L2 := Lib.hid (And.intro h1 h2)
         clear h1 h2 h3 h4 h5)
      | (refine wpList_store_new rfl 28 (.tmp 7) (.tmp 25) rfl w2.heap.size rfl _ cs _ rfl rfl (by rw [HL.out]; rfl) HI.out HO.out ?_
         intro W3 b3 k3 s3
         have p0 := k3.2.1 0 _ HC.out.1
         have p34 := k3.2.1 34 _ HC.out.2
         have A3 := Lib.hid (A2.out.below b3)
         have T3 := Lib.hid (T2.out.below b3 G2.out)
         have G3 := Lib.hid (Nat.lt_of_lt_of_le G2.out b3.size)
         have K3 := Lib.hid (K2.out.trans (b3.mono K2.out.size))
         have S3 := Lib.hid (S2.out.below b3)
         have B3 := Lib.hid k3
         have Z3 := Lib.hid s3
         clear b3 k3 s3)
      | (go_at_call 13
         refine (HAL.out _ T3.out G3.out).mono ?_
         rintro e w4 ⟨rfl, b4⟩
         have K4 := Lib.hid (K3.out.trans (b4.mono K3.out.size))
         clear b4))
    go_ret
    exact ⟨rfl, K4.out⟩
  · obtain ⟨ini, t, t1, t2, t3, t4⟩ := hla hh
    have hst' := hst hh
    rw [hst', hvc, show stV zeroSt = .agg z9.toArray from rfl] at HSP
    obtain ⟨k, hk⟩ : ∃ k, ini.length = k := ⟨_, rfl⟩
    have hlen : R.2.length = k + 1 := by rw [t1, List.length_append, hk]; rfl
    have hgt : R.2[k]? = some t := by rw [t1, ← hk]; simp
    rw [hlen] at HRN hRl
    obtain ⟨ct, hct⟩ : ∃ ct, stC t = ct := ⟨_, rfl⟩
    have hlt : ct.length = 9 := by rw [← hct]; rfl
    have hot := stC_one t
    have d0 : ct[0]? = some (.int .u32 R.1.pc) := by rw [← hct, ← t3]; rfl
    have d1 : ct[1]? = some (.int .u32 R.1.pc) := by rw [← hct, ← t4]; rfl
    have d7 : ct[7]? = some (.int .i64 R.1.halt) := by rw [← hct, ← t2]; rfl
    rw [hct] at hot
    have HAL := Lib.hid (fun W t g => alive06_any W t g)
    have HD := Lib.hid (And.intro d0 (And.intro d1 d7))
    have TI := Lib.hid (show (Tryd.prog.info? 33).map (·.size) = some ct.length by rw [hlt]; exact st_info)
    have TO := Lib.hid hot
    have TL := Lib.hid hlt
    have HGT := Lib.hid (show (R.2.map stC)[k]? = some ct by rw [List.getElem?_map, hgt, ← hct]; rfl)
    have E9 := Lib.hid (fun w => show (binOp .eql 33 (.agg z9.toArray) (.agg z9.toArray)).run Tryd.prog w = .ok (.bool true) w from bin_st zeroSt w)
    have HZ := Lib.hid (show z35.length = cs.toArray.size by rw [List.size_toArray, hlc]; rfl)
    clear hal hla hst hst' hoc c0 c34 hvc hlc hcs hok0 hok heq hI hI' htb hg hz hz' hR e4 t1 t2 t3 t4 hk hlen hgt hct hlt hot d0 d1 d7
    go_enter Tryd.func5, Tryd.ntmps5
    replace HA := HA'
    go_upto_region 9 with (first
      | (go_at_call 10
         refine (HSH.out _).mono ?_
         rintro e w1 ⟨rfl, b⟩
         have x1 := HA.out.below b
         have x2 := HT.out.below b HG.out
         have A1 := Lib.hid x1
         have T1 := Lib.hid x2
         have G1 := Lib.hid (Nat.lt_of_lt_of_le HG.out b.size)
         have K1 := Lib.hid b
         clear x1 x2 b)
      | (go_at_call 11
         refine (HRN.out _ T1.out G1.out A1.out).mono ?_
         rintro e w2 ⟨B, c2, rfl, h1, h2, h3, h4, h5⟩
         have A2 := Lib.hid (A1.out.below h5)
         have T2 := Lib.hid (T1.out.below h5 G1.out)
         have G2 := Lib.hid (Nat.lt_of_lt_of_le G1.out h5.size)
         have K2 := Lib.hid (K1.out.trans (h5.mono K1.out.size))
         have S2 := Lib.hid h3
         have L2 := Lib.hid (And.intro h1 h2)
         clear h1 h2 h3 h4 h5)
      | (refine wpList_store_new rfl 28 (.tmp 7) (.tmp 25) rfl w2.heap.size rfl _ cs _ rfl rfl (by rw [HL.out]; rfl) HI.out HO.out ?_
         intro W3 b3 k3 s3
         have p0 := k3.2.1 0 _ HC.out.1
         have p34 := k3.2.1 34 _ HC.out.2
         have A3 := Lib.hid (A2.out.below b3)
         have T3 := Lib.hid (T2.out.below b3 G2.out)
         have G3 := Lib.hid (Nat.lt_of_lt_of_le G2.out b3.size)
         have K3 := Lib.hid (K2.out.trans (b3.mono K2.out.size))
         have S3 := Lib.hid (S2.out.below b3)
         have B3 := Lib.hid k3
         have Z3 := Lib.hid s3
         clear b3 k3 s3)
      | (refine wpList_load_mid rfl 28 (.tmp 7) rfl w2.heap.size 0 rfl cs _ B3.out.range Tryd.underlying28 rfl HI.out ?_)
      | (go_at_call 12
         refine (HSP.out _ T3.out G3.out A3.out).mono ?_
         rintro e w4 ⟨rfl, b4⟩
         have B4 := Lib.hid (B3.out.below b4 B3.out.1)
         have T4 := Lib.hid (T3.out.below b4 G3.out)
         have G4 := Lib.hid (Nat.lt_of_lt_of_le G3.out b4.size)
         have K4 := Lib.hid (K3.out.trans (b4.mono K3.out.size))
         have S4 := Lib.hid (S3.out.below b4)
         clear b4)
      | (refine wpList_store_blk rfl 28 (.tmp 9) (.tmp 43) rfl w4.heap.size z35 cs.toArray ((allocsL_spec [(z35, 28), (z9, 33)] w4).2.2 0 _ rfl) HZ.out rfl rfl (by simpa using HI.out) HO.out ?_
         intro W5 h5 o5 b5 s5
         have bb := ((allocsL_spec [(z35, 28), (z9, 33)] w4).2.1).trans (b5 w4.heap.size (Nat.le_refl _))
         have X5 := Lib.hid (show Blk W5 w4.heap.size cs by simpa using h5)
         have Z5 := Lib.hid (o5 _ _ (by simp) ((allocsL_spec [(z35, 28), (z9, 33)] w4).2.2 1 _ rfl))
         have B5 := Lib.hid (B4.out.below bb B4.out.1)
         have T5 := Lib.hid (T4.out.below bb G4.out)
         have G5 := Lib.hid (Nat.lt_of_lt_of_le G4.out bb.size)
         have K5 := Lib.hid (K4.out.trans (bb.mono K4.out.size))
         have S5 := Lib.hid (S4.out.below bb)
         have BB5 := Lib.hid bb
         have L5 := Lib.hid (show w4.heap.size ≤ W5.heap.size from bb.size)
         have Q5 := Lib.hid (show w2.heap.size < w4.heap.size from B4.out.1)
         clear h5 o5 b5 s5 bb)
      | (refine wpList_store_blk rfl 33 (.tmp 10) (.tmp 44) rfl (w4.heap.size + 1) z9 z9.toArray Z5.out rfl rfl rfl (by rw [List.size_toArray]; exact st_info) (stC_one zeroSt) ?_
         intro W6 h6 o6 b6 s6
         obtain ⟨e1, p, rfl, hpl, hpv⟩ := S5.out.2 k ct HGT.out

         have x6 := o6 _ _ (by omega) X5.out
         have z6 := show Blk W6 (w4.heap.size + 1) z9 by simpa using h6
         have y6 := o6 _ _ (by have := Q5.out; omega) B5.out
         have bb := BB5.out.trans (b6 w4.heap.size (by omega))
         have X6 := Lib.hid x6
         have Z6 := Lib.hid z6
         have B6 := Lib.hid y6
         have T6 := Lib.hid (T4.out.below bb G4.out)
         have G6 := Lib.hid (Nat.lt_of_lt_of_le G4.out bb.size)
         have K6 := Lib.hid (K4.out.trans (bb.mono K4.out.size))
         have S6 := Lib.hid (S4.out.below bb)
         obtain ⟨e2, p', hpe, hpl', hpv'⟩ := S6.out.2 k ct HGT.out
         injection hpe with hpe
         subst hpe
         have P6 := Lib.hid hpv'
         clear h6 o6 b6 s6 x6 z6 y6 bb e1 hpl hpv e2 hpl' hpv')
      | (refine wpList_load_row rfl 33 (.tmp 52) rfl (p.add (k * 9)) (by first | rfl | simp) ct _ (fun j v hj => by have := P6.out j v hj; rwa [Addr.add_add]) Tryd.underlying33 rfl TI.out ?_)
      | (refine wpList_store_new rfl 33 (.tmp 11) (.tmp 53) rfl W6.heap.size rfl _ ct _ rfl rfl (by rw [TL.out]; rfl) TI.out TO.out ?_
         intro W7 b7 k7 s7
         have X7 := Lib.hid (X6.out.below b7 X6.out.1)
         have Z7 := Lib.hid (Z6.out.below b7 Z6.out.1)
         have B7 := Lib.hid (B6.out.below b7 B6.out.1)
         have T7 := Lib.hid (T6.out.below b7 G6.out)
         have G7 := Lib.hid (Nat.lt_of_lt_of_le G6.out b7.size)
         have K7 := Lib.hid (K6.out.trans (b7.mono K6.out.size))
         have Y7 := Lib.hid k7
         clear b7 k7 s7))
    clear HSH HSP hz1 hz2 HRN hRl HZ HGT TI TO TL HL A1 A2 A3 T1 T2 T3 T4 T5 T6 G1 G2 G3 G4 G5 G6 K1 K2 K3 K4 K5 K6 B3 B4 B5 B6 S2 S3 S4 S5 S6 X5 X6 Z3 Z5 Z6 L2 P6 BB5 L5 Q5
    go_wp2_with (first
      | (go_at_call 13
         refine (HAL.out _ T7.out G7.out).mono ?_
         rintro e w8 ⟨rfl, b8⟩
         have X8 := Lib.hid (X7.out.below b8 X7.out.1)
         have Z8 := Lib.hid (Z7.out.below b8 Z7.out.1)
         have B8 := Lib.hid (B7.out.below b8 B7.out.1)
         have Y8 := Lib.hid (Y7.out.below b8 Y7.out.1)
         have K8 := Lib.hid (K7.out.trans (b8.mono K7.out.size))
         have f0 := B8.out.2.1 0 _ HC.out.1
         have f34 := B8.out.2.1 34 _ HC.out.2
         have g0 := Y8.out.2.1 0 _ HD.out.1
         have g1 := Y8.out.2.1 1 _ HD.out.2.1
         have g7 := Y8.out.2.1 7 _ HD.out.2.2
         clear b8)
      | (refine wpList_load_want 28 (.tmp 9) rfl rfl w4.heap.size 0 rfl cs _ X8.out.range Tryd.underlying28 rfl HI.out ?_)
      | (refine wpList_load_want 28 (.tmp 7) rfl rfl w2.heap.size 0 rfl cs _ B8.out.range Tryd.underlying28 rfl HI.out ?_)
      | (refine wpList_eql_want 28 28 (.tmp 56) (.tmp 57) rfl rfl cs.toArray cs.toArray rfl rfl true HEQ.out guard_sq ?_)
      | (refine wpList_load_want 33 (.tmp 10) rfl rfl (w4.heap.size + 1) 0 rfl z9 _ Z8.out.range Tryd.underlying33 rfl st_info ?_)
      | (refine wpList_eql_want 33 33 (.tmp 61) (.tmp 62) rfl rfl z9.toArray z9.toArray rfl rfl true E9.out guard_st ?_))
    go_ret
    exact ⟨rfl, K8.out⟩
end Go.Proofs.YtaanbolpgfmihaaDoor.seqStops
