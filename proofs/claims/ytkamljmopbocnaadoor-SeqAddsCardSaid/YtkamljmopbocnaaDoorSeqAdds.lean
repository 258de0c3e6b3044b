/- Proved: the card of SeqAdds (auspexlaw06): a program of additions alone adds them up, and halts behind the last one; for every input; on the world that holds the table of instructions. -/
import Derived.Test.YtkamljmopbocnaaDoorCards
import Derived.Test.YtkamljmopbocnaaDoorTie
import Derived.Test.YtkamljmopbocnaaDoorSeqAddsM
import Derived.Test.YtkamljmopbocnaaDoorExecLaid
import Derived.Deep.QuietTactic
import Derived.BigQuiet
import Derived.WalkKit
import Derived.ProofKit
import Derived.OpenShut
import Derived.Deep.DeepHandedRow
import Derived.Lib.LaidTab
import Derived.ChangeMaps5
namespace Go.Proofs.YtkamljmopbocnaaDoor.seqAdds
open Go.ChangeShapes Go.WideShapes Go.ChangeAt Go.RowKit Go.Sort
open Go.ChangeMaps (open_string shut_string)
set_option linter.unusedVariables false
set_option linter.unusedSimpArgs false
set_option maxHeartbeats 4000000
set_option maxRecDepth 100000

theorem info_u32A : (Tryd.prog.info? 25).map (fun i => (i.zero, i.size, i.bytes)) = some (some (.int .u32 0), 1, 4) := by kernel_rfl
theorem own_words {w : World} {base n : Nat} {v : Value} {zs : List Int} (h : w.ownsRow base 25 1 v n (zs.map (Value.int .u32))) (hn : zs.length = n) :
    ∃ A c, v = .slice A n c ∧ n ≤ c ∧ c ≤ maxLen ∧ IntsAt w A n .u32 zs := by
  rcases h.2 with ⟨rfl, h0⟩ | ⟨g, cap, cur, rfl, hg, hh, h1, h2, h3, h4⟩
  · subst h0
    obtain rfl : zs = [] := List.length_eq_zero_iff.1 hn
    exact ⟨none, 0, rfl, Nat.le_refl _, Nat.zero_le _, ⟨rfl, fun j z hz => by simp at hz⟩⟩
  · refine ⟨some ⟨g, 0, none⟩, cap, rfl, h1, h2, ⟨hn, fun j z hz => ⟨_, rfl, ?_, ?_⟩⟩⟩
    · rcases Nat.lt_or_ge g w.heap.size with h' | h'
      · exact h'
      · rw [Array.getElem?_eq_none h'] at hh; cases hh
    · have hjl : j < n := by have := (List.getElem?_eq_some_iff.1 hz).1; omega
      rw [Addr.add_lit, Nat.zero_add, h.cellAt j (by omega), List.getElem?_map, hz]
      rfl
theorem one_words (zs : List Int) : ∀ u ∈ zs.map (Value.int .u32), u.oneCell' = true := by
  intro u hu
  obtain ⟨z, _, rfl⟩ := List.mem_map.1 hu
  rfl
theorem walk (A : Option Addr) (n c : Nat) (zs : List Int) (hn : n ≤ c) (hc : c ≤ maxLen) (wf : ∀ z ∈ zs, (Lit.int .u32 z).wf = true) (w : World) (hI : IntsAt w A n .u32 zs) (ht : TabIs w ∧ 0 < w.heap.size) :
    Calls Tryd.prog 4 #[.slice A n c] w fun e w' => e = .returned (.bool true) ∧ Below w.heap.size w w' := by
  obtain ⟨htb, hg⟩ := ht
  unfold maxLen at hc
  obtain ⟨i0, hi, hz0, hz1, hz2⟩ := info_parts info_u32A
  have hI' := hI.take (Nat.min_le_left n 60)
  have hz' : ∀ z ∈ zs.take (min n 60), 0 ≤ z ∧ z < 4294967296 := fun x hx => by have := bounds_u32 (wf x (List.mem_of_mem_take hx)); omega
  obtain ⟨n', hn'⟩ : ∃ k, min n 60 = k := ⟨_, rfl⟩
  rw [hn'] at hI' hz'
  have e1 : (if (60 : Int) < (n : Int) then (60 : Int) else (n : Int)) = (n' : Int) := by split <;> omega
  have k1 : n' ≤ 60 := by omega
  have k3 : n' ≤ n := by omega
  have k5 : (n' : Int) ≤ c := by omega
  generalize zs.take n' = zs' at hI' hz'
  have hlz : zs'.length = n' := hI'.1
  obtain ⟨ys, hys⟩ : ∃ ys, zs'.map (fun z => z % 2048) = ys := ⟨_, rfl⟩
  have hyl : ys.length = n' := by rw [← hys, List.length_map, hlz]
  have hyb : ∀ y ∈ ys, 0 ≤ y ∧ y < 2048 := fun y hy => by
    rw [← hys] at hy
    obtain ⟨z, _, rfl⟩ := List.mem_map.1 hy
    omega
  obtain ⟨r1, r2⟩ := run_all_adds ys hyb (by omega)
  have hok : sqOK (runR (ys.map addW) ByteArray.empty 100).1 := runS_ok _ (newS_ok (by decide))
  have hwb : ∀ z ∈ ys.map addW, 0 ≤ z ∧ z < 4294967296 := fun z hz => by
    obtain ⟨y, hy, rfl⟩ := List.mem_map.1 hz
    have := hyb y hy
    unfold addW
    omega
  have HRN := Lib.hid (fun (P : Option Addr) (cp : Nat) W t g h => run_any P n' cp (ys.map addW) ByteArray.empty 100 (by omega) hwb (by decide) (by omega) W t g h)
  obtain ⟨R, hR⟩ : ∃ R, runR (ys.map addW) ByteArray.empty 100 = R := ⟨_, rfl⟩
  rw [hR] at r1 r2 hok HRN
  rw [r2, hyl] at HRN
  obtain ⟨cs, hcs⟩ : ∃ cs, sqC R.1 = cs := ⟨_, rfl⟩
  have hlc : cs.length = 35 := by rw [← hcs]; exact sqC_len hok.2.1
  have hoc := sqC_one R.1
  have c0 : cs[0]? = some (.int .u32 (4 * (n' : Int))) := by rw [← hcs, sqC_pc, r1]; show some (Value.int .u32 (4 * (ys.length : Int))) = _; rw [hyl]
  have c2 : cs[2]? = some (.int .u32 (sumA ys n')) := by
    rw [← hcs, sqC_reg hok.2.1 1 (by decide), r1]
    show some (Value.int .u32 (sumA ys ys.length)) = _
    rw [hyl]
  have c34 : cs[34]? = some (.int .i64 1) := by rw [← hcs, sqC_halt hok.2.1, r1]
  rw [hcs] at hoc
  rw [show sqV R.1 = .agg cs.toArray by rw [← hcs]; rfl] at HRN
  have HI := Lib.hid (show (Tryd.prog.info? 28).map (·.size) = some cs.length by rw [hlc]; exact sq_info)
  have HO := Lib.hid hoc
  have HL := Lib.hid hlc
  have HC := Lib.hid (And.intro c0 (And.intro c2 c34))
  have HYS := Lib.hid (fun (k : Nat) z (h : zs'[k]? = some z) => show ys[k]? = some (z % 2048) by rw [← hys, List.getElem?_map, h]; rfl)
  have HYL := Lib.hid hyl
  have HA := Lib.hid hI'
  have HTB := Lib.hid htb
  have HG := Lib.hid hg
  have HZ := Lib.hid hz'
  have HLZ := Lib.hid hlz
  clear wf hI hI' hz' hn' htb hg hlz hys hyl hyb r1 r2 hok hwb hR hcs hlc hoc c0 c2 c34
  go_enter Tryd.func4, Tryd.ntmps4
  go_wp2
  go_loopw [16, 3, 4] (fun i v s wr => ∃ k : Nat, k ≤ n' ∧ i = .int .i64 k ∧ s = .int .u32 (sumA ys k) ∧ wr.ownsRow w.heap.size 25 1 v k (((ys.take k).map addW).map (Value.int .u32)) ∧ Below w.heap.size w wr) (fun i _ _ _ => n' - (intOf i).toNat)
  case atStart => exact ⟨0, Nat.zero_le _, rfl, rfl, World.ownsRow_nil w _ _ _, Below.refl _ _⟩
  case round =>
    obtain ⟨k, hk, rfl, rfl, ho, hb⟩ := hrel
    have HO2 := Lib.hid ho
    have HB := Lib.hid hb
    have hsz := hb.size
    clear ho hb
    obtain ⟨sm, hsm⟩ : ∃ x, sumA ys k = x := ⟨_, rfl⟩
    have hsr := sumA_range ys k
    rw [hsm] at hsr
    by_cases hlt : k < n'
    · obtain ⟨z, hzk⟩ : ∃ z, zs'[k]? = some z := ⟨_, List.getElem?_eq_getElem (by rw [HLZ.out]; exact hlt)⟩
      obtain ⟨a, rfl, _, hcell⟩ := (HA.out.below HB.out).2 k z hzk
      have hzr := HZ.out z (List.mem_of_getElem? hzk)
      obtain ⟨y, hy⟩ : ∃ y, z % 2048 = y := ⟨_, rfl⟩
      have hyr : 0 ≤ y ∧ y < 2048 := by omega
      have hyk := HYS.out k z hzk
      rw [hy] at hyk
      have a1 : bits .and .u32 z 2047 = y := by rw [and2047 z hzr.1 hzr.2]; exact hy
      have a2 := or_word y hyr.1 hyr.2
      obtain ⟨wd, hwd⟩ : ∃ x, addW y = x := ⟨_, rfl⟩
      rw [hwd] at a2
      obtain ⟨s2, hs2⟩ : ∃ x, (sm + y) % 4294967296 = x := ⟨_, rfl⟩
      have hsn : sumA ys (k + 1) = s2 := by
        show (sumA ys k + ys.getD k 0) % 4294967296 = s2
        rw [hsm, List.getD_eq_getElem?_getD, hyk]; exact hs2
      have hst : ((ys.take (k + 1)).map addW).map (Value.int .u32) = ((ys.take k).map addW).map (Value.int .u32) ++ [Value.int .u32 wd] := by
        rw [List.take_add_one, hyk, ← hwd]; simp
      have HST := Lib.hid hst
      have HSN := Lib.hid hsn
      have HWF := Lib.hid (show ∀ u ∈ [Value.int .u32 wd], u.oneCell' = true from fun u hu => by rw [List.mem_singleton.1 hu]; rfl)
      clear hst hsn hyk hzk hy hwd
      go_wp2_with (first
        | (at_builtin
           refine wpList_append_own _ rfl (.tmp 25) (.tmp 31) 22 rfl w.heap.size 25 i0 _ 1 4 Tryd.underlying22 hi hz0 hz1 hz2 rfl (by decide) _ _ _ rfl (HO2.out.alloc _) ⟨wr.heap.size, 0, none⟩ 1 1 [Value.int .u32 wd] rfl rfl (own_new1 _ _ _) HWF.out (by unfold maxLen; omega) (by omega) (by simp; omega) ?_
           intro v' w2 hown2 hgrow2 hnil2
           have ho3 := hown2
           rw [← HST.out] at ho3
           have hb3 := below_app HB.out (Nat.le_refl _) HO2.out hgrow2
           have HO3 := Lib.hid ho3
           have HB3 := Lib.hid hb3
           clear hown2 hgrow2 hnil2 ho3 hb3))
      go_roundw
      case rel => exact ⟨k + 1, by omega, by go_num, by rw [HSN.out], HO3.out, HB3.out⟩
      case measure => simp [intOf]; omega
    · obtain rfl : k = n' := by omega
      have ho := HO2.out
      rw [List.take_of_length_le (by rw [HYL.out]; exact Nat.le_refl _)] at ho
      obtain ⟨P, cp, rfl, h1, h2, h3⟩ := own_words ho (by rw [List.length_map]; exact HYL.out)
      have HP := Lib.hid h3
      have TW := Lib.hid (HTB.out.below HB.out HG.out)
      have GW := Lib.hid (Nat.lt_of_lt_of_le HG.out hsz)
      have HSM := Lib.hid hsm
      have HAL := Lib.hid (fun W t g => alive06_any W t g)
      clear ho h3 h2
      go_wp2_with (first
        | (go_at_call 8
           refine (HRN.out P cp _ TW.out GW.out HP.out).mono ?_
           rintro e w1 ⟨X, cx, rfl, h1, h2, h3, h4, h5⟩
           have T1 := Lib.hid (TW.out.below h5 GW.out)
           have G1 := Lib.hid (Nat.lt_of_lt_of_le GW.out h5.size)
           have B1 := Lib.hid (HB.out.trans (h5.mono HB.out.size))
           clear h1 h2 h3 h4 h5)
        | (refine wpList_store_new rfl 28 (.tmp 7) (.tmp 37) rfl w1.heap.size rfl _ cs _ rfl rfl (by rw [HL.out]; rfl) HI.out HO.out ?_
           intro W2 b2 k2 s2
           have T2 := Lib.hid (T1.out.below b2 G1.out)
           have G2 := Lib.hid (Nat.lt_of_lt_of_le G1.out b2.size)
           have B2 := Lib.hid (B1.out.trans (b2.mono B1.out.size))
           have K2 := Lib.hid k2
           clear b2 k2 s2)
        | (go_at_call 9
           refine (HAL.out _ T2.out G2.out).mono ?_
           rintro e w3 ⟨rfl, h5⟩
           have B3 := Lib.hid (B2.out.trans (h5.mono B2.out.size))
           have K3 := K2.out.below h5 K2.out.1
           have p0 := K3.2.1 0 _ HC.out.1
           have p2 := K3.2.1 2 _ HC.out.2.1
           have p34 := K3.2.1 34 _ HC.out.2.2
           rw [HSM.out] at p2
           clear h5 K3))
      go_ret
      exact ⟨rfl, B3.out⟩
theorem own : ownKnob Tryd.prog.godebug = none := by kernel_rfl
theorem laidOut : laidOutB Tryd.prog = true := by kernel_rfl
set_option maxRecDepth 100000 in
theorem contract (H : Type) (enc : TypeId × Value → H) (W : World) (base : Nat) (args : Array Value) (ds gs : List (DataW H)) (before : List MemPlace)
    (hval : ∀ (j : Nat) t v, Tryd.f4.params[j]? = some t → args[j]? = some v → Value.okWide Tryd.prog W .any base t v)
    (hW : DataW.Whole enc Tryd.prog Tryd.f4.params.toList Rows.seqAddsSpec.vars false W args.toList ds gs before) (hL : laidMetH Tryd.prog Rows.seqAddsRow.laid W) :
    Calls Tryd.prog 4 args W fun e W' => ∃ v, e = .returned v ∧ Rows.seqAddsSpec.post enc Tryd.prog Tryd.f4 false true false false W args v W' := by
  have hW' := hW
  obtain ⟨p, q, hA0, hV, rfl, hfz, hnd⟩ := hW
  have hA : DataW.TrodAll enc Tryd.prog W 0 (fun _ => true) true Tryd.f4.params.toList args.toList ds p := hA0
  rw [Tryd.params4] at hA hval
  obtain ⟨v0, vs0, d0, ds0, p0, q0, hargs, rfl, rfl, h0, r0⟩ := trodAll_cons hA
  obtain ⟨rfl, rfl, rfl⟩ := trodAll_nil r0
  obtain rfl : args = #[v0] := by cases args; simp_all
  obtain ⟨rfl, rfl⟩ := trodVars_none hV
  have hlt := hW'.lt
  have k0 := h0
  obtain ⟨l_a, l_n, l_c, l, rfl, w_l_n, w_l_c, w_l, w_l_wf⟩ := arg_ints (k := .u32) Tryd.underlying22 Tryd.underlying25 (by kernel_rfl) (hval 0 22 v0 rfl rfl) h0
  clear hA0
  simp only [List.append_nil] at hW'
  refine (walk l_a l_n l_c l w_l_n w_l_c w_l_wf W w_l (table hL)).mono fun e W' ⟨he, bel⟩ => ?_
  subst he
  exact ⟨_, rfl, _, _, _, [], _, [], hW', trodAll_mk1 (shut_bool Tryd.underlying4 _), (trodAll_cons_mk (Below.trod laidOut (by kernel_rfl) (of_decide_eq_true (by kernel_rfl)) k0 bel (fun x hx => hlt x (by simp [hx]))) trodAll_mk0), rfl, bel.frame _, fun h => by cases h⟩

theorem laid_met (os : Os) : laidMet Tryd.prog Rows.seqAddsRow.laid ((laidWorld os).forCall (fun _ _ => 0) ⟨#[], #[Value.slice none 0 0], []⟩).memory :=
  laidMet_of_run' 8 (by kernel_rfl) (by kernel_rfl)
theorem reads (os : Os) {H : Type} (enc : TypeId × Value → H) : ∃ places, DataW.whole enc Tryd.prog ((laidWorld os).forCall (fun _ _ => 0) ⟨#[], #[Value.slice none 0 0], []⟩).memory Tryd.f4.params.toList Rows.seqAddsSpec.vars false #[Value.slice none 0 0].toList 8 = some ([.nil], [], places) :=
  ⟨[], by kernel_rfl⟩

set_option maxRecDepth 100000 in
theorem lifted (os : Os) (started : os.Started) (H : Type) (enc : TypeId × Value → H) (F : Stop.Interp) :
    ReturnsInHanded {} Tryd.checked os 4 .any ((OpenSpec.ofChange Rows.seqAddsSpec).preRow enc Tryd.prog Tryd.f4 Rows.seqAddsRow.domain false Rows.seqAddsRow.laid) (((OpenSpec.ofChange Rows.seqAddsSpec).at F).post enc Tryd.prog Tryd.f4 false true false false) := by
  obtain ⟨places, hx⟩ := reads os enc
  refine returnsInHanded_of_row (C := Tryd.checked) (s := OpenSpec.ofChange Rows.seqAddsSpec) own started (by kernel_rfl) Tryd.func4
    (witness_row_at (enc := enc) (C := Tryd.checked) false (laidWorld os) #[Value.slice none 0 0] rfl (by kernel_rfl) (by kernel_rfl) (by kernel_rfl)
      (OpenSpec.preRow_of_cond 8 hx (by kernel_rfl) (fun k hk => by cases hk) (by kernel_rfl) (laid_met os))) ?_
  intro W base args ds gs before hval hW _ _ _ hL _ _
  exact contract H enc W base args ds gs before hval hW hL

theorem said : Rows.SeqAddsSaid :=
  OpenClaim.holds_of_cond 4 Tryd.f4 rfl rfl rfl rfl rfl rfl rfl ⟨rfl, rfl, rfl, rfl, rfl⟩ rfl rfl rfl rfl rfl (by kernel_rfl) Tryd.func4 (by kernel_rfl)
    (of_decide_eq_true (by kernel_rfl)) (by unfold Func.isWrapper; first | (rw [if_pos (by decide +kernel)]; kernel_rfl) | (rw [if_neg (by decide +kernel)]; exact ⟨rfl, rfl⟩))
    (fun os started H enc _ F => by rw [OpenClaim.pre_eq_preRow]; exact lifted os started H enc F)

theorem plain (f : FuncId) (fn : Func) (hf : Tryd.pinned.checked.prog.funcNamed "auspex/auspexlaw06.SeqAdds" = some f) (hfn : Tryd.pinned.checked.prog.funcs[f]? = some fn) :
    false = Tryd.pinned.checked.prog.looks [] ∧ ∀ (j : Nat) t, fn.params[j]? = some t → Tryd.pinned.checked.prog.wantsStandIn t = false := by
  obtain rfl : f = 4 := Option.some.inj ((show Tryd.prog.funcNamed "auspex/auspexlaw06.SeqAdds" = some 4 by kernel_rfl).symm.trans hf) |>.symm
  obtain rfl : fn = Tryd.f4 := (Option.some.inj (Tryd.func4.symm.trans hfn)).symm
  refine ⟨by kernel_rfl, fun j t ht => ?_⟩
  rw [Tryd.params4] at ht
  have hm := Array.mem_of_getElem? ht
  simp only [List.mem_toArray, List.mem_cons, List.not_mem_nil, or_false] at hm
  obtain rfl := hm
  exact (show Tryd.prog.wantsStandIn 22 = false by kernel_rfl)

/-- THE CARD -/
theorem proved : Rows.SeqAddsCardSaid :=
  Claim7.holds_tied_plain_at .later [] _ _ _ _ said (fun _ h => by cases h) (by kernel_rfl) (fun _ h => by cases h) seqAdds_row_tie rfl ⟨rfl, rfl⟩ (by kernel_rfl) rfl plain (by kernel_rfl)
#print axioms proved
end Go.Proofs.YtkamljmopbocnaaDoor.seqAdds
