/-
  ProofShort, whole, as the tied card (Rows.ProofShortCardSaid): for every list of digests (1 to 200 of them are looked at) and every number the proof of a place has at most as many digests as the list's length less one has binary digits, that of a beginning at most one more; and the document's example of three leaves. Conditions: the table sha.constants reads as its initialiser lays it (tied to the program's text).
-/
import Derived.Test.YtojepkhooabjiaaDoorRows
import Derived.Test.YtojepkhooabjiaaDoorCards
import Derived.Test.YtojepkhooabjiaaDoorTie
import Derived.WalkKit
import Derived.ProofKit
import Derived.OpenShut
import Derived.ChangeMaps5
import Derived.ShutString
import Derived.ChangeOld
import Derived.Below
import Derived.SizedLaws
import Derived.SevenTiedAt
import Derived.Lay
import Derived.LaidLaws
import Derived.Test.YtojepkhooabjiaaDoorAwakeA
namespace Go.Proofs.YtojepkhooabjiaaDoor.proofShort
open Go.ChangeShapes Go.WideShapes Go.ChangeAt Go.RowKit
open Go.ChangeMaps (open_string shut_string)
set_option linter.unusedVariables false
theorem own : ownKnob Tryd.prog.godebug = none := by kernel_rfl
theorem laidOut : laidOutB Tryd.prog = true := by kernel_rfl
theorem mod_in (a : Int) (m : Nat) (h : 0 < m) : ∃ j : Nat, (IntKind.u64.wrap a).tmod (m : Int) = (j : Int) ∧ j < m := by
  have h0 : 0 ≤ IntKind.u64.wrap a := by simp [IntKind.wrap, IntKind.bits, IntKind.signed]; omega
  generalize IntKind.u64.wrap a = x at *
  obtain ⟨y, rfl⟩ := Int.eq_ofNat_of_zero_le h0
  refine ⟨y % m, ?_, Nat.mod_lt _ h⟩
  rw [Int.tmod_eq_emod_of_nonneg (by omega)]
  rfl
theorem lenN_half {k : Nat} (h : 0 < k) : lenN k = 1 + lenN (k / 2) := by
  by_cases h1 : k = 1
  · subst h1; decide +kernel
  · exact lenN_shift 1 (by omega)
theorem short_inc (L : List (List UInt8)) (j : Nat) (h : j < L.length) : errI L.length (j : Int) = 0 ∧ (incI L (j : Int)).length ≤ lenN (L.length - 1) := by
  unfold errI incI
  rw [if_pos ⟨by omega, by omega⟩, if_pos ⟨by omega, by omega⟩]
  refine ⟨rfl, ?_⟩
  show (incP nodeL (sumL []) L j).length ≤ _
  rw [inc_len nodeL (sumL []) _ L j rfl]
  refine deep_le _ _ _ ?_
  by_cases hc : L.length ≤ 2 ^ lenN (L.length - 1)
  · exact hc
  · have h1 : (L.length - 1) / 2 ^ lenN (L.length - 1) ≠ 0 := Nat.ne_of_gt (Nat.div_pos (by omega) (Nat.pos_of_ne_zero (by simp)))
    have := (lt_lenN _ _).2 h1
    omega
theorem short_con (L : List (List UInt8)) (j : Nat) (h : j < L.length) : errC L.length (j : Int) = 0 ∧ (conI L (j : Int)).length ≤ lenN (L.length - 1) + 1 := by
  unfold errC conI
  rw [if_pos ⟨by omega, by omega⟩]
  refine ⟨rfl, ?_⟩
  by_cases h0 : j = 0
  · subst h0; rw [if_neg (by omega)]; exact Nat.zero_le _
  · rw [if_pos ⟨by omega, by omega⟩]
    show (partP nodeL (sumL []) L j true).length ≤ _
    rw [part_len nodeL (sumL []) _ L j true rfl (by omega) (by omega)]
    refine deepC_le _ _ _ _ (by omega) (by omega) ?_
    by_cases hc : L.length ≤ 2 ^ lenN (L.length - 1)
    · exact hc
    · have h1 : (L.length - 1) / 2 ^ lenN (L.length - 1) ≠ 0 := Nat.ne_of_gt (Nat.div_pos (by omega) (Nat.pos_of_ne_zero (by simp)))
      have := (lt_lenN _ _).2 h1
      omega
set_option maxRecDepth 100000 in
set_option maxHeartbeats 2000000 in
theorem walk (w : World) (a0 : Option Addr) (len0 cap0 : Nat) (l0 : List (List UInt8)) (w0 : Ds w a0 len0 l0) (s0 : len0 ≤ cap0) (a1 : Int) (_w1 : (Lit.int .i64 a1).wf = true) (hT : Tab 2 w) :
    Calls Tryd.prog 8 #[.slice a0 len0 cap0, .int .i64 a1] w fun e w' => e = .returned (.bool true) ∧ Below w.heap.size w w' := by
  have HT := Lib.hid hT
  by_cases h200 : len0 ≤ 200
  · have i0 : ¬ 200 < (len0 : Int) := by omega
    by_cases hz : len0 = 0
    · subst hz
      clear w0 hT _w1
      go_enter Tryd.func8, Tryd.ntmps8
      go_wp2_with (go_at_call 10; refine (awake_any w HT.out).mono ?_; rintro e4 w4 ⟨rfl, hb4⟩)
      go_ret
      exact ⟨rfl, hb4⟩
    · have i1 : ((len0 : Int) == 0) = false := by simp; omega
      obtain ⟨j, hj, hjm⟩ := mod_in a1 len0 (by omega)
      have e1 : IntKind.u64.wrap (len0 : Int) = (len0 : Int) := by
        simp [IntKind.wrap, IntKind.bits, IntKind.signed]
        omega
      have e2 : IntKind.i64.wrap (j : Int) = (j : Int) := wrap_small _ (by omega) (by omega)
      have e3 : wrap64 (j : Int) = (j : Int) := w64 _ (by omega) (by omega)
      have HD := Lib.hid w0
      obtain ⟨hE, hPl⟩ := short_inc l0 j (by rw [w0.1]; exact hjm)
      obtain ⟨hF, hMl⟩ := short_con l0 j (by rw [w0.1]; exact hjm)
      rw [w0.1] at hE hF hPl hMl
      have HP := Lib.hid (fun A c wq hc hD hT => show Calls Tryd.prog 18 #[.slice A len0 c, .int .i64 (j : Int)] wq (NewD wq (incI l0 (j : Int)) 0) by have q := Include_any A len0 c (j : Int) l0 wq (by omega) hc hD hT; rwa [hE] at q)
      have HM := Lib.hid (fun A c wq hc hD hT => show Calls Tryd.prog 20 #[.slice A len0 c, .int .i64 (j : Int)] wq (NewD wq (conI l0 (j : Int)) 0) by have q := Consist_any A len0 c (j : Int) l0 wq (by omega) hc hD hT; rwa [hF] at q)
      generalize incI l0 (j : Int) = P at *
      generalize conI l0 (j : Int) = M at *
      have hdig := lenN_le (len0 - 1) 8 (by omega)
      obtain ⟨D, hDg⟩ : ∃ D, lenN (len0 - 1) = D := ⟨_, rfl⟩
      have HDG := Lib.hid hDg
      rw [hDg] at hPl hMl hdig
      have hPl2 : (P.length : Int) ≤ (D : Int) := by omega
      have hMl2 : (M.length : Int) ≤ (D : Int) + 1 := by omega
      have hlen : 0 < len0 := by omega
      clear w0 hT _w1 hE hF hDg hz
      go_enter Tryd.func8, Tryd.ntmps8
      go_wp2
      go_loopw [5, 6] (fun dg kk wr => ∃ d k : Nat, dg = .int .i64 (d : Int) ∧ kk = .int .i64 (k : Int) ∧ k ≤ 200 ∧ d ≤ 8 ∧ Hid (d + lenN k = D) ∧ wr = w) (fun _ kk _ => (intOf kk).toNat)
      case atStart => exact ⟨0, len0 - 1, rfl, by rw [Int.ofNat_sub (by omega)]; rfl, by omega, by omega, Lib.hid (by rw [HDG.out]; omega), rfl⟩
      case round =>
        obtain ⟨d, k, rfl, rfl, hk, hd8, HDK, rfl⟩ := hrel
        by_cases hk0 : k = 0
        · subst hk0
          have hdD : d = D := by have := HDK.out; unfold lenN at this; simpa using this
          subst hdD
          clear hdig
          go_wp2_with (first
            | (go_at_call 12; have hz := HD3; clear hz; refine (own_any a0 len0 cap0 l0 w3 (HD.out.below hb3') (by omega)).mono ?_; rintro e4 w4 ⟨A4, c4, rfl, hc4, hd4, hb4⟩; have HD4 := Lib.hid hd4; have hb4' := hb3'.trans (hb4.mono hb3'.size); clear hd4)
            | (go_at_call 12; refine (own_any a0 len0 cap0 l0 _ HD.out (by omega)).mono ?_; rintro e2 w2 ⟨A2, c2, rfl, hc2, hd2, hb2⟩; have HD2 := Lib.hid hd2; clear hd2)
            | (go_at_call 18; refine (HP.out A2 c2 w2 hc2 HD2.out (HT.out.below hb2)).mono ?_; rintro e3 w3 ⟨A3, c3, rfl, hc3, hd3, hb3⟩; have HD3 := Lib.hid hd3; have hb3' := hb2.trans (hb3.mono hb2.size); clear hd3)
            | (go_at_call 20; refine (HM.out A4 c4 w4 hc4 HD4.out (HT.out.below hb4')).mono ?_; rintro e5 w5 ⟨A5, c5, rfl, hc5, hd5, hb5⟩; have hb5' := hb4'.trans (hb5.mono hb4'.size); clear hd5)
            | (go_at_call 10; refine (awake_any _ (HT.out.below hb5')).mono ?_; rintro e10 w10 ⟨rfl, hb10⟩; have hb10' := hb5'.trans (hb10.mono hb5'.size)))
          go_ret
          exact ⟨rfl, hb10'⟩
        · have ik : 0 < (k : Int) := by omega
          have hdv : ((k : Int)).tdiv 2 = ((k / 2 : Nat) : Int) := by rw [Int.tdiv_eq_ediv_of_nonneg (by omega)]; rfl
          have hst : d + 1 + lenN (k / 2) = D := by have := HDK.out; rw [lenN_half (by omega)] at this; omega
          obtain ⟨q, hq⟩ : ∃ q, k / 2 = q := ⟨_, rfl⟩
          rw [hq] at hdv hst
          have hqk : q < k := by omega
          have HST := Lib.hid hst
          have hd7 : d + 1 ≤ 8 := by omega
          clear hst hq hk0
          go_wp2
          refine ⟨⟨d + 1, q, by go_num, by go_num, by omega, by omega, HST, trivial⟩, ?_⟩
          simp [intOf]
          omega
  · have i0 : 200 < (len0 : Int) := by omega
    clear w0 hT _w1
    go_enter Tryd.func8, Tryd.ntmps8
    go_wp2_with (go_at_call 10; refine (awake_any w HT.out).mono ?_; rintro e4 w4 ⟨rfl, hb4⟩)
    go_ret
    exact ⟨rfl, hb4⟩

set_option maxRecDepth 100000 in
theorem lifted (os : Os) (started : os.Started) (H : Type) (enc : TypeId × Value → H) :
    ReturnsInHanded {} Tryd.checked os 8 .any (fun w args => (Rows.proofShortSpec.pre enc Tryd.prog Tryd.f8 Rows.proofShortRow.domain false w args ∧ laidMetH Tryd.prog lay1 w) ∧ sizedMet enc Tryd.prog Tryd.f8 (OpenSpec.ofChange Rows.proofShortSpec) false w args)
      (Rows.proofShortSpec.post enc Tryd.prog Tryd.f8 false true false false) := by
  refine returnsInHanded_of_change_and (C := Tryd.checked) (X := fun w _ => laidMetH Tryd.prog lay1 w) (fun _ _ _ hh h => h.of_heap hh) own started (by kernel_rfl) Tryd.func8
    (ChangeSpec.witness_shaped (enc := enc) (C := Tryd.checked) (os := os) (X := fun w _ => laidMetH Tryd.prog lay1 w) false (World.laidAll Tryd.prog os lay1) #[.slice none 0 0, .int .i64 0] 8 rfl (World.shaped_of_ZipB (by kernel_rfl) (by kernel_rfl)) (by kernel_rfl) (by kernel_rfl) (by kernel_rfl) (met1 os _)) ?_
  intro W base args ds gs before hval0 hW hcnd hsz0 hL _
  have hval : ∀ (j : Nat) t v, Tryd.f8.params[j]? = some t → args[j]? = some v → Value.okWide Tryd.prog W .any base t v := hval0
  have hW' := hW
  obtain ⟨p, q, hA0, hV, rfl, hfz, hnd⟩ := hW
  have hA : DataW.TrodAll enc Tryd.prog W 0 (fun _ => true) true Tryd.f8.params.toList args.toList ds p := hA0
  have hsz : (DataW.weightsEach Tryd.prog (Tryd.f8.params.toList ++ Rows.proofShortSpec.plain.varTypes Tryd.prog) (ds ++ gs)).all (· ≤ reachBytes) = true := hsz0
  rw [Tryd.params8] at hA hval hsz
  obtain ⟨v0, vs0, d0, ds0, p0, q0, hargs, rfl, rfl, h0, r0⟩ := trodAll_cons hA
  obtain ⟨v1, vs1, d1, ds1, p1, q1, rfl, rfl, rfl, h1, r1⟩ := trodAll_cons r0
  obtain ⟨rfl, rfl, rfl⟩ := trodAll_nil r1
  obtain rfl : args = #[v0, v1] := by cases args; simp_all
  obtain ⟨rfl, rfl⟩ := trodVars_none hV
  have k0 := h0
  have lt0 : ∀ x ∈ p0, x.block < W.heap.size := by obtain ⟨m, hm⟩ := k0; exact DataW.trod_lt m _ _ _ hm
  obtain ⟨a0, len0, cap0, l0, rfl, w0, s0⟩ := open_ds (hval 0 22 v0 rfl rfl) h0
  obtain ⟨a1, rfl, rfl, rfl, w1⟩ := open_int Tryd.underlying3 (hval 1 3 v1 rfl rfl) h1
  have hTab := of_lay1 hL
  clear hA0 hval0
  refine (walk W a0 len0 cap0 l0 w0 s0 a1 w1 hTab).mono fun e W' ⟨he, bel⟩ => ?_
  subst he
  exact ⟨_, rfl, _, _, _, [], _, [], hW', trodAll_mk1 (shut_bool Tryd.underlying4 _), (trodAll_cons_mk (Below.trod laidOut (by kernel_rfl) (of_decide_eq_true (by kernel_rfl)) k0 bel lt0) (trodAll_cons_mk (shut_int Tryd.underlying3 w1) trodAll_mk0)), rfl, bel.frame _, fun h => by cases h⟩
theorem over : Rows.proofShortRow.holds Tryd.pinned (OpenSpec.ofChange Rows.proofShortSpec) :=
  OpenClaim.holds_of_wide 8 Tryd.f8 rfl rfl rfl rfl rfl rfl rfl ⟨rfl, rfl, rfl, rfl, rfl⟩ rfl rfl rfl rfl rfl (by kernel_rfl) Tryd.func8 (by kernel_rfl)
    (of_decide_eq_true (by kernel_rfl)) (by unfold Func.isWrapper; first | (rw [if_pos (by decide +kernel)]; kernel_rfl) | (rw [if_neg (by decide +kernel)]; exact ⟨rfl, rfl⟩))
    (fun os started H enc _ => lifted os started H enc)
theorem proofShort_holds : Rows.ProofShortCardSaid :=
  Claim7.holds_tied_plain_at .later [] [.data] true (true, "94cbc27510e38751a60ab1ffe97d8db4da220d4986d50e976b7ed11b3ca8a243") false
    over (fun _ h => by cases h) (by kernel_rfl) (fun _ h => by cases h) proofShort_row_tie rfl ⟨rfl, rfl⟩ (by kernel_rfl) rfl
    (fun f fn hf hfn => by
      obtain rfl : f = 8 := Option.some.inj ((show Tryd.prog.funcNamed "jurat/juratlaw08.ProofShort" = some 8 by kernel_rfl).symm.trans hf) |>.symm
      obtain rfl : fn = Tryd.f8 := (Option.some.inj (Tryd.func8.symm.trans hfn)).symm
      exact ⟨by kernel_rfl, fun j t ht => by
        rw [Tryd.params8] at ht
        have hm : t ∈ [22, 3] := by simpa using Array.mem_of_getElem? ht
        have hall : ([22, 3].all fun u => !Tryd.prog.wantsStandIn u) = true := by kernel_rfl
        exact (show Tryd.prog.wantsStandIn t = false by simpa using List.all_eq_true.1 hall t hm)⟩)
    (by kernel_rfl)
#print axioms proofShort_holds
end Go.Proofs.YtojepkhooabjiaaDoor.proofShort
