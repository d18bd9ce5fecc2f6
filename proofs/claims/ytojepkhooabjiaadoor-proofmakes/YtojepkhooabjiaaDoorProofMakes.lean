/-
  ProofMakes, whole, as the tied card (Rows.ProofMakesCardSaid): for every list of digests (up to 100 of them are looked at) and every number proof.Include and proof.Consist answer the document's own proofs of the place and of the beginning, or its errors; and the document's example of three leaves. Conditions: the tables sha.constants, juratref02.constants and juratref02.first read as their initialisers lay them (tied to the program's text).
-/
import Derived.Test.YtojepkhooabjiaaDoorRows
import Derived.Test.YtojepkhooabjiaaDoorCards
import Derived.Test.YtojepkhooabjiaaDoorTie
import Derived.WalkKit
import Derived.ProofKit
import Derived.OpenShut
import Derived.ChangeMaps5
import Derived.ShutString
import Derived.ChangeOld
import Derived.Below
import Derived.SizedLaws
import Derived.SevenTiedAt
import Derived.Lay
import Derived.LaidLaws
import Derived.Test.YtojepkhooabjiaaDoorAwakeA
namespace Go.Proofs.YtojepkhooabjiaaDoor.proofMakes
open Go.ChangeShapes Go.WideShapes Go.ChangeAt Go.RowKit
open Go.ChangeMaps (open_string shut_string)
set_option linter.unusedVariables false
theorem own : ownKnob Tryd.prog.godebug = none := by kernel_rfl
theorem laidOut : laidOutB Tryd.prog = true := by kernel_rfl
theorem incI_length (L : List (List UInt8)) (i : Int) (h : L.length ≤ 1024) : (incI L i).length ≤ 20 := by
  unfold incI; split
  · exact inc_le _ _ h
  · exact Nat.zero_le _
theorem conI_length (L : List (List UInt8)) (i : Int) (h : L.length ≤ 1024) : (conI L i).length ≤ 20 := by
  unfold conI; split
  · exact part_le _ _ _ (by omega) (by omega) h
  · exact Nat.zero_le _
set_option maxRecDepth 100000 in
set_option maxHeartbeats 2000000 in
theorem walk (w : World) (a0 : Option Addr) (len0 cap0 : Nat) (l0 : List (List UInt8)) (w0 : Ds w a0 len0 l0) (s0 : len0 ≤ cap0) (a1 : Int) (_w1 : (Lit.int .i64 a1).wf = true) (hT : First w ∧ Tab 1 w ∧ Tab 2 w) :
    Calls Tryd.prog 4 #[.slice a0 len0 cap0, .int .i64 a1] w fun e w' => e = .returned (.bool true) ∧ Below w.heap.size w w' := by
  have HF := Lib.hid hT.1
  have HT1 := Lib.hid hT.2.1
  have HT2 := Lib.hid hT.2.2
  by_cases h200 : len0 ≤ 100
  · have i0 : ¬ 100 < (len0 : Int) := by omega
    have HD := Lib.hid w0
    have HP := Lib.hid (fun A c wq hc hD hT => Include_any A len0 c a1 l0 wq (by omega) hc hD hT)
    have HQ := Lib.hid (fun wq hD hF hT => RefInclude_any a0 len0 cap0 a1 l0 wq (by omega) s0 hD hF hT)
    have HP2 := Lib.hid (fun A c wq hc hD hT => Consist_any A len0 c a1 l0 wq (by omega) hc hD hT)
    have HQ2 := Lib.hid (fun wq hD hF hT => RefConsist_any a0 len0 cap0 a1 l0 wq (by omega) s0 hD hF hT)
    have HPL := Lib.hid (incI_length l0 a1 (by rw [w0.1]; omega))
    have HPM := Lib.hid (conI_length l0 a1 (by rw [w0.1]; omega))
    generalize incI l0 a1 = P at *
    generalize errI len0 a1 = E at *
    generalize conI l0 a1 = M at *
    generalize errC len0 a1 = F at *
    clear w0 hT _w1
    go_enter Tryd.func4, Tryd.ntmps4
    go_wp2_with (first
      | (go_at_call 12; have hz := HD4; clear hz; refine (own_any a0 len0 cap0 l0 w4 (HD.out.below hb4') (by omega)).mono ?_; rintro e5 w5 ⟨A5, c5, rfl, hc5, hd5, hb5⟩; have HD5 := Lib.hid hd5; have hb5' := hb4'.trans (hb5.mono hb4'.size); clear hd5)
      | (go_at_call 12; refine (own_any a0 len0 cap0 l0 w HD.out (by omega)).mono ?_; rintro e2 w2 ⟨A2, c2, rfl, hc2, hd2, hb2⟩; have HD2 := Lib.hid hd2; clear hd2)
      | (go_at_call 18; refine (HP.out A2 c2 w2 hc2 HD2.out (HT2.out.below hb2)).mono ?_; rintro e3 w3 ⟨A3, c3, rfl, hc3, hd3, hb3⟩; have HD3 := Lib.hid hd3; have hb3' := hb2.trans (hb3.mono hb2.size); clear hd3)
      | (go_at_call 19; refine (HQ.out w3 (HD.out.below hb3') (HF.out.below hb3') (HT1.out.below hb3')).mono ?_; rintro e4 w4 ⟨A4, c4, rfl, hc4, hd4, hb4⟩; have HD4 := Lib.hid hd4; have hb4' := hb3'.trans (hb4.mono hb3'.size); clear hd4)
      | (go_at_call 20; refine (HP2.out A5 c5 w5 hc5 HD5.out (HT2.out.below hb5')).mono ?_; rintro e6 w6 ⟨A6, c6, rfl, hc6, hd6, hb6⟩; have HD6 := Lib.hid hd6; have hb6' := hb5'.trans (hb6.mono hb5'.size); clear hd6)
      | (go_at_call 21; refine (HQ2.out w6 (HD.out.below hb6') (HF.out.below hb6') (HT1.out.below hb6')).mono ?_; rintro e7 w7 ⟨A7, c7, rfl, hc7, hd7, hb7⟩; have HD7 := Lib.hid hd7; have hb7' := hb6'.trans (hb7.mono hb6'.size); have b37 : Below w4.heap.size w4 w7 := (hb5.trans (hb6.mono hb5.size)).trans (hb7.mono (hb5.trans (hb6.mono hb5.size)).size); clear hd7)
      | (go_at_call 22; have hz := hb8'; clear hz; refine (RSame_yes A6 A7 _ c6 c7 M _ ((HD6.out.below hb7).drewN _) (HD7.out.drewN _) (by have := HPM.out; omega)).mono ?_; rintro e9 w9 ⟨rfl, k9, rfl⟩; have hb9' := below_drewN hb7' (k8 + k9))
      | (go_at_call 22; refine (RSame_yes A3 A4 _ c3 c4 P w7 ((HD3.out.below hb4).below b37) (HD4.out.below b37) (by have := HPL.out; omega)).mono ?_; rintro e8 w8 ⟨rfl, k8, rfl⟩; have hb8' := below_drewN hb7' k8)
      | (go_at_call 10; refine (awake_any _ (HT2.out.below hb9')).mono ?_; rintro e10 w10 ⟨rfl, hb10⟩; have hb10' := hb9'.trans (hb10.mono hb9'.size)))
    go_ret
    exact ⟨rfl, hb10'⟩
  · have i0 : 100 < (len0 : Int) := by omega
    clear w0 hT _w1
    go_enter Tryd.func4, Tryd.ntmps4
    go_wp2_with (go_at_call 10; refine (awake_any w HT2.out).mono ?_; rintro e4 w4 ⟨rfl, hb4⟩)
    go_ret
    exact ⟨rfl, hb4⟩

set_option maxRecDepth 100000 in
theorem lifted (os : Os) (started : os.Started) (H : Type) (enc : TypeId × Value → H) :
    ReturnsInHanded {} Tryd.checked os 4 .any (fun w args => (Rows.proofMakesSpec.pre enc Tryd.prog Tryd.f4 Rows.proofMakesRow.domain false w args ∧ laidMetH Tryd.prog lay3 w) ∧ sizedMet enc Tryd.prog Tryd.f4 (OpenSpec.ofChange Rows.proofMakesSpec) false w args)
      (Rows.proofMakesSpec.post enc Tryd.prog Tryd.f4 false true false false) := by
  refine returnsInHanded_of_change_and (C := Tryd.checked) (X := fun w _ => laidMetH Tryd.prog lay3 w) (fun _ _ _ hh h => h.of_heap hh) own started (by kernel_rfl) Tryd.func4
    (ChangeSpec.witness_shaped (enc := enc) (C := Tryd.checked) (os := os) (X := fun w _ => laidMetH Tryd.prog lay3 w) false (World.laidAll Tryd.prog os lay3) #[.slice none 0 0, .int .i64 0] 8 rfl (World.shaped_of_ZipB (by kernel_rfl) (by kernel_rfl)) (by kernel_rfl) (by kernel_rfl) (by kernel_rfl) (met3 os _)) ?_
  intro W base args ds gs before hval0 hW hcnd hsz0 hL _
  have hval : ∀ (j : Nat) t v, Tryd.f4.params[j]? = some t → args[j]? = some v → Value.okWide Tryd.prog W .any base t v := hval0
  have hW' := hW
  obtain ⟨p, q, hA0, hV, rfl, hfz, hnd⟩ := hW
  have hA : DataW.TrodAll enc Tryd.prog W 0 (fun _ => true) true Tryd.f4.params.toList args.toList ds p := hA0
  have hsz : (DataW.weightsEach Tryd.prog (Tryd.f4.params.toList ++ Rows.proofMakesSpec.plain.varTypes Tryd.prog) (ds ++ gs)).all (· ≤ reachBytes) = true := hsz0
  rw [Tryd.params4] at hA hval hsz
  obtain ⟨v0, vs0, d0, ds0, p0, q0, hargs, rfl, rfl, h0, r0⟩ := trodAll_cons hA
  obtain ⟨v1, vs1, d1, ds1, p1, q1, rfl, rfl, rfl, h1, r1⟩ := trodAll_cons r0
  obtain ⟨rfl, rfl, rfl⟩ := trodAll_nil r1
  obtain rfl : args = #[v0, v1] := by cases args; simp_all
  obtain ⟨rfl, rfl⟩ := trodVars_none hV
  have k0 := h0
  have lt0 : ∀ x ∈ p0, x.block < W.heap.size := by obtain ⟨m, hm⟩ := k0; exact DataW.trod_lt m _ _ _ hm
  obtain ⟨a0, len0, cap0, l0, rfl, w0, s0⟩ := open_ds (hval 0 22 v0 rfl rfl) h0
  obtain ⟨a1, rfl, rfl, rfl, w1⟩ := open_int Tryd.underlying3 (hval 1 3 v1 rfl rfl) h1
  have hTab := of_lay3 hL
  clear hA0 hval0
  refine (walk W a0 len0 cap0 l0 w0 s0 a1 w1 hTab).mono fun e W' ⟨he, bel⟩ => ?_
  subst he
  exact ⟨_, rfl, _, _, _, [], _, [], hW', trodAll_mk1 (shut_bool Tryd.underlying4 _), (trodAll_cons_mk (Below.trod laidOut (by kernel_rfl) (of_decide_eq_true (by kernel_rfl)) k0 bel lt0) (trodAll_cons_mk (shut_int Tryd.underlying3 w1) trodAll_mk0)), rfl, bel.frame _, fun h => by cases h⟩
theorem over : Rows.proofMakesRow.holds Tryd.pinned (OpenSpec.ofChange Rows.proofMakesSpec) :=
  OpenClaim.holds_of_wide 4 Tryd.f4 rfl rfl rfl rfl rfl rfl rfl ⟨rfl, rfl, rfl, rfl, rfl⟩ rfl rfl rfl rfl rfl (by kernel_rfl) Tryd.func4 (by kernel_rfl)
    (of_decide_eq_true (by kernel_rfl)) (by unfold Func.isWrapper; first | (rw [if_pos (by decide +kernel)]; kernel_rfl) | (rw [if_neg (by decide +kernel)]; exact ⟨rfl, rfl⟩))
    (fun os started H enc _ => lifted os started H enc)
theorem proofMakes_holds : Rows.ProofMakesCardSaid :=
  Claim7.holds_tied_plain_at .later [] [.data, .data, .data] true (true, "94cbc27510e38751a60ab1ffe97d8db4da220d4986d50e976b7ed11b3ca8a243") false
    over (fun _ h => by cases h) (by kernel_rfl) (fun _ h => by cases h) proofMakes_row_tie rfl ⟨rfl, rfl⟩ (by kernel_rfl) rfl
    (fun f fn hf hfn => by
      obtain rfl : f = 4 := Option.some.inj ((show Tryd.prog.funcNamed "jurat/juratlaw08.ProofMakes" = some 4 by kernel_rfl).symm.trans hf) |>.symm
      obtain rfl : fn = Tryd.f4 := (Option.some.inj (Tryd.func4.symm.trans hfn)).symm
      exact ⟨by kernel_rfl, fun j t ht => by
        rw [Tryd.params4] at ht
        have hm : t ∈ [22, 3] := by simpa using Array.mem_of_getElem? ht
        have hall : ([22, 3].all fun u => !Tryd.prog.wantsStandIn u) = true := by kernel_rfl
        exact (show Tryd.prog.wantsStandIn t = false by simpa using List.all_eq_true.1 hall t hm)⟩)
    (by kernel_rfl)
#print axioms proofMakes_holds
end Go.Proofs.YtojepkhooabjiaaDoor.proofMakes
