/-
  OtsMakes, whole, as the tied card (Rows.OtsMakesCardSaid): for every seed and number of bits ots.Public answers the document's own public part, or its error, and for every list of up to 600 digests ots.Root answers the document's own root; what is signed is verified, and another root isn't. Conditions: the tables sha.constants, juratref02.constants and juratref02.first read as their initialisers lay them (tied to the program's text).
-/
import Derived.Test.YtghihgmgadaoeaaDoorRows
import Derived.Test.YtghihgmgadaoeaaDoorCards
import Derived.Test.YtghihgmgadaoeaaDoorTie
import Derived.WalkKit
import Derived.ProofKit
import Derived.OpenShut
import Derived.ChangeMaps5
import Derived.ShutString
import Derived.ChangeOld
import Derived.Below
import Derived.SizedLaws
import Derived.SevenTiedAt
import Derived.Lay
import Derived.LaidLaws
import Derived.Test.YtghihgmgadaoeaaDoorAlive
import Derived.Test.YtghihgmgadaoeaaDoorRSame
import Derived.Test.YtghihgmgadaoeaaDoorOpens
namespace Go.Proofs.YtghihgmgadaoeaaDoor.otsMakes
open Go.ChangeShapes Go.WideShapes Go.ChangeAt Go.RowKit
open Go.ChangeMaps (open_string shut_string)
set_option linter.unusedVariables false
theorem own : ownKnob Tryd.prog.godebug = none := by kernel_rfl
theorem laidOut : laidOutB Tryd.prog = true := by kernel_rfl
set_option maxRecDepth 100000 in
set_option maxHeartbeats 2000000 in
theorem walk (w : World) (s0 : List UInt8) (w0 : s0.length = 32) (a1 : Int) (_w1 : (Lit.int .i64 a1).wf = true) (a2 : Option Addr) (len2 cap2 : Nat) (l2 : List (List UInt8)) (w2 : Ds w a2 len2 l2) (hT : First w ∧ Tab 1 w ∧ Tab 2 w) :
    Calls Tryd.prog 3 #[.agg (bcells s0), .int .i64 a1, .slice a2 len2 cap2] w fun e w' => e = .returned (.bool true) ∧ Below w.heap.size w w' := by
  have hb0 := (Below.refl w.heap.size w).alloc (Nat.le_refl _) (.cells (bcells s0) 23)
  have HF := Lib.hid hT.1
  have HT1 := Lib.hid hT.2.1
  have HT2 := Lib.hid hT.2.2
  by_cases h600 : len2 ≤ 600
  · have i0 : ¬ 600 < (len2 : Int) := by omega
    have HKS := Lib.hid (show (bcells s0).size = 32 by rw [bcells_size, w0])
    have HP := Lib.hid (fun w hT => Public_any s0 a1 w w0 hT)
    have HQ := Lib.hid (fun w hF hT => RefPublic_any s0 a1 w w0 hF hT)
    have HPL := Lib.hid (pubI_length s0 a1)
    have HR := Lib.hid (fun A c w hD hT => Root_any A len2 c l2 w hD hT (by omega))
    have HRR := Lib.hid (fun w hD hF hT => RefRoot_any a2 len2 cap2 l2 w hD hF hT (by omega))
    have heq := eq_digest (rootL l2) (rootL_length l2)
    have HD := Lib.hid w2
    generalize rootL l2 = R at *
    generalize pubI s0 a1 = PB at *
    generalize errA a1 = E at *
    clear w2 hT w0
    go_enter Tryd.func3, Tryd.ntmps3
    go_wp2_with (first
      | (with_reducible refine wpList_load_row Tryd.agg25 rfl (.tmp 3) rfl _ rfl 23 _ (Row.new w 23 (bcells s0)) HKS.out ?_)
      | (with_reducible refine wpList_load_row Tryd.agg25 rfl (.tmp 3) rfl _ rfl 23 _ HR1.out HKS.out ?_)
      | (go_at_call 10; refine (HP.out _ (HT2.out.below hb0)).mono ?_; rintro e1 w1 ⟨A1, c1, rfl, hc1, hd1, hb1⟩; have HD1 := Lib.hid hd1; have HR1 := Lib.hid ((Row.new w 23 (bcells s0)).below hb1 (by simp)); have hb1' := hb0.trans (hb1.mono (by simp)); clear hd1)
      | (go_at_call 11; refine (HQ.out w1 (HF.out.below hb1') (HT1.out.below hb1')).mono ?_; rintro e2 w2 ⟨A2, c2, rfl, hc2, hd2, hb2⟩; have HD2 := Lib.hid hd2; have hb2' := hb1'.trans (hb2.mono hb1'.size); clear hd2)
      | (go_at_call 12; refine (RSame_yes A1 A2 _ c1 c2 PB w2 (HD1.out.below hb2) HD2.out (by have := HPL.out; omega)).mono ?_; rintro e3 w3 ⟨rfl, k3, rfl⟩; have hb3 := below_drewN hb2' k3)
      | (at_builtin; refine wpList_copyDG (by rfl) (.tmp 36) (.tmp 37) rfl rfl a2 len2 cap2 l2 rfl (HD.out.below hb3) (by omega) ?_; intro A4 c4 w4 hd4 hc4 hb4; have HD4 := Lib.hid hd4; have hb4' := hb3.trans (hb4.mono hb3.size); clear hd4)
      | (go_at_call 13; refine (HR.out A4 c4 w4 HD4.out (HT2.out.below hb4')).mono ?_; rintro e5 w5 ⟨rfl, hb5⟩; have hb5' := hb4'.trans (hb5.mono hb4'.size))
      | (go_at_call 14; refine (HRR.out w5 (HD.out.below hb5') (HF.out.below hb5') (HT1.out.below hb5')).mono ?_; rintro e6 w6 ⟨rfl, hb6⟩; have hb6' := hb5'.trans (hb6.mono hb5'.size))
      | (go_at_call 9; refine (awake_any w6 (HT2.out.below hb6')).mono ?_; rintro e7 w7 ⟨rfl, hb7⟩; have hb7' := hb6'.trans (hb7.mono hb6'.size)))
    go_ret
    exact ⟨rfl, hb7'⟩
  · have i0 : 600 < (len2 : Int) := by omega
    clear w2 hT w0
    go_enter Tryd.func3, Tryd.ntmps3
    go_wp2_with (go_at_call 9; refine (awake_any _ (HT2.out.below hb0)).mono ?_; rintro e4 w4 ⟨rfl, hb4⟩)
    go_ret
    exact ⟨rfl, hb0.trans (hb4.mono hb0.size)⟩

set_option maxRecDepth 100000 in
theorem lifted (os : Os) (started : os.Started) (H : Type) (enc : TypeId × Value → H) :
    ReturnsInHanded {} Tryd.checked os 3 .any (fun w args => (Rows.otsMakesSpec.pre enc Tryd.prog Tryd.f3 Rows.otsMakesRow.domain false w args ∧ laidMetH Tryd.prog lay3 w) ∧ sizedMet enc Tryd.prog Tryd.f3 (OpenSpec.ofChange Rows.otsMakesSpec) false w args)
      (Rows.otsMakesSpec.post enc Tryd.prog Tryd.f3 false true false false) := by
  refine returnsInHanded_of_change_and (C := Tryd.checked) (X := fun w _ => laidMetH Tryd.prog lay3 w) (fun _ _ _ hh h => h.of_heap hh) own started (by kernel_rfl) Tryd.func3
    (ChangeSpec.witness_shaped (enc := enc) (C := Tryd.checked) (os := os) (X := fun w _ => laidMetH Tryd.prog lay3 w) false (World.laidAll Tryd.prog os lay3) #[.agg #[.int .u8 0, .int .u8 0, .int .u8 0, .int .u8 0, .int .u8 0, .int .u8 0, .int .u8 0, .int .u8 0, .int .u8 0, .int .u8 0, .int .u8 0, .int .u8 0, .int .u8 0, .int .u8 0, .int .u8 0, .int .u8 0, .int .u8 0, .int .u8 0, .int .u8 0, .int .u8 0, .int .u8 0, .int .u8 0, .int .u8 0, .int .u8 0, .int .u8 0, .int .u8 0, .int .u8 0, .int .u8 0, .int .u8 0, .int .u8 0, .int .u8 0, .int .u8 0], .int .i64 0, .slice none 0 0] 8 rfl (World.shaped_of_ZipB (by kernel_rfl) (by kernel_rfl)) (by kernel_rfl) (by kernel_rfl) (by kernel_rfl) (met3 os _)) ?_
  intro W base args ds gs before hval0 hW hcnd hsz0 hL _
  have hval : ∀ (j : Nat) t v, Tryd.f3.params[j]? = some t → args[j]? = some v → Value.okWide Tryd.prog W .any base t v := hval0
  have hW' := hW
  obtain ⟨p, q, hA0, hV, rfl, hfz, hnd⟩ := hW
  have hA : DataW.TrodAll enc Tryd.prog W 0 (fun _ => true) true Tryd.f3.params.toList args.toList ds p := hA0
  have hsz : (DataW.weightsEach Tryd.prog (Tryd.f3.params.toList ++ Rows.otsMakesSpec.plain.varTypes Tryd.prog) (ds ++ gs)).all (· ≤ reachBytes) = true := hsz0
  rw [Tryd.params3] at hA hval hsz
  obtain ⟨v0, vs0, d0, ds0, p0, q0, hargs, rfl, rfl, h0, r0⟩ := trodAll_cons hA
  obtain ⟨v1, vs1, d1, ds1, p1, q1, rfl, rfl, rfl, h1, r1⟩ := trodAll_cons r0
  obtain ⟨v2, vs2, d2, ds2, p2, q2, rfl, rfl, rfl, h2, r2⟩ := trodAll_cons r1
  obtain ⟨rfl, rfl, rfl⟩ := trodAll_nil r2
  obtain rfl : args = #[v0, v1, v2] := by cases args; simp_all
  obtain ⟨rfl, rfl⟩ := trodVars_none hV
  have k0 := h0
  have lt0 : ∀ x ∈ p0, x.block < W.heap.size := by obtain ⟨m, hm⟩ := k0; exact DataW.trod_lt m _ _ _ hm
  obtain ⟨s0, w0, rfl⟩ : ∃ s : List UInt8, s.length = 32 ∧ v0 = .agg (bcells s) := open_digest (hval 0 23 v0 rfl rfl) h0
  obtain ⟨a1, rfl, rfl, rfl, w1⟩ := open_int Tryd.underlying3 (hval 1 3 v1 rfl rfl) h1
  have k2 := h2
  have lt2 : ∀ x ∈ p2, x.block < W.heap.size := by obtain ⟨m, hm⟩ := k2; exact DataW.trod_lt m _ _ _ hm
  obtain ⟨a2, len2, cap2, l2, rfl, w2⟩ := open_ds (hval 2 24 v2 rfl rfl) h2
  have hTab := of_lay3 hL
  clear hA0 hval0
  refine (walk W s0 w0 a1 w1 a2 len2 cap2 l2 w2 hTab).mono fun e W' ⟨he, bel⟩ => ?_
  subst he
  exact ⟨_, rfl, _, _, _, [], _, [], hW', trodAll_mk1 (shut_bool Tryd.underlying4 _), (trodAll_cons_mk (Below.trod laidOut (by kernel_rfl) (of_decide_eq_true (by kernel_rfl)) k0 bel lt0) (trodAll_cons_mk (shut_int Tryd.underlying3 w1) (trodAll_cons_mk (Below.trod laidOut (by kernel_rfl) (of_decide_eq_true (by kernel_rfl)) k2 bel lt2) trodAll_mk0))), rfl, bel.frame _, fun h => by cases h⟩
theorem over : Rows.otsMakesRow.holds Tryd.pinned (OpenSpec.ofChange Rows.otsMakesSpec) :=
  OpenClaim.holds_of_wide 3 Tryd.f3 rfl rfl rfl rfl rfl rfl rfl ⟨rfl, rfl, rfl, rfl, rfl⟩ rfl rfl rfl rfl rfl (by kernel_rfl) Tryd.func3 (by kernel_rfl)
    (of_decide_eq_true (by kernel_rfl)) (by unfold Func.isWrapper; first | (rw [if_pos (by decide +kernel)]; kernel_rfl) | (rw [if_neg (by decide +kernel)]; exact ⟨rfl, rfl⟩))
    (fun os started H enc _ => lifted os started H enc)
theorem otsMakes_holds : Rows.OtsMakesCardSaid :=
  Claim7.holds_tied_plain_at .later [] [.data, .data, .data] true (true, "38853a3e69654356aeca0a1f5f06e005877108b1e9361b026282a30c4990b858") false
    over (fun _ h => by cases h) (by kernel_rfl) (fun _ h => by cases h) otsMakes_row_tie rfl ⟨rfl, rfl⟩ (by kernel_rfl) rfl
    (fun f fn hf hfn => by
      obtain rfl : f = 3 := Option.some.inj ((show Tryd.prog.funcNamed "jurat/juratlaw05.OtsMakes" = some 3 by kernel_rfl).symm.trans hf) |>.symm
      obtain rfl : fn = Tryd.f3 := (Option.some.inj (Tryd.func3.symm.trans hfn)).symm
      exact ⟨by kernel_rfl, fun j t ht => by
        rw [Tryd.params3] at ht
        have hm : t ∈ [23, 3, 24] := by simpa using Array.mem_of_getElem? ht
        have hall : ([23, 3, 24].all fun u => !Tryd.prog.wantsStandIn u) = true := by kernel_rfl
        exact (show Tryd.prog.wantsStandIn t = false by simpa using List.all_eq_true.1 hall t hm)⟩)
    (by kernel_rfl)
#print axioms otsMakes_holds
end Go.Proofs.YtghihgmgadaoeaaDoor.otsMakes
