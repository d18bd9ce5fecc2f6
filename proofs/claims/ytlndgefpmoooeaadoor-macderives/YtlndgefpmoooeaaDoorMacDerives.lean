/-
  MacDerives, whole, as the tied card (Rows.MacDerivesCardSaid): for every key and label, up to 200 bytes each, and every number mac.Derive answers the document's own bytes, as many as asked, or its error; a known mac begins as it should. Conditions: the tables sha.constants, juratref02.constants and juratref02.first read as their initialisers lay them (tied to the program's text).
-/
import Derived.Test.YtlndgefpmoooeaaDoorRows
import Derived.Test.YtlndgefpmoooeaaDoorCards
import Derived.Test.YtlndgefpmoooeaaDoorTie
import Derived.WalkKit
import Derived.ProofKit
import Derived.OpenShut
import Derived.ChangeMaps5
import Derived.ShutString
import Derived.ChangeOld
import Derived.Below
import Derived.SizedLaws
import Derived.SevenTiedAt
import Derived.Lay
import Derived.LaidLaws
import Derived.Test.YtlndgefpmoooeaaDoorLaid
import Derived.Test.YtlndgefpmoooeaaDoorDerive
import Derived.Test.YtlndgefpmoooeaaDoorRefDer
import Derived.Test.YtlndgefpmoooeaaDoorAwake
namespace Go.Proofs.YtlndgefpmoooeaaDoor.macDerives
open Go.ChangeShapes Go.WideShapes Go.ChangeAt Go.RowKit
open Go.ChangeMaps (open_string shut_string)
set_option linter.unusedVariables false
theorem own : ownKnob Tryd.prog.godebug = none := by kernel_rfl
theorem laidOut : laidOutB Tryd.prog = true := by kernel_rfl
set_option maxRecDepth 100000 in
set_option maxHeartbeats 1000000 in
theorem walk_err (w : World) (a0 : Option Addr) (len0 cap0 : Nat) (l0 : List UInt8) (w0 : Bs w a0 len0 l0) (s0 : len0 ≤ cap0) (a1 : ByteArray) (a2 E : Int) (hT2 : Tab 2 w) (h0 : len0 ≤ 200) (h1 : a1.size ≤ 200) (hE : E = 1 ∨ E = 42)
    (HD : ∀ A nk ck w, Calls Tryd.prog 15 #[.slice A nk ck, .string a1, .int .i64 a2] w fun e w' => e = .returned (.tuple #[.slice none 0 0, .int .i64 E]) ∧ w = w')
    (HR : ∀ A nk ck w, Calls Tryd.prog 16 #[.slice A nk ck, .string a1, .int .i64 a2] w fun e w' => e = .returned (.tuple #[.slice none 0 0, .int .i64 E]) ∧ w = w') :
    Calls Tryd.prog 5 #[.slice a0 len0 cap0, .string a1, .int .i64 a2] w fun e w' => e = .returned (.bool true) ∧ Below w.heap.size w w' := by
  have HW0 := Lib.hid w0
  have HT2 := Lib.hid hT2
  have HD' := Lib.hid HD
  have HR' := Lib.hid HR
  have i0 : ¬ 200 < (len0 : Int) := by omega
  have i1 : ¬ 200 < (a1.size : Int) := by omega
  clear w0 hT2 HD HR
  rcases hE with rfl | rfl
  all_goals
    go_enter Tryd.func5, Tryd.ntmps5
    go_wp2_with (first
      | (go_at_call 11; refine (own_any a0 len0 cap0 l0 w HW0.out (by omega)).mono ?_; rintro e1 w1 ⟨A1, n1, c1, rfl, hB1, hc1, hb1, -⟩; clear hB1)
      | (go_at_call 15; refine (HD'.out _ _ _ _).mono ?_; rintro e2 w2 ⟨rfl, rfl⟩)
      | (go_at_call 16; refine (HR'.out _ _ _ _).mono ?_; rintro e3 w3 ⟨rfl, rfl⟩)
      | (go_at_call 17; refine (Same_yes none none 0 0 0 [] _ (Bs.nil _ _) (Bs.nil _ _) (by omega)).mono ?_; rintro e4 w4 ⟨rfl, k4, rfl⟩)
      | (go_at_call 9; refine (awake_any _ (HT2.out.below (below_drewN hb1 k4))).mono ?_; rintro e5 w5 ⟨rfl, hb5⟩))
    go_ret
    exact ⟨rfl, (below_drewN hb1 k4).trans (hb5.mono hb1.size)⟩
set_option maxRecDepth 100000 in
set_option maxHeartbeats 1000000 in
theorem walk_ok (w : World) (a0 : Option Addr) (len0 cap0 : Nat) (l0 : List UInt8) (w0 : Bs w a0 len0 l0) (s0 : len0 ≤ cap0) (a1 : ByteArray) (a2 : Nat) (hF : First w) (hT1 : Tab 1 w) (hT2 : Tab 2 w) (h0 : len0 ≤ 200) (h1 : a1.size ≤ 200) (h2 : a2 ≤ 8160) :
    Calls Tryd.prog 5 #[.slice a0 len0 cap0, .string a1, .int .i64 (a2 : Int)] w fun e w' => e = .returned (.bool true) ∧ Below w.heap.size w w' := by
  have HW0 := Lib.hid w0
  have HF := Lib.hid hF
  have HT1 := Lib.hid hT1
  have HT2 := Lib.hid hT2
  have hl0 := w0.1
  have i0 : ¬ 200 < (len0 : Int) := by omega
  have i1 : ¬ 200 < (a1.size : Int) := by omega
  have HDL := Lib.hid (deriveL_length l0 a1 a2)
  have HD := Lib.hid (fun A nk ck w hB hc hT hk => Derive_any A nk ck l0 a1 a2 w hB hc hT h2 hk h1)
  have HR := Lib.hid (fun A nk ck w hB hc hF hT hk => RefDerive_any A nk ck l0 a1 a2 w hB hc hF hT h2 hk h1)
  generalize deriveL l0 a1 a2 = R at *
  clear w0 hF hT1 hT2
  go_enter Tryd.func5, Tryd.ntmps5
  go_wp2_with (first
    | (go_at_call 11; refine (own_any a0 len0 cap0 l0 w HW0.out (by omega)).mono ?_; rintro e1 w1 ⟨A1, n1, c1, rfl, hB1, hc1, hb1, -⟩; have HB1 := Lib.hid hB1; have HN1 := Lib.hid (hB1.1.symm.trans hl0); clear hB1)
    | (go_at_call 15; refine (HD.out _ _ _ w1 HB1.out hc1 (HT2.out.below hb1) (by have := HN1.out; omega)).mono ?_; rintro e2 w2 ⟨A2, n2, c2, rfl, hB2, hc2, hb2⟩; have HB2 := Lib.hid hB2; obtain rfl : n2 = a2 := hB2.1.symm.trans HDL.out; have hb2' := hb1.trans (hb2.mono hb1.size); clear hB2)
    | (go_at_call 16; refine (HR.out _ _ _ w2 (HW0.out.below hb2') s0 (HF.out.below hb2') (HT1.out.below hb2') (by omega)).mono ?_; rintro e3 w3 ⟨A3, n3, c3, rfl, hB3, hc3, hb3⟩; have HB3 := Lib.hid hB3; have hb3' := hb2'.trans (hb3.mono hb2'.size); clear hB3)
    | (go_at_call 17; refine (Same_same _ _ _ _ _ _ R w3 (HB2.out.below hb3) HB3.out (by omega)).mono ?_; rintro e4 w4 ⟨rfl, k4, rfl⟩)
    | (go_at_call 9; refine (awake_any _ (HT2.out.below (below_drewN hb3' k4))).mono ?_; rintro e5 w5 ⟨rfl, hb5⟩))
  go_ret
  exact ⟨rfl, (below_drewN hb3' k4).trans (hb5.mono hb3'.size)⟩
set_option maxRecDepth 100000 in
set_option maxHeartbeats 1000000 in
theorem walk (w : World) (a0 : Option Addr) (len0 cap0 : Nat) (l0 : List UInt8) (w0 : Bs w a0 len0 l0) (s0 : len0 ≤ cap0 ∧ cap0 ≤ 140737488351232) (a1 : ByteArray) (a2 : Int) (w2 : (Lit.int .i64 a2).wf = true) (hT : First w ∧ Tab 1 w ∧ Tab 2 w) :
    Calls Tryd.prog 5 #[.slice a0 len0 cap0, .string a1, .int .i64 a2] w fun e w' => e = .returned (.bool true) ∧ Below w.heap.size w w' := by
  have HT2 := Lib.hid hT.2.2
  by_cases h0 : len0 ≤ 200
  · have i0 : ¬ 200 < (len0 : Int) := by omega
    by_cases h1 : a1.size ≤ 200
    · by_cases h2 : a2 < 0
      · exact walk_err w a0 len0 cap0 l0 w0 s0.1 a1 a2 1 hT.2.2 h0 h1 (.inl rfl) (fun A nk ck w => Derive_neg A nk ck a1 a2 w h2) (fun A nk ck w => RefDerive_neg A nk ck a1 a2 w h2)
      · by_cases h3 : 8160 < a2
        · exact walk_err w a0 len0 cap0 l0 w0 s0.1 a1 a2 42 hT.2.2 h0 h1 (.inr rfl) (fun A nk ck w => Derive_long A nk ck a1 a2 w h3) (fun A nk ck w => RefDerive_long A nk ck a1 a2 w h3)
        · obtain ⟨k, rfl⟩ : ∃ k : Nat, a2 = (k : Int) := ⟨a2.toNat, by omega⟩
          exact walk_ok w a0 len0 cap0 l0 w0 s0.1 a1 k hT.1 hT.2.1 hT.2.2 h0 h1 (by omega)
    · have i1 : 200 < (a1.size : Int) := by omega
      clear w0 w2 hT
      go_enter Tryd.func5, Tryd.ntmps5
      go_wp2_with (go_at_call 9; refine (awake_any _ HT2.out).mono ?_; rintro e4 w4 ⟨rfl, hb4⟩)
      go_ret
      exact ⟨rfl, hb4⟩
  · have i0 : 200 < (len0 : Int) := by omega
    clear w0 w2 hT
    go_enter Tryd.func5, Tryd.ntmps5
    go_wp2_with (go_at_call 9; refine (awake_any _ HT2.out).mono ?_; rintro e4 w4 ⟨rfl, hb4⟩)
    go_ret
    exact ⟨rfl, hb4⟩

set_option maxRecDepth 100000 in
theorem lifted (os : Os) (started : os.Started) (H : Type) (enc : TypeId × Value → H) :
    ReturnsInHanded {} Tryd.checked os 5 .any (fun w args => (Rows.macDerivesSpec.pre enc Tryd.prog Tryd.f5 Rows.macDerivesRow.domain false w args ∧ laidMetH Tryd.prog lay3 w) ∧ sizedMet enc Tryd.prog Tryd.f5 (OpenSpec.ofChange Rows.macDerivesSpec) false w args)
      (Rows.macDerivesSpec.post enc Tryd.prog Tryd.f5 false true false false) := by
  refine returnsInHanded_of_change_and (C := Tryd.checked) (X := fun w _ => laidMetH Tryd.prog lay3 w) (fun _ _ _ hh h => h.of_heap hh) own started (by kernel_rfl) Tryd.func5
    (ChangeSpec.witness_shaped (enc := enc) (C := Tryd.checked) (os := os) (X := fun w _ => laidMetH Tryd.prog lay3 w) false (World.laidAll Tryd.prog os lay3) #[.slice none 0 0, .string ByteArray.empty, .int .i64 0] 8 rfl (World.shaped_of_ZipB (by kernel_rfl) (by kernel_rfl)) (by kernel_rfl) (by kernel_rfl) (by kernel_rfl) (met3 os _)) ?_
  intro W base args ds gs before hval0 hW hcnd hsz0 hL _
  have hval : ∀ (j : Nat) t v, Tryd.f5.params[j]? = some t → args[j]? = some v → Value.okWide Tryd.prog W .any base t v := hval0
  have hW' := hW
  obtain ⟨p, q, hA0, hV, rfl, hfz, hnd⟩ := hW
  have hA : DataW.TrodAll enc Tryd.prog W 0 (fun _ => true) true Tryd.f5.params.toList args.toList ds p := hA0
  have hsz : (DataW.weightsEach Tryd.prog (Tryd.f5.params.toList ++ Rows.macDerivesSpec.plain.varTypes Tryd.prog) (ds ++ gs)).all (· ≤ reachBytes) = true := hsz0
  rw [Tryd.params5] at hA hval hsz
  obtain ⟨v0, vs0, d0, ds0, p0, q0, hargs, rfl, rfl, h0, r0⟩ := trodAll_cons hA
  obtain ⟨v1, vs1, d1, ds1, p1, q1, rfl, rfl, rfl, h1, r1⟩ := trodAll_cons r0
  obtain ⟨v2, vs2, d2, ds2, p2, q2, rfl, rfl, rfl, h2, r2⟩ := trodAll_cons r1
  obtain ⟨rfl, rfl, rfl⟩ := trodAll_nil r2
  obtain rfl : args = #[v0, v1, v2] := by cases args; simp_all
  obtain ⟨rfl, rfl⟩ := trodVars_none hV
  obtain ⟨a0, len0, cap0, rfl⟩ := okWide_slice Tryd.underlying22 (hval 0 22 v0 rfl rfl)
  have k0 := h0
  have lt0 : ∀ x ∈ p0, x.block < W.heap.size := by obtain ⟨m, hm⟩ := k0; exact DataW.trod_lt m _ _ _ hm
  obtain ⟨l0, w0, s0⟩ : ∃ l, Bs W a0 len0 l ∧ len0 ≤ cap0 ∧ cap0 ≤ 140737488351232 := by
    obtain ⟨fuel, hf⟩ := h0
    rcases open_ints Tryd.underlying22 Tryd.underlying5 (by kernel_rfl) hf with ⟨hcs, _⟩ | ⟨x, l, c, zs, hcs, _, hl, hm, hz, hx, hcell, hwz⟩
    · simp [Value.cells] at hcs
      obtain ⟨rfl, rfl, rfl⟩ := hcs
      exact ⟨[], Bs.nil _ _, by omega, by omega⟩
    · simp [Value.cells] at hcs
      obtain ⟨rfl, rfl, rfl⟩ := hcs
      simp only [Prod.mk.injEq] at hx
      obtain ⟨rfl, _⟩ := hx
      have hb := sized_slice hsz (j := 0) (t := 22) (e := 5) rfl rfl Tryd.underlying22
      rw [show Tryd.prog.bytesOf 5 = 1 from by kernel_rfl] at hb
      simp only [lits, List.length_map, List.length_take, List.length_drop, reachBytes] at hb
      have hz' : zs.length = cap0 := by simpa using hz
      exact ⟨_, Bs.of_ints hl hz' hcell hwz, hl, by omega⟩
  obtain ⟨a1, rfl, rfl, rfl, w1⟩ := open_string Tryd.underlying9 (hval 1 9 v1 rfl rfl) h1
  obtain ⟨a2, rfl, rfl, rfl, w2⟩ := open_int Tryd.underlying3 (hval 2 3 v2 rfl rfl) h2
  have hTab := of_lay3 hL
  clear hA0 hval0
  refine (walk W a0 len0 cap0 l0 w0 s0 a1 a2 w2 hTab).mono fun e W' ⟨he, bel⟩ => ?_
  subst he
  exact ⟨_, rfl, _, _, _, [], _, [], hW', trodAll_mk1 (shut_bool Tryd.underlying4 _), (trodAll_cons_mk (Below.trod laidOut (by kernel_rfl) (of_decide_eq_true (by kernel_rfl)) k0 bel lt0) (trodAll_cons_mk (shut_string Tryd.underlying9 w1) (trodAll_cons_mk (shut_int Tryd.underlying3 w2) trodAll_mk0))), rfl, bel.frame _, fun h => by cases h⟩
theorem over : Rows.macDerivesRow.holds Tryd.pinned (OpenSpec.ofChange Rows.macDerivesSpec) :=
  OpenClaim.holds_of_wide 5 Tryd.f5 rfl rfl rfl rfl rfl rfl rfl ⟨rfl, rfl, rfl, rfl, rfl⟩ rfl rfl rfl rfl rfl (by kernel_rfl) Tryd.func5 (by kernel_rfl)
    (of_decide_eq_true (by kernel_rfl)) (by unfold Func.isWrapper; first | (rw [if_pos (by decide +kernel)]; kernel_rfl) | (rw [if_neg (by decide +kernel)]; exact ⟨rfl, rfl⟩))
    (fun os started H enc _ => lifted os started H enc)
theorem macDerives_holds : Rows.MacDerivesCardSaid :=
  Claim7.holds_tied_plain_at .later [] [.data, .data, .data] true (true, "c1aaf16a699fb574ed9094ce5eacd068c6fd07693febcb0b710cf4b7deeb39ec") false
    over (fun _ h => by cases h) (by kernel_rfl) (fun _ h => by cases h) macDerives_row_tie rfl ⟨rfl, rfl⟩ (by kernel_rfl) rfl
    (fun f fn hf hfn => by
      obtain rfl : f = 5 := Option.some.inj ((show Tryd.prog.funcNamed "jurat/juratlaw03.MacDerives" = some 5 by kernel_rfl).symm.trans hf) |>.symm
      obtain rfl : fn = Tryd.f5 := (Option.some.inj (Tryd.func5.symm.trans hfn)).symm
      exact ⟨by kernel_rfl, fun j t ht => by
        rw [Tryd.params5] at ht
        have hm : t ∈ [22, 9, 3] := by simpa using Array.mem_of_getElem? ht
        have hall : ([22, 9, 3].all fun u => !Tryd.prog.wantsStandIn u) = true := by kernel_rfl
        exact (show Tryd.prog.wantsStandIn t = false by simpa using List.all_eq_true.1 hall t hm)⟩)
    (by kernel_rfl)
#print axioms macDerives_holds
end Go.Proofs.YtlndgefpmoooeaaDoor.macDerives
