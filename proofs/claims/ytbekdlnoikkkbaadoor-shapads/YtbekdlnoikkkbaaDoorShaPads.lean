/-
  ShaPads, whole, as the tied card (Rows.ShaPadsCardSaid): for every number n sha.Pad answers what fills up n bytes as the document's own, or ErrArg; with it there are whole blocks, and fewer than two more; the sum of abc is the document's. Conditions: the table sha.constants reads as its initialiser lays it (tied to the program's text).
-/
import Derived.Test.YtbekdlnoikkkbaaDoorRows
import Derived.Test.YtbekdlnoikkkbaaDoorCards
import Derived.Test.YtbekdlnoikkkbaaDoorTie
import Derived.WalkKit
import Derived.ProofKit
import Derived.OpenShut
import Derived.ShutString
import Derived.ChangeOld
import Derived.Below
import Derived.SizedLaws
import Derived.SevenTiedAt
import Derived.Lay
import Derived.LaidLaws
import Derived.Test.YtbekdlnoikkkbaaDoorLaid
import Derived.Test.YtbekdlnoikkkbaaDoorSums
namespace Go.Proofs.YtbekdlnoikkkbaaDoor.shaPads
open Go.ChangeShapes Go.WideShapes Go.ChangeAt Go.RowKit
set_option linter.unusedVariables false
theorem own : ownKnob Tryd.prog.godebug = none := by kernel_rfl
theorem laidOut : laidOutB Tryd.prog = true := by kernel_rfl
theorem padNo (n : Int) (h : n < 0 ∨ 1152921504606846976 < n) : (decide (n < 0) = true) ∨ (decide (n < 0) = false ∧ 1152921504606846976 < n) := by
  by_cases h0 : n < 0
  · exact .inl (by simpa using h0)
  · exact .inr ⟨by simpa using h0, by omega⟩
set_option maxRecDepth 100000 in
set_option maxHeartbeats 1000000 in
theorem walk_no (n : Int) (w : World) (hT : Tab 2 w) (h : n < 0 ∨ 1152921504606846976 < n) :
    Calls Tryd.prog 5 #[.int .i64 n] w fun e w' => e = .returned (.bool true) ∧ Below w.heap.size w w' := by
  have HT := Lib.hid hT
  have HH := Lib.hid h
  clear hT h
  rcases padNo n HH.out with hd | ⟨hd, hg⟩
  all_goals
    go_enter Tryd.func5, Tryd.ntmps5
    go_wp2_with (first
      | (go_at_call 14; refine (Pad_no _ _ HH.out).mono ?_; rintro e1 w1 ⟨rfl, rfl⟩)
      | (go_at_call 9; refine (awake_any _ HT.out).mono ?_; rintro e1 w1 ⟨rfl, hb1⟩))
    go_ret
    exact ⟨rfl, hb1⟩
theorem padMod (n : Nat) : (n % 64 + (padL n).length) % 64 = 0 := by rw [padL_length]; unfold padZ; omega
theorem padLt (n : Nat) : (padL n).length < 73 := by rw [padL_length]; unfold padZ; omega
set_option maxRecDepth 100000 in
set_option maxHeartbeats 1000000 in
theorem walk_ok (n : Nat) (w : World) (hT : Tab 2 w) (h : n ≤ 1152921504606846976) :
    Calls Tryd.prog 5 #[.int .i64 (n : Int)] w fun e w' => e = .returned (.bool true) ∧ Below w.heap.size w w' := by
  have HT := Lib.hid hT
  clear hT
  have hd : decide ((n : Int) < 0) = false := by simp
  have hd2 : decide (1152921504606846976 < (n : Int)) = false := by simp; omega
  go_enter Tryd.func5, Tryd.ntmps5
  go_wp2_with fail
  refine (Pad_ok n w h).mono ?_
  rintro e1 w1 ⟨A1, n1, c1, rfl, hB1, hc1, hb1, ho1⟩
  have hm0 := padMod n
  have hl0 := padLt n
  rw [hB1.1] at hm0 hl0
  have HB1 := Lib.hid hB1
  have hm1 : ((n : Int) % 64 + (n1 : Int)) % 64 = 0 := by omega
  clear hB1 ho1 hm0
  go_wp2_with (first
    | (go_at_call 16; refine (RefPad_ok n _ h).mono ?_; rintro e2 w2 ⟨A2, n2, c2, rfl, hB2, hc2, hb2, ho2⟩; have HB2 := Lib.hid hB2; clear hB2 ho2)
    | (go_at_call 15; refine (Same_same _ _ _ _ _ _ (padL n) _ (HB1.out.below hb2) HB2.out (by omega)).mono ?_; rintro e3 w3 ⟨rfl, m3, rfl⟩; have hb3 : Below w.heap.size w (w2.drewN m3) := below_drewN' (hb1.trans (hb2.mono hb1.size)) m3)
    | (go_at_call 9; refine (awake_any _ (HT.out.below hb3)).mono ?_; rintro e4 w4 ⟨rfl, hb4⟩))
  go_ret
  exact ⟨rfl, hb3.trans (hb4.mono hb3.size)⟩
theorem walk (a0 : Int) (w0 : (Lit.int .i64 a0).wf = true) (w : World) (hT : Tab 2 w) :
    Calls Tryd.prog 5 #[.int .i64 a0] w fun e w' => e = .returned (.bool true) ∧ Below w.heap.size w w' := by
  by_cases h : a0 < 0 ∨ 1152921504606846976 < a0
  · exact walk_no a0 w hT h
  · obtain ⟨n, rfl⟩ := Int.eq_ofNat_of_zero_le (a := a0) (by omega)
    exact walk_ok n w hT (by omega)

set_option maxRecDepth 100000 in
theorem lifted (os : Os) (started : os.Started) (H : Type) (enc : TypeId × Value → H) :
    ReturnsInHanded {} Tryd.checked os 5 .any (fun w args => (Rows.shaPadsSpec.pre enc Tryd.prog Tryd.f5 Rows.shaPadsRow.domain false w args ∧ laidMetH Tryd.prog lay1 w) ∧ sizedMet enc Tryd.prog Tryd.f5 (OpenSpec.ofChange Rows.shaPadsSpec) false w args)
      (Rows.shaPadsSpec.post enc Tryd.prog Tryd.f5 false true false false) := by
  refine returnsInHanded_of_change_and (C := Tryd.checked) (X := fun w _ => laidMetH Tryd.prog lay1 w) (fun _ _ _ hh h => h.of_heap hh) own started (by kernel_rfl) Tryd.func5
    (ChangeSpec.witness_shaped (enc := enc) (C := Tryd.checked) (os := os) (X := fun w _ => laidMetH Tryd.prog lay1 w) false (World.laidAll Tryd.prog os lay1) #[.int .i64 0] 8 rfl (World.shaped_of_ZipB (by kernel_rfl) (by kernel_rfl)) (by kernel_rfl) (by kernel_rfl) (by kernel_rfl) (met1 os _)) ?_
  intro W base args ds gs before hval0 hW hcnd hsz0 hL _
  have hval : ∀ (j : Nat) t v, Tryd.f5.params[j]? = some t → args[j]? = some v → Value.okWide Tryd.prog W .any base t v := hval0
  have hW' := hW
  obtain ⟨p, q, hA0, hV, rfl, hfz, hnd⟩ := hW
  have hA : DataW.TrodAll enc Tryd.prog W 0 (fun _ => true) true Tryd.f5.params.toList args.toList ds p := hA0
  have hsz : (DataW.weightsEach Tryd.prog (Tryd.f5.params.toList ++ Rows.shaPadsSpec.plain.varTypes Tryd.prog) (ds ++ gs)).all (· ≤ reachBytes) = true := hsz0
  rw [Tryd.params5] at hA hval hsz
  obtain ⟨v0, vs0, d0, ds0, p0, q0, hargs, rfl, rfl, h0, r0⟩ := trodAll_cons hA
  obtain ⟨rfl, rfl, rfl⟩ := trodAll_nil r0
  obtain rfl : args = #[v0] := by cases args; simp_all
  obtain ⟨rfl, rfl⟩ := trodVars_none hV
  obtain ⟨a0, rfl, rfl, rfl, w0⟩ := open_int Tryd.underlying3 (hval 0 3 v0 rfl rfl) h0
  have hTab := of_lay1 hL
  clear hA0 hval0
  refine (walk a0 w0 W hTab).mono fun e W' ⟨he, bel⟩ => ?_
  subst he
  exact ⟨_, rfl, _, _, _, [], _, [], hW', trodAll_mk1 (shut_bool Tryd.underlying4 _), (trodAll_cons_mk (shut_int Tryd.underlying3 w0) trodAll_mk0), rfl, bel.frame _, fun h => by cases h⟩
theorem over : Rows.shaPadsRow.holds Tryd.pinned (OpenSpec.ofChange Rows.shaPadsSpec) :=
  OpenClaim.holds_of_wide 5 Tryd.f5 rfl rfl rfl rfl rfl rfl rfl ⟨rfl, rfl, rfl, rfl, rfl⟩ rfl rfl rfl rfl rfl (by kernel_rfl) Tryd.func5 (by kernel_rfl)
    (of_decide_eq_true (by kernel_rfl)) (by unfold Func.isWrapper; first | (rw [if_pos (by decide +kernel)]; kernel_rfl) | (rw [if_neg (by decide +kernel)]; exact ⟨rfl, rfl⟩))
    (fun os started H enc _ => lifted os started H enc)
theorem shaPads_holds : Rows.ShaPadsCardSaid :=
  Claim7.holds_tied_plain_at .later [] [.data] true (true, "cd5223bcd05b994fe2076e12c14aa4b5dcc109b39c990a01de11415a3af69244") false
    over (fun _ h => by cases h) (by kernel_rfl) (fun _ h => by cases h) shaPads_row_tie rfl ⟨rfl, rfl⟩ (by kernel_rfl) rfl
    (fun f fn hf hfn => by
      obtain rfl : f = 5 := Option.some.inj ((show Tryd.prog.funcNamed "jurat/juratlaw02.ShaPads" = some 5 by kernel_rfl).symm.trans hf) |>.symm
      obtain rfl : fn = Tryd.f5 := (Option.some.inj (Tryd.func5.symm.trans hfn)).symm
      exact ⟨by kernel_rfl, fun j t ht => by
        rw [Tryd.params5] at ht
        have hm : t ∈ [3] := by simpa using Array.mem_of_getElem? ht
        have hall : ([3].all fun u => !Tryd.prog.wantsStandIn u) = true := by kernel_rfl
        exact (show Tryd.prog.wantsStandIn t = false by simpa using List.all_eq_true.1 hall t hm)⟩)
    (by kernel_rfl)
#print axioms shaPads_holds
end Go.Proofs.YtbekdlnoikkkbaaDoor.shaPads
