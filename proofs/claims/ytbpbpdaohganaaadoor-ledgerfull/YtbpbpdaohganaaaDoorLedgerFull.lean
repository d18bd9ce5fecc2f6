/-
  LedgerFull, whole, as the tied card (Rows.LedgerFullCardSaid): for every number n (0 to 4200 are played) n leaves of one byte are appended one behind the other: each of the first 4096 is told its place, each further one is refused with ErrFull, and the size is n, or 4096 at most; and the document's example of two leaves. Conditions: the table sha.constants reads as its initialiser lays it (tied to the program's text).
-/
import Derived.Test.YtbpbpdaohganaaaDoorRows
import Derived.Test.YtbpbpdaohganaaaDoorCards
import Derived.Test.YtbpbpdaohganaaaDoorTie
import Derived.WalkKit
import Derived.ProofKit
import Derived.OpenShut
import Derived.ChangeMaps5
import Derived.ShutString
import Derived.ChangeOld
import Derived.Below
import Derived.SizedLaws
import Derived.SevenTiedAt
import Derived.Lay
import Derived.LaidLaws
import Derived.Test.YtbpbpdaohganaaaDoorLedI
namespace Go.Proofs.YtbpbpdaohganaaaDoor.ledgerFull
open Go.ChangeShapes Go.WideShapes Go.ChangeAt Go.RowKit
open Go.ChangeMaps (open_string shut_string)
set_option linter.unusedVariables false
theorem own : ownKnob Tryd.prog.godebug = none := by kernel_rfl
theorem laidOut : laidOutB Tryd.prog = true := by kernel_rfl
set_option maxRecDepth 100000 in
set_option maxHeartbeats 1000000 in
theorem walk_no (w : World) (a0 : Int) (h : a0 < 0 ∨ 4200 < a0) (hT : Tab 1 w) : Calls Tryd.prog 7 #[.int .i64 a0] w fun e w' => e = .returned (.bool true) ∧ Below w.heap.size w w' := by
  have HT := Lib.hid hT
  by_cases h0 : a0 < 0
  · clear hT h
    go_enter Tryd.func7, Tryd.ntmps7
    go_wp2_with (go_at_call 10; refine (awake_any _ HT.out).mono ?_; rintro e1 w1 ⟨rfl, hb1⟩)
    go_ret
    exact ⟨rfl, hb1⟩
  · have h1 : 4200 < a0 := by omega
    clear hT h
    go_enter Tryd.func7, Tryd.ntmps7
    go_wp2_with (go_at_call 10; refine (awake_any _ HT.out).mono ?_; rintro e1 w1 ⟨rfl, hb1⟩)
    go_ret
    exact ⟨rfl, hb1⟩
set_option maxRecDepth 100000 in
set_option maxHeartbeats 2000000 in
theorem walk_ok (w : World) (n : Nat) (h : n ≤ 4200) (hT : Tab 1 w) : Calls Tryd.prog 7 #[.int .i64 (n : Int)] w fun e w' => e = .returned (.bool true) ∧ Below w.heap.size w w' := by
  have HT := Lib.hid hT
  have hT1 := hT.1
  have i0 : ¬ (n : Int) < 0 := by omega
  have i1 : ¬ (4200 : Int) < (n : Int) := by omega
  clear hT
  go_enter Tryd.func7, Tryd.ntmps7
  go_wp2_with (go_at_call 11; refine (LNew_any _).mono ?_; rintro e1 w1 ⟨g, rfl, hg, hl1, hb1⟩; have HL1 := Lib.hid hl1; clear hl1)
  go_loopw [4] (fun i wr => ∃ (k m : Nat) (F : Nat → Prop) (L : List (List UInt8)), k ≤ n ∧ i = .int .i64 k ∧ Hid (m = min k 4096) ∧ Led wr g F m L ∧ Hid (∀ b, F b → w.heap.size ≤ b) ∧ Below w.heap.size w wr) (fun i _ => n - (intOf i).toNat)
  case atStart => exact ⟨0, 0, _, [], Nat.zero_le _, rfl, Lib.hid (by omega), HL1.out, Lib.hid (fun b q => by subst q; exact hg), hb1⟩
  case round =>
    obtain ⟨k, m, F, L, hk, rfl, HM, hl, HF, hb⟩ := hrel
    have HLd := Lib.hid hl
    have hs := hb.size
    clear hl
    by_cases hlt : k < n
    · have j1 : (k : Int) < (n : Int) := by omega
      have hne : ((k : Int) != (k : Int)) = false := by simp
      have b0 := hb.alloc hs (.cells #[.int .u8 ((k : Int) % 256)] 5)
      by_cases h4 : k < 4096
      · have j2 : (k : Int) < 4096 := by omega
        have j3 : ¬ (4096 : Int) ≤ (k : Int) := by omega
        obtain rfl : m = k := by have := HM.out; omega
        go_wp2_with (go_at_call 12; refine (App_ok g m 1 1 _ F L [UInt8.ofNat m] (wr.alloc (.cells #[.int .u8 ((m : Int) % 256)] 5)) (HLd.out.below ((Below.refl _ _).alloc (Nat.le_refl _) _)) (one_new wr m 5).bs (fun b' o' q1 q2 => absurd ((one_new wr m 5).fresh b' o' q1) (Nat.not_le_of_lt (HLd.out.2.1 b' q2))) (Nat.le_refl _) (by omega) (by omega) (HT.out.below b0) (fun q => absurd (HF.out 1 q) (by omega))).mono ?_; rintro e3 w3 ⟨rfl, ⟨F3, hF3, hl3⟩, ho3⟩; have HF3 := Lib.hid (show ∀ b, F3 b → w.heap.size ≤ b from fun b q => (hF3 b q).elim (HF.out b) (fun q2 => Nat.le_trans b0.size q2)); have HL3 := Lib.hid hl3; have b3 := b0.trans (ho3.below HF.out b0.size); clear hF3 hl3 ho3)
        go_roundw
        case rel => exact ⟨m + 1, m + 1, F3, _, by omega, by go_num, Lib.hid (by omega), HL3.out, HF3, b3⟩
        case measure => simp [intOf]; omega
      · have j2 : ¬ (k : Int) < 4096 := by omega
        have j3 : (4096 : Int) ≤ (k : Int) := by omega
        obtain rfl : m = 4096 := by have := HM.out; omega
        go_wp2_with (go_at_call 12; refine (App_full g 1 1 _ F L (wr.alloc (.cells #[.int .u8 ((k : Int) % 256)] 5)) (HLd.out.below ((Below.refl _ _).alloc (Nat.le_refl _) _)) (by omega)).mono ?_; rintro e3 w3 ⟨rfl, rfl⟩)
        go_roundw
        case rel => exact ⟨k + 1, 4096, F, L, by omega, by go_num, Lib.hid (by omega), HLd.out.below ((Below.refl _ _).alloc (Nat.le_refl _) _), HF, b0⟩
        case measure => simp [intOf]; omega
    · obtain rfl : k = n := by omega
      by_cases hq : k ≤ 4096
      · obtain rfl : m = k := by have := HM.out; omega
        have HSz := Lib.hid (fun w h => Size_any g m F L w h)
        have j1 : ¬ (m : Int) < (m : Int) := by omega
        have j2 : (m : Int) ≤ 4096 := by omega
        clear hq
        go_wp2_with (first
          | (go_at_call 25; refine (HSz.out _ HLd.out).mono ?_; rintro e5 w5 ⟨rfl, rfl⟩)
          | (go_at_call 10; refine (awake_any _ (HT.out.below hb)).mono ?_; rintro e6 w6 ⟨rfl, hb6⟩))
        go_ret
        exact ⟨rfl, hb.trans (hb6.mono hs)⟩
      · obtain rfl : m = 4096 := by have := HM.out; omega
        have HSz := Lib.hid (fun w h => show Calls Tryd.prog 25 #[.pointer (some ⟨g, 0, none⟩)] w fun e w' => e = .returned (.int .i64 4096) ∧ w = w' from Size_any g 4096 F L w h)
        have j1 : ¬ (k : Int) < (k : Int) := by omega
        have j2 : ¬ (k : Int) ≤ 4096 := by omega
        clear hq
        go_wp2_with (first
          | (go_at_call 25; refine (HSz.out _ HLd.out).mono ?_; rintro e5 w5 ⟨rfl, rfl⟩)
          | (go_at_call 10; refine (awake_any _ (HT.out.below hb)).mono ?_; rintro e6 w6 ⟨rfl, hb6⟩))
        go_ret
        exact ⟨rfl, hb.trans (hb6.mono hs)⟩
theorem walk (w : World) (a0 : Int) (_w0 : (Lit.int .i64 a0).wf = true) (hT : Tab 1 w) : Calls Tryd.prog 7 #[.int .i64 a0] w fun e w' => e = .returned (.bool true) ∧ Below w.heap.size w w' := by
  by_cases h : a0 < 0 ∨ 4200 < a0
  · exact walk_no w a0 h hT
  · obtain ⟨n, rfl⟩ := Int.eq_ofNat_of_zero_le (show 0 ≤ a0 by omega)
    exact walk_ok w n (by omega) hT

set_option maxRecDepth 100000 in
theorem lifted (os : Os) (started : os.Started) (H : Type) (enc : TypeId × Value → H) :
    ReturnsInHanded {} Tryd.checked os 7 .any (fun w args => (Rows.ledgerFullSpec.pre enc Tryd.prog Tryd.f7 Rows.ledgerFullRow.domain false w args ∧ laidMetH Tryd.prog lay1 w) ∧ sizedMet enc Tryd.prog Tryd.f7 (OpenSpec.ofChange Rows.ledgerFullSpec) false w args)
      (Rows.ledgerFullSpec.post enc Tryd.prog Tryd.f7 false true false false) := by
  refine returnsInHanded_of_change_and (C := Tryd.checked) (X := fun w _ => laidMetH Tryd.prog lay1 w) (fun _ _ _ hh h => h.of_heap hh) own started (by kernel_rfl) Tryd.func7
    (ChangeSpec.witness_shaped (enc := enc) (C := Tryd.checked) (os := os) (X := fun w _ => laidMetH Tryd.prog lay1 w) false (World.laidAll Tryd.prog os lay1) #[.int .i64 0] 8 rfl (World.shaped_of_ZipB (by kernel_rfl) (by kernel_rfl)) (by kernel_rfl) (by kernel_rfl) (by kernel_rfl) (met1 os _)) ?_
  intro W base args ds gs before hval0 hW hcnd hsz0 hL _
  have hval : ∀ (j : Nat) t v, Tryd.f7.params[j]? = some t → args[j]? = some v → Value.okWide Tryd.prog W .any base t v := hval0
  have hW' := hW
  obtain ⟨p, q, hA0, hV, rfl, hfz, hnd⟩ := hW
  have hA : DataW.TrodAll enc Tryd.prog W 0 (fun _ => true) true Tryd.f7.params.toList args.toList ds p := hA0
  have hsz : (DataW.weightsEach Tryd.prog (Tryd.f7.params.toList ++ Rows.ledgerFullSpec.plain.varTypes Tryd.prog) (ds ++ gs)).all (· ≤ reachBytes) = true := hsz0
  rw [Tryd.params7] at hA hval hsz
  obtain ⟨v0, vs0, d0, ds0, p0, q0, hargs, rfl, rfl, h0, r0⟩ := trodAll_cons hA
  obtain ⟨rfl, rfl, rfl⟩ := trodAll_nil r0
  obtain rfl : args = #[v0] := by cases args; simp_all
  obtain ⟨rfl, rfl⟩ := trodVars_none hV
  obtain ⟨a0, rfl, rfl, rfl, w0⟩ := open_int Tryd.underlying3 (hval 0 3 v0 rfl rfl) h0
  have hTab := of_lay1 hL
  clear hA0 hval0
  refine (walk W a0 w0 hTab).mono fun e W' ⟨he, bel⟩ => ?_
  subst he
  exact ⟨_, rfl, _, _, _, [], _, [], hW', trodAll_mk1 (shut_bool Tryd.underlying4 _), (trodAll_cons_mk (shut_int Tryd.underlying3 w0) trodAll_mk0), rfl, bel.frame _, fun h => by cases h⟩
theorem over : Rows.ledgerFullRow.holds Tryd.pinned (OpenSpec.ofChange Rows.ledgerFullSpec) :=
  OpenClaim.holds_of_wide 7 Tryd.f7 rfl rfl rfl rfl rfl rfl rfl ⟨rfl, rfl, rfl, rfl, rfl⟩ rfl rfl rfl rfl rfl (by kernel_rfl) Tryd.func7 (by kernel_rfl)
    (of_decide_eq_true (by kernel_rfl)) (by unfold Func.isWrapper; first | (rw [if_pos (by decide +kernel)]; kernel_rfl) | (rw [if_neg (by decide +kernel)]; exact ⟨rfl, rfl⟩))
    (fun os started H enc _ => lifted os started H enc)
theorem ledgerFull_holds : Rows.LedgerFullCardSaid :=
  Claim7.holds_tied_plain_at .later [] [.data] true (true, "f8c962b95d10cf3f48b702edcbd29cecae4a1f65726c23e3d9eda044e33029ae") false
    over (fun _ h => by cases h) (by kernel_rfl) (fun _ h => by cases h) ledgerFull_row_tie rfl ⟨rfl, rfl⟩ (by kernel_rfl) rfl
    (fun f fn hf hfn => by
      obtain rfl : f = 7 := Option.some.inj ((show Tryd.prog.funcNamed "jurat/juratlaw09.LedgerFull" = some 7 by kernel_rfl).symm.trans hf) |>.symm
      obtain rfl : fn = Tryd.f7 := (Option.some.inj (Tryd.func7.symm.trans hfn)).symm
      exact ⟨by kernel_rfl, fun j t ht => by
        rw [Tryd.params7] at ht
        have hm : t ∈ [3] := by simpa using Array.mem_of_getElem? ht
        have hall : ([3].all fun u => !Tryd.prog.wantsStandIn u) = true := by kernel_rfl
        exact (show Tryd.prog.wantsStandIn t = false by simpa using List.all_eq_true.1 hall t hm)⟩)
    (by kernel_rfl)
#print axioms ledgerFull_holds
end Go.Proofs.YtbpbpdaohganaaaDoor.ledgerFull
