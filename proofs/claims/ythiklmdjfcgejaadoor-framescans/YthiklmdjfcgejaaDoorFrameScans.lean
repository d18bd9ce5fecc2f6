/-
  FrameScans, whole, as the tied card (Rows.FrameScansCardSaid): for every slice of bytes (up to 4000 are played) Scan answers the document's records and the document's count; and the example of one record. Conditions: the tables juratref02.first, juratref02.constants and sha.constants read as their initialisers lay them (tied to the program's text).
-/
import Derived.Test.YthiklmdjfcgejaaDoorRows
import Derived.Test.YthiklmdjfcgejaaDoorCards
import Derived.Test.YthiklmdjfcgejaaDoorTie
import Derived.WalkKit
import Derived.ProofKit
import Derived.OpenShut
import Derived.ChangeMaps5
import Derived.ShutString
import Derived.ChangeOld
import Derived.Below
import Derived.SizedLaws
import Derived.SevenTiedAt
import Derived.Lay
import Derived.LaidLaws
import Derived.Test.YthiklmdjfcgejaaDoorFrE
namespace Go.Proofs.YthiklmdjfcgejaaDoor.frameScans
open Go.ChangeShapes Go.WideShapes Go.ChangeAt Go.RowKit
open Go.ChangeMaps (open_string shut_string)
set_option linter.unusedVariables false
theorem own : ownKnob Tryd.prog.godebug = none := by kernel_rfl
theorem laidOut : laidOutB Tryd.prog = true := by kernel_rfl
set_option maxRecDepth 100000 in
set_option maxHeartbeats 2000000 in
theorem walk (w : World) (a0 : Option Addr) (len0 cap0 : Nat) (l0 : List UInt8) (w0 : Bs w a0 len0 l0) (s0 : len0 ≤ cap0 ∧ cap0 ≤ 140737488351232) (hT : First w ∧ Tab 1 w ∧ Tab 2 w) :
    Calls Tryd.prog 4 #[.slice a0 len0 cap0] w fun e w' => e = .returned (.bool true) ∧ Below w.heap.size w w' := by
  have HF := Lib.hid hT.1
  have HT1 := Lib.hid hT.2.1
  have HT := Lib.hid hT.2.2
  have HB := Lib.hid w0
  obtain ⟨s0, -⟩ := s0
  clear hT
  by_cases hn : len0 ≤ 4000
  · have hni : ¬ (4000 : Int) < (len0 : Int) := by omega
    have HO := Lib.hid (own_any a0 len0 cap0 l0 w w0 (by omega))
    have hl := w0.1
    have HLn := Lib.hid hl
    unfold S4NewSlice at HO
    rw [hl] at HO
    clear w0 hl
    go_enter Tryd.func4, Tryd.ntmps4
    go_wp2_with (first
      | (go_at_call 10; refine HO.out.mono ?_; rintro e1 w1 ⟨A1, c1, rfl, hc1, hb1, ho1⟩; have hs1 := hb1.size; have HO1 := Lib.hid ho1; clear ho1)
      | (go_at_call 13; refine (Scan_any A1 len0 c1 l0 w1 HO1.out.bs hc1 (by omega) (HT.out.below hb1)).mono ?_; rintro e2 w2 ⟨L2, k2, s2, A2, c2, rfl, hS2, ho2, hb2⟩; have HS2 := Lib.hid hS2; have HO2 := Lib.hid ho2; have hk2 : k2 ≤ 4000 := (by have h1 := hS2.small.1; have h2 := ho2.length; have h3 := HLn.out; omega); have HM2 := Lib.hid hS2.small.2.2; have b2 := hb1.trans (hb2.mono hs1); have hs2 := b2.size; clear hS2 ho2)
      | (go_at_call 14; refine (RefScan_any a0 len0 cap0 l0 w2 (HB.out.below b2) s0 (by omega) (HF.out.below b2) (HT1.out.below b2)).mono ?_; rintro e3 w3 ⟨L3, k3, s3, A3, c3, rfl, hS3, ho3, hb3⟩; obtain ⟨rfl, rfl⟩ := HS2.out.one hS3; obtain rfl : k2 = k3 := HO2.out.length.symm.trans ho3.length; have HO3 := Lib.hid ho3; have b3 := b2.trans (hb3.mono hs2); have HO23 := Lib.hid (HO2.out.below hb3); clear hS3 ho3)
      | (go_at_call 15; refine (LSame_yes A2 A3 k2 c2 c3 L2 w3 HO23.out.bss HO3.out.bss (by omega) HM2.out).mono ?_; rintro e4 w4 ⟨rfl, m4, rfl⟩)
      | (go_at_call 8; refine (awake_any _ (HT.out.below (below_drewN b3 m4))).mono ?_; rintro e5 w5 ⟨rfl, hb5⟩))
    go_ret
    exact ⟨rfl, (below_drewN b3 m4).trans (hb5.mono (by have := b3.size; exact this))⟩
  · have hni : (4000 : Int) < (len0 : Int) := by omega
    clear w0
    go_enter Tryd.func4, Tryd.ntmps4
    go_wp2_with (go_at_call 8; refine (awake_any w HT.out).mono ?_; rintro e5 w5 ⟨rfl, hb5⟩)
    go_ret
    exact ⟨rfl, hb5⟩

set_option maxRecDepth 100000 in
theorem lifted (os : Os) (started : os.Started) (H : Type) (enc : TypeId × Value → H) :
    ReturnsInHanded {} Tryd.checked os 4 .any (fun w args => (Rows.frameScansSpec.pre enc Tryd.prog Tryd.f4 Rows.frameScansRow.domain false w args ∧ laidMetH Tryd.prog lay3 w) ∧ sizedMet enc Tryd.prog Tryd.f4 (OpenSpec.ofChange Rows.frameScansSpec) false w args)
      (Rows.frameScansSpec.post enc Tryd.prog Tryd.f4 false true false false) := by
  refine returnsInHanded_of_change_and (C := Tryd.checked) (X := fun w _ => laidMetH Tryd.prog lay3 w) (fun _ _ _ hh h => h.of_heap hh) own started (by kernel_rfl) Tryd.func4
    (ChangeSpec.witness_shaped (enc := enc) (C := Tryd.checked) (os := os) (X := fun w _ => laidMetH Tryd.prog lay3 w) false (World.laidAll Tryd.prog os lay3) #[.slice none 0 0] 8 rfl (World.shaped_of_ZipB (by kernel_rfl) (by kernel_rfl)) (by kernel_rfl) (by kernel_rfl) (by kernel_rfl) (met3 os _)) ?_
  intro W base args ds gs before hval0 hW hcnd hsz0 hL _
  have hval : ∀ (j : Nat) t v, Tryd.f4.params[j]? = some t → args[j]? = some v → Value.okWide Tryd.prog W .any base t v := hval0
  have hW' := hW
  obtain ⟨p, q, hA0, hV, rfl, hfz, hnd⟩ := hW
  have hA : DataW.TrodAll enc Tryd.prog W 0 (fun _ => true) true Tryd.f4.params.toList args.toList ds p := hA0
  have hsz : (DataW.weightsEach Tryd.prog (Tryd.f4.params.toList ++ Rows.frameScansSpec.plain.varTypes Tryd.prog) (ds ++ gs)).all (· ≤ reachBytes) = true := hsz0
  rw [Tryd.params4] at hA hval hsz
  obtain ⟨v0, vs0, d0, ds0, p0, q0, hargs, rfl, rfl, h0, r0⟩ := trodAll_cons hA
  obtain ⟨rfl, rfl, rfl⟩ := trodAll_nil r0
  obtain rfl : args = #[v0] := by cases args; simp_all
  obtain ⟨rfl, rfl⟩ := trodVars_none hV
  obtain ⟨a0, len0, cap0, rfl⟩ := okWide_slice Tryd.underlying22 (hval 0 22 v0 rfl rfl)
  have k0 := h0
  have lt0 : ∀ x ∈ p0, x.block < W.heap.size := by obtain ⟨m, hm⟩ := k0; exact DataW.trod_lt m _ _ _ hm
  obtain ⟨l0, w0, s0⟩ : ∃ l, Bs W a0 len0 l ∧ len0 ≤ cap0 ∧ cap0 ≤ 140737488351232 := by
    obtain ⟨fuel, hf⟩ := h0
    rcases open_ints Tryd.underlying22 Tryd.underlying5 (by kernel_rfl) hf with ⟨hcs, _⟩ | ⟨x, l, c, zs, hcs, _, hl, hm, hz, hx, hcell, hwz⟩
    · simp [Value.cells] at hcs
      obtain ⟨rfl, rfl, rfl⟩ := hcs
      exact ⟨[], Bs.nil _ _, by omega, by omega⟩
    · simp [Value.cells] at hcs
      obtain ⟨rfl, rfl, rfl⟩ := hcs
      simp only [Prod.mk.injEq] at hx
      obtain ⟨rfl, _⟩ := hx
      have hb := sized_slice hsz (j := 0) (t := 22) (e := 5) rfl rfl Tryd.underlying22
      rw [show Tryd.prog.bytesOf 5 = 1 from by kernel_rfl] at hb
      simp only [lits, List.length_map, List.length_take, List.length_drop, reachBytes] at hb
      have hz' : zs.length = cap0 := by simpa using hz
      exact ⟨_, Bs.of_ints hl hz' hcell hwz, hl, by omega⟩
  have hTab := of_lay3 hL
  clear hA0 hval0
  refine (walk W a0 len0 cap0 l0 w0 s0 hTab).mono fun e W' ⟨he, bel⟩ => ?_
  subst he
  exact ⟨_, rfl, _, _, _, [], _, [], hW', trodAll_mk1 (shut_bool Tryd.underlying4 _), (trodAll_cons_mk (Below.trod laidOut (by kernel_rfl) (of_decide_eq_true (by kernel_rfl)) k0 bel lt0) trodAll_mk0), rfl, bel.frame _, fun h => by cases h⟩
theorem over : Rows.frameScansRow.holds Tryd.pinned (OpenSpec.ofChange Rows.frameScansSpec) :=
  OpenClaim.holds_of_wide 4 Tryd.f4 rfl rfl rfl rfl rfl rfl rfl ⟨rfl, rfl, rfl, rfl, rfl⟩ rfl rfl rfl rfl rfl (by kernel_rfl) Tryd.func4 (by kernel_rfl)
    (of_decide_eq_true (by kernel_rfl)) (by unfold Func.isWrapper; first | (rw [if_pos (by decide +kernel)]; kernel_rfl) | (rw [if_neg (by decide +kernel)]; exact ⟨rfl, rfl⟩))
    (fun os started H enc _ => lifted os started H enc)
theorem frameScans_holds : Rows.FrameScansCardSaid :=
  Claim7.holds_tied_plain_at .later [] [.data, .data, .data] true (true, "0dfdb452681147ab36feb87030e359a9ea2d751349dfb2aa735547e11ec60962") false
    over (fun _ h => by cases h) (by kernel_rfl) (fun _ h => by cases h) frameScans_row_tie rfl ⟨rfl, rfl⟩ (by kernel_rfl) rfl
    (fun f fn hf hfn => by
      obtain rfl : f = 4 := Option.some.inj ((show Tryd.prog.funcNamed "jurat/juratlaw11.FrameScans" = some 4 by kernel_rfl).symm.trans hf) |>.symm
      obtain rfl : fn = Tryd.f4 := (Option.some.inj (Tryd.func4.symm.trans hfn)).symm
      exact ⟨by kernel_rfl, fun j t ht => by
        rw [Tryd.params4] at ht
        have hm : t ∈ [22] := by simpa using Array.mem_of_getElem? ht
        have hall : ([22].all fun u => !Tryd.prog.wantsStandIn u) = true := by kernel_rfl
        exact (show Tryd.prog.wantsStandIn t = false by simpa using List.all_eq_true.1 hall t hm)⟩)
    (by kernel_rfl)
#print axioms frameScans_holds
end Go.Proofs.YthiklmdjfcgejaaDoor.frameScans
