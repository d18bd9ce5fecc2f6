/-
  MacSame, whole, as the tied card (Rows.MacSameCardSaid): for every two texts mac.Same tells whether they are the same and takes as many steps as the longer one has bytes, as the document's own does; a known mac begins as it should. Condition: the table sha.constants reads as its initialiser lays it (tied to the program's text).
-/
import Derived.Test.YtlndgefpmoooeaaDoorRows
import Derived.Test.YtlndgefpmoooeaaDoorCards
import Derived.Test.YtlndgefpmoooeaaDoorTie
import Derived.WalkKit
import Derived.ProofKit
import Derived.OpenShut
import Derived.ChangeMaps5
import Derived.ShutString
import Derived.ChangeOld
import Derived.Below
import Derived.SizedLaws
import Derived.SevenTiedAt
import Derived.Lay
import Derived.LaidLaws
import Derived.Test.YtlndgefpmoooeaaDoorLaid
import Derived.Test.YtlndgefpmoooeaaDoorLike
import Derived.Test.YtlndgefpmoooeaaDoorAwake
namespace Go.Proofs.YtlndgefpmoooeaaDoor.macSame
open Go.ChangeShapes Go.WideShapes Go.ChangeAt Go.RowKit
open Go.ChangeMaps (open_string shut_string)
set_option linter.unusedVariables false
theorem own : ownKnob Tryd.prog.godebug = none := by kernel_rfl
theorem laidOut : laidOutB Tryd.prog = true := by kernel_rfl
set_option maxRecDepth 100000 in
set_option maxHeartbeats 1000000 in
theorem walk (w : World) (a0 : Option Addr) (len0 cap0 : Nat) (l0 : List UInt8) (w0 : Bs w a0 len0 l0) (s0 : len0 ≤ cap0 ∧ cap0 ≤ 140737488351232) (a1 : Option Addr) (len1 cap1 : Nat) (l1 : List UInt8) (w1 : Bs w a1 len1 l1) (s1 : len1 ≤ cap1 ∧ cap1 ≤ 140737488351232) (hT : Tab 2 w) :
    Calls Tryd.prog 4 #[.slice a0 len0 cap0, .slice a1 len1 cap1] w fun e w' => e = .returned (.bool true) ∧ Below w.heap.size w w' := by
  have HW0 := Lib.hid w0
  have HW1 := Lib.hid w1
  have HT2 := Lib.hid hT
  obtain ⟨s01, s02⟩ := s0
  obtain ⟨s11, s12⟩ := s1
  have hl0 := w0.1
  have hl1 := w1.1
  have HS := Lib.hid (fun A B c d w hA hB => SameM_any A B len0 len1 c d l0 l1 w hA hB (by omega) (by omega))
  have HR := Lib.hid (fun A B c d w hA hB => RefSame3_any A B len0 len1 c d l0 l1 w hA hB (by omega) (by omega))
  generalize decide (l0 = l1) = b at *
  generalize max len0 len1 = M at *
  clear w0 w1 hT
  cases b
  all_goals
    go_enter Tryd.func4, Tryd.ntmps4
    go_wp2_with (first
      | (go_at_call_of 11 (Value.slice a0 len0 cap0); refine (own_any a0 len0 cap0 l0 w HW0.out (by omega)).mono ?_; rintro e1 w1 ⟨A1, n1, c1, rfl, hB1, hc1, hb1, -⟩; have HB1 := Lib.hid hB1; obtain rfl : n1 = len0 := hB1.1.symm.trans hl0; clear hB1)
      | (go_at_call 11; refine (own_any a1 len1 cap1 l1 w1 (HW1.out.below hb1) (by omega)).mono ?_; rintro e2 w2 ⟨A2, n2, c2, rfl, hB2, hc2, hb2, -⟩; have HB2 := Lib.hid hB2; obtain rfl : n2 = len1 := hB2.1.symm.trans hl1; have hb2' := hb1.trans (hb2.mono hb1.size); clear hB2)
      | (go_at_call 13; refine (HS.out _ _ _ _ w2 (HB1.out.below hb2) HB2.out).mono ?_; rintro e3 w3 ⟨rfl, rfl⟩)
      | (go_at_call 14; refine (HR.out _ _ _ _ _ (HW0.out.below hb2') (HW1.out.below hb2')).mono ?_; rintro e4 w4 ⟨rfl, k4, rfl⟩)
      | (go_at_call 9; refine (awake_any _ (HT2.out.below (below_drewN hb2' k4))).mono ?_; rintro e5 w5 ⟨rfl, hb5⟩))
    go_ret
    exact ⟨rfl, (below_drewN hb2' k4).trans (hb5.mono hb2'.size)⟩

set_option maxRecDepth 100000 in
theorem lifted (os : Os) (started : os.Started) (H : Type) (enc : TypeId × Value → H) :
    ReturnsInHanded {} Tryd.checked os 4 .any (fun w args => (Rows.macSameSpec.pre enc Tryd.prog Tryd.f4 Rows.macSameRow.domain false w args ∧ laidMetH Tryd.prog lay1 w) ∧ sizedMet enc Tryd.prog Tryd.f4 (OpenSpec.ofChange Rows.macSameSpec) false w args)
      (Rows.macSameSpec.post enc Tryd.prog Tryd.f4 false true false false) := by
  refine returnsInHanded_of_change_and (C := Tryd.checked) (X := fun w _ => laidMetH Tryd.prog lay1 w) (fun _ _ _ hh h => h.of_heap hh) own started (by kernel_rfl) Tryd.func4
    (ChangeSpec.witness_shaped (enc := enc) (C := Tryd.checked) (os := os) (X := fun w _ => laidMetH Tryd.prog lay1 w) false (World.laidAll Tryd.prog os lay1) #[.slice none 0 0, .slice none 0 0] 8 rfl (World.shaped_of_ZipB (by kernel_rfl) (by kernel_rfl)) (by kernel_rfl) (by kernel_rfl) (by kernel_rfl) (met1 os _)) ?_
  intro W base args ds gs before hval0 hW hcnd hsz0 hL _
  have hval : ∀ (j : Nat) t v, Tryd.f4.params[j]? = some t → args[j]? = some v → Value.okWide Tryd.prog W .any base t v := hval0
  have hW' := hW
  obtain ⟨p, q, hA0, hV, rfl, hfz, hnd⟩ := hW
  have hA : DataW.TrodAll enc Tryd.prog W 0 (fun _ => true) true Tryd.f4.params.toList args.toList ds p := hA0
  have hsz : (DataW.weightsEach Tryd.prog (Tryd.f4.params.toList ++ Rows.macSameSpec.plain.varTypes Tryd.prog) (ds ++ gs)).all (· ≤ reachBytes) = true := hsz0
  rw [Tryd.params4] at hA hval hsz
  obtain ⟨v0, vs0, d0, ds0, p0, q0, hargs, rfl, rfl, h0, r0⟩ := trodAll_cons hA
  obtain ⟨v1, vs1, d1, ds1, p1, q1, rfl, rfl, rfl, h1, r1⟩ := trodAll_cons r0
  obtain ⟨rfl, rfl, rfl⟩ := trodAll_nil r1
  obtain rfl : args = #[v0, v1] := by cases args; simp_all
  obtain ⟨rfl, rfl⟩ := trodVars_none hV
  obtain ⟨a0, len0, cap0, rfl⟩ := okWide_slice Tryd.underlying22 (hval 0 22 v0 rfl rfl)
  have k0 := h0
  have lt0 : ∀ x ∈ p0, x.block < W.heap.size := by obtain ⟨m, hm⟩ := k0; exact DataW.trod_lt m _ _ _ hm
  obtain ⟨l0, w0, s0⟩ : ∃ l, Bs W a0 len0 l ∧ len0 ≤ cap0 ∧ cap0 ≤ 140737488351232 := by
    obtain ⟨fuel, hf⟩ := h0
    rcases open_ints Tryd.underlying22 Tryd.underlying5 (by kernel_rfl) hf with ⟨hcs, _⟩ | ⟨x, l, c, zs, hcs, _, hl, hm, hz, hx, hcell, hwz⟩
    · simp [Value.cells] at hcs
      obtain ⟨rfl, rfl, rfl⟩ := hcs
      exact ⟨[], Bs.nil _ _, by omega, by omega⟩
    · simp [Value.cells] at hcs
      obtain ⟨rfl, rfl, rfl⟩ := hcs
      simp only [Prod.mk.injEq] at hx
      obtain ⟨rfl, _⟩ := hx
      have hb := sized_slice hsz (j := 0) (t := 22) (e := 5) rfl rfl Tryd.underlying22
      rw [show Tryd.prog.bytesOf 5 = 1 from by kernel_rfl] at hb
      simp only [lits, List.length_map, List.length_take, List.length_drop, reachBytes] at hb
      have hz' : zs.length = cap0 := by simpa using hz
      exact ⟨_, Bs.of_ints hl hz' hcell hwz, hl, by omega⟩
  obtain ⟨a1, len1, cap1, rfl⟩ := okWide_slice Tryd.underlying22 (hval 1 22 v1 rfl rfl)
  have k1 := h1
  have lt1 : ∀ x ∈ p1, x.block < W.heap.size := by obtain ⟨m, hm⟩ := k1; exact DataW.trod_lt m _ _ _ hm
  obtain ⟨l1, w1, s1⟩ : ∃ l, Bs W a1 len1 l ∧ len1 ≤ cap1 ∧ cap1 ≤ 140737488351232 := by
    obtain ⟨fuel, hf⟩ := h1
    rcases open_ints Tryd.underlying22 Tryd.underlying5 (by kernel_rfl) hf with ⟨hcs, _⟩ | ⟨x, l, c, zs, hcs, _, hl, hm, hz, hx, hcell, hwz⟩
    · simp [Value.cells] at hcs
      obtain ⟨rfl, rfl, rfl⟩ := hcs
      exact ⟨[], Bs.nil _ _, by omega, by omega⟩
    · simp [Value.cells] at hcs
      obtain ⟨rfl, rfl, rfl⟩ := hcs
      simp only [Prod.mk.injEq] at hx
      obtain ⟨rfl, _⟩ := hx
      have hb := sized_slice hsz (j := 1) (t := 22) (e := 5) rfl rfl Tryd.underlying22
      rw [show Tryd.prog.bytesOf 5 = 1 from by kernel_rfl] at hb
      simp only [lits, List.length_map, List.length_take, List.length_drop, reachBytes] at hb
      have hz' : zs.length = cap1 := by simpa using hz
      exact ⟨_, Bs.of_ints hl hz' hcell hwz, hl, by omega⟩
  have hTab := of_lay1 hL
  clear hA0 hval0
  refine (walk W a0 len0 cap0 l0 w0 s0 a1 len1 cap1 l1 w1 s1 hTab).mono fun e W' ⟨he, bel⟩ => ?_
  subst he
  exact ⟨_, rfl, _, _, _, [], _, [], hW', trodAll_mk1 (shut_bool Tryd.underlying4 _), (trodAll_cons_mk (Below.trod laidOut (by kernel_rfl) (of_decide_eq_true (by kernel_rfl)) k0 bel lt0) (trodAll_cons_mk (Below.trod laidOut (by kernel_rfl) (of_decide_eq_true (by kernel_rfl)) k1 bel lt1) trodAll_mk0)), rfl, bel.frame _, fun h => by cases h⟩
theorem over : Rows.macSameRow.holds Tryd.pinned (OpenSpec.ofChange Rows.macSameSpec) :=
  OpenClaim.holds_of_wide 4 Tryd.f4 rfl rfl rfl rfl rfl rfl rfl ⟨rfl, rfl, rfl, rfl, rfl⟩ rfl rfl rfl rfl rfl (by kernel_rfl) Tryd.func4 (by kernel_rfl)
    (of_decide_eq_true (by kernel_rfl)) (by unfold Func.isWrapper; first | (rw [if_pos (by decide +kernel)]; kernel_rfl) | (rw [if_neg (by decide +kernel)]; exact ⟨rfl, rfl⟩))
    (fun os started H enc _ => lifted os started H enc)
theorem macSame_holds : Rows.MacSameCardSaid :=
  Claim7.holds_tied_plain_at .later [] [.data] true (true, "c1aaf16a699fb574ed9094ce5eacd068c6fd07693febcb0b710cf4b7deeb39ec") false
    over (fun _ h => by cases h) (by kernel_rfl) (fun _ h => by cases h) macSame_row_tie rfl ⟨rfl, rfl⟩ (by kernel_rfl) rfl
    (fun f fn hf hfn => by
      obtain rfl : f = 4 := Option.some.inj ((show Tryd.prog.funcNamed "jurat/juratlaw03.MacSame" = some 4 by kernel_rfl).symm.trans hf) |>.symm
      obtain rfl : fn = Tryd.f4 := (Option.some.inj (Tryd.func4.symm.trans hfn)).symm
      exact ⟨by kernel_rfl, fun j t ht => by
        rw [Tryd.params4] at ht
        have hm : t ∈ [22] := by simpa using Array.mem_of_getElem? ht
        have hall : ([22].all fun u => !Tryd.prog.wantsStandIn u) = true := by kernel_rfl
        exact (show Tryd.prog.wantsStandIn t = false by simpa using List.all_eq_true.1 hall t hm)⟩)
    (by kernel_rfl)
#print axioms macSame_holds
end Go.Proofs.YtlndgefpmoooeaaDoor.macSame
