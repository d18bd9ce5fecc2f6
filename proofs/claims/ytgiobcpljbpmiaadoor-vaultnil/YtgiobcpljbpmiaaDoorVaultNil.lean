/-
  VaultNil, whole, as the tied card (Rows.VaultNilCardSaid): for every slice of bytes a nil tape is not opened (no vault, ErrNil), a nil vault answers ErrNil to Add and to Save, generation 0, no text and no records; and the document's example. Conditions: the table sha.constants reads as its initialiser lays it (tied to the program's text).
-/
import Derived.Test.YtgiobcpljbpmiaaDoorRows
import Derived.Test.YtgiobcpljbpmiaaDoorCards
import Derived.Test.YtgiobcpljbpmiaaDoorTie
import Derived.WalkKit
import Derived.ProofKit
import Derived.OpenShut
import Derived.ChangeMaps5
import Derived.ShutString
import Derived.ChangeOld
import Derived.Below
import Derived.SizedLaws
import Derived.SevenTiedAt
import Derived.Lay
import Derived.LaidLaws
import Derived.Test.YtgiobcpljbpmiaaDoorVltO
namespace Go.Proofs.YtgiobcpljbpmiaaDoor.vaultNil
open Go.ChangeShapes Go.WideShapes Go.ChangeAt Go.RowKit
open Go.ChangeMaps (open_string shut_string)
set_option linter.unusedVariables false
theorem own : ownKnob Tryd.prog.godebug = none := by kernel_rfl
theorem laidOut : laidOutB Tryd.prog = true := by kernel_rfl
set_option maxRecDepth 100000 in
set_option maxHeartbeats 2000000 in
theorem walk (w : World) (a0 : Option Addr) (len0 cap0 : Nat) (l0 : List UInt8) (w0 : Bs w a0 len0 l0) (s0 : len0 ≤ cap0 ∧ cap0 ≤ 140737488351232) (hT : Tab 2 w) :
    Calls Tryd.prog 9 #[.slice a0 len0 cap0] w fun e w' => e = .returned (.bool true) ∧ Below w.heap.size w w' := by
  have HT := Lib.hid hT
  have HB := Lib.hid w0
  have HO := Lib.hid (fun w hB => own_any a0 len0 cap0 l0 w hB (by omega))
  obtain ⟨k0, hk0⟩ : ∃ k, l0.length = k := ⟨_, rfl⟩
  unfold S4NewSlice at HO
  rw [hk0] at HO
  clear hT w0 s0 hk0
  go_enter Tryd.func9, Tryd.ntmps9
  go_wp2_with (first
    | (go_at_call 13; refine (Open_nil w HT.out).mono ?_; rintro e1 w1 ⟨rfl, hb1⟩; have B1 := hb1; clear hb1)
    | (go_at_call 20; have hz := B2; clear hz; refine (HO.out w2 (HB.out.below B2)).mono ?_; rintro e3 w3 ⟨A3, c3, rfl, hc3, hb3, ho3⟩; have B3 : Below w.heap.size w w3 := B2.trans (hb3.mono B2.size); clear hc3 hb3 ho3)
    | (go_at_call 20; refine (HO.out w1 (HB.out.below B1)).mono ?_; rintro e2 w2 ⟨A2, c2, rfl, hc2, hb2, ho2⟩; have B2 : Below w.heap.size w w2 := B1.trans (hb2.mono B1.size); clear hc2 hb2 ho2)
    | (go_at_call 19; refine (Add_nil A2 k0 c2 w2).mono ?_; rintro e4 w4 ⟨rfl, rfl⟩)
    | (go_at_call 22; refine (Save_nil A3 k0 c3 w3).mono ?_; rintro e5 w5 ⟨rfl, rfl⟩)
    | (go_at_call 24; refine (Gen_nil w3).mono ?_; rintro e6 w6 ⟨rfl, rfl⟩)
    | (go_at_call 27; refine (Text_nil w3).mono ?_; rintro e7 w7 ⟨rfl, rfl⟩)
    | (go_at_call 25; refine (Records_nil w3).mono ?_; rintro e8 w8 ⟨rfl, rfl⟩)
    | (go_at_call 11; refine (awake_any w3 (HT.out.below B3)).mono ?_; rintro e9 w9 ⟨rfl, hb9⟩; have B9 : Below w.heap.size w w9 := B3.trans (hb9.mono B3.size); clear hb9))
  go_ret
  exact ⟨rfl, B9⟩

set_option maxRecDepth 100000 in
theorem lifted (os : Os) (started : os.Started) (H : Type) (enc : TypeId × Value → H) :
    ReturnsInHanded {} Tryd.checked os 9 .any (fun w args => (Rows.vaultNilSpec.pre enc Tryd.prog Tryd.f9 Rows.vaultNilRow.domain false w args ∧ laidMetH Tryd.prog lay1 w) ∧ sizedMet enc Tryd.prog Tryd.f9 (OpenSpec.ofChange Rows.vaultNilSpec) false w args)
      (Rows.vaultNilSpec.post enc Tryd.prog Tryd.f9 false true false false) := by
  refine returnsInHanded_of_change_and (C := Tryd.checked) (X := fun w _ => laidMetH Tryd.prog lay1 w) (fun _ _ _ hh h => h.of_heap hh) own started (by kernel_rfl) Tryd.func9
    (ChangeSpec.witness_shaped (enc := enc) (C := Tryd.checked) (os := os) (X := fun w _ => laidMetH Tryd.prog lay1 w) false (World.laidAll Tryd.prog os lay1) #[.slice none 0 0] 8 rfl (World.shaped_of_ZipB (by kernel_rfl) (by kernel_rfl)) (by kernel_rfl) (by kernel_rfl) (by kernel_rfl) (met1 os _)) ?_
  intro W base args ds gs before hval0 hW hcnd hsz0 hL _
  have hval : ∀ (j : Nat) t v, Tryd.f9.params[j]? = some t → args[j]? = some v → Value.okWide Tryd.prog W .any base t v := hval0
  have hW' := hW
  obtain ⟨p, q, hA0, hV, rfl, hfz, hnd⟩ := hW
  have hA : DataW.TrodAll enc Tryd.prog W 0 (fun _ => true) true Tryd.f9.params.toList args.toList ds p := hA0
  have hsz : (DataW.weightsEach Tryd.prog (Tryd.f9.params.toList ++ Rows.vaultNilSpec.plain.varTypes Tryd.prog) (ds ++ gs)).all (· ≤ reachBytes) = true := hsz0
  rw [Tryd.params9] at hA hval hsz
  obtain ⟨v0, vs0, d0, ds0, p0, q0, hargs, rfl, rfl, h0, r0⟩ := trodAll_cons hA
  obtain ⟨rfl, rfl, rfl⟩ := trodAll_nil r0
  obtain rfl : args = #[v0] := by cases args; simp_all
  obtain ⟨rfl, rfl⟩ := trodVars_none hV
  obtain ⟨a0, len0, cap0, rfl⟩ := okWide_slice Tryd.underlying32 (hval 0 32 v0 rfl rfl)
  have k0 := h0
  have lt0 : ∀ x ∈ p0, x.block < W.heap.size := by obtain ⟨m, hm⟩ := k0; exact DataW.trod_lt m _ _ _ hm
  obtain ⟨l0, w0, s0⟩ : ∃ l, Bs W a0 len0 l ∧ len0 ≤ cap0 ∧ cap0 ≤ 140737488351232 := by
    obtain ⟨fuel, hf⟩ := h0
    rcases open_ints Tryd.underlying32 Tryd.underlying5 (by kernel_rfl) hf with ⟨hcs, _⟩ | ⟨x, l, c, zs, hcs, _, hl, hm, hz, hx, hcell, hwz⟩
    · simp [Value.cells] at hcs
      obtain ⟨rfl, rfl, rfl⟩ := hcs
      exact ⟨[], Bs.nil _ _, by omega, by omega⟩
    · simp [Value.cells] at hcs
      obtain ⟨rfl, rfl, rfl⟩ := hcs
      simp only [Prod.mk.injEq] at hx
      obtain ⟨rfl, _⟩ := hx
      have hb := sized_slice hsz (j := 0) (t := 32) (e := 5) rfl rfl Tryd.underlying32
      rw [show Tryd.prog.bytesOf 5 = 1 from by kernel_rfl] at hb
      simp only [lits, List.length_map, List.length_take, List.length_drop, reachBytes] at hb
      have hz' : zs.length = cap0 := by simpa using hz
      exact ⟨_, Bs.of_ints hl hz' hcell hwz, hl, by omega⟩
  have hTab := of_lay1 hL
  clear hA0 hval0
  refine (walk W a0 len0 cap0 l0 w0 s0 hTab).mono fun e W' ⟨he, bel⟩ => ?_
  subst he
  exact ⟨_, rfl, _, _, _, [], _, [], hW', trodAll_mk1 (shut_bool Tryd.underlying4 _), (trodAll_cons_mk (Below.trod laidOut (by kernel_rfl) (of_decide_eq_true (by kernel_rfl)) k0 bel lt0) trodAll_mk0), rfl, bel.frame _, fun h => by cases h⟩
theorem over : Rows.vaultNilRow.holds Tryd.pinned (OpenSpec.ofChange Rows.vaultNilSpec) :=
  OpenClaim.holds_of_wide 9 Tryd.f9 rfl rfl rfl rfl rfl rfl rfl ⟨rfl, rfl, rfl, rfl, rfl⟩ rfl rfl rfl rfl rfl (by kernel_rfl) Tryd.func9 (by kernel_rfl)
    (of_decide_eq_true (by kernel_rfl)) (by unfold Func.isWrapper; first | (rw [if_pos (by decide +kernel)]; kernel_rfl) | (rw [if_neg (by decide +kernel)]; exact ⟨rfl, rfl⟩))
    (fun os started H enc _ => lifted os started H enc)
theorem vaultNil_holds : Rows.VaultNilCardSaid :=
  Claim7.holds_tied_plain_at .later [] [.data] true (true, "3918f1ddf02261ad0a93f38998c4f98da4da0b9053f84aceed042060bea0f41d") false
    over (fun _ h => by cases h) (by kernel_rfl) (fun _ h => by cases h) vaultNil_row_tie rfl ⟨rfl, rfl⟩ (by kernel_rfl) rfl
    (fun f fn hf hfn => by
      obtain rfl : f = 9 := Option.some.inj ((show Tryd.prog.funcNamed "jurat/juratlaw12.VaultNil" = some 9 by kernel_rfl).symm.trans hf) |>.symm
      obtain rfl : fn = Tryd.f9 := (Option.some.inj (Tryd.func9.symm.trans hfn)).symm
      exact ⟨by kernel_rfl, fun j t ht => by
        rw [Tryd.params9] at ht
        have hm : t ∈ [32] := by simpa using Array.mem_of_getElem? ht
        have hall : ([32].all fun u => !Tryd.prog.wantsStandIn u) = true := by kernel_rfl
        exact (show Tryd.prog.wantsStandIn t = false by simpa using List.all_eq_true.1 hall t hm)⟩)
    (by kernel_rfl)
#print axioms vaultNil_holds
end Go.Proofs.YtgiobcpljbpmiaaDoor.vaultNil
