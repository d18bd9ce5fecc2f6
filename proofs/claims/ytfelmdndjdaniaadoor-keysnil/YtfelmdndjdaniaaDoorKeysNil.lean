/-
  KeysNil, whole, as the tied card (Rows.KeysNilCardSaid): for every number and text a nil key answers so: Sign ErrNil and no signature, Skip ErrNil, Next and Left 0, Public zeros; and a key of one index signs once. Conditions: the table sha.constants reads as its initialiser lays it (tied to the program's text).
-/
import Derived.Test.YtfelmdndjdaniaaDoorRows
import Derived.Test.YtfelmdndjdaniaaDoorCards
import Derived.Test.YtfelmdndjdaniaaDoorTie
import Derived.WalkKit
import Derived.ProofKit
import Derived.OpenShut
import Derived.ChangeMaps5
import Derived.ShutString
import Derived.ChangeOld
import Derived.Below
import Derived.SizedLaws
import Derived.SevenTiedAt
import Derived.Lay
import Derived.LaidLaws
import Derived.Test.YtfelmdndjdaniaaDoorKeyF
namespace Go.Proofs.YtfelmdndjdaniaaDoor.keysNil
open Go.ChangeShapes Go.WideShapes Go.ChangeAt Go.RowKit
open Go.ChangeMaps (open_string shut_string)
set_option linter.unusedVariables false
theorem own : ownKnob Tryd.prog.godebug = none := by kernel_rfl
theorem laidOut : laidOutB Tryd.prog = true := by kernel_rfl
set_option maxRecDepth 100000 in
set_option maxHeartbeats 2000000 in
theorem walk (w : World) (a0 : Int) (_w0 : (Lit.int .i64 a0).wf = true) (a1 : Option Addr) (len1 cap1 : Nat) (l1 : List UInt8) (w1 : Bs w a1 len1 l1) (s1 : len1 ≤ cap1 ∧ cap1 ≤ 140737488351232) (hT : Tab 1 w) :
    Calls Tryd.prog 10 #[.int .i64 a0, .slice a1 len1 cap1] w fun e w' => e = .returned (.bool true) ∧ Below w.heap.size w w' := by
  have HO := Lib.hid (kown_any a1 len1 cap1 l1 w w1 (by omega))
  have HT := Lib.hid hT
  have HSm := Lib.hid (fun w => kSame_yes 0 none none none none 0 0 0 0 0 0 [] [] w (Ds.nil _ _) (Ds.nil _ _) (Ds.nil _ _) (Ds.nil _ _) (by omega) (by omega))
  have heq := eq_digest zero32 zero32_length
  have HPN := Lib.hid kPublic_nil
  generalize hz : zero32 = Z at *
  have HZ := Lib.hid hz
  clear hz w1 s1 hT _w0
  go_enter Tryd.func10, Tryd.ntmps10
  go_wp2_with (first
    | (go_at_call 22; refine HO.out.mono ?_; rintro e2 w2 ⟨A2, n2, c2, rfl, -, -, hb2, -⟩)
    | (go_at_call 21; refine (kSign_nil A2 n2 c2 w2).mono ?_; rintro e3 w3 ⟨rfl, hb3⟩; have b3 := hb2.trans (hb3.mono hb2.size))
    | (with_reducible refine wpList_store_row Tryd.aggSig rfl (.tmp 6) (.tmp 13) rfl _ sig0 rfl rfl 44 sig0 (Row.new w3 44 sig0) (sigC_size _ _ _ _ _ _ _) (sigC_size _ _ _ _ _ _ _) (sigC_one _ _ _ _ _ _ _) ?_; intro w4 hr4 ho4; have HS4 := Lib.hid hr4; have b4 := b3.trans ((((Below.refl _ _).alloc (Nat.le_refl _) _).trans (ho4.below (Nat.le_refl _) (by simp))).mono b3.size); clear hr4)
    | (with_reducible refine wpList_loadSG (by with_unfolding_all rfl) (.tmp 6) rfl _ rfl 0 none 0 0 none 0 0 HS4.out ?_)
    | (with_reducible refine wpList_buildSG (by with_unfolding_all rfl) rfl ?_)
    | (with_reducible refine wpList_buildZG (by with_unfolding_all rfl) rfl ?_; rw [HZ.out])
    | (go_at_call 24; refine (HSm.out w4).mono ?_; rintro e5 w5 ⟨rfl, hb5⟩; have b5 := b4.trans (hb5.mono b4.size))
    | (go_at_call 19; refine (kSkip_nil a0 w5).mono ?_; rintro e6 w6 ⟨rfl, rfl⟩)
    | (go_at_call 17; refine (kNext_nil w5).mono ?_; rintro e7 w7 ⟨rfl, rfl⟩)
    | (go_at_call 18; refine (kLeft_nil w5).mono ?_; rintro e8 w8 ⟨rfl, rfl⟩)
    | (go_at_call 15; refine (HPN.out w5).mono ?_; rintro e9 w9 ⟨rfl, hb9⟩; have b9 := b5.trans (hb9.mono b5.size))
    | (go_at_call 12; refine (kawake_any w9 (HT.out.below b9)).mono ?_; rintro eA wA ⟨rfl, hbA⟩; have bA := b9.trans (hbA.mono b9.size)))
  go_ret
  exact ⟨rfl, bA⟩

set_option maxRecDepth 100000 in
theorem lifted (os : Os) (started : os.Started) (H : Type) (enc : TypeId × Value → H) :
    ReturnsInHanded {} Tryd.checked os 10 .any (fun w args => (Rows.keysNilSpec.pre enc Tryd.prog Tryd.f10 Rows.keysNilRow.domain false w args ∧ laidMetH Tryd.prog lay1 w) ∧ sizedMet enc Tryd.prog Tryd.f10 (OpenSpec.ofChange Rows.keysNilSpec) false w args)
      (Rows.keysNilSpec.post enc Tryd.prog Tryd.f10 false true false false) := by
  refine returnsInHanded_of_change_and (C := Tryd.checked) (X := fun w _ => laidMetH Tryd.prog lay1 w) (fun _ _ _ hh h => h.of_heap hh) own started (by kernel_rfl) Tryd.func10
    (ChangeSpec.witness_shaped (enc := enc) (C := Tryd.checked) (os := os) (X := fun w _ => laidMetH Tryd.prog lay1 w) false (World.laidAll Tryd.prog os lay1) #[.int .i64 0, .slice none 0 0] 8 rfl (World.shaped_of_ZipB (by kernel_rfl) (by kernel_rfl)) (by kernel_rfl) (by kernel_rfl) (by kernel_rfl) (met1 os _)) ?_
  intro W base args ds gs before hval0 hW hcnd hsz0 hL _
  have hval : ∀ (j : Nat) t v, Tryd.f10.params[j]? = some t → args[j]? = some v → Value.okWide Tryd.prog W .any base t v := hval0
  have hW' := hW
  obtain ⟨p, q, hA0, hV, rfl, hfz, hnd⟩ := hW
  have hA : DataW.TrodAll enc Tryd.prog W 0 (fun _ => true) true Tryd.f10.params.toList args.toList ds p := hA0
  have hsz : (DataW.weightsEach Tryd.prog (Tryd.f10.params.toList ++ Rows.keysNilSpec.plain.varTypes Tryd.prog) (ds ++ gs)).all (· ≤ reachBytes) = true := hsz0
  rw [Tryd.params10] at hA hval hsz
  obtain ⟨v0, vs0, d0, ds0, p0, q0, hargs, rfl, rfl, h0, r0⟩ := trodAll_cons hA
  obtain ⟨v1, vs1, d1, ds1, p1, q1, rfl, rfl, rfl, h1, r1⟩ := trodAll_cons r0
  obtain ⟨rfl, rfl, rfl⟩ := trodAll_nil r1
  obtain rfl : args = #[v0, v1] := by cases args; simp_all
  obtain ⟨rfl, rfl⟩ := trodVars_none hV
  obtain ⟨a0, rfl, rfl, rfl, w0⟩ := open_int Tryd.underlying3 (hval 0 3 v0 rfl rfl) h0
  obtain ⟨a1, len1, cap1, rfl⟩ := okWide_slice Tryd.underlying37 (hval 1 37 v1 rfl rfl)
  have k1 := h1
  have lt1 : ∀ x ∈ p1, x.block < W.heap.size := by obtain ⟨m, hm⟩ := k1; exact DataW.trod_lt m _ _ _ hm
  obtain ⟨l1, w1, s1⟩ : ∃ l, Bs W a1 len1 l ∧ len1 ≤ cap1 ∧ cap1 ≤ 140737488351232 := by
    obtain ⟨fuel, hf⟩ := h1
    rcases open_ints Tryd.underlying37 Tryd.underlying5 (by kernel_rfl) hf with ⟨hcs, _⟩ | ⟨x, l, c, zs, hcs, _, hl, hm, hz, hx, hcell, hwz⟩
    · simp [Value.cells] at hcs
      obtain ⟨rfl, rfl, rfl⟩ := hcs
      exact ⟨[], Bs.nil _ _, by omega, by omega⟩
    · simp [Value.cells] at hcs
      obtain ⟨rfl, rfl, rfl⟩ := hcs
      simp only [Prod.mk.injEq] at hx
      obtain ⟨rfl, _⟩ := hx
      have hb := sized_slice hsz (j := 1) (t := 37) (e := 5) rfl rfl Tryd.underlying37
      rw [show Tryd.prog.bytesOf 5 = 1 from by kernel_rfl] at hb
      simp only [lits, List.length_map, List.length_take, List.length_drop, reachBytes] at hb
      have hz' : zs.length = cap1 := by simpa using hz
      exact ⟨_, Bs.of_ints hl hz' hcell hwz, hl, by omega⟩
  have hTab := of_lay1 hL
  clear hA0 hval0
  refine (walk W a0 w0 a1 len1 cap1 l1 w1 s1 hTab).mono fun e W' ⟨he, bel⟩ => ?_
  subst he
  exact ⟨_, rfl, _, _, _, [], _, [], hW', trodAll_mk1 (shut_bool Tryd.underlying4 _), (trodAll_cons_mk (shut_int Tryd.underlying3 w0) (trodAll_cons_mk (Below.trod laidOut (by kernel_rfl) (of_decide_eq_true (by kernel_rfl)) k1 bel lt1) trodAll_mk0)), rfl, bel.frame _, fun h => by cases h⟩
theorem over : Rows.keysNilRow.holds Tryd.pinned (OpenSpec.ofChange Rows.keysNilSpec) :=
  OpenClaim.holds_of_wide 10 Tryd.f10 rfl rfl rfl rfl rfl rfl rfl ⟨rfl, rfl, rfl, rfl, rfl⟩ rfl rfl rfl rfl rfl (by kernel_rfl) Tryd.func10 (by kernel_rfl)
    (of_decide_eq_true (by kernel_rfl)) (by unfold Func.isWrapper; first | (rw [if_pos (by decide +kernel)]; kernel_rfl) | (rw [if_neg (by decide +kernel)]; exact ⟨rfl, rfl⟩))
    (fun os started H enc _ => lifted os started H enc)
theorem keysNil_holds : Rows.KeysNilCardSaid :=
  Claim7.holds_tied_plain_at .later [] [.data] true (true, "d3f0664aba75a8af102b5f214e5048e24f7f5bc8fe66a510793bef99d59ac9fb") false
    over (fun _ h => by cases h) (by kernel_rfl) (fun _ h => by cases h) keysNil_row_tie rfl ⟨rfl, rfl⟩ (by kernel_rfl) rfl
    (fun f fn hf hfn => by
      obtain rfl : f = 10 := Option.some.inj ((show Tryd.prog.funcNamed "jurat/juratlaw07.KeysNil" = some 10 by kernel_rfl).symm.trans hf) |>.symm
      obtain rfl : fn = Tryd.f10 := (Option.some.inj (Tryd.func10.symm.trans hfn)).symm
      exact ⟨by kernel_rfl, fun j t ht => by
        rw [Tryd.params10] at ht
        have hm : t ∈ [3, 37] := by simpa using Array.mem_of_getElem? ht
        have hall : ([3, 37].all fun u => !Tryd.prog.wantsStandIn u) = true := by kernel_rfl
        exact (show Tryd.prog.wantsStandIn t = false by simpa using List.all_eq_true.1 hall t hm)⟩)
    (by kernel_rfl)
#print axioms keysNil_holds
end Go.Proofs.YtfelmdndjdaniaaDoor.keysNil
