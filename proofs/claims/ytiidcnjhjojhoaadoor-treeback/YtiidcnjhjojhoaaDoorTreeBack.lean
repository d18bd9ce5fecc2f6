/-
  TreeBack, whole, as the tied card (Rows.TreeBackCardSaid): for every list of digests and every number, of the first digests (as many as a power of two, at most 64, or one digest where there is none) each leaf leads up its path to the root: tree.Climb of tree.Path is tree.Root; and of two leaves the root is the node above them. Conditions: the table sha.constants reads as its initialiser lays it (tied to the program's text).
-/
import Derived.Test.YtiidcnjhjojhoaaDoorRows
import Derived.Test.YtiidcnjhjojhoaaDoorCards
import Derived.Test.YtiidcnjhjojhoaaDoorTie
import Derived.WalkKit
import Derived.ProofKit
import Derived.OpenShut
import Derived.ChangeMaps5
import Derived.ShutString
import Derived.ChangeOld
import Derived.Below
import Derived.SizedLaws
import Derived.SevenTiedAt
import Derived.Lay
import Derived.LaidLaws
import Derived.Test.YtiidcnjhjojhoaaDoorLaid
import Derived.Test.YtiidcnjhjojhoaaDoorOpens
import Derived.Test.YtiidcnjhjojhoaaDoorLive
namespace Go.Proofs.YtiidcnjhjojhoaaDoor.treeBack
open Go.ChangeShapes Go.WideShapes Go.ChangeAt Go.RowKit
open Go.ChangeMaps (open_string shut_string)
set_option linter.unusedVariables false
theorem own : ownKnob Tryd.prog.godebug = none := by kernel_rfl
theorem laidOut : laidOutB Tryd.prog = true := by kernel_rfl
theorem mod_in (a : Int) (m : Nat) (h : 0 < m) : ∃ j : Nat, (IntKind.u64.wrap a).tmod (m : Int) = (j : Int) ∧ j < m := by
  have h0 : 0 ≤ IntKind.u64.wrap a := by simp [IntKind.wrap, IntKind.bits, IntKind.signed]; omega
  generalize IntKind.u64.wrap a = x at *
  obtain ⟨y, rfl⟩ := Int.eq_ofNat_of_zero_le h0
  refine ⟨y % m, ?_, Nat.mod_lt _ h⟩
  rw [Int.tmod_eq_emod_of_nonneg (by omega)]
  rfl
theorem back_in {w1 : World} {A1 : Option Addr} {k m : Nat} {M : List (List UInt8)} (a1 : Int) (hk : k ≤ 6) (hm : m = 2 ^ k) (hd : Ds w1 A1 m M) :
    ∃ (j b off : Nat) (d R : List UInt8) (P : List (List UInt8)), A1 = some ⟨b, off, none⟩ ∧ (IntKind.u64.wrap a1).tmod (m : Int) = (j : Int) ∧ j < m ∧ 0 < m ∧ m ≤ 64 ∧ d.length = 32 ∧ R.length = 32 ∧ P.length ≤ 10 ∧ Bs w1 (some ⟨b, off + 32 * j, none⟩) 32 d ∧
      (∀ A c wq, Ds wq A m M → Tab 1 wq → Calls Tryd.prog 10 #[.slice A m c] wq (RecD wq R 0)) ∧
      (∀ A c wq, Ds wq A m M → Tab 1 wq → Calls Tryd.prog 15 #[.slice A m c, .int .i64 (j : Int)] wq (NewD wq P 0)) ∧
      (∀ A c wq, Ds wq A P.length P → Tab 1 wq → Calls Tryd.prog 18 #[.agg (bcells d), .int .i64 (j : Int), .slice A P.length c] wq (RecD wq R 0)) := by
  have hm0 : 0 < m := by rw [hm]; exact Nat.pow_pos (by decide)
  have hm1 : m ≤ 64 := by rw [hm]; exact Nat.le_trans (Nat.pow_le_pow_right (by decide) hk) (by decide)
  obtain ⟨j, hj, hjm⟩ := mod_in a1 m hm0
  obtain ⟨b, off, d, rfl, _, hgd, hdl, hB⟩ := hd.get hjm
  have hl : M.length = 2 ^ k := by rw [hd.1, hm]
  have hgd' : M.getD j [] = d := by rw [List.getD_eq_getElem?_getD, hgd]; rfl
  have hPk : (pathD k M j).length = k := pathT_length abL [] k M j
  have hcp : climbD d j (pathD k M j) = rootD k M := by
    have q := climb_path abL [] k M j hl (by omega)
    rwa [hgd'] at q
  refine ⟨j, b, off, d, rootD k M, pathD k M j, rfl, hj, hjm, hm0, hm1, hdl, rootD_length k M hd.2.1 hl, by rw [hPk]; omega, hB, fun A c wq h1 h2 => Root_ok k A m c M wq (by omega) hm h1 h2, fun A c wq h1 h2 => Path_ok k A m c j M wq (by omega) hm hjm h1 h2, fun A c wq h1 h2 => ?_⟩
  have q := Climb_ok d A (pathD k M j).length c j (pathD k M j) wq hdl (by rw [hPk]; omega) (by rw [hPk]; omega) h1 h2
  rwa [hcp] at q
set_option maxRecDepth 100000 in
set_option maxHeartbeats 2000000 in
theorem walk (w : World) (a0 : Option Addr) (len0 cap0 : Nat) (l0 : List (List UInt8)) (w0 : Ds w a0 len0 l0) (s0 : len0 ≤ cap0) (a1 : Int) (_w1 : (Lit.int .i64 a1).wf = true) (hT : Tab 1 w) :
    Calls Tryd.prog 6 #[.slice a0 len0 cap0, .int .i64 a1] w fun e w' => e = .returned (.bool true) ∧ Below w.heap.size w w' := by
  have HC := Lib.hid (cut_any a0 len0 cap0 l0 w s0 w0)
  have HT := Lib.hid hT
  clear w0 hT _w1
  go_enter Tryd.func6, Tryd.ntmps6
  go_wp2_with (first
    | (go_at_call 20; refine HC.out.mono ?_; rintro e1 w1 ⟨k, m, A1, c1, M, hk, hm, rfl, hc1, hd1, hb1⟩; obtain ⟨j, b, off, d, R, P, rfl, hj, hjm, hm0, hm1, hdl, hRl, hPl, hBd, hrt, hpt, hcl⟩ := back_in a1 hk hm hd1; have HRT := Lib.hid hrt; have HPT := Lib.hid hpt; have HCL := Lib.hid hcl; have HD1 := Lib.hid hd1; have HBD := Lib.hid hBd; have HDL := Lib.hid hdl; have HRL := Lib.hid hRl; have HPL := Lib.hid hPl; have heq := eq_digest R hRl; have HRS := Lib.hid (show (bcells R).size = 32 by rw [bcells_size]; exact hRl); clear hrt hpt hcl hd1 hBd hdl hRl hPl hm)
    | (go_at_call 11; have hz := HR4; clear hz; refine (own_any _ m c1 M w4 (((HD1.out.below hb2).below hb3).below b4) (by omega)).mono ?_; rintro e5 w5 ⟨A5, c5, rfl, hc5, hd5, hb5⟩; have HD5 := Lib.hid hd5; have HR5 := Lib.hid (HR4.out.below hb5 HR4.out.lt); have hb5' := hb4'.trans (hb5.mono hb4'.size); clear hd5)
    | (go_at_call 11; refine (own_any _ m c1 M w1 HD1.out (by omega)).mono ?_; rintro e2 w2 ⟨A2, c2, rfl, hc2, hd2, hb2⟩; have HD2 := Lib.hid hd2; have hb2' := hb1.trans (hb2.mono hb1.size); clear hd2)
    | (go_at_call 10; refine (HRT.out A2 c2 w2 HD2.out (HT.out.below hb2')).mono ?_; rintro e3 w3 ⟨rfl, hb3⟩; have hb3' := hb2'.trans (hb3.mono hb2'.size))
    | (with_reducible refine wpList_store_row Tryd.agg25 rfl (.tmp 5) (.tmp 24) rfl _ _ rfl rfl 24 lit32 (Row.new w3 24 lit32) HRS.out lit32_size (bcells_one _) ?_; intro w4 hr4 ho4; have HR4 := Lib.hid hr4; have b4 : Below w3.heap.size w3 w4 := ((Below.refl _ _).alloc (Nat.le_refl _) _).trans (ho4.below (Nat.le_refl _) (by simp)); have hb4' := hb3'.trans (b4.mono hb3'.size); clear hr4)
    | (go_at_call 15; refine (HPT.out A5 c5 w5 HD5.out (HT.out.below hb5')).mono ?_; rintro e6 w6 ⟨A6, c6, rfl, hc6, hd6, hb6⟩; have HD6 := Lib.hid hd6; have HR6 := Lib.hid (HR5.out.below hb6 HR5.out.lt); have hb6' := hb5'.trans (hb6.mono hb5'.size); have HX6 := Lib.hid (((((HBD.out.below hb2).below hb3).below b4).below hb5).below hb6).range; clear hd6)
    | (with_reducible refine wpList_indexD rfl (.tmp 34) (.tmp 35) rfl b off m c1 j _ rfl rfl rfl hjm ?_)
    | (with_reducible refine wpList_loadD rfl (.tmp 36) rfl b (off + 32 * j) d rfl HX6.out HDL.out ?_)
    | (go_at_call 18; refine (HCL.out A6 c6 w6 HD6.out (HT.out.below hb6')).mono ?_; rintro e7 w7 ⟨rfl, hb7⟩; have HR7 := Lib.hid (HR6.out.below hb7 HR6.out.lt); have hlt7 := HR7.out.lt; have hb7' := hb6'.trans (hb7.mono hb6'.size))
    | (with_reducible refine wpList_store_row Tryd.agg25 rfl (.tmp 9) (.tmp 41) rfl _ _ rfl rfl 24 lit32 (Row.new w7 24 lit32) HRS.out lit32_size (bcells_one _) ?_; intro w8 hr8 ho8; have HH8 := Lib.hid hr8; have HR8 := Lib.hid ((HR7.out.alloc (.cells lit32 24)).only ho8 (by omega)); have b8 : Below w7.heap.size w7 w8 := ((Below.refl _ _).alloc (Nat.le_refl _) _).trans (ho8.below (Nat.le_refl _) (by simp)); have hb8' := hb7'.trans (b8.mono hb7'.size); clear hr8)
    | (with_reducible refine wpList_loadG (by with_unfolding_all rfl) (.tmp 9) rfl _ 0 R rfl (range_row HH8.out) HRL.out ?_)
    | (with_reducible refine wpList_loadG (by with_unfolding_all rfl) (.tmp 5) rfl _ 0 R rfl (range_row HR8.out) HRL.out ?_)
    | (go_at_call 9; refine (awake_any _ (HT.out.below hb8')).mono ?_; rintro e9 w9 ⟨rfl, hb9⟩; have hb9' := hb8'.trans (hb9.mono hb8'.size)))
  go_ret
  exact ⟨rfl, hb9'⟩

set_option maxRecDepth 100000 in
theorem lifted (os : Os) (started : os.Started) (H : Type) (enc : TypeId × Value → H) :
    ReturnsInHanded {} Tryd.checked os 6 .any (fun w args => (Rows.treeBackSpec.pre enc Tryd.prog Tryd.f6 Rows.treeBackRow.domain false w args ∧ laidMetH Tryd.prog lay1 w) ∧ sizedMet enc Tryd.prog Tryd.f6 (OpenSpec.ofChange Rows.treeBackSpec) false w args)
      (Rows.treeBackSpec.post enc Tryd.prog Tryd.f6 false true false false) := by
  refine returnsInHanded_of_change_and (C := Tryd.checked) (X := fun w _ => laidMetH Tryd.prog lay1 w) (fun _ _ _ hh h => h.of_heap hh) own started (by kernel_rfl) Tryd.func6
    (ChangeSpec.witness_shaped (enc := enc) (C := Tryd.checked) (os := os) (X := fun w _ => laidMetH Tryd.prog lay1 w) false (World.laidAll Tryd.prog os lay1) #[.slice none 0 0, .int .i64 0] 8 rfl (World.shaped_of_ZipB (by kernel_rfl) (by kernel_rfl)) (by kernel_rfl) (by kernel_rfl) (by kernel_rfl) (met1 os _)) ?_
  intro W base args ds gs before hval0 hW hcnd hsz0 hL _
  have hval : ∀ (j : Nat) t v, Tryd.f6.params[j]? = some t → args[j]? = some v → Value.okWide Tryd.prog W .any base t v := hval0
  have hW' := hW
  obtain ⟨p, q, hA0, hV, rfl, hfz, hnd⟩ := hW
  have hA : DataW.TrodAll enc Tryd.prog W 0 (fun _ => true) true Tryd.f6.params.toList args.toList ds p := hA0
  have hsz : (DataW.weightsEach Tryd.prog (Tryd.f6.params.toList ++ Rows.treeBackSpec.plain.varTypes Tryd.prog) (ds ++ gs)).all (· ≤ reachBytes) = true := hsz0
  rw [Tryd.params6] at hA hval hsz
  obtain ⟨v0, vs0, d0, ds0, p0, q0, hargs, rfl, rfl, h0, r0⟩ := trodAll_cons hA
  obtain ⟨v1, vs1, d1, ds1, p1, q1, rfl, rfl, rfl, h1, r1⟩ := trodAll_cons r0
  obtain ⟨rfl, rfl, rfl⟩ := trodAll_nil r1
  obtain rfl : args = #[v0, v1] := by cases args; simp_all
  obtain ⟨rfl, rfl⟩ := trodVars_none hV
  have k0 := h0
  have lt0 : ∀ x ∈ p0, x.block < W.heap.size := by obtain ⟨m, hm⟩ := k0; exact DataW.trod_lt m _ _ _ hm
  obtain ⟨a0, len0, cap0, l0, rfl, w0, s0⟩ := open_ds (hval 0 22 v0 rfl rfl) h0
  obtain ⟨a1, rfl, rfl, rfl, w1⟩ := open_int Tryd.underlying3 (hval 1 3 v1 rfl rfl) h1
  have hTab := of_lay1 hL
  clear hA0 hval0
  refine (walk W a0 len0 cap0 l0 w0 s0 a1 w1 hTab).mono fun e W' ⟨he, bel⟩ => ?_
  subst he
  exact ⟨_, rfl, _, _, _, [], _, [], hW', trodAll_mk1 (shut_bool Tryd.underlying4 _), (trodAll_cons_mk (Below.trod laidOut (by kernel_rfl) (of_decide_eq_true (by kernel_rfl)) k0 bel lt0) (trodAll_cons_mk (shut_int Tryd.underlying3 w1) trodAll_mk0)), rfl, bel.frame _, fun h => by cases h⟩
theorem over : Rows.treeBackRow.holds Tryd.pinned (OpenSpec.ofChange Rows.treeBackSpec) :=
  OpenClaim.holds_of_wide 6 Tryd.f6 rfl rfl rfl rfl rfl rfl rfl ⟨rfl, rfl, rfl, rfl, rfl⟩ rfl rfl rfl rfl rfl (by kernel_rfl) Tryd.func6 (by kernel_rfl)
    (of_decide_eq_true (by kernel_rfl)) (by unfold Func.isWrapper; first | (rw [if_pos (by decide +kernel)]; kernel_rfl) | (rw [if_neg (by decide +kernel)]; exact ⟨rfl, rfl⟩))
    (fun os started H enc _ => lifted os started H enc)
theorem treeBack_holds : Rows.TreeBackCardSaid :=
  Claim7.holds_tied_plain_at .later [] [.data] true (true, "88038e2d516bc315e4e17de3119a76fa62516c6ce152f586382fba84026f3fa9") false
    over (fun _ h => by cases h) (by kernel_rfl) (fun _ h => by cases h) treeBack_row_tie rfl ⟨rfl, rfl⟩ (by kernel_rfl) rfl
    (fun f fn hf hfn => by
      obtain rfl : f = 6 := Option.some.inj ((show Tryd.prog.funcNamed "jurat/juratlaw06.TreeBack" = some 6 by kernel_rfl).symm.trans hf) |>.symm
      obtain rfl : fn = Tryd.f6 := (Option.some.inj (Tryd.func6.symm.trans hfn)).symm
      exact ⟨by kernel_rfl, fun j t ht => by
        rw [Tryd.params6] at ht
        have hm : t ∈ [22, 3] := by simpa using Array.mem_of_getElem? ht
        have hall : ([22, 3].all fun u => !Tryd.prog.wantsStandIn u) = true := by kernel_rfl
        exact (show Tryd.prog.wantsStandIn t = false by simpa using List.all_eq_true.1 hall t hm)⟩)
    (by kernel_rfl)
#print axioms treeBack_holds
end Go.Proofs.YtiidcnjhjojhoaaDoor.treeBack
