/-
  ShaSplits, whole, as the tied card (Rows.ShaSplitsCardSaid): for every list of parts, up to 30 of them and 1000 bytes, in whatever parts bytes are written to a hash, and whatever is asked between, its sum is that of all of them, and its length theirs; the sum of abc is the document's. Conditions: the table sha.constants reads as its initialiser lays it (tied to the program's text).
-/
import Derived.Test.YtbekdlnoikkkbaaDoorRows
import Derived.Test.YtbekdlnoikkkbaaDoorCards
import Derived.Test.YtbekdlnoikkkbaaDoorTie
import Derived.WalkKit
import Derived.ProofKit
import Derived.OpenShut
import Derived.ShutString
import Derived.ChangeOld
import Derived.Below
import Derived.SizedLaws
import Derived.SevenTiedAt
import Derived.Lay
import Derived.LaidLaws
import Derived.Test.YtbekdlnoikkkbaaDoorLaid
import Derived.Test.YtbekdlnoikkkbaaDoorParts
namespace Go.Proofs.YtbekdlnoikkkbaaDoor.shaSplits
open Go.ChangeShapes Go.WideShapes Go.ChangeAt Go.RowKit
set_option linter.unusedVariables false
theorem own : ownKnob Tryd.prog.godebug = none := by kernel_rfl
theorem laidOut : laidOutB Tryd.prog = true := by kernel_rfl
theorem Len_z (g : Nat) (m : List UInt8) (w : World) (z : Int) (h : HashAt w g m) (hz : (m.length : Int) = z) :
    Calls Tryd.prog 20 #[.pointer (some ⟨g, 0, none⟩)] w fun e w' => e = .returned (.int .i64 z) ∧ w = w' := by
  subst hz; exact Len_any g m w h
set_option maxRecDepth 100000 in
set_option maxHeartbeats 1000000 in
theorem walk_big (w : World) (a0 : Option Addr) (n0 c0 : Nat) (hT : Tab 2 w) (h : 30 < n0) :
    Calls Tryd.prog 6 #[.slice a0 n0 c0] w fun e w' => e = .returned (.bool true) ∧ Below w.heap.size w w' := by
  have HT := Lib.hid hT
  clear hT
  go_enter Tryd.func6, Tryd.ntmps6
  go_wp2_with (go_at_call 9; refine (awake_any _ HT.out).mono ?_; rintro e4 w4 ⟨rfl, hb4⟩)
  go_ret
  exact ⟨rfl, hb4⟩
set_option maxRecDepth 100000 in
set_option maxHeartbeats 2000000 in
theorem walk_ok (w : World) (a0 : Option Addr) (n0 c0 : Nat) (hP : Parts w a0 n0) (hT : Tab 2 w) (h : n0 ≤ 30) :
    Calls Tryd.prog 6 #[.slice a0 n0 c0] w fun e w' => e = .returned (.bool true) ∧ Below w.heap.size w w' := by
  have HP := Lib.hid hP
  have HT := Lib.hid hT
  have hlt2 := hT.1
  clear hP hT
  go_enter Tryd.func6, Tryd.ntmps6
  go_wp2_with fail
  refine (New_any _).mono ?_
  rintro e1 w1 ⟨g, rfl, hg, hh1, hb1⟩
  have HH1 := Lib.hid hh1
  have hgl1 := hh1.lt
  clear hh1
  go_wp2_with fail
  go_loopw [4, 5] (fun s i wr => ∃ (j k c : Nat) (A : Option Addr) (m : List UInt8), j ≤ n0 ∧ i = .int .i64 (j : Int) ∧ s = .slice A k c ∧ k ≤ c ∧ k ≤ 2000 ∧ Below w.heap.size w wr ∧ HashAt wr g m ∧ Own wr (g + 1) 5 (.slice A k c) k m) (fun _ i _ => n0 - (intOf i).toNat)
  case atStart => exact ⟨0, 0, 0, none, [], Nat.zero_le _, rfl, rfl, Nat.le_refl _, by omega, hb1, HH1.out, Own.nil _ _ _⟩
  case round =>
    obtain ⟨j, k, c, A, m, hj, rfl, rfl, hkc, hk2000, hb, hh, hown⟩ := hrel
    have HH := Lib.hid hh
    have HO := Lib.hid hown
    have hbs := hb.size
    have hgl := hh.lt
    have HKm := Lib.hid hown.length
    clear hh hown
    by_cases hjn : j < n0
    · obtain ⟨b, off, A1, n1, c1, l1, rfl, hblt, hcell0, hnc1, hB1⟩ := HP.out j hjn
      have HB1 := Lib.hid hB1
      have HC0 := Lib.hid hcell0
      have hcell : wr.cell? ⟨b, off + j, none⟩ = some (.slice A1 n1 c1) := (hb.cell (p := ⟨b, off + j, none⟩) hblt).trans hcell0
      have hcellA : ∀ o, (wr.alloc o).cell? ⟨b, off + j, none⟩ = some (.slice A1 n1 c1) := fun o => (((Below.refl wr.heap.size wr).alloc (Nat.le_refl _) o).cell (p := ⟨b, off + j, none⟩) (Nat.lt_of_lt_of_le hblt hbs)).trans hcell
      clear hcell0
      have i0 : (0 : Int) ≤ (j : Int) := by omega
      have i1 : (j : Int) < (n0 : Int) := by omega
      clear hB1
      by_cases h1 : 1000 < n1
      · have d1 : decide (1000 < (n1 : Int)) = true := by simp; omega
        go_wp2_with (go_at_call 9; refine (awake_any _ (HT.out.below hb)).mono ?_; rintro e4 w4 ⟨rfl, hb4⟩)
        go_ret
        exact ⟨rfl, hb.trans (hb4.mono hbs)⟩
      · have d1 : decide (1000 < (n1 : Int)) = false := by simp; omega
        by_cases h2 : 1000 < k
        · have d2 : decide (1000 < (k : Int)) = true := by simp; omega
          go_wp2_with (go_at_call 9; refine (awake_any _ (HT.out.below hb)).mono ?_; rintro e4 w4 ⟨rfl, hb4⟩)
          go_ret
          exact ⟨rfl, hb.trans (hb4.mono hbs)⟩
        · have d2 : decide (1000 < (k : Int)) = false := by simp; omega
          have HML := Lib.hid (show ((m ++ l1).length : Int) = (k : Int) + (n1 : Int) by rw [List.length_append, HKm.out, HB1.out.1]; omega)
          have heq := eq_digest (sumL (m ++ l1)) (sumL_length _)
          go_wp2_with (at_builtin; refine wpList_copy Tryd.byteTypes rfl (.tmp 30) (.tmp 34) rfl rfl A1 n1 c1 l1 rfl (HB1.out.below hb) (by omega) ?_; intro A2 k2 w2 hB2 hc2 hb2 ho2; have H2 := Lib.hid hB2; have HA2 := Lib.hid (own_apart ho2 hgl); have B2 := hb.trans (hb2.mono hbs); clear hB2 ho2)
          refine (Write_any g m A2 n1 k2 l1 w2 (HH.out.below hb2) H2.out HA2.out hc2 (HT.out.below B2) (by omega) (by rw [HKm.out]; omega)).mono ?_
          rintro e3 w3 ⟨rfl, hh3, ho3⟩
          have HH3 := Lib.hid hh3
          have B3 := B2.trans (ho3.below hg B2.size)
          have HO3 := Lib.hid (own_only (own_below HO.out hb2) ho3 (Nat.lt_succ_self g))
          have hcell3 : w3.cell? ⟨b, off + j, none⟩ = some (.slice A1 n1 c1) := (B3.cell (p := ⟨b, off + j, none⟩) hblt).trans HC0.out
          have hgl3 := hh3.lt
          clear hh3 hcell hcellA
          by_cases h3 : j % 3 = 1
          · have h3i : (j : Int) % 3 = 1 := by omega
            have h3b : ((j : Int) % 3 == 1) = true := by rw [h3i]; rfl
            go_wp2_with (at_builtin; refine wpList_app Tryd.byteTypes rfl (.tmp 37) (.tmp 41) rfl (g + 1) _ k m rfl HO3.out A1 n1 c1 l1 rfl (HB1.out.below B3) (by omega) hgl3 ?_; intro A4 c4 w4 ho4 hb4 hg4; have HO4 := Lib.hid ho4; have HH4 := Lib.hid (HH3.out.belowB hb4 (Nat.lt_succ_self g)); have B4 := B3.trans (hb4.mono (by omega)); clear ho4 hg4)
            go_wp2_with fail
            refine (HSum_any g (m ++ l1) w4 HH4.out (HT.out.below B4) (by have := HML.out; omega)).mono ?_
            rintro e5 w5 ⟨rfl, hb5⟩
            have B5 := B4.trans (hb5.mono B4.size)
            have HO5 := Lib.hid (own_below HO4.out hb5)
            have HH5 := Lib.hid (HH4.out.below hb5)
            have hk4 : k + n1 ≤ c4 := by
              obtain ⟨A9, c9, e9, hc9⟩ := HO4.out.form
              injection e9 with r1 r2 r3
              omega
            go_wp2_with (at_builtin; refine wpList_copyG Tryd.byteTypes (by rfl) (.tmp 49) (.tmp 50) rfl rfl A4 (k + n1) c4 (m ++ l1) rfl HO5.out.bs (by omega) ?_; intro A6 c6 w6 hB6 hc6 hb6; have H6 := Lib.hid hB6; have B6 := B5.trans (hb6.mono B5.size); clear hB6)
            refine (Sum_any A6 (k + n1) c6 (m ++ l1) w6 H6.out hc6 (HT.out.below B6) (by omega)).mono ?_
            rintro e7 w7 ⟨rfl, hb7⟩
            have B7 := B6.trans (hb7.mono B6.size)
            have HH7 := Lib.hid ((HH5.out.below hb6).below hb7)
            have HO7 := Lib.hid (own_below (own_below HO5.out hb6) hb7)
            go_wp2_with fail
            refine (Len_z g (m ++ l1) w7 _ HH7.out HML.out).mono ?_
            rintro e8 w8 ⟨rfl, rfl⟩
            go_wp2_with fail
            go_roundw
            case rel => exact ⟨j + 1, k + n1, c4, A4, m ++ l1, by omega, by go_num, rfl, hk4, by omega, B7, HH7.out, HO7.out⟩
            case measure => simp [intOf]; omega
          · have h3i : ¬ (j : Int) % 3 = 1 := by omega
            have h3b : ((j : Int) % 3 == 1) = false := by simpa using h3i
            go_wp2_with (at_builtin; refine wpList_app Tryd.byteTypes rfl (.tmp 37) (.tmp 41) rfl (g + 1) _ k m rfl HO3.out A1 n1 c1 l1 rfl (HB1.out.below B3) (by omega) hgl3 ?_; intro A4 c4 w4 ho4 hb4 hg4; have HO4 := Lib.hid ho4; have HH4 := Lib.hid (HH3.out.belowB hb4 (Nat.lt_succ_self g)); have B4 := B3.trans (hb4.mono (by omega)); clear ho4 hg4)
            have hk4 : k + n1 ≤ c4 := by
              obtain ⟨A9, c9, e9, hc9⟩ := HO4.out.form
              injection e9 with r1 r2 r3
              omega
            refine (Len_z g (m ++ l1) w4 _ HH4.out HML.out).mono ?_
            rintro e8 w8 ⟨rfl, rfl⟩
            go_wp2_with fail
            go_roundw
            case rel => exact ⟨j + 1, k + n1, c4, A4, m ++ l1, by omega, by go_num, rfl, hk4, by omega, B4, HH4.out, HO4.out⟩
            case measure => simp [intOf]; omega
    · have hBs := HO.out.bs
      have HBs := Lib.hid hBs
      have heq := eq_digest (sumL m) (sumL_length _)
      clear hBs
      go_wp2_with fail
      refine (HSum_any g m wr HH.out (HT.out.below hb) (by rw [HKm.out]; omega)).mono ?_
      rintro e2 w2 ⟨rfl, hb2⟩
      have B2 := hb.trans (hb2.mono hbs)
      go_wp2_with fail
      refine (Sum_any A k c m w2 (HBs.out.below hb2) hkc (HT.out.below B2) (by omega)).mono ?_
      rintro e3 w3 ⟨rfl, hb3⟩
      have B3 := B2.trans (hb3.mono B2.size)
      go_wp2_with fail
      refine (awake_any w3 (HT.out.below B3)).mono ?_
      rintro e4 w4 ⟨rfl, hb4⟩
      go_wp2_with fail
      go_ret
      exact ⟨rfl, B3.trans (hb4.mono B3.size)⟩
theorem walk (w : World) (a0 : Option Addr) (len0 cap0 : Nat) (w0 : Parts w a0 len0) (hT : Tab 2 w) :
    Calls Tryd.prog 6 #[.slice a0 len0 cap0] w fun e w' => e = .returned (.bool true) ∧ Below w.heap.size w w' := by
  by_cases h : len0 ≤ 30
  · exact walk_ok w a0 len0 cap0 w0 hT h
  · exact walk_big w a0 len0 cap0 hT (by omega)

set_option maxRecDepth 100000 in
theorem lifted (os : Os) (started : os.Started) (H : Type) (enc : TypeId × Value → H) :
    ReturnsInHanded {} Tryd.checked os 6 .any (fun w args => (Rows.shaSplitsSpec.pre enc Tryd.prog Tryd.f6 Rows.shaSplitsRow.domain false w args ∧ laidMetH Tryd.prog lay1 w) ∧ sizedMet enc Tryd.prog Tryd.f6 (OpenSpec.ofChange Rows.shaSplitsSpec) false w args)
      (Rows.shaSplitsSpec.post enc Tryd.prog Tryd.f6 false true false false) := by
  refine returnsInHanded_of_change_and (C := Tryd.checked) (X := fun w _ => laidMetH Tryd.prog lay1 w) (fun _ _ _ hh h => h.of_heap hh) own started (by kernel_rfl) Tryd.func6
    (ChangeSpec.witness_shaped (enc := enc) (C := Tryd.checked) (os := os) (X := fun w _ => laidMetH Tryd.prog lay1 w) false (World.laidAll Tryd.prog os lay1) #[.slice none 0 0] 8 rfl (World.shaped_of_ZipB (by kernel_rfl) (by kernel_rfl)) (by kernel_rfl) (by kernel_rfl) (by kernel_rfl) (met1 os _)) ?_
  intro W base args ds gs before hval0 hW hcnd hsz0 hL _
  have hval : ∀ (j : Nat) t v, Tryd.f6.params[j]? = some t → args[j]? = some v → Value.okWide Tryd.prog W .any base t v := hval0
  have hW' := hW
  obtain ⟨p, q, hA0, hV, rfl, hfz, hnd⟩ := hW
  have hA : DataW.TrodAll enc Tryd.prog W 0 (fun _ => true) true Tryd.f6.params.toList args.toList ds p := hA0
  have hsz : (DataW.weightsEach Tryd.prog (Tryd.f6.params.toList ++ Rows.shaSplitsSpec.plain.varTypes Tryd.prog) (ds ++ gs)).all (· ≤ reachBytes) = true := hsz0
  rw [Tryd.params6] at hA hval hsz
  obtain ⟨v0, vs0, d0, ds0, p0, q0, hargs, rfl, rfl, h0, r0⟩ := trodAll_cons hA
  obtain ⟨rfl, rfl, rfl⟩ := trodAll_nil r0
  obtain rfl : args = #[v0] := by cases args; simp_all
  obtain ⟨rfl, rfl⟩ := trodVars_none hV
  have k0 := h0
  have lt0 : ∀ x ∈ p0, x.block < W.heap.size := by obtain ⟨m, hm⟩ := k0; exact DataW.trod_lt m _ _ _ hm
  obtain ⟨a0, len0, cap0, rfl, w0⟩ := open_parts (hval 0 40 v0 rfl rfl) h0
  have hTab := of_lay1 hL
  clear hA0 hval0
  refine (walk W a0 len0 cap0 w0 hTab).mono fun e W' ⟨he, bel⟩ => ?_
  subst he
  exact ⟨_, rfl, _, _, _, [], _, [], hW', trodAll_mk1 (shut_bool Tryd.underlying4 _), (trodAll_cons_mk (Below.trod laidOut (by kernel_rfl) (of_decide_eq_true (by kernel_rfl)) k0 bel lt0) trodAll_mk0), rfl, bel.frame _, fun h => by cases h⟩
theorem over : Rows.shaSplitsRow.holds Tryd.pinned (OpenSpec.ofChange Rows.shaSplitsSpec) :=
  OpenClaim.holds_of_wide 6 Tryd.f6 rfl rfl rfl rfl rfl rfl rfl ⟨rfl, rfl, rfl, rfl, rfl⟩ rfl rfl rfl rfl rfl (by kernel_rfl) Tryd.func6 (by kernel_rfl)
    (of_decide_eq_true (by kernel_rfl)) (by unfold Func.isWrapper; first | (rw [if_pos (by decide +kernel)]; kernel_rfl) | (rw [if_neg (by decide +kernel)]; exact ⟨rfl, rfl⟩))
    (fun os started H enc _ => lifted os started H enc)
theorem shaSplits_holds : Rows.ShaSplitsCardSaid :=
  Claim7.holds_tied_plain_at .later [] [.data] true (true, "cd5223bcd05b994fe2076e12c14aa4b5dcc109b39c990a01de11415a3af69244") false
    over (fun _ h => by cases h) (by kernel_rfl) (fun _ h => by cases h) shaSplits_row_tie rfl ⟨rfl, rfl⟩ (by kernel_rfl) rfl
    (fun f fn hf hfn => by
      obtain rfl : f = 6 := Option.some.inj ((show Tryd.prog.funcNamed "jurat/juratlaw02.ShaSplits" = some 6 by kernel_rfl).symm.trans hf) |>.symm
      obtain rfl : fn = Tryd.f6 := (Option.some.inj (Tryd.func6.symm.trans hfn)).symm
      exact ⟨by kernel_rfl, fun j t ht => by
        rw [Tryd.params6] at ht
        have hm : t ∈ [40] := by simpa using Array.mem_of_getElem? ht
        have hall : ([40].all fun u => !Tryd.prog.wantsStandIn u) = true := by kernel_rfl
        exact (show Tryd.prog.wantsStandIn t = false by simpa using List.all_eq_true.1 hall t hm)⟩)
    (by kernel_rfl)
#print axioms shaSplits_holds
end Go.Proofs.YtbekdlnoikkkbaaDoor.shaSplits
