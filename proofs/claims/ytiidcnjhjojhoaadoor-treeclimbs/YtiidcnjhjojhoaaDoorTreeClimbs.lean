/-
  TreeClimbs, whole, as the tied card (Rows.TreeClimbsCardSaid): for every digest, number and list of up to 200 digests tree.Climb answers where the document says that they lead as a path, or its error; and of two leaves the root is the node above them. Conditions: the tables sha.constants, juratref02.constants and juratref02.first read as their initialisers lay them (tied to the program's text).
-/
import Derived.Test.YtiidcnjhjojhoaaDoorRows
import Derived.Test.YtiidcnjhjojhoaaDoorCards
import Derived.Test.YtiidcnjhjojhoaaDoorTie
import Derived.WalkKit
import Derived.ProofKit
import Derived.OpenShut
import Derived.ChangeMaps5
import Derived.ShutString
import Derived.ChangeOld
import Derived.Below
import Derived.SizedLaws
import Derived.SevenTiedAt
import Derived.Lay
import Derived.LaidLaws
import Derived.Test.YtiidcnjhjojhoaaDoorLaid
import Derived.Test.YtiidcnjhjojhoaaDoorOpens
import Derived.Test.YtiidcnjhjojhoaaDoorRefL
namespace Go.Proofs.YtiidcnjhjojhoaaDoor.treeClimbs
open Go.ChangeShapes Go.WideShapes Go.ChangeAt Go.RowKit
open Go.ChangeMaps (open_string shut_string)
set_option linter.unusedVariables false
theorem own : ownKnob Tryd.prog.godebug = none := by kernel_rfl
theorem laidOut : laidOutB Tryd.prog = true := by kernel_rfl
theorem cutR {P : Program} {id : Nat} {ops : Array Oper} {b : Bool} {Q : Exit → Act → World → Prop} {a : Act} {w : World} (R : Act → Act → World → Prop) (h1 : (Code.region id ops b).wp P (fun e a' w' => e = .normal ∧ R a a' w') a w) (h2 : ∀ a' w', R a a' w' → Q .normal a' w') : (Code.region id ops b).wp P Q a w :=
  Code.wp_mono (fun e a' w' ⟨he, hR⟩ => by rw [he]; exact h2 a' w' hR) h1
set_option maxRecDepth 100000 in
set_option maxHeartbeats 2000000 in
theorem walk_in (w : World) (s0 : List UInt8) (w0 : s0.length = 32) (a1 : Int) (w1 : (Lit.int .i64 a1).wf = true) (a2 : Option Addr) (len2 cap2 : Nat) (l2 : List (List UInt8)) (w2 : Ds w a2 len2 l2) (h200 : len2 ≤ 200) (hT : First w ∧ Tab 2 w ∧ Tab 1 w) :
    Calls Tryd.prog 5 #[.agg (bcells s0), .int .i64 a1, .slice a2 len2 cap2] w fun e w' => e = .returned (.bool true) ∧ Below w.heap.size w w' := by
  have HF := Lib.hid hT.1
  have HT2 := Lib.hid hT.2.1
  have HT1 := Lib.hid hT.2.2
  have i0 : ¬ 200 < (len2 : Int) := by omega
  have HD := Lib.hid w2
  have HR := Lib.hid (fun A c wq hD hT => Climb_any s0 a1 A len2 c l2 wq w0 hD hT)
  have HQ := Lib.hid (fun wq hD hF hT => RefClimb_all s0 a1 a2 len2 cap2 l2 wq w0 (wf_i64 w1) hD hF hT)
  have HRL := Lib.hid (climbI_length s0 a1 l2 w0)
  have HRS := Lib.hid (show (bcells (climbI s0 a1 l2)).size = 32 by rw [bcells_size, climbI_length s0 a1 l2 w0])
  have heq := eq_digest (climbI s0 a1 l2) (climbI_length s0 a1 l2 w0)
  generalize climbI s0 a1 l2 = R at *
  generalize errC l2.length a1 = E at *
  have HL0 := Lib.hid w0
  have HKS := Lib.hid (show (bcells s0).size = 32 by rw [bcells_size, w0])
  have hb0 := (Below.refl w.heap.size w).alloc (Nat.le_refl _) (.cells (bcells s0) 24)
  have HA0 := Lib.hid (Row.new w 24 (bcells s0))
  obtain ⟨wz, hwz⟩ : ∃ wz, w.alloc (.cells (bcells s0) 24) = wz := ⟨_, rfl⟩
  have hltz : w.heap.size < wz.heap.size := by rw [← hwz]; simp
  rw [hwz] at hb0 HA0
  have KP : Hid (∀ wq, Below wz.heap.size wz wq → wq.rangeAt w.heap.size 0 (s0.map bcell)) := Lib.hid (fun wq hb => range_row (HA0.out.below hb HA0.out.lt))
  clear w0 hT w1 w2
  go_enter Tryd.func5, Tryd.ntmps5
  go_wp2_with fail
  clear hwz
  refine cutR (fun a a' w' => ∃ (g : Nat) (Ao : Option Addr) (co : Nat), a' = ((((((((((a.put (some 16) (.agg (bcells s0))).put (some 17) (.int .i64 a1)).put (some 18) (.slice a2 len2 cap2)).put (some 19) (.slice Ao len2 co)).put (some 20) (.tuple #[.agg (bcells R), .int .i64 E])).put (some 15) (.tuple #[.agg (bcells R), .int .i64 E])).put (some 21) (.agg (bcells R))).put (some 22) (.int .i64 E)).put (some 7) (.pointer (some ⟨g, 0, none⟩))).put (some 8) (.int .i64 E)) ∧ Row w' g 24 (bcells R) ∧ Below wz.heap.size wz w') ?_ ?_
  · refine wp_region_noPanic ?_
    refine wp_region_held_drew (S := fun w' => w'.rangeAt w.heap.size 0 (s0.map bcell)) (by kernel_rfl) (KP.out _ ((Below.refl wz.heap.size wz).drew)) (fun hHeld => ?_)
    refine takeD (i := 0) (some 16) (.agg (bcells s0)) rfl rfl (by kernel_rfl) (by kernel_rfl) (by kernel_rfl) (fun _ _ _ h => h) (yields_loadD rfl (.tmp 3) rfl _ 0 s0 rfl (fun _ h => h) HL0.out) hHeld ?_
    simp only [Act.put, List.setIfInBounds_toArray, List.set_cons_zero, List.set_cons_succ]
    refine takeD (i := 1) (some 17) (.int .i64 a1) rfl rfl (by kernel_rfl) (by kernel_rfl) (by kernel_rfl) (fun _ _ _ h => h) (Or.inl ⟨by rfl, fun _ _ => rfl⟩) hHeld ?_
    simp only [Act.put, List.setIfInBounds_toArray, List.set_cons_zero, List.set_cons_succ]
    refine takeD (i := 2) (some 18) (.slice a2 len2 cap2) rfl rfl (by kernel_rfl) (by kernel_rfl) (by kernel_rfl) (fun _ _ _ h => h) (Or.inl ⟨by rfl, fun _ _ => rfl⟩) hHeld ?_
    simp only [Act.put, List.setIfInBounds_toArray, List.set_cons_zero, List.set_cons_succ]
    have B0 : Below wz.heap.size wz wz.drew := (Below.refl wz.heap.size wz).drew
    refine wpAnyH_ready (rs := [3, 8]) (by kernel_rfl) (by decide) ?_
    refine AllReadyH.cons rfl (fun K' hK => ?_) (AllReadyH.cons rfl (fun K' hK => ?_) AllReadyH.nil)
    · go_simp
      refine (own_any a2 len2 cap2 l2 wz.drew (HD.out.below (hb0.trans (B0.mono hb0.size))) (by omega)).mono ?_
      rintro e3 wo ⟨Ao, co, rfl, hco, hdo, hbo⟩
      have HDo := Lib.hid hdo
      have Bo : Below wz.heap.size wz wo := B0.trans (hbo.mono B0.size)
      clear hdo
      refine hK.out _ _ (KP.out _ Bo) (fun hHeld3 => ?_)
      clear hK
      refine wpAnyH_ready (rs := [4, 8]) (by kernel_rfl) (by decide) ?_
      refine AllReadyH.cons rfl (fun K' hK => ?_) (AllReadyH.cons rfl (fun K' hK => ?_) AllReadyH.nil)
      · go_simp
        refine (HR.out Ao co wo HDo.out (HT1.out.below (hb0.trans (Bo.mono hb0.size)))).mono ?_
        rintro e4 wc ⟨rfl, hbc⟩
        have Bc : Below wz.heap.size wz wc := Bo.trans (hbc.mono Bo.size)
        refine hK.out _ _ (KP.out _ Bc) (fun hHeld4 => ?_)
        clear hK
        (try simp only [Act.put, List.setIfInBounds_toArray, List.set_cons_zero, List.set_cons_succ])
        refine takeD (i := 5) (some 15) (.tuple #[.agg (bcells R), .int .i64 E]) rfl rfl (by kernel_rfl) (by kernel_rfl) (by kernel_rfl) (fun _ _ _ h => h) (Or.inl ⟨by rfl, fun _ _ => rfl⟩) hHeld4 ?_
        simp only [Act.put, List.setIfInBounds_toArray, List.set_cons_zero, List.set_cons_succ]
        refine takeD (i := 6) (some 21) (.agg (bcells R)) rfl rfl (by kernel_rfl) (by kernel_rfl) (by kernel_rfl) (fun _ _ _ h => h) (Or.inl ⟨by rfl, fun _ _ => rfl⟩) hHeld4 ?_
        simp only [Act.put, List.setIfInBounds_toArray, List.set_cons_zero, List.set_cons_succ]
        refine takeD (i := 7) (some 22) (.int .i64 E) rfl rfl (by kernel_rfl) (by kernel_rfl) (by kernel_rfl) (fun _ _ _ h => h) (Or.inl ⟨by rfl, fun _ _ => rfl⟩) hHeld4 ?_
        simp only [Act.put, List.setIfInBounds_toArray, List.set_cons_zero, List.set_cons_succ]
        refine wpAnyH_ready (rs := [8]) (by kernel_rfl) (by decide) ?_
        refine AllReadyH.cons rfl (fun K' hK => ?_) AllReadyH.nil
        refine step_of rfl (wp_allocD rfl ?_)
        intro g wa hg hra hba
        have HRa := Lib.hid hra
        have hge : wz.heap.size ≤ g := by have := Bc.size; omega
        have hga : g < wa.heap.size := hra.lt
        have Ba : Below wz.heap.size wz wa := Bc.trans (hba.mono Bc.size)
        clear hg hra
        refine hK.out _ _ (KP.out _ Ba) (fun hHeld5 => ?_)
        clear hK
        refine wpAnyH_ready (rs := [9]) (by kernel_rfl) (by decide) ?_
        refine AllReadyH.cons rfl (fun K' hK => ?_) AllReadyH.nil
        refine step_store_row Tryd.agg25 rfl (.tmp 7) (.tmp 21) rfl _ _ rfl rfl 24 lit32 HRa.out HRS.out lit32_size (bcells_one _) ?_
        intro w9 hr9 ho9
        have B9 : Below wz.heap.size wz w9 := Ba.trans (ho9.below hge Ba.size)
        refine hK.out _ _ (KP.out _ B9) (fun hHeld9 => ?_)
        clear hK
        (try simp only [Act.put, List.setIfInBounds_toArray])
        refine takeD (i := 10) (some 8) (.int .i64 E) rfl rfl (by kernel_rfl) (by kernel_rfl) (by kernel_rfl) (fun _ _ _ h => h) (Or.inl ⟨by rfl, fun _ _ => rfl⟩) hHeld9 ?_
        (try simp only [Act.put])
        refine wpAnyH_done (by kernel_rfl) ?_ _
        refine NoPanic.normal ?_
        exact ⟨rfl, g, Ao, co, rfl, hr9, B9⟩
      · refine step_of rfl (wp_allocD rfl ?_)
        intro g wa hg hra hba
        have HRa := Lib.hid hra
        have hge : wz.heap.size ≤ g := by have := Bo.size; omega
        have hga : g < wa.heap.size := hra.lt
        have Ba : Below wz.heap.size wz wa := Bo.trans (hba.mono Bo.size)
        clear hg hra
        refine hK.out _ _ (KP.out _ Ba) (fun hHeld5 => ?_)
        clear hK
        refine wpAnyH_ready (rs := [4]) (by kernel_rfl) (by decide) ?_
        refine AllReadyH.cons rfl (fun K' hK => ?_) AllReadyH.nil
        have HDo2 := Lib.hid (HDo.out.below hba)
        clear HDo
        have HDo := HDo2
        clear HDo2
        go_simp
        refine (HR.out Ao co wa HDo.out (HT1.out.below (hb0.trans (Ba.mono hb0.size)))).mono ?_
        rintro e4 wc ⟨rfl, hbc⟩
        have Bc : Below wz.heap.size wz wc := Ba.trans (hbc.mono Ba.size)
        have HRc := Lib.hid (HRa.out.below hbc hga)
        refine hK.out _ _ (KP.out _ Bc) (fun hHeld4 => ?_)
        clear hK
        (try simp only [Act.put, List.setIfInBounds_toArray, List.set_cons_zero, List.set_cons_succ])
        refine takeD (i := 5) (some 15) (.tuple #[.agg (bcells R), .int .i64 E]) rfl rfl (by kernel_rfl) (by kernel_rfl) (by kernel_rfl) (fun _ _ _ h => h) (Or.inl ⟨by rfl, fun _ _ => rfl⟩) hHeld4 ?_
        simp only [Act.put, List.setIfInBounds_toArray, List.set_cons_zero, List.set_cons_succ]
        refine takeD (i := 6) (some 21) (.agg (bcells R)) rfl rfl (by kernel_rfl) (by kernel_rfl) (by kernel_rfl) (fun _ _ _ h => h) (Or.inl ⟨by rfl, fun _ _ => rfl⟩) hHeld4 ?_
        simp only [Act.put, List.setIfInBounds_toArray, List.set_cons_zero, List.set_cons_succ]
        refine takeD (i := 7) (some 22) (.int .i64 E) rfl rfl (by kernel_rfl) (by kernel_rfl) (by kernel_rfl) (fun _ _ _ h => h) (Or.inl ⟨by rfl, fun _ _ => rfl⟩) hHeld4 ?_
        simp only [Act.put, List.setIfInBounds_toArray, List.set_cons_zero, List.set_cons_succ]
        refine wpAnyH_ready (rs := [9]) (by kernel_rfl) (by decide) ?_
        refine AllReadyH.cons rfl (fun K' hK => ?_) AllReadyH.nil
        refine step_store_row Tryd.agg25 rfl (.tmp 7) (.tmp 21) rfl _ _ rfl rfl 24 lit32 HRc.out HRS.out lit32_size (bcells_one _) ?_
        intro w9 hr9 ho9
        have B9 : Below wz.heap.size wz w9 := Bc.trans (ho9.below hge Bc.size)
        refine hK.out _ _ (KP.out _ B9) (fun hHeld9 => ?_)
        clear hK
        (try simp only [Act.put, List.setIfInBounds_toArray])
        refine takeD (i := 10) (some 8) (.int .i64 E) rfl rfl (by kernel_rfl) (by kernel_rfl) (by kernel_rfl) (fun _ _ _ h => h) (Or.inl ⟨by rfl, fun _ _ => rfl⟩) hHeld9 ?_
        (try simp only [Act.put])
        refine wpAnyH_done (by kernel_rfl) ?_ _
        refine NoPanic.normal ?_
        exact ⟨rfl, g, Ao, co, rfl, hr9, B9⟩
    · refine step_of rfl (wp_allocD rfl ?_)
      intro g wa hg hra hba
      have HRa := Lib.hid hra
      have hge : wz.heap.size ≤ g := by have := B0.size; omega
      have hga : g < wa.heap.size := hra.lt
      have Ba : Below wz.heap.size wz wa := B0.trans (hba.mono B0.size)
      clear hg hra
      refine hK.out _ _ (KP.out _ Ba) (fun hHeld5 => ?_)
      clear hK
      refine wpAnyH_ready (rs := [3]) (by kernel_rfl) (by decide) ?_
      refine AllReadyH.cons rfl (fun K' hK => ?_) AllReadyH.nil
      go_simp
      refine (own_any a2 len2 cap2 l2 wa (HD.out.below (hb0.trans (Ba.mono hb0.size))) (by omega)).mono ?_
      rintro e3 wo ⟨Ao, co, rfl, hco, hdo, hbo⟩
      have HDo := Lib.hid hdo
      have Bo : Below wz.heap.size wz wo := Ba.trans (hbo.mono Ba.size)
      clear hdo
      have HRo := Lib.hid (HRa.out.below hbo hga)
      refine hK.out _ _ (KP.out _ Bo) (fun hHeld3 => ?_)
      clear hK
      refine wpAnyH_ready (rs := [4]) (by kernel_rfl) (by decide) ?_
      refine AllReadyH.cons rfl (fun K' hK => ?_) AllReadyH.nil
      go_simp
      refine (HR.out Ao co wo HDo.out (HT1.out.below (hb0.trans (Bo.mono hb0.size)))).mono ?_
      rintro e4 wc ⟨rfl, hbc⟩
      have Bc : Below wz.heap.size wz wc := Bo.trans (hbc.mono Bo.size)
      have HRc := Lib.hid (HRo.out.below hbc HRo.out.lt)
      refine hK.out _ _ (KP.out _ Bc) (fun hHeld4 => ?_)
      clear hK
      (try simp only [Act.put, List.setIfInBounds_toArray, List.set_cons_zero, List.set_cons_succ])
      refine takeD (i := 5) (some 15) (.tuple #[.agg (bcells R), .int .i64 E]) rfl rfl (by kernel_rfl) (by kernel_rfl) (by kernel_rfl) (fun _ _ _ h => h) (Or.inl ⟨by rfl, fun _ _ => rfl⟩) hHeld4 ?_
      simp only [Act.put, List.setIfInBounds_toArray, List.set_cons_zero, List.set_cons_succ]
      refine takeD (i := 6) (some 21) (.agg (bcells R)) rfl rfl (by kernel_rfl) (by kernel_rfl) (by kernel_rfl) (fun _ _ _ h => h) (Or.inl ⟨by rfl, fun _ _ => rfl⟩) hHeld4 ?_
      simp only [Act.put, List.setIfInBounds_toArray, List.set_cons_zero, List.set_cons_succ]
      refine takeD (i := 7) (some 22) (.int .i64 E) rfl rfl (by kernel_rfl) (by kernel_rfl) (by kernel_rfl) (fun _ _ _ h => h) (Or.inl ⟨by rfl, fun _ _ => rfl⟩) hHeld4 ?_
      simp only [Act.put, List.setIfInBounds_toArray, List.set_cons_zero, List.set_cons_succ]
      refine wpAnyH_ready (rs := [9]) (by kernel_rfl) (by decide) ?_
      refine AllReadyH.cons rfl (fun K' hK => ?_) AllReadyH.nil
      refine step_store_row Tryd.agg25 rfl (.tmp 7) (.tmp 21) rfl _ _ rfl rfl 24 lit32 HRc.out HRS.out lit32_size (bcells_one _) ?_
      intro w9 hr9 ho9
      have B9 : Below wz.heap.size wz w9 := Bc.trans (ho9.below hge Bc.size)
      refine hK.out _ _ (KP.out _ B9) (fun hHeld9 => ?_)
      clear hK
      (try simp only [Act.put, List.setIfInBounds_toArray])
      refine takeD (i := 10) (some 8) (.int .i64 E) rfl rfl (by kernel_rfl) (by kernel_rfl) (by kernel_rfl) (fun _ _ _ h => h) (Or.inl ⟨by rfl, fun _ _ => rfl⟩) hHeld9 ?_
      (try simp only [Act.put])
      refine wpAnyH_done (by kernel_rfl) ?_ _
      refine NoPanic.normal ?_
      exact ⟨rfl, g, Ao, co, rfl, hr9, B9⟩
  rintro a' w4 ⟨g7, Ao, co, rfl, hr4, hb4⟩
  have HC4 := Lib.hid hr4
  have hb4' := hb0.trans (hb4.mono hb0.size)
  have HA4 := Lib.hid (HA0.out.below hb4 HA0.out.lt)
  clear hr4
  simp only [Act.put, List.setIfInBounds_toArray, List.set_cons_zero, List.set_cons_succ]
  go_wp2_with (first
    | (with_reducible refine wpList_load_row Tryd.agg25 rfl (.tmp 3) rfl _ rfl 24 _ HA4.out HKS.out ?_)
    | (go_at_call 19; refine (HQ.out w4 (HD.out.below hb4') (HF.out.below hb4') (HT2.out.below hb4')).mono ?_; rintro e5 w5 ⟨rfl, hb5⟩; have hb5' := hb4'.trans (hb5.mono hb4'.size); have HC5 := Lib.hid (HC4.out.below hb5 HC4.out.lt); have hlt5 := HC5.out.lt)
    | (with_reducible refine wpList_store_row Tryd.agg25 rfl (.tmp 9) (.tmp 28) rfl _ _ rfl rfl 24 lit32 (Row.new w5 24 lit32) HRS.out lit32_size (bcells_one _) ?_; intro w6 hr6 ho6; have HE6 := Lib.hid hr6; have b6 : Below w5.heap.size w5 w6 := ((Below.refl _ _).alloc (Nat.le_refl _) _).trans (ho6.below (Nat.le_refl _) (by simp)); have hb6' := hb5'.trans (b6.mono hb5'.size); have HC6 := Lib.hid (HC5.out.below b6 hlt5); clear hr6)
    | (with_reducible refine wpList_load_row Tryd.agg25 rfl (.tmp 7) rfl _ rfl 24 _ HC6.out HRS.out ?_)
    | (with_reducible refine wpList_load_row Tryd.agg25 rfl (.tmp 9) rfl _ rfl 24 _ HE6.out HRS.out ?_)
    | (go_at_call 9; refine (awake_any _ (HT1.out.below hb6')).mono ?_; rintro e9 w9 ⟨rfl, hb9⟩; have hb9' := hb6'.trans (hb9.mono hb6'.size)))
  go_ret
  exact ⟨rfl, hb9'⟩
set_option maxRecDepth 100000 in
set_option maxHeartbeats 1000000 in
theorem walk (w : World) (s0 : List UInt8) (w0 : s0.length = 32) (a1 : Int) (w1 : (Lit.int .i64 a1).wf = true) (a2 : Option Addr) (len2 cap2 : Nat) (l2 : List (List UInt8)) (w2 : Ds w a2 len2 l2) (_s2 : len2 ≤ cap2) (hT : First w ∧ Tab 2 w ∧ Tab 1 w) :
    Calls Tryd.prog 5 #[.agg (bcells s0), .int .i64 a1, .slice a2 len2 cap2] w fun e w' => e = .returned (.bool true) ∧ Below w.heap.size w w' := by
  by_cases h200 : len2 ≤ 200
  · exact walk_in w s0 w0 a1 w1 a2 len2 cap2 l2 w2 h200 hT
  · have i0 : 200 < (len2 : Int) := by omega
    have HT1 := Lib.hid hT.2.2
    have hb0 := (Below.refl w.heap.size w).alloc (Nat.le_refl _) (.cells (bcells s0) 24)
    clear w0 hT w1 w2
    go_enter Tryd.func5, Tryd.ntmps5
    go_wp2_with (go_at_call 9; refine (awake_any _ (HT1.out.below hb0)).mono ?_; rintro e4 w4 ⟨rfl, hb4⟩)
    go_ret
    exact ⟨rfl, hb0.trans (hb4.mono hb0.size)⟩

set_option maxRecDepth 100000 in
theorem lifted (os : Os) (started : os.Started) (H : Type) (enc : TypeId × Value → H) :
    ReturnsInHanded {} Tryd.checked os 5 .any (fun w args => (Rows.treeClimbsSpec.pre enc Tryd.prog Tryd.f5 Rows.treeClimbsRow.domain false w args ∧ laidMetH Tryd.prog lay3 w) ∧ sizedMet enc Tryd.prog Tryd.f5 (OpenSpec.ofChange Rows.treeClimbsSpec) false w args)
      (Rows.treeClimbsSpec.post enc Tryd.prog Tryd.f5 false true false false) := by
  refine returnsInHanded_of_change_and (C := Tryd.checked) (X := fun w _ => laidMetH Tryd.prog lay3 w) (fun _ _ _ hh h => h.of_heap hh) own started (by kernel_rfl) Tryd.func5
    (ChangeSpec.witness_shaped (enc := enc) (C := Tryd.checked) (os := os) (X := fun w _ => laidMetH Tryd.prog lay3 w) false (World.laidAll Tryd.prog os lay3) #[.agg #[.int .u8 0, .int .u8 0, .int .u8 0, .int .u8 0, .int .u8 0, .int .u8 0, .int .u8 0, .int .u8 0, .int .u8 0, .int .u8 0, .int .u8 0, .int .u8 0, .int .u8 0, .int .u8 0, .int .u8 0, .int .u8 0, .int .u8 0, .int .u8 0, .int .u8 0, .int .u8 0, .int .u8 0, .int .u8 0, .int .u8 0, .int .u8 0, .int .u8 0, .int .u8 0, .int .u8 0, .int .u8 0, .int .u8 0, .int .u8 0, .int .u8 0, .int .u8 0], .int .i64 0, .slice none 0 0] 8 rfl (World.shaped_of_ZipB (by kernel_rfl) (by kernel_rfl)) (by kernel_rfl) (by kernel_rfl) (by kernel_rfl) (met3 os _)) ?_
  intro W base args ds gs before hval0 hW hcnd hsz0 hL _
  have hval : ∀ (j : Nat) t v, Tryd.f5.params[j]? = some t → args[j]? = some v → Value.okWide Tryd.prog W .any base t v := hval0
  have hW' := hW
  obtain ⟨p, q, hA0, hV, rfl, hfz, hnd⟩ := hW
  have hA : DataW.TrodAll enc Tryd.prog W 0 (fun _ => true) true Tryd.f5.params.toList args.toList ds p := hA0
  have hsz : (DataW.weightsEach Tryd.prog (Tryd.f5.params.toList ++ Rows.treeClimbsSpec.plain.varTypes Tryd.prog) (ds ++ gs)).all (· ≤ reachBytes) = true := hsz0
  rw [Tryd.params5] at hA hval hsz
  obtain ⟨v0, vs0, d0, ds0, p0, q0, hargs, rfl, rfl, h0, r0⟩ := trodAll_cons hA
  obtain ⟨v1, vs1, d1, ds1, p1, q1, rfl, rfl, rfl, h1, r1⟩ := trodAll_cons r0
  obtain ⟨v2, vs2, d2, ds2, p2, q2, rfl, rfl, rfl, h2, r2⟩ := trodAll_cons r1
  obtain ⟨rfl, rfl, rfl⟩ := trodAll_nil r2
  obtain rfl : args = #[v0, v1, v2] := by cases args; simp_all
  obtain ⟨rfl, rfl⟩ := trodVars_none hV
  have k0 := h0
  have lt0 : ∀ x ∈ p0, x.block < W.heap.size := by obtain ⟨m, hm⟩ := k0; exact DataW.trod_lt m _ _ _ hm
  obtain ⟨s0, w0, rfl⟩ : ∃ s : List UInt8, s.length = 32 ∧ v0 = .agg (bcells s) := open_digest (hval 0 24 v0 rfl rfl) h0
  obtain ⟨a1, rfl, rfl, rfl, w1⟩ := open_int Tryd.underlying3 (hval 1 3 v1 rfl rfl) h1
  have k2 := h2
  have lt2 : ∀ x ∈ p2, x.block < W.heap.size := by obtain ⟨m, hm⟩ := k2; exact DataW.trod_lt m _ _ _ hm
  obtain ⟨a2, len2, cap2, l2, rfl, w2, s2⟩ := open_ds (hval 2 22 v2 rfl rfl) h2
  have hTab := of_lay3 hL
  clear hA0 hval0
  refine (walk W s0 w0 a1 w1 a2 len2 cap2 l2 w2 s2 hTab).mono fun e W' ⟨he, bel⟩ => ?_
  subst he
  exact ⟨_, rfl, _, _, _, [], _, [], hW', trodAll_mk1 (shut_bool Tryd.underlying4 _), (trodAll_cons_mk (Below.trod laidOut (by kernel_rfl) (of_decide_eq_true (by kernel_rfl)) k0 bel lt0) (trodAll_cons_mk (shut_int Tryd.underlying3 w1) (trodAll_cons_mk (Below.trod laidOut (by kernel_rfl) (of_decide_eq_true (by kernel_rfl)) k2 bel lt2) trodAll_mk0))), rfl, bel.frame _, fun h => by cases h⟩
theorem over : Rows.treeClimbsRow.holds Tryd.pinned (OpenSpec.ofChange Rows.treeClimbsSpec) :=
  OpenClaim.holds_of_wide 5 Tryd.f5 rfl rfl rfl rfl rfl rfl rfl ⟨rfl, rfl, rfl, rfl, rfl⟩ rfl rfl rfl rfl rfl (by kernel_rfl) Tryd.func5 (by kernel_rfl)
    (of_decide_eq_true (by kernel_rfl)) (by unfold Func.isWrapper; first | (rw [if_pos (by decide +kernel)]; kernel_rfl) | (rw [if_neg (by decide +kernel)]; exact ⟨rfl, rfl⟩))
    (fun os started H enc _ => lifted os started H enc)
theorem treeClimbs_holds : Rows.TreeClimbsCardSaid :=
  Claim7.holds_tied_plain_at .later [] [.data, .data, .data] true (true, "88038e2d516bc315e4e17de3119a76fa62516c6ce152f586382fba84026f3fa9") false
    over (fun _ h => by cases h) (by kernel_rfl) (fun _ h => by cases h) treeClimbs_row_tie rfl ⟨rfl, rfl⟩ (by kernel_rfl) rfl
    (fun f fn hf hfn => by
      obtain rfl : f = 5 := Option.some.inj ((show Tryd.prog.funcNamed "jurat/juratlaw06.TreeClimbs" = some 5 by kernel_rfl).symm.trans hf) |>.symm
      obtain rfl : fn = Tryd.f5 := (Option.some.inj (Tryd.func5.symm.trans hfn)).symm
      exact ⟨by kernel_rfl, fun j t ht => by
        rw [Tryd.params5] at ht
        have hm : t ∈ [24, 3, 22] := by simpa using Array.mem_of_getElem? ht
        have hall : ([24, 3, 22].all fun u => !Tryd.prog.wantsStandIn u) = true := by kernel_rfl
        exact (show Tryd.prog.wantsStandIn t = false by simpa using List.all_eq_true.1 hall t hm)⟩)
    (by kernel_rfl)
#print axioms treeClimbs_holds
end Go.Proofs.YtiidcnjhjojhoaaDoor.treeClimbs
