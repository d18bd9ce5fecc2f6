/-
  OtsTells, whole, as the tied card (Rows.OtsTellsCardSaid): for every root, number of bits, text of up to 500 bytes and up to 600 digests ots.Verify tells true just if the document's own Recover answers that root, also where the root is the one to which they lead; what is signed is verified, and another root isn't. Conditions: the tables sha.constants, juratref02.constants and juratref02.first read as their initialisers lay them (tied to the program's text).
-/
import Derived.Test.YtghihgmgadaoeaaDoorRows
import Derived.Test.YtghihgmgadaoeaaDoorCards
import Derived.Test.YtghihgmgadaoeaaDoorTie
import Derived.WalkKit
import Derived.ProofKit
import Derived.OpenShut
import Derived.ChangeMaps5
import Derived.ShutString
import Derived.ChangeOld
import Derived.Below
import Derived.SizedLaws
import Derived.SevenTiedAt
import Derived.Lay
import Derived.LaidLaws
import Derived.Test.YtghihgmgadaoeaaDoorAlive
import Derived.Test.YtghihgmgadaoeaaDoorRSame
import Derived.Test.YtghihgmgadaoeaaDoorOpens
import Derived.Test.YtghihgmgadaoeaaDoorExt
namespace Go.Proofs.YtghihgmgadaoeaaDoor.otsTells
open Go.ChangeShapes Go.WideShapes Go.ChangeAt Go.RowKit
open Go.ChangeMaps (open_string shut_string)
set_option linter.unusedVariables false
theorem own : ownKnob Tryd.prog.godebug = none := by kernel_rfl
theorem laidOut : laidOutB Tryd.prog = true := by kernel_rfl
set_option maxRecDepth 100000 in
set_option maxHeartbeats 2000000 in
theorem walk_led_ok (w : World) (s0 : List UInt8) (w0 : s0.length = 32) (a1 : Int) (a2 : Option Addr) (len2 cap2 : Nat) (l2 : List UInt8) (w2 : Bs w a2 len2 l2) (s2 : len2 ≤ cap2) (a3 : Option Addr) (len3 cap3 : Nat) (l3 : List (List UInt8)) (w3 : Ds w a3 len3 l3) (h500 : len2 ≤ 500) (h600 : len3 ≤ 600) (hT : First w ∧ Tab 1 w ∧ Tab 2 w) (hE : errR a1 l3.length = 0) :
    Calls Tryd.prog 6 #[.agg (bcells s0), .int .i64 a1, .slice a2 len2 cap2, .slice a3 len3 cap3, .bool true] w fun e w' => e = .returned (.bool true) ∧ Below w.heap.size w w' := by
  have hb0 := (Below.refl w.heap.size w).alloc (Nat.le_refl _) (.cells (bcells s0) 23)
  have HF := Lib.hid hT.1
  have HT1 := Lib.hid hT.2.1
  have HT2 := Lib.hid hT.2.2
  have i0 : ¬ 500 < (len2 : Int) := by omega
  have i1 : ¬ 600 < (len3 : Int) := by omega
  have HKS := Lib.hid (show (bcells s0).size = 32 by rw [bcells_size, w0])
  have HSL0 := Lib.hid w0
  have HRR := Lib.hid (fun w hB hD hF hT => RefRecover_any a1 a2 a3 len2 cap2 len3 cap3 l2 l3 w hB s2 (by omega) hD hF hT)
  have HDS := Lib.hid (show (bcells (recI a1 (sumL l2) l3)).size = 32 by rw [bcells_size, recI_length])
  have HDL := Lib.hid (recI_length a1 (sumL l2) l3)
  have HV := Lib.hid (fun r A n c B d w hr hB hc hn hD hT => show Calls Tryd.prog 21 #[.agg (bcells r), .int .i64 a1, .slice A n c, .slice B len3 d] w fun e w' => e = .returned (.bool (decide (errR a1 l3.length = 0) && decide (recI a1 (sumL l2) l3 = r))) ∧ Below w.heap.size w w' from Verify_any r a1 A B n c len3 d l2 l3 w hr hB hc hn hD hT)
  have HB := Lib.hid w2
  have HLN := Lib.hid w2.1
  have HD := Lib.hid w3
  generalize recI a1 (sumL l2) l3 = D at *
  generalize errR a1 l3.length = E at *
  subst hE
  have hE0 : ((0 : Int) == 0) = true := rfl
  have HW : Hid (∀ A n c B d w, Bs w A n l2 → n ≤ c → n ≤ 1000000 → Ds w B len3 l3 → Tab 2 w → Calls Tryd.prog 21 #[.agg (bcells D), .int .i64 a1, .slice A n c, .slice B len3 d] w fun e w' => e = .returned (.bool true) ∧ Below w.heap.size w w') := Lib.hid (fun A n c B d w hB hc hn hD hT => by
    have h := HV.out D A n c B d w HDL.out hB hc hn hD hT
    have e : (decide ((0 : Int) = 0) && decide (D = D)) = true := by simp
    rw [e] at h
    exact h)
  clear HV
  clear w2 w3 hT w0
  go_enter Tryd.func6, Tryd.ntmps6
  go_wp2_with (first
    | (go_at_call 19; refine (HRR.out _ (HB.out.below hb0) (HD.out.below hb0) (HF.out.below hb0) (HT1.out.below hb0)).mono ?_; rintro e1 w1 ⟨rfl, hb1⟩; have hs1 := hb1.size; simp at hs1; have HR1 := Lib.hid ((Row.new w 23 (bcells s0)).below hb1 (by simp)); have hb1' := hb0.trans (hb1.mono (by simp)))
    | (with_reducible refine wpList_store_row Tryd.agg25 rfl (.tmp 11) (.tmp 27) rfl _ _ rfl rfl 23 lit32 (Row.new w1 23 lit32) HDS.out lit32_size (bcells_one _) ?_; intro w2 hr2 ho2; have HG2 := Lib.hid hr2; have hs2 := ho2.size; simp at hs2; have HR2 := Lib.hid ((HR1.out.alloc (.cells lit32 23)).only ho2 (by omega)); have hb2' := (hb1'.alloc hb1'.size (.cells lit32 23)).trans (ho2.below (B := w.heap.size) (by omega) (by simp; omega)); clear hr2)
    | (with_reducible refine wpList_load_row Tryd.agg25 rfl (.tmp 11) rfl _ rfl 23 _ HG2.out HDS.out ?_)
    | (with_reducible refine wpList_store_row Tryd.agg25 rfl (.tmp 5) (.tmp 30) rfl _ _ rfl rfl 23 _ HR2.out HDS.out HKS.out (bcells_one _) ?_; intro w3 hr3 ho3; have HX5 := Lib.hid hr3; have hs3 := ho3.size; have HX11 := Lib.hid (HG2.out.only ho3 (by omega)); have hb3' := hb2'.trans (ho3.below (B := w.heap.size) (Nat.le_refl _) hb2'.size); clear hr3))
  have hltA : w.heap.size < w3.heap.size := HX5.out.lt
  have hltB : w1.heap.size < w3.heap.size := HX11.out.lt
  have K0 := Lib.hid (show w3.drew.rangeAt w.heap.size 0 (D.map bcell) ∧ w3.drew.rangeAt w1.heap.size 0 (D.map bcell) from ⟨range_row (HX5.out.below ((Below.refl _ _).drew) hltA), range_row (HX11.out.below ((Below.refl _ _).drew) hltB)⟩)
  have HBW := Lib.hid (HB.out.below hb3')
  have HDW := Lib.hid (HD.out.below hb3')
  have HTW := Lib.hid (HT2.out.below hb3')
  refine wp_region_noPanic ?_
  refine wp_region_held_drew (S := fun w' => w'.rangeAt w.heap.size 0 (D.map bcell) ∧ w'.rangeAt w1.heap.size 0 (D.map bcell)) (by kernel_rfl) K0.out (fun hHeld => ?_)
  refine takeD (i := 0) (some 31) (.agg (bcells D)) rfl rfl (by kernel_rfl) (by kernel_rfl) (by kernel_rfl) (fun _ _ _ h => h) (yields_loadD rfl (.tmp 5) rfl _ 0 D rfl (fun _ h => h.1) HDL.out) hHeld ?_
  simp only [Act.put, List.setIfInBounds_toArray, List.set_cons_zero, List.set_cons_succ]
  refine takeD (i := 1) (some 32) (.int .i64 a1) rfl rfl (by kernel_rfl) (by kernel_rfl) (by kernel_rfl) (fun _ _ _ h => h) (Or.inl ⟨by rfl, fun _ _ => rfl⟩) hHeld ?_
  simp only [Act.put, List.setIfInBounds_toArray, List.set_cons_zero, List.set_cons_succ]
  refine takeD (i := 2) (some 33) (.slice a2 len2 cap2) rfl rfl (by kernel_rfl) (by kernel_rfl) (by kernel_rfl) (fun _ _ _ h => h) (Or.inl ⟨by rfl, fun _ _ => rfl⟩) hHeld ?_
  simp only [Act.put, List.setIfInBounds_toArray, List.set_cons_zero, List.set_cons_succ]
  refine takeD (i := 5) (some 36) (.slice a3 len3 cap3) rfl rfl (by kernel_rfl) (by kernel_rfl) (by kernel_rfl) (fun _ _ _ h => h) (Or.inl ⟨by rfl, fun _ _ => rfl⟩) hHeld ?_
  simp only [Act.put, List.setIfInBounds_toArray, List.set_cons_zero, List.set_cons_succ]
  refine takeD (i := 8) (some 39) (.int .i64 0) rfl rfl (by kernel_rfl) (by kernel_rfl) (by kernel_rfl) (fun _ _ _ h => h) (Or.inl ⟨by rfl, fun _ _ => rfl⟩) hHeld ?_
  simp only [Act.put, List.setIfInBounds_toArray, List.set_cons_zero, List.set_cons_succ]
  refine takeD (i := 9) (some 40) (.bool true) rfl rfl (by kernel_rfl) (by kernel_rfl) (by kernel_rfl) (fun _ _ _ h => h) (yields_eqI rfl (.tmp 39) (.const (.int .i64 0)) rfl 0 0 true rfl rfl hE0) hHeld ?_
  simp only [Act.put, List.setIfInBounds_toArray, List.set_cons_zero, List.set_cons_succ]
  have D0 : Below w3.heap.size w3 w3.drew := (Below.refl w3.heap.size w3).drew
  refine wpAnyH_ready (rs := [3, 4]) (by kernel_rfl) (by decide) ?_
  refine AllReadyH.cons rfl (fun K' hK => ?_) (AllReadyH.cons rfl (fun K' hK => ?_) AllReadyH.nil)
  · go_simp
    refine (own_any a2 len2 cap2 l2 w3.drew (HBW.out.below D0) (by omega)).mono ?_
    rintro e3 wo ⟨Ao, no, co, rfl, hBo, hco, hbo, -⟩
    have hno : no ≤ 1000000 := by rw [← hBo.1, HLN.out]; omega
    have Bo : Below w3.heap.size w3 wo := D0.trans (hbo.mono D0.size)
    have HBo := Lib.hid hBo
    clear hBo
    refine hK.out _ _ ⟨range_row (HX5.out.below Bo hltA), range_row (HX11.out.below Bo hltB)⟩ (fun hHeldo => ?_)
    clear hK
    refine wpAnyH_ready (rs := [4]) (by kernel_rfl) (by decide) ?_
    refine AllReadyH.cons rfl (fun K' hK => ?_) AllReadyH.nil
    refine step_of rfl (wp_emptyD rfl ?_)
    intro g wx hg hgx hoE hbx
    have BX : Below w3.heap.size w3 wx := Bo.trans (hbx.mono Bo.size)
    have HAp := Lib.hid (HBo.out.apart (show wo.heap.size ≤ g by omega))
    have hge : w3.heap.size ≤ g := by have := Bo.size; omega
    have HBx := Lib.hid (HBo.out.below hbx)
    have HOE := Lib.hid hoE
    have hba := hbx.size
    clear hg hoE
    refine hK.out _ _ ⟨range_row (HX5.out.below BX hltA), range_row (HX11.out.below BX hltB)⟩ (fun hHeldx => ?_)
    clear hK
    refine wpAnyH_ready (rs := [6]) (by kernel_rfl) (by decide) ?_
    refine AllReadyH.cons rfl (fun K' hK => ?_) AllReadyH.nil
    refine step_of rfl (wp_appDO (.tmp 35) (.tmp 36) rfl wo.heap.size g 0 rfl HOE.out a3 len3 cap3 l3 rfl (HDW.out.below BX) (by omega) hba ?_)
    intro A6 c6 w6 hd6 ho6
    have B6 : Below w3.heap.size w3 w6 := BX.trans (ho6.below (B := w3.heap.size) hge BX.size)
    have HB6 := Lib.hid (HBx.out.only HAp.out ho6)
    have HD6 := Lib.hid hd6
    clear hd6
    refine hK.out _ _ ⟨range_row (HX5.out.below B6 hltA), range_row (HX11.out.below B6 hltB)⟩ (fun hHeld6 => ?_)
    clear hK
    refine wpAnyH_ready (rs := [7]) (by kernel_rfl) (by decide) ?_
    refine AllReadyH.cons rfl (fun K' hK => ?_) AllReadyH.nil
    go_simp
    refine (HW.out Ao no co A6 c6 w6 HB6.out hco hno HD6.out (HTW.out.below B6)).mono ?_
    rintro e7 w7 ⟨rfl, hb7⟩
    have B7 : Below w3.heap.size w3 w7 := B6.trans (hb7.mono B6.size)
    refine hK.out _ _ ⟨range_row (HX5.out.below B7 hltA), range_row (HX11.out.below B7 hltB)⟩ (fun hHeld7 => ?_)
    clear hK
    (try simp only [Act.put, List.setIfInBounds_toArray, List.set_cons_zero, List.set_cons_succ])
    refine takeD (i := 10) (some 41) (.bool true) rfl rfl (by kernel_rfl) (by kernel_rfl) (by kernel_rfl) (fun _ _ _ h => h) (Or.inl ⟨by rfl, fun _ _ => rfl⟩) hHeld7 ?_
    simp only [Act.put, List.setIfInBounds_toArray, List.set_cons_zero, List.set_cons_succ]
    refine takeD (i := 11) (some 42) (.agg (bcells D)) rfl rfl (by kernel_rfl) (by kernel_rfl) (by kernel_rfl) (fun _ _ _ h => h) (yields_loadW (by rfl) (.tmp 11) rfl _ 0 D rfl (fun _ h => h.2) HDL.out) hHeld7 ?_
    simp only [Act.put, List.setIfInBounds_toArray, List.set_cons_zero, List.set_cons_succ]
    refine takeD (i := 12) (some 43) (.agg (bcells D)) rfl rfl (by kernel_rfl) (by kernel_rfl) (by kernel_rfl) (fun _ _ _ h => h) (yields_loadW (by rfl) (.tmp 5) rfl _ 0 D rfl (fun _ h => h.1) HDL.out) hHeld7 ?_
    simp only [Act.put, List.setIfInBounds_toArray, List.set_cons_zero, List.set_cons_succ]
    refine takeD (i := 13) (some 44) (.bool true) rfl rfl (by kernel_rfl) (by kernel_rfl) (by kernel_rfl) (fun _ _ _ h => h) (yields_eqlW (by rfl) (.tmp 42) (.tmp 43) rfl D D true rfl rfl HDL.out HDL.out (by simp)) hHeld7 ?_
    simp only [Act.put, List.setIfInBounds_toArray, List.set_cons_zero, List.set_cons_succ]
    refine takeD (i := 14) (some 45) (.bool true) rfl rfl (by kernel_rfl) (by kernel_rfl) (by kernel_rfl) (fun _ _ _ h => h) (Or.inl ⟨by rfl, fun _ _ => rfl⟩) hHeld7 ?_
    simp only [Act.put, List.setIfInBounds_toArray, List.set_cons_zero, List.set_cons_succ]
    refine takeD (i := 15) (some 46) (.bool true) rfl rfl (by kernel_rfl) (by kernel_rfl) (by kernel_rfl) (fun _ _ _ h => h) (yields_eqB rfl (.tmp 38) (.tmp 45) rfl true rfl rfl) hHeld7 ?_
    simp only [Act.put, List.setIfInBounds_toArray, List.set_cons_zero, List.set_cons_succ]
    refine takeD (i := 16) (some 47) (.bool true) rfl rfl (by kernel_rfl) (by kernel_rfl) (by kernel_rfl) (fun _ _ _ h => h) (Or.inl ⟨by rfl, fun _ _ => rfl⟩) hHeld7 ?_
    simp only [Act.put, List.setIfInBounds_toArray, List.set_cons_zero, List.set_cons_succ]
    refine wpAnyH_ready (rs := [17]) (by kernel_rfl) (by decide) ?_
    refine AllReadyH.cons rfl (fun K' hK => ?_) AllReadyH.nil
    go_simp
    refine (awake_any w7 (HTW.out.below B7)).mono ?_
    rintro e8 w8 ⟨rfl, hb8⟩
    have B8 : Below w3.heap.size w3 w8 := B7.trans (hb8.mono B7.size)
    refine hK.out _ _ ⟨range_row (HX5.out.below B8 hltA), range_row (HX11.out.below B8 hltB)⟩ (fun hHeld8 => ?_)
    clear hK
    (try simp only [Act.put, List.setIfInBounds_toArray, List.set_cons_zero, List.set_cons_succ])
    refine takeD (i := 18) (some 49) (.bool true) rfl rfl (by kernel_rfl) (by kernel_rfl) (by kernel_rfl) (fun _ _ _ h => h) (Or.inl ⟨by rfl, fun _ _ => rfl⟩) hHeld8 ?_
    simp only [Act.put, List.setIfInBounds_toArray, List.set_cons_zero, List.set_cons_succ]
    refine takeD (i := 19) (some 10) (.bool true) rfl rfl (by kernel_rfl) (by kernel_rfl) (by kernel_rfl) (fun _ _ _ h => h) (Or.inl ⟨by rfl, fun _ _ => rfl⟩) hHeld8 ?_
    simp only [Act.put, List.setIfInBounds_toArray, List.set_cons_zero, List.set_cons_succ]
    (try simp only [Act.put, List.setIfInBounds_toArray])
    refine wpAnyH_done (by kernel_rfl) ?_ _
    refine NoPanic.normal ?_
    go_wp2_with fail
    go_ret
    exact ⟨rfl, hb3'.trans (B8.mono hb3'.size)⟩
  · refine step_of rfl (wp_emptyD rfl ?_)
    intro g we hg hgx hoE hbe
    have BE : Below w3.heap.size w3 we := D0.trans (hbe.mono D0.size)
    have hge : w3.heap.size ≤ g := by have := D0.size; omega
    clear hg
    refine hK.out _ _ ⟨range_row (HX5.out.below BE hltA), range_row (HX11.out.below BE hltB)⟩ (fun hHeldo => ?_)
    clear hK
    refine wpAnyH_ready (rs := [3]) (by kernel_rfl) (by decide) ?_
    refine AllReadyH.cons rfl (fun K' hK => ?_) AllReadyH.nil
    go_simp
    refine (own_any a2 len2 cap2 l2 we (HBW.out.below BE) (by omega)).mono ?_
    rintro e3 wx ⟨Ao, no, co, rfl, hBo, hco, hbo, hoo⟩
    have hno : no ≤ 1000000 := by rw [← hBo.1, HLN.out]; omega
    have BX : Below w3.heap.size w3 wx := BE.trans (hbo.mono BE.size)
    have HBx := Lib.hid hBo
    have HAp := Lib.hid (own_apart hoo hgx)
    have HOE := Lib.hid (hoE.below hbo)
    have hba : w3.drew.heap.size ≤ wx.heap.size := BX.size
    clear hBo hoo hoE
    refine hK.out _ _ ⟨range_row (HX5.out.below BX hltA), range_row (HX11.out.below BX hltB)⟩ (fun hHeldx => ?_)
    clear hK
    refine wpAnyH_ready (rs := [6]) (by kernel_rfl) (by decide) ?_
    refine AllReadyH.cons rfl (fun K' hK => ?_) AllReadyH.nil
    refine step_of rfl (wp_appDO (.tmp 35) (.tmp 36) rfl w3.drew.heap.size g 0 rfl HOE.out a3 len3 cap3 l3 rfl (HDW.out.below BX) (by omega) hba ?_)
    intro A6 c6 w6 hd6 ho6
    have B6 : Below w3.heap.size w3 w6 := BX.trans (ho6.below (B := w3.heap.size) hge BX.size)
    have HB6 := Lib.hid (HBx.out.only HAp.out ho6)
    have HD6 := Lib.hid hd6
    clear hd6
    refine hK.out _ _ ⟨range_row (HX5.out.below B6 hltA), range_row (HX11.out.below B6 hltB)⟩ (fun hHeld6 => ?_)
    clear hK
    refine wpAnyH_ready (rs := [7]) (by kernel_rfl) (by decide) ?_
    refine AllReadyH.cons rfl (fun K' hK => ?_) AllReadyH.nil
    go_simp
    refine (HW.out Ao no co A6 c6 w6 HB6.out hco hno HD6.out (HTW.out.below B6)).mono ?_
    rintro e7 w7 ⟨rfl, hb7⟩
    have B7 : Below w3.heap.size w3 w7 := B6.trans (hb7.mono B6.size)
    refine hK.out _ _ ⟨range_row (HX5.out.below B7 hltA), range_row (HX11.out.below B7 hltB)⟩ (fun hHeld7 => ?_)
    clear hK
    (try simp only [Act.put, List.setIfInBounds_toArray, List.set_cons_zero, List.set_cons_succ])
    refine takeD (i := 10) (some 41) (.bool true) rfl rfl (by kernel_rfl) (by kernel_rfl) (by kernel_rfl) (fun _ _ _ h => h) (Or.inl ⟨by rfl, fun _ _ => rfl⟩) hHeld7 ?_
    simp only [Act.put, List.setIfInBounds_toArray, List.set_cons_zero, List.set_cons_succ]
    refine takeD (i := 11) (some 42) (.agg (bcells D)) rfl rfl (by kernel_rfl) (by kernel_rfl) (by kernel_rfl) (fun _ _ _ h => h) (yields_loadW (by rfl) (.tmp 11) rfl _ 0 D rfl (fun _ h => h.2) HDL.out) hHeld7 ?_
    simp only [Act.put, List.setIfInBounds_toArray, List.set_cons_zero, List.set_cons_succ]
    refine takeD (i := 12) (some 43) (.agg (bcells D)) rfl rfl (by kernel_rfl) (by kernel_rfl) (by kernel_rfl) (fun _ _ _ h => h) (yields_loadW (by rfl) (.tmp 5) rfl _ 0 D rfl (fun _ h => h.1) HDL.out) hHeld7 ?_
    simp only [Act.put, List.setIfInBounds_toArray, List.set_cons_zero, List.set_cons_succ]
    refine takeD (i := 13) (some 44) (.bool true) rfl rfl (by kernel_rfl) (by kernel_rfl) (by kernel_rfl) (fun _ _ _ h => h) (yields_eqlW (by rfl) (.tmp 42) (.tmp 43) rfl D D true rfl rfl HDL.out HDL.out (by simp)) hHeld7 ?_
    simp only [Act.put, List.setIfInBounds_toArray, List.set_cons_zero, List.set_cons_succ]
    refine takeD (i := 14) (some 45) (.bool true) rfl rfl (by kernel_rfl) (by kernel_rfl) (by kernel_rfl) (fun _ _ _ h => h) (Or.inl ⟨by rfl, fun _ _ => rfl⟩) hHeld7 ?_
    simp only [Act.put, List.setIfInBounds_toArray, List.set_cons_zero, List.set_cons_succ]
    refine takeD (i := 15) (some 46) (.bool true) rfl rfl (by kernel_rfl) (by kernel_rfl) (by kernel_rfl) (fun _ _ _ h => h) (yields_eqB rfl (.tmp 38) (.tmp 45) rfl true rfl rfl) hHeld7 ?_
    simp only [Act.put, List.setIfInBounds_toArray, List.set_cons_zero, List.set_cons_succ]
    refine takeD (i := 16) (some 47) (.bool true) rfl rfl (by kernel_rfl) (by kernel_rfl) (by kernel_rfl) (fun _ _ _ h => h) (Or.inl ⟨by rfl, fun _ _ => rfl⟩) hHeld7 ?_
    simp only [Act.put, List.setIfInBounds_toArray, List.set_cons_zero, List.set_cons_succ]
    refine wpAnyH_ready (rs := [17]) (by kernel_rfl) (by decide) ?_
    refine AllReadyH.cons rfl (fun K' hK => ?_) AllReadyH.nil
    go_simp
    refine (awake_any w7 (HTW.out.below B7)).mono ?_
    rintro e8 w8 ⟨rfl, hb8⟩
    have B8 : Below w3.heap.size w3 w8 := B7.trans (hb8.mono B7.size)
    refine hK.out _ _ ⟨range_row (HX5.out.below B8 hltA), range_row (HX11.out.below B8 hltB)⟩ (fun hHeld8 => ?_)
    clear hK
    (try simp only [Act.put, List.setIfInBounds_toArray, List.set_cons_zero, List.set_cons_succ])
    refine takeD (i := 18) (some 49) (.bool true) rfl rfl (by kernel_rfl) (by kernel_rfl) (by kernel_rfl) (fun _ _ _ h => h) (Or.inl ⟨by rfl, fun _ _ => rfl⟩) hHeld8 ?_
    simp only [Act.put, List.setIfInBounds_toArray, List.set_cons_zero, List.set_cons_succ]
    refine takeD (i := 19) (some 10) (.bool true) rfl rfl (by kernel_rfl) (by kernel_rfl) (by kernel_rfl) (fun _ _ _ h => h) (Or.inl ⟨by rfl, fun _ _ => rfl⟩) hHeld8 ?_
    simp only [Act.put, List.setIfInBounds_toArray, List.set_cons_zero, List.set_cons_succ]
    (try simp only [Act.put, List.setIfInBounds_toArray])
    refine wpAnyH_done (by kernel_rfl) ?_ _
    refine NoPanic.normal ?_
    go_wp2_with fail
    go_ret
    exact ⟨rfl, hb3'.trans (B8.mono hb3'.size)⟩
set_option maxRecDepth 100000 in
set_option maxHeartbeats 2000000 in
theorem walk_led_err (w : World) (s0 : List UInt8) (w0 : s0.length = 32) (a1 : Int) (a2 : Option Addr) (len2 cap2 : Nat) (l2 : List UInt8) (w2 : Bs w a2 len2 l2) (s2 : len2 ≤ cap2) (a3 : Option Addr) (len3 cap3 : Nat) (l3 : List (List UInt8)) (w3 : Ds w a3 len3 l3) (h500 : len2 ≤ 500) (h600 : len3 ≤ 600) (hT : First w ∧ Tab 1 w ∧ Tab 2 w) (hE : errR a1 l3.length ≠ 0) :
    Calls Tryd.prog 6 #[.agg (bcells s0), .int .i64 a1, .slice a2 len2 cap2, .slice a3 len3 cap3, .bool true] w fun e w' => e = .returned (.bool true) ∧ Below w.heap.size w w' := by
  have hb0 := (Below.refl w.heap.size w).alloc (Nat.le_refl _) (.cells (bcells s0) 23)
  have HF := Lib.hid hT.1
  have HT1 := Lib.hid hT.2.1
  have HT2 := Lib.hid hT.2.2
  have i0 : ¬ 500 < (len2 : Int) := by omega
  have i1 : ¬ 600 < (len3 : Int) := by omega
  have HKS := Lib.hid (show (bcells s0).size = 32 by rw [bcells_size, w0])
  have HSL0 := Lib.hid w0
  have HRR := Lib.hid (fun w hB hD hF hT => RefRecover_any a1 a2 a3 len2 cap2 len3 cap3 l2 l3 w hB s2 (by omega) hD hF hT)
  have HDS := Lib.hid (show (bcells (recI a1 (sumL l2) l3)).size = 32 by rw [bcells_size, recI_length])
  have HDL := Lib.hid (recI_length a1 (sumL l2) l3)
  have HV := Lib.hid (fun r A n c B d w hr hB hc hn hD hT => show Calls Tryd.prog 21 #[.agg (bcells r), .int .i64 a1, .slice A n c, .slice B len3 d] w fun e w' => e = .returned (.bool (decide (errR a1 l3.length = 0) && decide (recI a1 (sumL l2) l3 = r))) ∧ Below w.heap.size w w' from Verify_any r a1 A B n c len3 d l2 l3 w hr hB hc hn hD hT)
  have HB := Lib.hid w2
  have HLN := Lib.hid w2.1
  have HD := Lib.hid w3
  generalize recI a1 (sumL l2) l3 = D at *
  generalize errR a1 l3.length = E at *
  have hE0 : (E == 0) = false := by simp [hE]
  have HW : Hid (∀ A n c B d w, Bs w A n l2 → n ≤ c → n ≤ 1000000 → Ds w B len3 l3 → Tab 2 w → Calls Tryd.prog 21 #[.agg (bcells D), .int .i64 a1, .slice A n c, .slice B len3 d] w fun e w' => e = .returned (.bool false) ∧ Below w.heap.size w w') := Lib.hid (fun A n c B d w hB hc hn hD hT => by
    have h := HV.out D A n c B d w HDL.out hB hc hn hD hT
    have e : (decide (E = 0) && decide (D = D)) = false := by simp [hE]
    rw [e] at h
    exact h)
  clear HV
  clear hE
  clear w2 w3 hT w0
  go_enter Tryd.func6, Tryd.ntmps6
  go_wp2_with (first
    | (go_at_call 19; refine (HRR.out _ (HB.out.below hb0) (HD.out.below hb0) (HF.out.below hb0) (HT1.out.below hb0)).mono ?_; rintro e1 w1 ⟨rfl, hb1⟩; have hs1 := hb1.size; simp at hs1; have HR1 := Lib.hid ((Row.new w 23 (bcells s0)).below hb1 (by simp)); have hb1' := hb0.trans (hb1.mono (by simp)))
    | (with_reducible refine wpList_store_row Tryd.agg25 rfl (.tmp 11) (.tmp 27) rfl _ _ rfl rfl 23 lit32 (Row.new w1 23 lit32) HDS.out lit32_size (bcells_one _) ?_; intro w2 hr2 ho2; have HG2 := Lib.hid hr2; have hs2 := ho2.size; simp at hs2; have HR2 := Lib.hid ((HR1.out.alloc (.cells lit32 23)).only ho2 (by omega)); have hb2' := (hb1'.alloc hb1'.size (.cells lit32 23)).trans (ho2.below (B := w.heap.size) (by omega) (by simp; omega)); clear hr2)
    | (with_reducible refine wpList_load_row Tryd.agg25 rfl (.tmp 11) rfl _ rfl 23 _ HG2.out HDS.out ?_)
    | (with_reducible refine wpList_store_row Tryd.agg25 rfl (.tmp 5) (.tmp 30) rfl _ _ rfl rfl 23 _ HR2.out HDS.out HKS.out (bcells_one _) ?_; intro w3 hr3 ho3; have HX5 := Lib.hid hr3; have hs3 := ho3.size; have HX11 := Lib.hid (HG2.out.only ho3 (by omega)); have hb3' := hb2'.trans (ho3.below (B := w.heap.size) (Nat.le_refl _) hb2'.size); clear hr3))
  have hltA : w.heap.size < w3.heap.size := HX5.out.lt
  have hltB : w1.heap.size < w3.heap.size := HX11.out.lt
  have K0 := Lib.hid (show w3.drew.rangeAt w.heap.size 0 (D.map bcell) ∧ w3.drew.rangeAt w1.heap.size 0 (D.map bcell) from ⟨range_row (HX5.out.below ((Below.refl _ _).drew) hltA), range_row (HX11.out.below ((Below.refl _ _).drew) hltB)⟩)
  have HBW := Lib.hid (HB.out.below hb3')
  have HDW := Lib.hid (HD.out.below hb3')
  have HTW := Lib.hid (HT2.out.below hb3')
  refine wp_region_noPanic ?_
  refine wp_region_held_drew (S := fun w' => w'.rangeAt w.heap.size 0 (D.map bcell) ∧ w'.rangeAt w1.heap.size 0 (D.map bcell)) (by kernel_rfl) K0.out (fun hHeld => ?_)
  refine takeD (i := 0) (some 31) (.agg (bcells D)) rfl rfl (by kernel_rfl) (by kernel_rfl) (by kernel_rfl) (fun _ _ _ h => h) (yields_loadD rfl (.tmp 5) rfl _ 0 D rfl (fun _ h => h.1) HDL.out) hHeld ?_
  simp only [Act.put, List.setIfInBounds_toArray, List.set_cons_zero, List.set_cons_succ]
  refine takeD (i := 1) (some 32) (.int .i64 a1) rfl rfl (by kernel_rfl) (by kernel_rfl) (by kernel_rfl) (fun _ _ _ h => h) (Or.inl ⟨by rfl, fun _ _ => rfl⟩) hHeld ?_
  simp only [Act.put, List.setIfInBounds_toArray, List.set_cons_zero, List.set_cons_succ]
  refine takeD (i := 2) (some 33) (.slice a2 len2 cap2) rfl rfl (by kernel_rfl) (by kernel_rfl) (by kernel_rfl) (fun _ _ _ h => h) (Or.inl ⟨by rfl, fun _ _ => rfl⟩) hHeld ?_
  simp only [Act.put, List.setIfInBounds_toArray, List.set_cons_zero, List.set_cons_succ]
  refine takeD (i := 5) (some 36) (.slice a3 len3 cap3) rfl rfl (by kernel_rfl) (by kernel_rfl) (by kernel_rfl) (fun _ _ _ h => h) (Or.inl ⟨by rfl, fun _ _ => rfl⟩) hHeld ?_
  simp only [Act.put, List.setIfInBounds_toArray, List.set_cons_zero, List.set_cons_succ]
  refine takeD (i := 8) (some 39) (.int .i64 E) rfl rfl (by kernel_rfl) (by kernel_rfl) (by kernel_rfl) (fun _ _ _ h => h) (Or.inl ⟨by rfl, fun _ _ => rfl⟩) hHeld ?_
  simp only [Act.put, List.setIfInBounds_toArray, List.set_cons_zero, List.set_cons_succ]
  refine takeD (i := 9) (some 40) (.bool false) rfl rfl (by kernel_rfl) (by kernel_rfl) (by kernel_rfl) (fun _ _ _ h => h) (yields_eqI rfl (.tmp 39) (.const (.int .i64 0)) rfl E 0 false rfl rfl hE0) hHeld ?_
  simp only [Act.put, List.setIfInBounds_toArray, List.set_cons_zero, List.set_cons_succ]
  have D0 : Below w3.heap.size w3 w3.drew := (Below.refl w3.heap.size w3).drew
  refine wpAnyH_ready (rs := [3, 4]) (by kernel_rfl) (by decide) ?_
  refine AllReadyH.cons rfl (fun K' hK => ?_) (AllReadyH.cons rfl (fun K' hK => ?_) AllReadyH.nil)
  · go_simp
    refine (own_any a2 len2 cap2 l2 w3.drew (HBW.out.below D0) (by omega)).mono ?_
    rintro e3 wo ⟨Ao, no, co, rfl, hBo, hco, hbo, -⟩
    have hno : no ≤ 1000000 := by rw [← hBo.1, HLN.out]; omega
    have Bo : Below w3.heap.size w3 wo := D0.trans (hbo.mono D0.size)
    have HBo := Lib.hid hBo
    clear hBo
    refine hK.out _ _ ⟨range_row (HX5.out.below Bo hltA), range_row (HX11.out.below Bo hltB)⟩ (fun hHeldo => ?_)
    clear hK
    refine wpAnyH_ready (rs := [4]) (by kernel_rfl) (by decide) ?_
    refine AllReadyH.cons rfl (fun K' hK => ?_) AllReadyH.nil
    refine step_of rfl (wp_emptyD rfl ?_)
    intro g wx hg hgx hoE hbx
    have BX : Below w3.heap.size w3 wx := Bo.trans (hbx.mono Bo.size)
    have HAp := Lib.hid (HBo.out.apart (show wo.heap.size ≤ g by omega))
    have hge : w3.heap.size ≤ g := by have := Bo.size; omega
    have HBx := Lib.hid (HBo.out.below hbx)
    have HOE := Lib.hid hoE
    have hba := hbx.size
    clear hg hoE
    refine hK.out _ _ ⟨range_row (HX5.out.below BX hltA), range_row (HX11.out.below BX hltB)⟩ (fun hHeldx => ?_)
    clear hK
    refine wpAnyH_ready (rs := [6]) (by kernel_rfl) (by decide) ?_
    refine AllReadyH.cons rfl (fun K' hK => ?_) AllReadyH.nil
    refine step_of rfl (wp_appDO (.tmp 35) (.tmp 36) rfl wo.heap.size g 0 rfl HOE.out a3 len3 cap3 l3 rfl (HDW.out.below BX) (by omega) hba ?_)
    intro A6 c6 w6 hd6 ho6
    have B6 : Below w3.heap.size w3 w6 := BX.trans (ho6.below (B := w3.heap.size) hge BX.size)
    have HB6 := Lib.hid (HBx.out.only HAp.out ho6)
    have HD6 := Lib.hid hd6
    clear hd6
    refine hK.out _ _ ⟨range_row (HX5.out.below B6 hltA), range_row (HX11.out.below B6 hltB)⟩ (fun hHeld6 => ?_)
    clear hK
    refine wpAnyH_ready (rs := [7]) (by kernel_rfl) (by decide) ?_
    refine AllReadyH.cons rfl (fun K' hK => ?_) AllReadyH.nil
    go_simp
    refine (HW.out Ao no co A6 c6 w6 HB6.out hco hno HD6.out (HTW.out.below B6)).mono ?_
    rintro e7 w7 ⟨rfl, hb7⟩
    have B7 : Below w3.heap.size w3 w7 := B6.trans (hb7.mono B6.size)
    refine hK.out _ _ ⟨range_row (HX5.out.below B7 hltA), range_row (HX11.out.below B7 hltB)⟩ (fun hHeld7 => ?_)
    clear hK
    (try simp only [Act.put, List.setIfInBounds_toArray, List.set_cons_zero, List.set_cons_succ])
    refine takeD (i := 10) (some 41) (.bool false) rfl rfl (by kernel_rfl) (by kernel_rfl) (by kernel_rfl) (fun _ _ _ h => h) (Or.inl ⟨by rfl, fun _ _ => rfl⟩) hHeld7 ?_
    simp only [Act.put, List.setIfInBounds_toArray, List.set_cons_zero, List.set_cons_succ]
    refine takeD (i := 11) (some 42) (undef) rfl rfl (by kernel_rfl) (by kernel_rfl) (by kernel_rfl) (fun _ _ _ h => h) (Or.inr ⟨by rfl, rfl⟩) hHeld7 ?_
    simp only [Act.put, List.setIfInBounds_toArray, List.set_cons_zero, List.set_cons_succ]
    refine takeD (i := 12) (some 43) (undef) rfl rfl (by kernel_rfl) (by kernel_rfl) (by kernel_rfl) (fun _ _ _ h => h) (Or.inr ⟨by rfl, rfl⟩) hHeld7 ?_
    simp only [Act.put, List.setIfInBounds_toArray, List.set_cons_zero, List.set_cons_succ]
    refine takeD (i := 13) (some 44) (undef) rfl rfl (by kernel_rfl) (by kernel_rfl) (by kernel_rfl) (fun _ _ _ h => h) (Or.inr ⟨by rfl, rfl⟩) hHeld7 ?_
    simp only [Act.put, List.setIfInBounds_toArray, List.set_cons_zero, List.set_cons_succ]
    refine takeD (i := 14) (some 45) (.bool false) rfl rfl (by kernel_rfl) (by kernel_rfl) (by kernel_rfl) (fun _ _ _ h => h) (Or.inl ⟨by rfl, fun _ _ => rfl⟩) hHeld7 ?_
    simp only [Act.put, List.setIfInBounds_toArray, List.set_cons_zero, List.set_cons_succ]
    refine takeD (i := 15) (some 46) (.bool true) rfl rfl (by kernel_rfl) (by kernel_rfl) (by kernel_rfl) (fun _ _ _ h => h) (yields_eqB rfl (.tmp 38) (.tmp 45) rfl false rfl rfl) hHeld7 ?_
    simp only [Act.put, List.setIfInBounds_toArray, List.set_cons_zero, List.set_cons_succ]
    refine takeD (i := 16) (some 47) (.bool true) rfl rfl (by kernel_rfl) (by kernel_rfl) (by kernel_rfl) (fun _ _ _ h => h) (Or.inl ⟨by rfl, fun _ _ => rfl⟩) hHeld7 ?_
    simp only [Act.put, List.setIfInBounds_toArray, List.set_cons_zero, List.set_cons_succ]
    refine wpAnyH_ready (rs := [17]) (by kernel_rfl) (by decide) ?_
    refine AllReadyH.cons rfl (fun K' hK => ?_) AllReadyH.nil
    go_simp
    refine (awake_any w7 (HTW.out.below B7)).mono ?_
    rintro e8 w8 ⟨rfl, hb8⟩
    have B8 : Below w3.heap.size w3 w8 := B7.trans (hb8.mono B7.size)
    refine hK.out _ _ ⟨range_row (HX5.out.below B8 hltA), range_row (HX11.out.below B8 hltB)⟩ (fun hHeld8 => ?_)
    clear hK
    (try simp only [Act.put, List.setIfInBounds_toArray, List.set_cons_zero, List.set_cons_succ])
    refine takeD (i := 18) (some 49) (.bool true) rfl rfl (by kernel_rfl) (by kernel_rfl) (by kernel_rfl) (fun _ _ _ h => h) (Or.inl ⟨by rfl, fun _ _ => rfl⟩) hHeld8 ?_
    simp only [Act.put, List.setIfInBounds_toArray, List.set_cons_zero, List.set_cons_succ]
    refine takeD (i := 19) (some 10) (.bool true) rfl rfl (by kernel_rfl) (by kernel_rfl) (by kernel_rfl) (fun _ _ _ h => h) (Or.inl ⟨by rfl, fun _ _ => rfl⟩) hHeld8 ?_
    simp only [Act.put, List.setIfInBounds_toArray, List.set_cons_zero, List.set_cons_succ]
    (try simp only [Act.put, List.setIfInBounds_toArray])
    refine wpAnyH_done (by kernel_rfl) ?_ _
    refine NoPanic.normal ?_
    go_wp2_with fail
    go_ret
    exact ⟨rfl, hb3'.trans (B8.mono hb3'.size)⟩
  · refine step_of rfl (wp_emptyD rfl ?_)
    intro g we hg hgx hoE hbe
    have BE : Below w3.heap.size w3 we := D0.trans (hbe.mono D0.size)
    have hge : w3.heap.size ≤ g := by have := D0.size; omega
    clear hg
    refine hK.out _ _ ⟨range_row (HX5.out.below BE hltA), range_row (HX11.out.below BE hltB)⟩ (fun hHeldo => ?_)
    clear hK
    refine wpAnyH_ready (rs := [3]) (by kernel_rfl) (by decide) ?_
    refine AllReadyH.cons rfl (fun K' hK => ?_) AllReadyH.nil
    go_simp
    refine (own_any a2 len2 cap2 l2 we (HBW.out.below BE) (by omega)).mono ?_
    rintro e3 wx ⟨Ao, no, co, rfl, hBo, hco, hbo, hoo⟩
    have hno : no ≤ 1000000 := by rw [← hBo.1, HLN.out]; omega
    have BX : Below w3.heap.size w3 wx := BE.trans (hbo.mono BE.size)
    have HBx := Lib.hid hBo
    have HAp := Lib.hid (own_apart hoo hgx)
    have HOE := Lib.hid (hoE.below hbo)
    have hba : w3.drew.heap.size ≤ wx.heap.size := BX.size
    clear hBo hoo hoE
    refine hK.out _ _ ⟨range_row (HX5.out.below BX hltA), range_row (HX11.out.below BX hltB)⟩ (fun hHeldx => ?_)
    clear hK
    refine wpAnyH_ready (rs := [6]) (by kernel_rfl) (by decide) ?_
    refine AllReadyH.cons rfl (fun K' hK => ?_) AllReadyH.nil
    refine step_of rfl (wp_appDO (.tmp 35) (.tmp 36) rfl w3.drew.heap.size g 0 rfl HOE.out a3 len3 cap3 l3 rfl (HDW.out.below BX) (by omega) hba ?_)
    intro A6 c6 w6 hd6 ho6
    have B6 : Below w3.heap.size w3 w6 := BX.trans (ho6.below (B := w3.heap.size) hge BX.size)
    have HB6 := Lib.hid (HBx.out.only HAp.out ho6)
    have HD6 := Lib.hid hd6
    clear hd6
    refine hK.out _ _ ⟨range_row (HX5.out.below B6 hltA), range_row (HX11.out.below B6 hltB)⟩ (fun hHeld6 => ?_)
    clear hK
    refine wpAnyH_ready (rs := [7]) (by kernel_rfl) (by decide) ?_
    refine AllReadyH.cons rfl (fun K' hK => ?_) AllReadyH.nil
    go_simp
    refine (HW.out Ao no co A6 c6 w6 HB6.out hco hno HD6.out (HTW.out.below B6)).mono ?_
    rintro e7 w7 ⟨rfl, hb7⟩
    have B7 : Below w3.heap.size w3 w7 := B6.trans (hb7.mono B6.size)
    refine hK.out _ _ ⟨range_row (HX5.out.below B7 hltA), range_row (HX11.out.below B7 hltB)⟩ (fun hHeld7 => ?_)
    clear hK
    (try simp only [Act.put, List.setIfInBounds_toArray, List.set_cons_zero, List.set_cons_succ])
    refine takeD (i := 10) (some 41) (.bool false) rfl rfl (by kernel_rfl) (by kernel_rfl) (by kernel_rfl) (fun _ _ _ h => h) (Or.inl ⟨by rfl, fun _ _ => rfl⟩) hHeld7 ?_
    simp only [Act.put, List.setIfInBounds_toArray, List.set_cons_zero, List.set_cons_succ]
    refine takeD (i := 11) (some 42) (undef) rfl rfl (by kernel_rfl) (by kernel_rfl) (by kernel_rfl) (fun _ _ _ h => h) (Or.inr ⟨by rfl, rfl⟩) hHeld7 ?_
    simp only [Act.put, List.setIfInBounds_toArray, List.set_cons_zero, List.set_cons_succ]
    refine takeD (i := 12) (some 43) (undef) rfl rfl (by kernel_rfl) (by kernel_rfl) (by kernel_rfl) (fun _ _ _ h => h) (Or.inr ⟨by rfl, rfl⟩) hHeld7 ?_
    simp only [Act.put, List.setIfInBounds_toArray, List.set_cons_zero, List.set_cons_succ]
    refine takeD (i := 13) (some 44) (undef) rfl rfl (by kernel_rfl) (by kernel_rfl) (by kernel_rfl) (fun _ _ _ h => h) (Or.inr ⟨by rfl, rfl⟩) hHeld7 ?_
    simp only [Act.put, List.setIfInBounds_toArray, List.set_cons_zero, List.set_cons_succ]
    refine takeD (i := 14) (some 45) (.bool false) rfl rfl (by kernel_rfl) (by kernel_rfl) (by kernel_rfl) (fun _ _ _ h => h) (Or.inl ⟨by rfl, fun _ _ => rfl⟩) hHeld7 ?_
    simp only [Act.put, List.setIfInBounds_toArray, List.set_cons_zero, List.set_cons_succ]
    refine takeD (i := 15) (some 46) (.bool true) rfl rfl (by kernel_rfl) (by kernel_rfl) (by kernel_rfl) (fun _ _ _ h => h) (yields_eqB rfl (.tmp 38) (.tmp 45) rfl false rfl rfl) hHeld7 ?_
    simp only [Act.put, List.setIfInBounds_toArray, List.set_cons_zero, List.set_cons_succ]
    refine takeD (i := 16) (some 47) (.bool true) rfl rfl (by kernel_rfl) (by kernel_rfl) (by kernel_rfl) (fun _ _ _ h => h) (Or.inl ⟨by rfl, fun _ _ => rfl⟩) hHeld7 ?_
    simp only [Act.put, List.setIfInBounds_toArray, List.set_cons_zero, List.set_cons_succ]
    refine wpAnyH_ready (rs := [17]) (by kernel_rfl) (by decide) ?_
    refine AllReadyH.cons rfl (fun K' hK => ?_) AllReadyH.nil
    go_simp
    refine (awake_any w7 (HTW.out.below B7)).mono ?_
    rintro e8 w8 ⟨rfl, hb8⟩
    have B8 : Below w3.heap.size w3 w8 := B7.trans (hb8.mono B7.size)
    refine hK.out _ _ ⟨range_row (HX5.out.below B8 hltA), range_row (HX11.out.below B8 hltB)⟩ (fun hHeld8 => ?_)
    clear hK
    (try simp only [Act.put, List.setIfInBounds_toArray, List.set_cons_zero, List.set_cons_succ])
    refine takeD (i := 18) (some 49) (.bool true) rfl rfl (by kernel_rfl) (by kernel_rfl) (by kernel_rfl) (fun _ _ _ h => h) (Or.inl ⟨by rfl, fun _ _ => rfl⟩) hHeld8 ?_
    simp only [Act.put, List.setIfInBounds_toArray, List.set_cons_zero, List.set_cons_succ]
    refine takeD (i := 19) (some 10) (.bool true) rfl rfl (by kernel_rfl) (by kernel_rfl) (by kernel_rfl) (fun _ _ _ h => h) (Or.inl ⟨by rfl, fun _ _ => rfl⟩) hHeld8 ?_
    simp only [Act.put, List.setIfInBounds_toArray, List.set_cons_zero, List.set_cons_succ]
    (try simp only [Act.put, List.setIfInBounds_toArray])
    refine wpAnyH_done (by kernel_rfl) ?_ _
    refine NoPanic.normal ?_
    go_wp2_with fail
    go_ret
    exact ⟨rfl, hb3'.trans (B8.mono hb3'.size)⟩
set_option maxRecDepth 100000 in
set_option maxHeartbeats 2000000 in
theorem walk_own_ok (w : World) (s0 : List UInt8) (w0 : s0.length = 32) (a1 : Int) (a2 : Option Addr) (len2 cap2 : Nat) (l2 : List UInt8) (w2 : Bs w a2 len2 l2) (s2 : len2 ≤ cap2) (a3 : Option Addr) (len3 cap3 : Nat) (l3 : List (List UInt8)) (w3 : Ds w a3 len3 l3) (h500 : len2 ≤ 500) (h600 : len3 ≤ 600) (hT : First w ∧ Tab 1 w ∧ Tab 2 w) (hE : errR a1 l3.length = 0) :
    Calls Tryd.prog 6 #[.agg (bcells s0), .int .i64 a1, .slice a2 len2 cap2, .slice a3 len3 cap3, .bool false] w fun e w' => e = .returned (.bool true) ∧ Below w.heap.size w w' := by
  have hb0 := (Below.refl w.heap.size w).alloc (Nat.le_refl _) (.cells (bcells s0) 23)
  have HF := Lib.hid hT.1
  have HT1 := Lib.hid hT.2.1
  have HT2 := Lib.hid hT.2.2
  have i0 : ¬ 500 < (len2 : Int) := by omega
  have i1 : ¬ 600 < (len3 : Int) := by omega
  have HKS := Lib.hid (show (bcells s0).size = 32 by rw [bcells_size, w0])
  have HSL0 := Lib.hid w0
  have HRR := Lib.hid (fun w hB hD hF hT => RefRecover_any a1 a2 a3 len2 cap2 len3 cap3 l2 l3 w hB s2 (by omega) hD hF hT)
  have HDS := Lib.hid (show (bcells (recI a1 (sumL l2) l3)).size = 32 by rw [bcells_size, recI_length])
  have HDL := Lib.hid (recI_length a1 (sumL l2) l3)
  have HV := Lib.hid (fun r A n c B d w hr hB hc hn hD hT => show Calls Tryd.prog 21 #[.agg (bcells r), .int .i64 a1, .slice A n c, .slice B len3 d] w fun e w' => e = .returned (.bool (decide (errR a1 l3.length = 0) && decide (recI a1 (sumL l2) l3 = r))) ∧ Below w.heap.size w w' from Verify_any r a1 A B n c len3 d l2 l3 w hr hB hc hn hD hT)
  have HB := Lib.hid w2
  have HLN := Lib.hid w2.1
  have HD := Lib.hid w3
  generalize recI a1 (sumL l2) l3 = D at *
  generalize errR a1 l3.length = E at *
  subst hE
  have hE0 : ((0 : Int) == 0) = true := rfl
  have HW : Hid (∀ A n c B d w, Bs w A n l2 → n ≤ c → n ≤ 1000000 → Ds w B len3 l3 → Tab 2 w → Calls Tryd.prog 21 #[.agg (bcells s0), .int .i64 a1, .slice A n c, .slice B len3 d] w fun e w' => e = .returned (.bool (decide (D = s0))) ∧ Below w.heap.size w w') := Lib.hid (fun A n c B d w hB hc hn hD hT => by
    have h := HV.out s0 A n c B d w HSL0.out hB hc hn hD hT
    have e : (decide ((0 : Int) = 0) && decide (D = s0)) = (decide (D = s0)) := by simp
    rw [e] at h
    exact h)
  clear HV
  obtain ⟨q, hq⟩ : ∃ q, decide (D = s0) = q := ⟨_, rfl⟩
  rw [hq] at HW
  have HQ := Lib.hid hq
  clear hq
  clear w2 w3 hT w0
  go_enter Tryd.func6, Tryd.ntmps6
  go_wp2_with (first
    | (go_at_call 19; refine (HRR.out _ (HB.out.below hb0) (HD.out.below hb0) (HF.out.below hb0) (HT1.out.below hb0)).mono ?_; rintro e1 w1 ⟨rfl, hb1⟩; have hs1 := hb1.size; simp at hs1; have HR1 := Lib.hid ((Row.new w 23 (bcells s0)).below hb1 (by simp)); have hb1' := hb0.trans (hb1.mono (by simp)))
    | (with_reducible refine wpList_store_row Tryd.agg25 rfl (.tmp 11) (.tmp 27) rfl _ _ rfl rfl 23 lit32 (Row.new w1 23 lit32) HDS.out lit32_size (bcells_one _) ?_; intro w2 hr2 ho2; have HG2 := Lib.hid hr2; have hs2 := ho2.size; simp at hs2; have HR2 := Lib.hid ((HR1.out.alloc (.cells lit32 23)).only ho2 (by omega)); have hb2' := (hb1'.alloc hb1'.size (.cells lit32 23)).trans (ho2.below (B := w.heap.size) (by omega) (by simp; omega)); clear hr2))
  have HX5 := HR2
  have HX11 := HG2
  have hltA : w.heap.size < w2.heap.size := HX5.out.lt
  have hltB : w1.heap.size < w2.heap.size := HX11.out.lt
  have K0 := Lib.hid (show w2.drew.rangeAt w.heap.size 0 (s0.map bcell) ∧ w2.drew.rangeAt w1.heap.size 0 (D.map bcell) from ⟨range_row (HX5.out.below ((Below.refl _ _).drew) hltA), range_row (HX11.out.below ((Below.refl _ _).drew) hltB)⟩)
  have HBW := Lib.hid (HB.out.below hb2')
  have HDW := Lib.hid (HD.out.below hb2')
  have HTW := Lib.hid (HT2.out.below hb2')
  refine wp_region_noPanic ?_
  refine wp_region_held_drew (S := fun w' => w'.rangeAt w.heap.size 0 (s0.map bcell) ∧ w'.rangeAt w1.heap.size 0 (D.map bcell)) (by kernel_rfl) K0.out (fun hHeld => ?_)
  refine takeD (i := 0) (some 31) (.agg (bcells s0)) rfl rfl (by kernel_rfl) (by kernel_rfl) (by kernel_rfl) (fun _ _ _ h => h) (yields_loadD rfl (.tmp 5) rfl _ 0 s0 rfl (fun _ h => h.1) HSL0.out) hHeld ?_
  simp only [Act.put, List.setIfInBounds_toArray, List.set_cons_zero, List.set_cons_succ]
  refine takeD (i := 1) (some 32) (.int .i64 a1) rfl rfl (by kernel_rfl) (by kernel_rfl) (by kernel_rfl) (fun _ _ _ h => h) (Or.inl ⟨by rfl, fun _ _ => rfl⟩) hHeld ?_
  simp only [Act.put, List.setIfInBounds_toArray, List.set_cons_zero, List.set_cons_succ]
  refine takeD (i := 2) (some 33) (.slice a2 len2 cap2) rfl rfl (by kernel_rfl) (by kernel_rfl) (by kernel_rfl) (fun _ _ _ h => h) (Or.inl ⟨by rfl, fun _ _ => rfl⟩) hHeld ?_
  simp only [Act.put, List.setIfInBounds_toArray, List.set_cons_zero, List.set_cons_succ]
  refine takeD (i := 5) (some 36) (.slice a3 len3 cap3) rfl rfl (by kernel_rfl) (by kernel_rfl) (by kernel_rfl) (fun _ _ _ h => h) (Or.inl ⟨by rfl, fun _ _ => rfl⟩) hHeld ?_
  simp only [Act.put, List.setIfInBounds_toArray, List.set_cons_zero, List.set_cons_succ]
  refine takeD (i := 8) (some 39) (.int .i64 0) rfl rfl (by kernel_rfl) (by kernel_rfl) (by kernel_rfl) (fun _ _ _ h => h) (Or.inl ⟨by rfl, fun _ _ => rfl⟩) hHeld ?_
  simp only [Act.put, List.setIfInBounds_toArray, List.set_cons_zero, List.set_cons_succ]
  refine takeD (i := 9) (some 40) (.bool true) rfl rfl (by kernel_rfl) (by kernel_rfl) (by kernel_rfl) (fun _ _ _ h => h) (yields_eqI rfl (.tmp 39) (.const (.int .i64 0)) rfl 0 0 true rfl rfl hE0) hHeld ?_
  simp only [Act.put, List.setIfInBounds_toArray, List.set_cons_zero, List.set_cons_succ]
  have D0 : Below w2.heap.size w2 w2.drew := (Below.refl w2.heap.size w2).drew
  refine wpAnyH_ready (rs := [3, 4]) (by kernel_rfl) (by decide) ?_
  refine AllReadyH.cons rfl (fun K' hK => ?_) (AllReadyH.cons rfl (fun K' hK => ?_) AllReadyH.nil)
  · go_simp
    refine (own_any a2 len2 cap2 l2 w2.drew (HBW.out.below D0) (by omega)).mono ?_
    rintro e3 wo ⟨Ao, no, co, rfl, hBo, hco, hbo, -⟩
    have hno : no ≤ 1000000 := by rw [← hBo.1, HLN.out]; omega
    have Bo : Below w2.heap.size w2 wo := D0.trans (hbo.mono D0.size)
    have HBo := Lib.hid hBo
    clear hBo
    refine hK.out _ _ ⟨range_row (HX5.out.below Bo hltA), range_row (HX11.out.below Bo hltB)⟩ (fun hHeldo => ?_)
    clear hK
    refine wpAnyH_ready (rs := [4]) (by kernel_rfl) (by decide) ?_
    refine AllReadyH.cons rfl (fun K' hK => ?_) AllReadyH.nil
    refine step_of rfl (wp_emptyD rfl ?_)
    intro g wx hg hgx hoE hbx
    have BX : Below w2.heap.size w2 wx := Bo.trans (hbx.mono Bo.size)
    have HAp := Lib.hid (HBo.out.apart (show wo.heap.size ≤ g by omega))
    have hge : w2.heap.size ≤ g := by have := Bo.size; omega
    have HBx := Lib.hid (HBo.out.below hbx)
    have HOE := Lib.hid hoE
    have hba := hbx.size
    clear hg hoE
    refine hK.out _ _ ⟨range_row (HX5.out.below BX hltA), range_row (HX11.out.below BX hltB)⟩ (fun hHeldx => ?_)
    clear hK
    refine wpAnyH_ready (rs := [6]) (by kernel_rfl) (by decide) ?_
    refine AllReadyH.cons rfl (fun K' hK => ?_) AllReadyH.nil
    refine step_of rfl (wp_appDO (.tmp 35) (.tmp 36) rfl wo.heap.size g 0 rfl HOE.out a3 len3 cap3 l3 rfl (HDW.out.below BX) (by omega) hba ?_)
    intro A6 c6 w6 hd6 ho6
    have B6 : Below w2.heap.size w2 w6 := BX.trans (ho6.below (B := w2.heap.size) hge BX.size)
    have HB6 := Lib.hid (HBx.out.only HAp.out ho6)
    have HD6 := Lib.hid hd6
    clear hd6
    refine hK.out _ _ ⟨range_row (HX5.out.below B6 hltA), range_row (HX11.out.below B6 hltB)⟩ (fun hHeld6 => ?_)
    clear hK
    refine wpAnyH_ready (rs := [7]) (by kernel_rfl) (by decide) ?_
    refine AllReadyH.cons rfl (fun K' hK => ?_) AllReadyH.nil
    go_simp
    refine (HW.out Ao no co A6 c6 w6 HB6.out hco hno HD6.out (HTW.out.below B6)).mono ?_
    rintro e7 w7 ⟨rfl, hb7⟩
    have B7 : Below w2.heap.size w2 w7 := B6.trans (hb7.mono B6.size)
    refine hK.out _ _ ⟨range_row (HX5.out.below B7 hltA), range_row (HX11.out.below B7 hltB)⟩ (fun hHeld7 => ?_)
    clear hK
    (try simp only [Act.put, List.setIfInBounds_toArray, List.set_cons_zero, List.set_cons_succ])
    refine takeD (i := 10) (some 41) (.bool true) rfl rfl (by kernel_rfl) (by kernel_rfl) (by kernel_rfl) (fun _ _ _ h => h) (Or.inl ⟨by rfl, fun _ _ => rfl⟩) hHeld7 ?_
    simp only [Act.put, List.setIfInBounds_toArray, List.set_cons_zero, List.set_cons_succ]
    refine takeD (i := 11) (some 42) (.agg (bcells D)) rfl rfl (by kernel_rfl) (by kernel_rfl) (by kernel_rfl) (fun _ _ _ h => h) (yields_loadW (by rfl) (.tmp 11) rfl _ 0 D rfl (fun _ h => h.2) HDL.out) hHeld7 ?_
    simp only [Act.put, List.setIfInBounds_toArray, List.set_cons_zero, List.set_cons_succ]
    refine takeD (i := 12) (some 43) (.agg (bcells s0)) rfl rfl (by kernel_rfl) (by kernel_rfl) (by kernel_rfl) (fun _ _ _ h => h) (yields_loadW (by rfl) (.tmp 5) rfl _ 0 s0 rfl (fun _ h => h.1) HSL0.out) hHeld7 ?_
    simp only [Act.put, List.setIfInBounds_toArray, List.set_cons_zero, List.set_cons_succ]
    refine takeD (i := 13) (some 44) (.bool q) rfl rfl (by kernel_rfl) (by kernel_rfl) (by kernel_rfl) (fun _ _ _ h => h) (yields_eqlW (by rfl) (.tmp 42) (.tmp 43) rfl D s0 q rfl rfl HDL.out HSL0.out HQ.out) hHeld7 ?_
    simp only [Act.put, List.setIfInBounds_toArray, List.set_cons_zero, List.set_cons_succ]
    refine takeD (i := 14) (some 45) (.bool q) rfl rfl (by kernel_rfl) (by kernel_rfl) (by kernel_rfl) (fun _ _ _ h => h) (Or.inl ⟨by rfl, fun _ _ => rfl⟩) hHeld7 ?_
    simp only [Act.put, List.setIfInBounds_toArray, List.set_cons_zero, List.set_cons_succ]
    refine takeD (i := 15) (some 46) (.bool true) rfl rfl (by kernel_rfl) (by kernel_rfl) (by kernel_rfl) (fun _ _ _ h => h) (yields_eqB rfl (.tmp 38) (.tmp 45) rfl q rfl rfl) hHeld7 ?_
    simp only [Act.put, List.setIfInBounds_toArray, List.set_cons_zero, List.set_cons_succ]
    refine takeD (i := 16) (some 47) (.bool true) rfl rfl (by kernel_rfl) (by kernel_rfl) (by kernel_rfl) (fun _ _ _ h => h) (Or.inl ⟨by rfl, fun _ _ => rfl⟩) hHeld7 ?_
    simp only [Act.put, List.setIfInBounds_toArray, List.set_cons_zero, List.set_cons_succ]
    refine wpAnyH_ready (rs := [17]) (by kernel_rfl) (by decide) ?_
    refine AllReadyH.cons rfl (fun K' hK => ?_) AllReadyH.nil
    go_simp
    refine (awake_any w7 (HTW.out.below B7)).mono ?_
    rintro e8 w8 ⟨rfl, hb8⟩
    have B8 : Below w2.heap.size w2 w8 := B7.trans (hb8.mono B7.size)
    refine hK.out _ _ ⟨range_row (HX5.out.below B8 hltA), range_row (HX11.out.below B8 hltB)⟩ (fun hHeld8 => ?_)
    clear hK
    (try simp only [Act.put, List.setIfInBounds_toArray, List.set_cons_zero, List.set_cons_succ])
    refine takeD (i := 18) (some 49) (.bool true) rfl rfl (by kernel_rfl) (by kernel_rfl) (by kernel_rfl) (fun _ _ _ h => h) (Or.inl ⟨by rfl, fun _ _ => rfl⟩) hHeld8 ?_
    simp only [Act.put, List.setIfInBounds_toArray, List.set_cons_zero, List.set_cons_succ]
    refine takeD (i := 19) (some 10) (.bool true) rfl rfl (by kernel_rfl) (by kernel_rfl) (by kernel_rfl) (fun _ _ _ h => h) (Or.inl ⟨by rfl, fun _ _ => rfl⟩) hHeld8 ?_
    simp only [Act.put, List.setIfInBounds_toArray, List.set_cons_zero, List.set_cons_succ]
    (try simp only [Act.put, List.setIfInBounds_toArray])
    refine wpAnyH_done (by kernel_rfl) ?_ _
    refine NoPanic.normal ?_
    go_wp2_with fail
    go_ret
    exact ⟨rfl, hb2'.trans (B8.mono hb2'.size)⟩
  · refine step_of rfl (wp_emptyD rfl ?_)
    intro g we hg hgx hoE hbe
    have BE : Below w2.heap.size w2 we := D0.trans (hbe.mono D0.size)
    have hge : w2.heap.size ≤ g := by have := D0.size; omega
    clear hg
    refine hK.out _ _ ⟨range_row (HX5.out.below BE hltA), range_row (HX11.out.below BE hltB)⟩ (fun hHeldo => ?_)
    clear hK
    refine wpAnyH_ready (rs := [3]) (by kernel_rfl) (by decide) ?_
    refine AllReadyH.cons rfl (fun K' hK => ?_) AllReadyH.nil
    go_simp
    refine (own_any a2 len2 cap2 l2 we (HBW.out.below BE) (by omega)).mono ?_
    rintro e3 wx ⟨Ao, no, co, rfl, hBo, hco, hbo, hoo⟩
    have hno : no ≤ 1000000 := by rw [← hBo.1, HLN.out]; omega
    have BX : Below w2.heap.size w2 wx := BE.trans (hbo.mono BE.size)
    have HBx := Lib.hid hBo
    have HAp := Lib.hid (own_apart hoo hgx)
    have HOE := Lib.hid (hoE.below hbo)
    have hba : w2.drew.heap.size ≤ wx.heap.size := BX.size
    clear hBo hoo hoE
    refine hK.out _ _ ⟨range_row (HX5.out.below BX hltA), range_row (HX11.out.below BX hltB)⟩ (fun hHeldx => ?_)
    clear hK
    refine wpAnyH_ready (rs := [6]) (by kernel_rfl) (by decide) ?_
    refine AllReadyH.cons rfl (fun K' hK => ?_) AllReadyH.nil
    refine step_of rfl (wp_appDO (.tmp 35) (.tmp 36) rfl w2.drew.heap.size g 0 rfl HOE.out a3 len3 cap3 l3 rfl (HDW.out.below BX) (by omega) hba ?_)
    intro A6 c6 w6 hd6 ho6
    have B6 : Below w2.heap.size w2 w6 := BX.trans (ho6.below (B := w2.heap.size) hge BX.size)
    have HB6 := Lib.hid (HBx.out.only HAp.out ho6)
    have HD6 := Lib.hid hd6
    clear hd6
    refine hK.out _ _ ⟨range_row (HX5.out.below B6 hltA), range_row (HX11.out.below B6 hltB)⟩ (fun hHeld6 => ?_)
    clear hK
    refine wpAnyH_ready (rs := [7]) (by kernel_rfl) (by decide) ?_
    refine AllReadyH.cons rfl (fun K' hK => ?_) AllReadyH.nil
    go_simp
    refine (HW.out Ao no co A6 c6 w6 HB6.out hco hno HD6.out (HTW.out.below B6)).mono ?_
    rintro e7 w7 ⟨rfl, hb7⟩
    have B7 : Below w2.heap.size w2 w7 := B6.trans (hb7.mono B6.size)
    refine hK.out _ _ ⟨range_row (HX5.out.below B7 hltA), range_row (HX11.out.below B7 hltB)⟩ (fun hHeld7 => ?_)
    clear hK
    (try simp only [Act.put, List.setIfInBounds_toArray, List.set_cons_zero, List.set_cons_succ])
    refine takeD (i := 10) (some 41) (.bool true) rfl rfl (by kernel_rfl) (by kernel_rfl) (by kernel_rfl) (fun _ _ _ h => h) (Or.inl ⟨by rfl, fun _ _ => rfl⟩) hHeld7 ?_
    simp only [Act.put, List.setIfInBounds_toArray, List.set_cons_zero, List.set_cons_succ]
    refine takeD (i := 11) (some 42) (.agg (bcells D)) rfl rfl (by kernel_rfl) (by kernel_rfl) (by kernel_rfl) (fun _ _ _ h => h) (yields_loadW (by rfl) (.tmp 11) rfl _ 0 D rfl (fun _ h => h.2) HDL.out) hHeld7 ?_
    simp only [Act.put, List.setIfInBounds_toArray, List.set_cons_zero, List.set_cons_succ]
    refine takeD (i := 12) (some 43) (.agg (bcells s0)) rfl rfl (by kernel_rfl) (by kernel_rfl) (by kernel_rfl) (fun _ _ _ h => h) (yields_loadW (by rfl) (.tmp 5) rfl _ 0 s0 rfl (fun _ h => h.1) HSL0.out) hHeld7 ?_
    simp only [Act.put, List.setIfInBounds_toArray, List.set_cons_zero, List.set_cons_succ]
    refine takeD (i := 13) (some 44) (.bool q) rfl rfl (by kernel_rfl) (by kernel_rfl) (by kernel_rfl) (fun _ _ _ h => h) (yields_eqlW (by rfl) (.tmp 42) (.tmp 43) rfl D s0 q rfl rfl HDL.out HSL0.out HQ.out) hHeld7 ?_
    simp only [Act.put, List.setIfInBounds_toArray, List.set_cons_zero, List.set_cons_succ]
    refine takeD (i := 14) (some 45) (.bool q) rfl rfl (by kernel_rfl) (by kernel_rfl) (by kernel_rfl) (fun _ _ _ h => h) (Or.inl ⟨by rfl, fun _ _ => rfl⟩) hHeld7 ?_
    simp only [Act.put, List.setIfInBounds_toArray, List.set_cons_zero, List.set_cons_succ]
    refine takeD (i := 15) (some 46) (.bool true) rfl rfl (by kernel_rfl) (by kernel_rfl) (by kernel_rfl) (fun _ _ _ h => h) (yields_eqB rfl (.tmp 38) (.tmp 45) rfl q rfl rfl) hHeld7 ?_
    simp only [Act.put, List.setIfInBounds_toArray, List.set_cons_zero, List.set_cons_succ]
    refine takeD (i := 16) (some 47) (.bool true) rfl rfl (by kernel_rfl) (by kernel_rfl) (by kernel_rfl) (fun _ _ _ h => h) (Or.inl ⟨by rfl, fun _ _ => rfl⟩) hHeld7 ?_
    simp only [Act.put, List.setIfInBounds_toArray, List.set_cons_zero, List.set_cons_succ]
    refine wpAnyH_ready (rs := [17]) (by kernel_rfl) (by decide) ?_
    refine AllReadyH.cons rfl (fun K' hK => ?_) AllReadyH.nil
    go_simp
    refine (awake_any w7 (HTW.out.below B7)).mono ?_
    rintro e8 w8 ⟨rfl, hb8⟩
    have B8 : Below w2.heap.size w2 w8 := B7.trans (hb8.mono B7.size)
    refine hK.out _ _ ⟨range_row (HX5.out.below B8 hltA), range_row (HX11.out.below B8 hltB)⟩ (fun hHeld8 => ?_)
    clear hK
    (try simp only [Act.put, List.setIfInBounds_toArray, List.set_cons_zero, List.set_cons_succ])
    refine takeD (i := 18) (some 49) (.bool true) rfl rfl (by kernel_rfl) (by kernel_rfl) (by kernel_rfl) (fun _ _ _ h => h) (Or.inl ⟨by rfl, fun _ _ => rfl⟩) hHeld8 ?_
    simp only [Act.put, List.setIfInBounds_toArray, List.set_cons_zero, List.set_cons_succ]
    refine takeD (i := 19) (some 10) (.bool true) rfl rfl (by kernel_rfl) (by kernel_rfl) (by kernel_rfl) (fun _ _ _ h => h) (Or.inl ⟨by rfl, fun _ _ => rfl⟩) hHeld8 ?_
    simp only [Act.put, List.setIfInBounds_toArray, List.set_cons_zero, List.set_cons_succ]
    (try simp only [Act.put, List.setIfInBounds_toArray])
    refine wpAnyH_done (by kernel_rfl) ?_ _
    refine NoPanic.normal ?_
    go_wp2_with fail
    go_ret
    exact ⟨rfl, hb2'.trans (B8.mono hb2'.size)⟩
set_option maxRecDepth 100000 in
set_option maxHeartbeats 2000000 in
theorem walk_own_err (w : World) (s0 : List UInt8) (w0 : s0.length = 32) (a1 : Int) (a2 : Option Addr) (len2 cap2 : Nat) (l2 : List UInt8) (w2 : Bs w a2 len2 l2) (s2 : len2 ≤ cap2) (a3 : Option Addr) (len3 cap3 : Nat) (l3 : List (List UInt8)) (w3 : Ds w a3 len3 l3) (h500 : len2 ≤ 500) (h600 : len3 ≤ 600) (hT : First w ∧ Tab 1 w ∧ Tab 2 w) (hE : errR a1 l3.length ≠ 0) :
    Calls Tryd.prog 6 #[.agg (bcells s0), .int .i64 a1, .slice a2 len2 cap2, .slice a3 len3 cap3, .bool false] w fun e w' => e = .returned (.bool true) ∧ Below w.heap.size w w' := by
  have hb0 := (Below.refl w.heap.size w).alloc (Nat.le_refl _) (.cells (bcells s0) 23)
  have HF := Lib.hid hT.1
  have HT1 := Lib.hid hT.2.1
  have HT2 := Lib.hid hT.2.2
  have i0 : ¬ 500 < (len2 : Int) := by omega
  have i1 : ¬ 600 < (len3 : Int) := by omega
  have HKS := Lib.hid (show (bcells s0).size = 32 by rw [bcells_size, w0])
  have HSL0 := Lib.hid w0
  have HRR := Lib.hid (fun w hB hD hF hT => RefRecover_any a1 a2 a3 len2 cap2 len3 cap3 l2 l3 w hB s2 (by omega) hD hF hT)
  have HDS := Lib.hid (show (bcells (recI a1 (sumL l2) l3)).size = 32 by rw [bcells_size, recI_length])
  have HDL := Lib.hid (recI_length a1 (sumL l2) l3)
  have HV := Lib.hid (fun r A n c B d w hr hB hc hn hD hT => show Calls Tryd.prog 21 #[.agg (bcells r), .int .i64 a1, .slice A n c, .slice B len3 d] w fun e w' => e = .returned (.bool (decide (errR a1 l3.length = 0) && decide (recI a1 (sumL l2) l3 = r))) ∧ Below w.heap.size w w' from Verify_any r a1 A B n c len3 d l2 l3 w hr hB hc hn hD hT)
  have HB := Lib.hid w2
  have HLN := Lib.hid w2.1
  have HD := Lib.hid w3
  generalize recI a1 (sumL l2) l3 = D at *
  generalize errR a1 l3.length = E at *
  have hE0 : (E == 0) = false := by simp [hE]
  have HW : Hid (∀ A n c B d w, Bs w A n l2 → n ≤ c → n ≤ 1000000 → Ds w B len3 l3 → Tab 2 w → Calls Tryd.prog 21 #[.agg (bcells s0), .int .i64 a1, .slice A n c, .slice B len3 d] w fun e w' => e = .returned (.bool false) ∧ Below w.heap.size w w') := Lib.hid (fun A n c B d w hB hc hn hD hT => by
    have h := HV.out s0 A n c B d w HSL0.out hB hc hn hD hT
    have e : (decide (E = 0) && decide (D = s0)) = false := by simp [hE]
    rw [e] at h
    exact h)
  clear HV
  clear hE
  clear w2 w3 hT w0
  go_enter Tryd.func6, Tryd.ntmps6
  go_wp2_with (first
    | (go_at_call 19; refine (HRR.out _ (HB.out.below hb0) (HD.out.below hb0) (HF.out.below hb0) (HT1.out.below hb0)).mono ?_; rintro e1 w1 ⟨rfl, hb1⟩; have hs1 := hb1.size; simp at hs1; have HR1 := Lib.hid ((Row.new w 23 (bcells s0)).below hb1 (by simp)); have hb1' := hb0.trans (hb1.mono (by simp)))
    | (with_reducible refine wpList_store_row Tryd.agg25 rfl (.tmp 11) (.tmp 27) rfl _ _ rfl rfl 23 lit32 (Row.new w1 23 lit32) HDS.out lit32_size (bcells_one _) ?_; intro w2 hr2 ho2; have HG2 := Lib.hid hr2; have hs2 := ho2.size; simp at hs2; have HR2 := Lib.hid ((HR1.out.alloc (.cells lit32 23)).only ho2 (by omega)); have hb2' := (hb1'.alloc hb1'.size (.cells lit32 23)).trans (ho2.below (B := w.heap.size) (by omega) (by simp; omega)); clear hr2))
  have HX5 := HR2
  have HX11 := HG2
  have hltA : w.heap.size < w2.heap.size := HX5.out.lt
  have hltB : w1.heap.size < w2.heap.size := HX11.out.lt
  have K0 := Lib.hid (show w2.drew.rangeAt w.heap.size 0 (s0.map bcell) ∧ w2.drew.rangeAt w1.heap.size 0 (D.map bcell) from ⟨range_row (HX5.out.below ((Below.refl _ _).drew) hltA), range_row (HX11.out.below ((Below.refl _ _).drew) hltB)⟩)
  have HBW := Lib.hid (HB.out.below hb2')
  have HDW := Lib.hid (HD.out.below hb2')
  have HTW := Lib.hid (HT2.out.below hb2')
  refine wp_region_noPanic ?_
  refine wp_region_held_drew (S := fun w' => w'.rangeAt w.heap.size 0 (s0.map bcell) ∧ w'.rangeAt w1.heap.size 0 (D.map bcell)) (by kernel_rfl) K0.out (fun hHeld => ?_)
  refine takeD (i := 0) (some 31) (.agg (bcells s0)) rfl rfl (by kernel_rfl) (by kernel_rfl) (by kernel_rfl) (fun _ _ _ h => h) (yields_loadD rfl (.tmp 5) rfl _ 0 s0 rfl (fun _ h => h.1) HSL0.out) hHeld ?_
  simp only [Act.put, List.setIfInBounds_toArray, List.set_cons_zero, List.set_cons_succ]
  refine takeD (i := 1) (some 32) (.int .i64 a1) rfl rfl (by kernel_rfl) (by kernel_rfl) (by kernel_rfl) (fun _ _ _ h => h) (Or.inl ⟨by rfl, fun _ _ => rfl⟩) hHeld ?_
  simp only [Act.put, List.setIfInBounds_toArray, List.set_cons_zero, List.set_cons_succ]
  refine takeD (i := 2) (some 33) (.slice a2 len2 cap2) rfl rfl (by kernel_rfl) (by kernel_rfl) (by kernel_rfl) (fun _ _ _ h => h) (Or.inl ⟨by rfl, fun _ _ => rfl⟩) hHeld ?_
  simp only [Act.put, List.setIfInBounds_toArray, List.set_cons_zero, List.set_cons_succ]
  refine takeD (i := 5) (some 36) (.slice a3 len3 cap3) rfl rfl (by kernel_rfl) (by kernel_rfl) (by kernel_rfl) (fun _ _ _ h => h) (Or.inl ⟨by rfl, fun _ _ => rfl⟩) hHeld ?_
  simp only [Act.put, List.setIfInBounds_toArray, List.set_cons_zero, List.set_cons_succ]
  refine takeD (i := 8) (some 39) (.int .i64 E) rfl rfl (by kernel_rfl) (by kernel_rfl) (by kernel_rfl) (fun _ _ _ h => h) (Or.inl ⟨by rfl, fun _ _ => rfl⟩) hHeld ?_
  simp only [Act.put, List.setIfInBounds_toArray, List.set_cons_zero, List.set_cons_succ]
  refine takeD (i := 9) (some 40) (.bool false) rfl rfl (by kernel_rfl) (by kernel_rfl) (by kernel_rfl) (fun _ _ _ h => h) (yields_eqI rfl (.tmp 39) (.const (.int .i64 0)) rfl E 0 false rfl rfl hE0) hHeld ?_
  simp only [Act.put, List.setIfInBounds_toArray, List.set_cons_zero, List.set_cons_succ]
  have D0 : Below w2.heap.size w2 w2.drew := (Below.refl w2.heap.size w2).drew
  refine wpAnyH_ready (rs := [3, 4]) (by kernel_rfl) (by decide) ?_
  refine AllReadyH.cons rfl (fun K' hK => ?_) (AllReadyH.cons rfl (fun K' hK => ?_) AllReadyH.nil)
  · go_simp
    refine (own_any a2 len2 cap2 l2 w2.drew (HBW.out.below D0) (by omega)).mono ?_
    rintro e3 wo ⟨Ao, no, co, rfl, hBo, hco, hbo, -⟩
    have hno : no ≤ 1000000 := by rw [← hBo.1, HLN.out]; omega
    have Bo : Below w2.heap.size w2 wo := D0.trans (hbo.mono D0.size)
    have HBo := Lib.hid hBo
    clear hBo
    refine hK.out _ _ ⟨range_row (HX5.out.below Bo hltA), range_row (HX11.out.below Bo hltB)⟩ (fun hHeldo => ?_)
    clear hK
    refine wpAnyH_ready (rs := [4]) (by kernel_rfl) (by decide) ?_
    refine AllReadyH.cons rfl (fun K' hK => ?_) AllReadyH.nil
    refine step_of rfl (wp_emptyD rfl ?_)
    intro g wx hg hgx hoE hbx
    have BX : Below w2.heap.size w2 wx := Bo.trans (hbx.mono Bo.size)
    have HAp := Lib.hid (HBo.out.apart (show wo.heap.size ≤ g by omega))
    have hge : w2.heap.size ≤ g := by have := Bo.size; omega
    have HBx := Lib.hid (HBo.out.below hbx)
    have HOE := Lib.hid hoE
    have hba := hbx.size
    clear hg hoE
    refine hK.out _ _ ⟨range_row (HX5.out.below BX hltA), range_row (HX11.out.below BX hltB)⟩ (fun hHeldx => ?_)
    clear hK
    refine wpAnyH_ready (rs := [6]) (by kernel_rfl) (by decide) ?_
    refine AllReadyH.cons rfl (fun K' hK => ?_) AllReadyH.nil
    refine step_of rfl (wp_appDO (.tmp 35) (.tmp 36) rfl wo.heap.size g 0 rfl HOE.out a3 len3 cap3 l3 rfl (HDW.out.below BX) (by omega) hba ?_)
    intro A6 c6 w6 hd6 ho6
    have B6 : Below w2.heap.size w2 w6 := BX.trans (ho6.below (B := w2.heap.size) hge BX.size)
    have HB6 := Lib.hid (HBx.out.only HAp.out ho6)
    have HD6 := Lib.hid hd6
    clear hd6
    refine hK.out _ _ ⟨range_row (HX5.out.below B6 hltA), range_row (HX11.out.below B6 hltB)⟩ (fun hHeld6 => ?_)
    clear hK
    refine wpAnyH_ready (rs := [7]) (by kernel_rfl) (by decide) ?_
    refine AllReadyH.cons rfl (fun K' hK => ?_) AllReadyH.nil
    go_simp
    refine (HW.out Ao no co A6 c6 w6 HB6.out hco hno HD6.out (HTW.out.below B6)).mono ?_
    rintro e7 w7 ⟨rfl, hb7⟩
    have B7 : Below w2.heap.size w2 w7 := B6.trans (hb7.mono B6.size)
    refine hK.out _ _ ⟨range_row (HX5.out.below B7 hltA), range_row (HX11.out.below B7 hltB)⟩ (fun hHeld7 => ?_)
    clear hK
    (try simp only [Act.put, List.setIfInBounds_toArray, List.set_cons_zero, List.set_cons_succ])
    refine takeD (i := 10) (some 41) (.bool false) rfl rfl (by kernel_rfl) (by kernel_rfl) (by kernel_rfl) (fun _ _ _ h => h) (Or.inl ⟨by rfl, fun _ _ => rfl⟩) hHeld7 ?_
    simp only [Act.put, List.setIfInBounds_toArray, List.set_cons_zero, List.set_cons_succ]
    refine takeD (i := 11) (some 42) (undef) rfl rfl (by kernel_rfl) (by kernel_rfl) (by kernel_rfl) (fun _ _ _ h => h) (Or.inr ⟨by rfl, rfl⟩) hHeld7 ?_
    simp only [Act.put, List.setIfInBounds_toArray, List.set_cons_zero, List.set_cons_succ]
    refine takeD (i := 12) (some 43) (undef) rfl rfl (by kernel_rfl) (by kernel_rfl) (by kernel_rfl) (fun _ _ _ h => h) (Or.inr ⟨by rfl, rfl⟩) hHeld7 ?_
    simp only [Act.put, List.setIfInBounds_toArray, List.set_cons_zero, List.set_cons_succ]
    refine takeD (i := 13) (some 44) (undef) rfl rfl (by kernel_rfl) (by kernel_rfl) (by kernel_rfl) (fun _ _ _ h => h) (Or.inr ⟨by rfl, rfl⟩) hHeld7 ?_
    simp only [Act.put, List.setIfInBounds_toArray, List.set_cons_zero, List.set_cons_succ]
    refine takeD (i := 14) (some 45) (.bool false) rfl rfl (by kernel_rfl) (by kernel_rfl) (by kernel_rfl) (fun _ _ _ h => h) (Or.inl ⟨by rfl, fun _ _ => rfl⟩) hHeld7 ?_
    simp only [Act.put, List.setIfInBounds_toArray, List.set_cons_zero, List.set_cons_succ]
    refine takeD (i := 15) (some 46) (.bool true) rfl rfl (by kernel_rfl) (by kernel_rfl) (by kernel_rfl) (fun _ _ _ h => h) (yields_eqB rfl (.tmp 38) (.tmp 45) rfl false rfl rfl) hHeld7 ?_
    simp only [Act.put, List.setIfInBounds_toArray, List.set_cons_zero, List.set_cons_succ]
    refine takeD (i := 16) (some 47) (.bool true) rfl rfl (by kernel_rfl) (by kernel_rfl) (by kernel_rfl) (fun _ _ _ h => h) (Or.inl ⟨by rfl, fun _ _ => rfl⟩) hHeld7 ?_
    simp only [Act.put, List.setIfInBounds_toArray, List.set_cons_zero, List.set_cons_succ]
    refine wpAnyH_ready (rs := [17]) (by kernel_rfl) (by decide) ?_
    refine AllReadyH.cons rfl (fun K' hK => ?_) AllReadyH.nil
    go_simp
    refine (awake_any w7 (HTW.out.below B7)).mono ?_
    rintro e8 w8 ⟨rfl, hb8⟩
    have B8 : Below w2.heap.size w2 w8 := B7.trans (hb8.mono B7.size)
    refine hK.out _ _ ⟨range_row (HX5.out.below B8 hltA), range_row (HX11.out.below B8 hltB)⟩ (fun hHeld8 => ?_)
    clear hK
    (try simp only [Act.put, List.setIfInBounds_toArray, List.set_cons_zero, List.set_cons_succ])
    refine takeD (i := 18) (some 49) (.bool true) rfl rfl (by kernel_rfl) (by kernel_rfl) (by kernel_rfl) (fun _ _ _ h => h) (Or.inl ⟨by rfl, fun _ _ => rfl⟩) hHeld8 ?_
    simp only [Act.put, List.setIfInBounds_toArray, List.set_cons_zero, List.set_cons_succ]
    refine takeD (i := 19) (some 10) (.bool true) rfl rfl (by kernel_rfl) (by kernel_rfl) (by kernel_rfl) (fun _ _ _ h => h) (Or.inl ⟨by rfl, fun _ _ => rfl⟩) hHeld8 ?_
    simp only [Act.put, List.setIfInBounds_toArray, List.set_cons_zero, List.set_cons_succ]
    (try simp only [Act.put, List.setIfInBounds_toArray])
    refine wpAnyH_done (by kernel_rfl) ?_ _
    refine NoPanic.normal ?_
    go_wp2_with fail
    go_ret
    exact ⟨rfl, hb2'.trans (B8.mono hb2'.size)⟩
  · refine step_of rfl (wp_emptyD rfl ?_)
    intro g we hg hgx hoE hbe
    have BE : Below w2.heap.size w2 we := D0.trans (hbe.mono D0.size)
    have hge : w2.heap.size ≤ g := by have := D0.size; omega
    clear hg
    refine hK.out _ _ ⟨range_row (HX5.out.below BE hltA), range_row (HX11.out.below BE hltB)⟩ (fun hHeldo => ?_)
    clear hK
    refine wpAnyH_ready (rs := [3]) (by kernel_rfl) (by decide) ?_
    refine AllReadyH.cons rfl (fun K' hK => ?_) AllReadyH.nil
    go_simp
    refine (own_any a2 len2 cap2 l2 we (HBW.out.below BE) (by omega)).mono ?_
    rintro e3 wx ⟨Ao, no, co, rfl, hBo, hco, hbo, hoo⟩
    have hno : no ≤ 1000000 := by rw [← hBo.1, HLN.out]; omega
    have BX : Below w2.heap.size w2 wx := BE.trans (hbo.mono BE.size)
    have HBx := Lib.hid hBo
    have HAp := Lib.hid (own_apart hoo hgx)
    have HOE := Lib.hid (hoE.below hbo)
    have hba : w2.drew.heap.size ≤ wx.heap.size := BX.size
    clear hBo hoo hoE
    refine hK.out _ _ ⟨range_row (HX5.out.below BX hltA), range_row (HX11.out.below BX hltB)⟩ (fun hHeldx => ?_)
    clear hK
    refine wpAnyH_ready (rs := [6]) (by kernel_rfl) (by decide) ?_
    refine AllReadyH.cons rfl (fun K' hK => ?_) AllReadyH.nil
    refine step_of rfl (wp_appDO (.tmp 35) (.tmp 36) rfl w2.drew.heap.size g 0 rfl HOE.out a3 len3 cap3 l3 rfl (HDW.out.below BX) (by omega) hba ?_)
    intro A6 c6 w6 hd6 ho6
    have B6 : Below w2.heap.size w2 w6 := BX.trans (ho6.below (B := w2.heap.size) hge BX.size)
    have HB6 := Lib.hid (HBx.out.only HAp.out ho6)
    have HD6 := Lib.hid hd6
    clear hd6
    refine hK.out _ _ ⟨range_row (HX5.out.below B6 hltA), range_row (HX11.out.below B6 hltB)⟩ (fun hHeld6 => ?_)
    clear hK
    refine wpAnyH_ready (rs := [7]) (by kernel_rfl) (by decide) ?_
    refine AllReadyH.cons rfl (fun K' hK => ?_) AllReadyH.nil
    go_simp
    refine (HW.out Ao no co A6 c6 w6 HB6.out hco hno HD6.out (HTW.out.below B6)).mono ?_
    rintro e7 w7 ⟨rfl, hb7⟩
    have B7 : Below w2.heap.size w2 w7 := B6.trans (hb7.mono B6.size)
    refine hK.out _ _ ⟨range_row (HX5.out.below B7 hltA), range_row (HX11.out.below B7 hltB)⟩ (fun hHeld7 => ?_)
    clear hK
    (try simp only [Act.put, List.setIfInBounds_toArray, List.set_cons_zero, List.set_cons_succ])
    refine takeD (i := 10) (some 41) (.bool false) rfl rfl (by kernel_rfl) (by kernel_rfl) (by kernel_rfl) (fun _ _ _ h => h) (Or.inl ⟨by rfl, fun _ _ => rfl⟩) hHeld7 ?_
    simp only [Act.put, List.setIfInBounds_toArray, List.set_cons_zero, List.set_cons_succ]
    refine takeD (i := 11) (some 42) (undef) rfl rfl (by kernel_rfl) (by kernel_rfl) (by kernel_rfl) (fun _ _ _ h => h) (Or.inr ⟨by rfl, rfl⟩) hHeld7 ?_
    simp only [Act.put, List.setIfInBounds_toArray, List.set_cons_zero, List.set_cons_succ]
    refine takeD (i := 12) (some 43) (undef) rfl rfl (by kernel_rfl) (by kernel_rfl) (by kernel_rfl) (fun _ _ _ h => h) (Or.inr ⟨by rfl, rfl⟩) hHeld7 ?_
    simp only [Act.put, List.setIfInBounds_toArray, List.set_cons_zero, List.set_cons_succ]
    refine takeD (i := 13) (some 44) (undef) rfl rfl (by kernel_rfl) (by kernel_rfl) (by kernel_rfl) (fun _ _ _ h => h) (Or.inr ⟨by rfl, rfl⟩) hHeld7 ?_
    simp only [Act.put, List.setIfInBounds_toArray, List.set_cons_zero, List.set_cons_succ]
    refine takeD (i := 14) (some 45) (.bool false) rfl rfl (by kernel_rfl) (by kernel_rfl) (by kernel_rfl) (fun _ _ _ h => h) (Or.inl ⟨by rfl, fun _ _ => rfl⟩) hHeld7 ?_
    simp only [Act.put, List.setIfInBounds_toArray, List.set_cons_zero, List.set_cons_succ]
    refine takeD (i := 15) (some 46) (.bool true) rfl rfl (by kernel_rfl) (by kernel_rfl) (by kernel_rfl) (fun _ _ _ h => h) (yields_eqB rfl (.tmp 38) (.tmp 45) rfl false rfl rfl) hHeld7 ?_
    simp only [Act.put, List.setIfInBounds_toArray, List.set_cons_zero, List.set_cons_succ]
    refine takeD (i := 16) (some 47) (.bool true) rfl rfl (by kernel_rfl) (by kernel_rfl) (by kernel_rfl) (fun _ _ _ h => h) (Or.inl ⟨by rfl, fun _ _ => rfl⟩) hHeld7 ?_
    simp only [Act.put, List.setIfInBounds_toArray, List.set_cons_zero, List.set_cons_succ]
    refine wpAnyH_ready (rs := [17]) (by kernel_rfl) (by decide) ?_
    refine AllReadyH.cons rfl (fun K' hK => ?_) AllReadyH.nil
    go_simp
    refine (awake_any w7 (HTW.out.below B7)).mono ?_
    rintro e8 w8 ⟨rfl, hb8⟩
    have B8 : Below w2.heap.size w2 w8 := B7.trans (hb8.mono B7.size)
    refine hK.out _ _ ⟨range_row (HX5.out.below B8 hltA), range_row (HX11.out.below B8 hltB)⟩ (fun hHeld8 => ?_)
    clear hK
    (try simp only [Act.put, List.setIfInBounds_toArray, List.set_cons_zero, List.set_cons_succ])
    refine takeD (i := 18) (some 49) (.bool true) rfl rfl (by kernel_rfl) (by kernel_rfl) (by kernel_rfl) (fun _ _ _ h => h) (Or.inl ⟨by rfl, fun _ _ => rfl⟩) hHeld8 ?_
    simp only [Act.put, List.setIfInBounds_toArray, List.set_cons_zero, List.set_cons_succ]
    refine takeD (i := 19) (some 10) (.bool true) rfl rfl (by kernel_rfl) (by kernel_rfl) (by kernel_rfl) (fun _ _ _ h => h) (Or.inl ⟨by rfl, fun _ _ => rfl⟩) hHeld8 ?_
    simp only [Act.put, List.setIfInBounds_toArray, List.set_cons_zero, List.set_cons_succ]
    (try simp only [Act.put, List.setIfInBounds_toArray])
    refine wpAnyH_done (by kernel_rfl) ?_ _
    refine NoPanic.normal ?_
    go_wp2_with fail
    go_ret
    exact ⟨rfl, hb2'.trans (B8.mono hb2'.size)⟩
set_option maxRecDepth 100000 in
set_option maxHeartbeats 1000000 in
theorem walk (w : World) (s0 : List UInt8) (w0 : s0.length = 32) (a1 : Int) (_w1 : (Lit.int .i64 a1).wf = true) (a2 : Option Addr) (len2 cap2 : Nat) (l2 : List UInt8) (w2 : Bs w a2 len2 l2) (s2 : len2 ≤ cap2 ∧ cap2 ≤ 140737488351232) (a3 : Option Addr) (len3 cap3 : Nat) (l3 : List (List UInt8)) (w3 : Ds w a3 len3 l3) (a4 : Bool) (hT : First w ∧ Tab 1 w ∧ Tab 2 w) :
    Calls Tryd.prog 6 #[.agg (bcells s0), .int .i64 a1, .slice a2 len2 cap2, .slice a3 len3 cap3, .bool a4] w fun e w' => e = .returned (.bool true) ∧ Below w.heap.size w w' := by
  have hb0 := (Below.refl w.heap.size w).alloc (Nat.le_refl _) (.cells (bcells s0) 23)
  have HT := Lib.hid hT.2.2
  by_cases h500 : len2 ≤ 500
  · by_cases h600 : len3 ≤ 600
    · by_cases hE : errR a1 l3.length = 0
      · cases a4
        · exact walk_own_ok w s0 w0 a1 a2 len2 cap2 l2 w2 s2.1 a3 len3 cap3 l3 w3 h500 h600 hT hE
        · exact walk_led_ok w s0 w0 a1 a2 len2 cap2 l2 w2 s2.1 a3 len3 cap3 l3 w3 h500 h600 hT hE
      · cases a4
        · exact walk_own_err w s0 w0 a1 a2 len2 cap2 l2 w2 s2.1 a3 len3 cap3 l3 w3 h500 h600 hT hE
        · exact walk_led_err w s0 w0 a1 a2 len2 cap2 l2 w2 s2.1 a3 len3 cap3 l3 w3 h500 h600 hT hE
    · have i0 : ¬ 500 < (len2 : Int) := by omega
      have i1 : 600 < (len3 : Int) := by omega
      clear w2 w3 hT w0
      go_enter Tryd.func6, Tryd.ntmps6
      go_wp2_with (go_at_call 9; refine (awake_any _ (HT.out.below hb0)).mono ?_; rintro e4 w4 ⟨rfl, hb4⟩)
      go_ret
      exact ⟨rfl, hb0.trans (hb4.mono hb0.size)⟩
  · have i0 : 500 < (len2 : Int) := by omega
    clear w2 w3 hT w0
    go_enter Tryd.func6, Tryd.ntmps6
    go_wp2_with (go_at_call 9; refine (awake_any _ (HT.out.below hb0)).mono ?_; rintro e4 w4 ⟨rfl, hb4⟩)
    go_ret
    exact ⟨rfl, hb0.trans (hb4.mono hb0.size)⟩

set_option maxRecDepth 100000 in
theorem lifted (os : Os) (started : os.Started) (H : Type) (enc : TypeId × Value → H) :
    ReturnsInHanded {} Tryd.checked os 6 .any (fun w args => (Rows.otsTellsSpec.pre enc Tryd.prog Tryd.f6 Rows.otsTellsRow.domain false w args ∧ laidMetH Tryd.prog lay3 w) ∧ sizedMet enc Tryd.prog Tryd.f6 (OpenSpec.ofChange Rows.otsTellsSpec) false w args)
      (Rows.otsTellsSpec.post enc Tryd.prog Tryd.f6 false true false false) := by
  refine returnsInHanded_of_change_and (C := Tryd.checked) (X := fun w _ => laidMetH Tryd.prog lay3 w) (fun _ _ _ hh h => h.of_heap hh) own started (by kernel_rfl) Tryd.func6
    (ChangeSpec.witness_shaped (enc := enc) (C := Tryd.checked) (os := os) (X := fun w _ => laidMetH Tryd.prog lay3 w) false (World.laidAll Tryd.prog os lay3) #[.agg #[.int .u8 0, .int .u8 0, .int .u8 0, .int .u8 0, .int .u8 0, .int .u8 0, .int .u8 0, .int .u8 0, .int .u8 0, .int .u8 0, .int .u8 0, .int .u8 0, .int .u8 0, .int .u8 0, .int .u8 0, .int .u8 0, .int .u8 0, .int .u8 0, .int .u8 0, .int .u8 0, .int .u8 0, .int .u8 0, .int .u8 0, .int .u8 0, .int .u8 0, .int .u8 0, .int .u8 0, .int .u8 0, .int .u8 0, .int .u8 0, .int .u8 0, .int .u8 0], .int .i64 0, .slice none 0 0, .slice none 0 0, .bool false] 8 rfl (World.shaped_of_ZipB (by kernel_rfl) (by kernel_rfl)) (by kernel_rfl) (by kernel_rfl) (by kernel_rfl) (met3 os _)) ?_
  intro W base args ds gs before hval0 hW hcnd hsz0 hL _
  have hval : ∀ (j : Nat) t v, Tryd.f6.params[j]? = some t → args[j]? = some v → Value.okWide Tryd.prog W .any base t v := hval0
  have hW' := hW
  obtain ⟨p, q, hA0, hV, rfl, hfz, hnd⟩ := hW
  have hA : DataW.TrodAll enc Tryd.prog W 0 (fun _ => true) true Tryd.f6.params.toList args.toList ds p := hA0
  have hsz : (DataW.weightsEach Tryd.prog (Tryd.f6.params.toList ++ Rows.otsTellsSpec.plain.varTypes Tryd.prog) (ds ++ gs)).all (· ≤ reachBytes) = true := hsz0
  rw [Tryd.params6] at hA hval hsz
  obtain ⟨v0, vs0, d0, ds0, p0, q0, hargs, rfl, rfl, h0, r0⟩ := trodAll_cons hA
  obtain ⟨v1, vs1, d1, ds1, p1, q1, rfl, rfl, rfl, h1, r1⟩ := trodAll_cons r0
  obtain ⟨v2, vs2, d2, ds2, p2, q2, rfl, rfl, rfl, h2, r2⟩ := trodAll_cons r1
  obtain ⟨v3, vs3, d3, ds3, p3, q3, rfl, rfl, rfl, h3, r3⟩ := trodAll_cons r2
  obtain ⟨v4, vs4, d4, ds4, p4, q4, rfl, rfl, rfl, h4, r4⟩ := trodAll_cons r3
  obtain ⟨rfl, rfl, rfl⟩ := trodAll_nil r4
  obtain rfl : args = #[v0, v1, v2, v3, v4] := by cases args; simp_all
  obtain ⟨rfl, rfl⟩ := trodVars_none hV
  have k0 := h0
  have lt0 : ∀ x ∈ p0, x.block < W.heap.size := by obtain ⟨m, hm⟩ := k0; exact DataW.trod_lt m _ _ _ hm
  obtain ⟨s0, w0, rfl⟩ : ∃ s : List UInt8, s.length = 32 ∧ v0 = .agg (bcells s) := open_digest (hval 0 23 v0 rfl rfl) h0
  obtain ⟨a1, rfl, rfl, rfl, w1⟩ := open_int Tryd.underlying3 (hval 1 3 v1 rfl rfl) h1
  obtain ⟨a2, len2, cap2, rfl⟩ := okWide_slice Tryd.underlying34 (hval 2 34 v2 rfl rfl)
  have k2 := h2
  have lt2 : ∀ x ∈ p2, x.block < W.heap.size := by obtain ⟨m, hm⟩ := k2; exact DataW.trod_lt m _ _ _ hm
  obtain ⟨l2, w2, s2⟩ : ∃ l, Bs W a2 len2 l ∧ len2 ≤ cap2 ∧ cap2 ≤ 140737488351232 := by
    obtain ⟨fuel, hf⟩ := h2
    rcases open_ints Tryd.underlying34 Tryd.underlying5 (by kernel_rfl) hf with ⟨hcs, _⟩ | ⟨x, l, c, zs, hcs, _, hl, hm, hz, hx, hcell, hwz⟩
    · simp [Value.cells] at hcs
      obtain ⟨rfl, rfl, rfl⟩ := hcs
      exact ⟨[], Bs.nil _ _, by omega, by omega⟩
    · simp [Value.cells] at hcs
      obtain ⟨rfl, rfl, rfl⟩ := hcs
      simp only [Prod.mk.injEq] at hx
      obtain ⟨rfl, _⟩ := hx
      have hb := sized_slice hsz (j := 2) (t := 34) (e := 5) rfl rfl Tryd.underlying34
      rw [show Tryd.prog.bytesOf 5 = 1 from by kernel_rfl] at hb
      simp only [lits, List.length_map, List.length_take, List.length_drop, reachBytes] at hb
      have hz' : zs.length = cap2 := by simpa using hz
      exact ⟨_, Bs.of_ints hl hz' hcell hwz, hl, by omega⟩
  have k3 := h3
  have lt3 : ∀ x ∈ p3, x.block < W.heap.size := by obtain ⟨m, hm⟩ := k3; exact DataW.trod_lt m _ _ _ hm
  obtain ⟨a3, len3, cap3, l3, rfl, w3⟩ := open_ds (hval 3 24 v3 rfl rfl) h3
  obtain ⟨a4, rfl, rfl, rfl⟩ := open_bool Tryd.underlying4 (hval 4 4 v4 rfl rfl) h4
  have hTab := of_lay3 hL
  clear hA0 hval0
  refine (walk W s0 w0 a1 w1 a2 len2 cap2 l2 w2 s2 a3 len3 cap3 l3 w3 a4 hTab).mono fun e W' ⟨he, bel⟩ => ?_
  subst he
  exact ⟨_, rfl, _, _, _, [], _, [], hW', trodAll_mk1 (shut_bool Tryd.underlying4 _), (trodAll_cons_mk (Below.trod laidOut (by kernel_rfl) (of_decide_eq_true (by kernel_rfl)) k0 bel lt0) (trodAll_cons_mk (shut_int Tryd.underlying3 w1) (trodAll_cons_mk (Below.trod laidOut (by kernel_rfl) (of_decide_eq_true (by kernel_rfl)) k2 bel lt2) (trodAll_cons_mk (Below.trod laidOut (by kernel_rfl) (of_decide_eq_true (by kernel_rfl)) k3 bel lt3) (trodAll_cons_mk (shut_bool Tryd.underlying4 _) trodAll_mk0))))), rfl, bel.frame _, fun h => by cases h⟩
theorem over : Rows.otsTellsRow.holds Tryd.pinned (OpenSpec.ofChange Rows.otsTellsSpec) :=
  OpenClaim.holds_of_wide 6 Tryd.f6 rfl rfl rfl rfl rfl rfl rfl ⟨rfl, rfl, rfl, rfl, rfl⟩ rfl rfl rfl rfl rfl (by kernel_rfl) Tryd.func6 (by kernel_rfl)
    (of_decide_eq_true (by kernel_rfl)) (by unfold Func.isWrapper; first | (rw [if_pos (by decide +kernel)]; kernel_rfl) | (rw [if_neg (by decide +kernel)]; exact ⟨rfl, rfl⟩))
    (fun os started H enc _ => lifted os started H enc)
theorem otsTells_holds : Rows.OtsTellsCardSaid :=
  Claim7.holds_tied_plain_at .later [] [.data, .data, .data] true (true, "38853a3e69654356aeca0a1f5f06e005877108b1e9361b026282a30c4990b858") false
    over (fun _ h => by cases h) (by kernel_rfl) (fun _ h => by cases h) otsTells_row_tie rfl ⟨rfl, rfl⟩ (by kernel_rfl) rfl
    (fun f fn hf hfn => by
      obtain rfl : f = 6 := Option.some.inj ((show Tryd.prog.funcNamed "jurat/juratlaw05.OtsTells" = some 6 by kernel_rfl).symm.trans hf) |>.symm
      obtain rfl : fn = Tryd.f6 := (Option.some.inj (Tryd.func6.symm.trans hfn)).symm
      exact ⟨by kernel_rfl, fun j t ht => by
        rw [Tryd.params6] at ht
        have hm : t ∈ [23, 3, 34, 24, 4] := by simpa using Array.mem_of_getElem? ht
        have hall : ([23, 3, 34, 24, 4].all fun u => !Tryd.prog.wantsStandIn u) = true := by kernel_rfl
        exact (show Tryd.prog.wantsStandIn t = false by simpa using List.all_eq_true.1 hall t hm)⟩)
    (by kernel_rfl)
#print axioms otsTells_holds
end Go.Proofs.YtghihgmgadaoeaaDoor.otsTells
