/-
  OtsBack, whole, as the tied card (Rows.OtsBackCardSaid): for every seed, number of bits and text of up to 500 bytes what is signed is verified by the root of the public part, and where there may not be so many bits Public and Sign answer ErrArg and Verify false; what is signed is verified, and another root isn't. Conditions: the table sha.constants reads as its initialiser lays it (tied to the program's text).
-/
import Derived.Test.YtghihgmgadaoeaaDoorRows
import Derived.Test.YtghihgmgadaoeaaDoorCards
import Derived.Test.YtghihgmgadaoeaaDoorTie
import Derived.WalkKit
import Derived.ProofKit
import Derived.OpenShut
import Derived.ChangeMaps5
import Derived.ShutString
import Derived.ChangeOld
import Derived.Below
import Derived.SizedLaws
import Derived.SevenTiedAt
import Derived.Lay
import Derived.LaidLaws
import Derived.Test.YtghihgmgadaoeaaDoorAlive
import Derived.Test.YtghihgmgadaoeaaDoorRSame
import Derived.Test.YtghihgmgadaoeaaDoorOpens
namespace Go.Proofs.YtghihgmgadaoeaaDoor.otsBack
open Go.ChangeShapes Go.WideShapes Go.ChangeAt Go.RowKit
open Go.ChangeMaps (open_string shut_string)
set_option linter.unusedVariables false
theorem own : ownKnob Tryd.prog.godebug = none := by kernel_rfl
theorem laidOut : laidOutB Tryd.prog = true := by kernel_rfl
set_option maxRecDepth 100000 in
set_option maxHeartbeats 2000000 in
theorem walk_true (w : World) (s0 : List UInt8) (w0 : s0.length = 32) (a1 : Int) (a2 : Option Addr) (len2 cap2 : Nat) (l2 : List UInt8) (w2 : Bs w a2 len2 l2) (h500 : len2 ≤ 500) (hb : okB a1 = true) (hT : Tab 2 w) :
    Calls Tryd.prog 5 #[.agg (bcells s0), .int .i64 a1, .slice a2 len2 cap2] w fun e w' => e = .returned (.bool true) ∧ Below w.heap.size w w' := by
  have hb0 := (Below.refl w.heap.size w).alloc (Nat.le_refl _) (.cells (bcells s0) 23)
  have HT := Lib.hid hT
  have i0 : ¬ 500 < (len2 : Int) := by omega
  have HKS := Lib.hid (show (bcells s0).size = 32 by rw [bcells_size, w0])
  have HE : errA a1 = 0 := by unfold errA; rw [hb]; rfl
  have HP := Lib.hid (fun w hT => Public_any s0 a1 w w0 hT)
  have HSG := Lib.hid (fun A n c w hB hc hn hT => Sign_any s0 a1 A n c l2 w w0 hB hc hn hT)
  rw [HE] at HP HSG
  have HPL := Lib.hid (pubI_length s0 a1)
  have HRI := Lib.hid (fun w => Right_yes a1 w (okB_yes hb).1 (okB_yes hb).2)
  have HR := Lib.hid (fun A n c w hD hT hn => Root_any A n c (pubI s0 a1) w hD hT hn)
  have HV := Lib.hid (fun A n c B m d w hB hc hn hD hT => show Calls Tryd.prog 21 #[.agg (bcells (rootL (pubI s0 a1))), .int .i64 a1, .slice A n c, .slice B m d] w fun e w' => e = .returned (.bool true) ∧ Below w.heap.size w w' from by
    have h := Verify_any (rootL (pubI s0 a1)) a1 A B n c m d l2 (sigI s0 (sumL l2) a1) w (rootL_length _) hB hc hn hD hT
    rw [verI_back, hb] at h
    exact h)
  have rl : (s0.map bcell).length = 32 := by rw [List.length_map, w0]
  have rz : (Tryd.prog.info? 23).map (·.size) = some (s0.map bcell).length := by rw [rl]; exact Tryd.sizeD
  have ru := Tryd.under23
  have HB := Lib.hid w2
  have HLN := Lib.hid w2.1
  generalize rootL (pubI s0 a1) = R at *
  generalize pubI s0 a1 = PB at *
  generalize sigI s0 (sumL l2) a1 = SG at *
  clear w2 hT w0 rl HE hb
  go_enter Tryd.func5, Tryd.ntmps5
  go_wp2_with (first
    | (with_reducible refine wpList_load_row Tryd.agg25 rfl (.tmp 3) rfl _ rfl 23 _ (Row.new w 23 (bcells s0)) HKS.out ?_)
    | (go_at_call 10; refine (HP.out _ (HT.out.below hb0)).mono ?_; rintro e1 w1 ⟨A1, c1, rfl, hc1, hd1, hb1⟩; have HD1 := Lib.hid hd1; have hs1 := hb1.size; simp at hs1; have HR1 := Lib.hid ((Row.new w 23 (bcells s0)).below hb1 (by simp)); have hb1' := hb0.trans (hb1.mono (by simp)); have HB1 := Lib.hid (HB.out.below hb1'); have HT1 := Lib.hid (HT.out.below hb1'); have hlt1 : w.heap.size < w1.heap.size := (by omega); clear hd1))
  have Kq := Lib.hid (show w1.drew.rangeAt w.heap.size 0 (s0.map bcell) by exact range_row (HR1.out.below ((Below.refl _ _).drew) hlt1))
  refine wp_region_noPanic ?_
  refine wp_region_held_drew (S := fun w' => w'.rangeAt w.heap.size 0 (s0.map bcell)) (by kernel_rfl) Kq.out (fun hHeld => ?_)
  refine takeD (i := 0) (some 22) (.agg (s0.map bcell).toArray) rfl rfl (by kernel_rfl) (by kernel_rfl) (by kernel_rfl) (fun _ _ _ h => h) (yieldsIf_load_mid (by rfl) _ _ rfl _ _ rfl _ _ (fun _ h => h) ru rfl rz) hHeld ?_
  simp only [Act.put, List.setIfInBounds_toArray, List.set_cons_zero, List.set_cons_succ]
  refine takeD (i := 1) (some 23) (.int .i64 a1) rfl rfl (by kernel_rfl) (by kernel_rfl) (by kernel_rfl) (fun _ _ _ h => h) (Or.inl ⟨by rfl, fun _ _ => rfl⟩) hHeld ?_
  simp only [Act.put, List.setIfInBounds_toArray, List.set_cons_zero, List.set_cons_succ]
  refine takeD (i := 2) (some 24) (.slice a2 len2 cap2) rfl rfl (by kernel_rfl) (by kernel_rfl) (by kernel_rfl) (fun _ _ _ h => h) (Or.inl ⟨by rfl, fun _ _ => rfl⟩) hHeld ?_
  simp only [Act.put, List.setIfInBounds_toArray, List.set_cons_zero, List.set_cons_succ]
  have Dq : Below w1.heap.size w1 w1.drew := (Below.refl w1.heap.size w1).drew
  refine wpAnyH_ready (rs := [3]) (by kernel_rfl) (by decide) ?_
  refine AllReadyH.cons rfl (fun K' hK => ?_) AllReadyH.nil
  go_simp
  refine (own_any a2 len2 cap2 l2 w1.drew (HB1.out.below Dq) (by omega)).mono ?_
  rintro e3 woq ⟨Aoq, noq, coq, rfl, hBoq, hcoq, hboq, -⟩
  have HBoq := Lib.hid hBoq
  have hnoq : noq ≤ 1000000 := by rw [← hBoq.1, HLN.out]; omega
  have Boq : Below w1.heap.size w1 woq := Dq.trans (hboq.mono Dq.size)
  clear hBoq
  refine hK.out _ _ (range_row (HR1.out.below Boq hlt1)) (fun hHeld31 => ?_)
  clear hK
  refine wpAnyH_ready (rs := [4]) (by kernel_rfl) (by decide) ?_
  refine AllReadyH.cons rfl (fun K' hK => ?_) AllReadyH.nil
  go_simp
  refine (HSG.out Aoq noq coq woq HBoq.out hcoq hnoq (HT1.out.below Boq)).mono ?_
  rintro e4 wsq ⟨Asq, csq, rfl, hcsq, hdsq, hbsq⟩
  have HDsq := Lib.hid hdsq
  have Bsq : Below w1.heap.size w1 wsq := Boq.trans (hbsq.mono Boq.size)
  clear hdsq
  refine hK.out _ _ (range_row (HR1.out.below Bsq hlt1)) (fun hHeld32 => ?_)
  clear hK
  (try simp only [Act.put, List.setIfInBounds_toArray, List.set_cons_zero, List.set_cons_succ])
  refine takeD (i := 5) (some 21) (.tuple #[.slice Asq SG.length csq, .int .i64 0]) rfl rfl (by kernel_rfl) (by kernel_rfl) (by kernel_rfl) (fun _ _ _ h => h) (Or.inl ⟨by rfl, fun _ _ => rfl⟩) hHeld32 ?_
  simp only [Act.put, List.setIfInBounds_toArray, List.set_cons_zero, List.set_cons_succ]
  refine takeD (i := 6) (some 27) (.slice Asq SG.length csq) rfl rfl (by kernel_rfl) (by kernel_rfl) (by kernel_rfl) (fun _ _ _ h => h) (Or.inl ⟨by rfl, fun _ _ => rfl⟩) hHeld32 ?_
  simp only [Act.put, List.setIfInBounds_toArray, List.set_cons_zero, List.set_cons_succ]
  refine takeD (i := 7) (some 28) (.int .i64 0) rfl rfl (by kernel_rfl) (by kernel_rfl) (by kernel_rfl) (fun _ _ _ h => h) (Or.inl ⟨by rfl, fun _ _ => rfl⟩) hHeld32 ?_
  simp only [Act.put, List.setIfInBounds_toArray, List.set_cons_zero, List.set_cons_succ]
  refine takeD (i := 8) (some 9) (.slice Asq SG.length csq) rfl rfl (by kernel_rfl) (by kernel_rfl) (by kernel_rfl) (fun _ _ _ h => h) (Or.inl ⟨by rfl, fun _ _ => rfl⟩) hHeld32 ?_
  simp only [Act.put, List.setIfInBounds_toArray, List.set_cons_zero, List.set_cons_succ]
  refine takeD (i := 9) (some 10) (.int .i64 0) rfl rfl (by kernel_rfl) (by kernel_rfl) (by kernel_rfl) (fun _ _ _ h => h) (Or.inl ⟨by rfl, fun _ _ => rfl⟩) hHeld32 ?_
  simp only [Act.put, List.setIfInBounds_toArray, List.set_cons_zero, List.set_cons_succ]
  (try simp only [Act.put, List.setIfInBounds_toArray])
  refine wpAnyH_done (by kernel_rfl) ?_ _
  refine NoPanic.normal ?_
  have hb5' := hb1'.trans (Bsq.mono hb1'.size)
  go_wp2_with (first
    | (go_at_call 20; refine (HRI.out wsq).mono ?_; rintro e5 w5 ⟨rfl, rfl⟩)
    | (go_at_call 13; refine (HR.out A1 _ c1 wsq (HD1.out.below Bsq) (HT1.out.below Bsq) (by have := HPL.out; omega)).mono ?_; rintro e6 w6 ⟨rfl, hb6⟩; have hb6' := hb5'.trans (hb6.mono hb5'.size))
    | (go_at_call 16; refine (own_any a2 len2 cap2 l2 w6 (HB.out.below hb6') (by omega)).mono ?_; rintro e7 w7 ⟨A7, n7, c7, rfl, hB7, hc7, hb7, -⟩; have HB7 := Lib.hid hB7; have hn7 : n7 ≤ 1000000 := (by rw [← hB7.1, HLN.out]; omega); have hb7' := hb6'.trans (hb7.mono hb6'.size); clear hB7)
    | (go_at_call 21; refine (HV.out A7 n7 c7 Asq _ csq w7 HB7.out hc7 hn7 ((HDsq.out.below hb6).below hb7) (HT.out.below hb7')).mono ?_; rintro e8 w8 ⟨rfl, hb8⟩; have hb8' := hb7'.trans (hb8.mono hb7'.size))
    | (go_at_call 9; refine (awake_any w8 (HT.out.below hb8')).mono ?_; rintro e9 w9 ⟨rfl, hb9⟩; have hb9' := hb8'.trans (hb9.mono hb8'.size)))
  go_ret
  exact ⟨rfl, hb9'⟩
set_option maxRecDepth 100000 in
set_option maxHeartbeats 2000000 in
theorem walk_false (w : World) (s0 : List UInt8) (w0 : s0.length = 32) (a1 : Int) (a2 : Option Addr) (len2 cap2 : Nat) (l2 : List UInt8) (w2 : Bs w a2 len2 l2) (h500 : len2 ≤ 500) (hb : okB a1 = false) (hT : Tab 2 w) :
    Calls Tryd.prog 5 #[.agg (bcells s0), .int .i64 a1, .slice a2 len2 cap2] w fun e w' => e = .returned (.bool true) ∧ Below w.heap.size w w' := by
  have hb0 := (Below.refl w.heap.size w).alloc (Nat.le_refl _) (.cells (bcells s0) 23)
  have HT := Lib.hid hT
  have i0 : ¬ 500 < (len2 : Int) := by omega
  have HKS := Lib.hid (show (bcells s0).size = 32 by rw [bcells_size, w0])
  have HE : errA a1 = 1 := by unfold errA; rw [hb]; rfl
  have HP := Lib.hid (fun w hT => Public_any s0 a1 w w0 hT)
  have HSG := Lib.hid (fun A n c w hB hc hn hT => Sign_any s0 a1 A n c l2 w w0 hB hc hn hT)
  rw [HE] at HP HSG
  have HPL := Lib.hid (pubI_length s0 a1)
  have HRI := Lib.hid (fun w => Right_no a1 w (okB_no hb))
  have HR := Lib.hid (fun A n c w hD hT hn => Root_any A n c (pubI s0 a1) w hD hT hn)
  have HV := Lib.hid (fun A n c B m d w hB hc hn hD hT => show Calls Tryd.prog 21 #[.agg (bcells (rootL (pubI s0 a1))), .int .i64 a1, .slice A n c, .slice B m d] w fun e w' => e = .returned (.bool false) ∧ Below w.heap.size w w' from by
    have h := Verify_any (rootL (pubI s0 a1)) a1 A B n c m d l2 (sigI s0 (sumL l2) a1) w (rootL_length _) hB hc hn hD hT
    rw [verI_back, hb] at h
    exact h)
  have rl : (s0.map bcell).length = 32 := by rw [List.length_map, w0]
  have rz : (Tryd.prog.info? 23).map (·.size) = some (s0.map bcell).length := by rw [rl]; exact Tryd.sizeD
  have ru := Tryd.under23
  have HB := Lib.hid w2
  have HLN := Lib.hid w2.1
  generalize rootL (pubI s0 a1) = R at *
  generalize pubI s0 a1 = PB at *
  generalize sigI s0 (sumL l2) a1 = SG at *
  clear w2 hT w0 rl HE hb
  go_enter Tryd.func5, Tryd.ntmps5
  go_wp2_with (first
    | (with_reducible refine wpList_load_row Tryd.agg25 rfl (.tmp 3) rfl _ rfl 23 _ (Row.new w 23 (bcells s0)) HKS.out ?_)
    | (go_at_call 10; refine (HP.out _ (HT.out.below hb0)).mono ?_; rintro e1 w1 ⟨A1, c1, rfl, hc1, hd1, hb1⟩; have HD1 := Lib.hid hd1; have hs1 := hb1.size; simp at hs1; have HR1 := Lib.hid ((Row.new w 23 (bcells s0)).below hb1 (by simp)); have hb1' := hb0.trans (hb1.mono (by simp)); have HB1 := Lib.hid (HB.out.below hb1'); have HT1 := Lib.hid (HT.out.below hb1'); have hlt1 : w.heap.size < w1.heap.size := (by omega); clear hd1))
  have Kq := Lib.hid (show w1.drew.rangeAt w.heap.size 0 (s0.map bcell) by exact range_row (HR1.out.below ((Below.refl _ _).drew) hlt1))
  refine wp_region_noPanic ?_
  refine wp_region_held_drew (S := fun w' => w'.rangeAt w.heap.size 0 (s0.map bcell)) (by kernel_rfl) Kq.out (fun hHeld => ?_)
  refine takeD (i := 0) (some 22) (.agg (s0.map bcell).toArray) rfl rfl (by kernel_rfl) (by kernel_rfl) (by kernel_rfl) (fun _ _ _ h => h) (yieldsIf_load_mid (by rfl) _ _ rfl _ _ rfl _ _ (fun _ h => h) ru rfl rz) hHeld ?_
  simp only [Act.put, List.setIfInBounds_toArray, List.set_cons_zero, List.set_cons_succ]
  refine takeD (i := 1) (some 23) (.int .i64 a1) rfl rfl (by kernel_rfl) (by kernel_rfl) (by kernel_rfl) (fun _ _ _ h => h) (Or.inl ⟨by rfl, fun _ _ => rfl⟩) hHeld ?_
  simp only [Act.put, List.setIfInBounds_toArray, List.set_cons_zero, List.set_cons_succ]
  refine takeD (i := 2) (some 24) (.slice a2 len2 cap2) rfl rfl (by kernel_rfl) (by kernel_rfl) (by kernel_rfl) (fun _ _ _ h => h) (Or.inl ⟨by rfl, fun _ _ => rfl⟩) hHeld ?_
  simp only [Act.put, List.setIfInBounds_toArray, List.set_cons_zero, List.set_cons_succ]
  have Dq : Below w1.heap.size w1 w1.drew := (Below.refl w1.heap.size w1).drew
  refine wpAnyH_ready (rs := [3]) (by kernel_rfl) (by decide) ?_
  refine AllReadyH.cons rfl (fun K' hK => ?_) AllReadyH.nil
  go_simp
  refine (own_any a2 len2 cap2 l2 w1.drew (HB1.out.below Dq) (by omega)).mono ?_
  rintro e3 woq ⟨Aoq, noq, coq, rfl, hBoq, hcoq, hboq, -⟩
  have HBoq := Lib.hid hBoq
  have hnoq : noq ≤ 1000000 := by rw [← hBoq.1, HLN.out]; omega
  have Boq : Below w1.heap.size w1 woq := Dq.trans (hboq.mono Dq.size)
  clear hBoq
  refine hK.out _ _ (range_row (HR1.out.below Boq hlt1)) (fun hHeld31 => ?_)
  clear hK
  refine wpAnyH_ready (rs := [4]) (by kernel_rfl) (by decide) ?_
  refine AllReadyH.cons rfl (fun K' hK => ?_) AllReadyH.nil
  go_simp
  refine (HSG.out Aoq noq coq woq HBoq.out hcoq hnoq (HT1.out.below Boq)).mono ?_
  rintro e4 wsq ⟨Asq, csq, rfl, hcsq, hdsq, hbsq⟩
  have HDsq := Lib.hid hdsq
  have Bsq : Below w1.heap.size w1 wsq := Boq.trans (hbsq.mono Boq.size)
  clear hdsq
  refine hK.out _ _ (range_row (HR1.out.below Bsq hlt1)) (fun hHeld32 => ?_)
  clear hK
  (try simp only [Act.put, List.setIfInBounds_toArray, List.set_cons_zero, List.set_cons_succ])
  refine takeD (i := 5) (some 21) (.tuple #[.slice Asq SG.length csq, .int .i64 1]) rfl rfl (by kernel_rfl) (by kernel_rfl) (by kernel_rfl) (fun _ _ _ h => h) (Or.inl ⟨by rfl, fun _ _ => rfl⟩) hHeld32 ?_
  simp only [Act.put, List.setIfInBounds_toArray, List.set_cons_zero, List.set_cons_succ]
  refine takeD (i := 6) (some 27) (.slice Asq SG.length csq) rfl rfl (by kernel_rfl) (by kernel_rfl) (by kernel_rfl) (fun _ _ _ h => h) (Or.inl ⟨by rfl, fun _ _ => rfl⟩) hHeld32 ?_
  simp only [Act.put, List.setIfInBounds_toArray, List.set_cons_zero, List.set_cons_succ]
  refine takeD (i := 7) (some 28) (.int .i64 1) rfl rfl (by kernel_rfl) (by kernel_rfl) (by kernel_rfl) (fun _ _ _ h => h) (Or.inl ⟨by rfl, fun _ _ => rfl⟩) hHeld32 ?_
  simp only [Act.put, List.setIfInBounds_toArray, List.set_cons_zero, List.set_cons_succ]
  refine takeD (i := 8) (some 9) (.slice Asq SG.length csq) rfl rfl (by kernel_rfl) (by kernel_rfl) (by kernel_rfl) (fun _ _ _ h => h) (Or.inl ⟨by rfl, fun _ _ => rfl⟩) hHeld32 ?_
  simp only [Act.put, List.setIfInBounds_toArray, List.set_cons_zero, List.set_cons_succ]
  refine takeD (i := 9) (some 10) (.int .i64 1) rfl rfl (by kernel_rfl) (by kernel_rfl) (by kernel_rfl) (fun _ _ _ h => h) (Or.inl ⟨by rfl, fun _ _ => rfl⟩) hHeld32 ?_
  simp only [Act.put, List.setIfInBounds_toArray, List.set_cons_zero, List.set_cons_succ]
  (try simp only [Act.put, List.setIfInBounds_toArray])
  refine wpAnyH_done (by kernel_rfl) ?_ _
  refine NoPanic.normal ?_
  have hb5' := hb1'.trans (Bsq.mono hb1'.size)
  go_wp2_with (first
    | (go_at_call 20; refine (HRI.out wsq).mono ?_; rintro e5 w5 ⟨rfl, rfl⟩)
    | (go_at_call 13; refine (HR.out A1 _ c1 wsq (HD1.out.below Bsq) (HT1.out.below Bsq) (by have := HPL.out; omega)).mono ?_; rintro e6 w6 ⟨rfl, hb6⟩; have hb6' := hb5'.trans (hb6.mono hb5'.size))
    | (go_at_call 16; refine (own_any a2 len2 cap2 l2 w6 (HB.out.below hb6') (by omega)).mono ?_; rintro e7 w7 ⟨A7, n7, c7, rfl, hB7, hc7, hb7, -⟩; have HB7 := Lib.hid hB7; have hn7 : n7 ≤ 1000000 := (by rw [← hB7.1, HLN.out]; omega); have hb7' := hb6'.trans (hb7.mono hb6'.size); clear hB7)
    | (go_at_call 21; refine (HV.out A7 n7 c7 Asq _ csq w7 HB7.out hc7 hn7 ((HDsq.out.below hb6).below hb7) (HT.out.below hb7')).mono ?_; rintro e8 w8 ⟨rfl, hb8⟩; have hb8' := hb7'.trans (hb8.mono hb7'.size))
    | (go_at_call 9; refine (awake_any w8 (HT.out.below hb8')).mono ?_; rintro e9 w9 ⟨rfl, hb9⟩; have hb9' := hb8'.trans (hb9.mono hb8'.size)))
  go_ret
  exact ⟨rfl, hb9'⟩
set_option maxRecDepth 100000 in
set_option maxHeartbeats 1000000 in
theorem walk (w : World) (s0 : List UInt8) (w0 : s0.length = 32) (a1 : Int) (_w1 : (Lit.int .i64 a1).wf = true) (a2 : Option Addr) (len2 cap2 : Nat) (l2 : List UInt8) (w2 : Bs w a2 len2 l2) (_s2 : len2 ≤ cap2 ∧ cap2 ≤ 140737488351232) (hT : Tab 2 w) :
    Calls Tryd.prog 5 #[.agg (bcells s0), .int .i64 a1, .slice a2 len2 cap2] w fun e w' => e = .returned (.bool true) ∧ Below w.heap.size w w' := by
  by_cases h500 : len2 ≤ 500
  · cases hb : okB a1
    · exact walk_false w s0 w0 a1 a2 len2 cap2 l2 w2 h500 hb hT
    · exact walk_true w s0 w0 a1 a2 len2 cap2 l2 w2 h500 hb hT
  · have i0 : 500 < (len2 : Int) := by omega
    have hb0 := (Below.refl w.heap.size w).alloc (Nat.le_refl _) (.cells (bcells s0) 23)
    have HT := Lib.hid hT
    clear w2 hT w0
    go_enter Tryd.func5, Tryd.ntmps5
    go_wp2_with (go_at_call 9; refine (awake_any _ (HT.out.below hb0)).mono ?_; rintro e4 w4 ⟨rfl, hb4⟩)
    go_ret
    exact ⟨rfl, hb0.trans (hb4.mono hb0.size)⟩

set_option maxRecDepth 100000 in
theorem lifted (os : Os) (started : os.Started) (H : Type) (enc : TypeId × Value → H) :
    ReturnsInHanded {} Tryd.checked os 5 .any (fun w args => (Rows.otsBackSpec.pre enc Tryd.prog Tryd.f5 Rows.otsBackRow.domain false w args ∧ laidMetH Tryd.prog lay1 w) ∧ sizedMet enc Tryd.prog Tryd.f5 (OpenSpec.ofChange Rows.otsBackSpec) false w args)
      (Rows.otsBackSpec.post enc Tryd.prog Tryd.f5 false true false false) := by
  refine returnsInHanded_of_change_and (C := Tryd.checked) (X := fun w _ => laidMetH Tryd.prog lay1 w) (fun _ _ _ hh h => h.of_heap hh) own started (by kernel_rfl) Tryd.func5
    (ChangeSpec.witness_shaped (enc := enc) (C := Tryd.checked) (os := os) (X := fun w _ => laidMetH Tryd.prog lay1 w) false (World.laidAll Tryd.prog os lay1) #[.agg #[.int .u8 0, .int .u8 0, .int .u8 0, .int .u8 0, .int .u8 0, .int .u8 0, .int .u8 0, .int .u8 0, .int .u8 0, .int .u8 0, .int .u8 0, .int .u8 0, .int .u8 0, .int .u8 0, .int .u8 0, .int .u8 0, .int .u8 0, .int .u8 0, .int .u8 0, .int .u8 0, .int .u8 0, .int .u8 0, .int .u8 0, .int .u8 0, .int .u8 0, .int .u8 0, .int .u8 0, .int .u8 0, .int .u8 0, .int .u8 0, .int .u8 0, .int .u8 0], .int .i64 0, .slice none 0 0] 8 rfl (World.shaped_of_ZipB (by kernel_rfl) (by kernel_rfl)) (by kernel_rfl) (by kernel_rfl) (by kernel_rfl) (met1 os _)) ?_
  intro W base args ds gs before hval0 hW hcnd hsz0 hL _
  have hval : ∀ (j : Nat) t v, Tryd.f5.params[j]? = some t → args[j]? = some v → Value.okWide Tryd.prog W .any base t v := hval0
  have hW' := hW
  obtain ⟨p, q, hA0, hV, rfl, hfz, hnd⟩ := hW
  have hA : DataW.TrodAll enc Tryd.prog W 0 (fun _ => true) true Tryd.f5.params.toList args.toList ds p := hA0
  have hsz : (DataW.weightsEach Tryd.prog (Tryd.f5.params.toList ++ Rows.otsBackSpec.plain.varTypes Tryd.prog) (ds ++ gs)).all (· ≤ reachBytes) = true := hsz0
  rw [Tryd.params5] at hA hval hsz
  obtain ⟨v0, vs0, d0, ds0, p0, q0, hargs, rfl, rfl, h0, r0⟩ := trodAll_cons hA
  obtain ⟨v1, vs1, d1, ds1, p1, q1, rfl, rfl, rfl, h1, r1⟩ := trodAll_cons r0
  obtain ⟨v2, vs2, d2, ds2, p2, q2, rfl, rfl, rfl, h2, r2⟩ := trodAll_cons r1
  obtain ⟨rfl, rfl, rfl⟩ := trodAll_nil r2
  obtain rfl : args = #[v0, v1, v2] := by cases args; simp_all
  obtain ⟨rfl, rfl⟩ := trodVars_none hV
  have k0 := h0
  have lt0 : ∀ x ∈ p0, x.block < W.heap.size := by obtain ⟨m, hm⟩ := k0; exact DataW.trod_lt m _ _ _ hm
  obtain ⟨s0, w0, rfl⟩ : ∃ s : List UInt8, s.length = 32 ∧ v0 = .agg (bcells s) := open_digest (hval 0 23 v0 rfl rfl) h0
  obtain ⟨a1, rfl, rfl, rfl, w1⟩ := open_int Tryd.underlying3 (hval 1 3 v1 rfl rfl) h1
  obtain ⟨a2, len2, cap2, rfl⟩ := okWide_slice Tryd.underlying34 (hval 2 34 v2 rfl rfl)
  have k2 := h2
  have lt2 : ∀ x ∈ p2, x.block < W.heap.size := by obtain ⟨m, hm⟩ := k2; exact DataW.trod_lt m _ _ _ hm
  obtain ⟨l2, w2, s2⟩ : ∃ l, Bs W a2 len2 l ∧ len2 ≤ cap2 ∧ cap2 ≤ 140737488351232 := by
    obtain ⟨fuel, hf⟩ := h2
    rcases open_ints Tryd.underlying34 Tryd.underlying5 (by kernel_rfl) hf with ⟨hcs, _⟩ | ⟨x, l, c, zs, hcs, _, hl, hm, hz, hx, hcell, hwz⟩
    · simp [Value.cells] at hcs
      obtain ⟨rfl, rfl, rfl⟩ := hcs
      exact ⟨[], Bs.nil _ _, by omega, by omega⟩
    · simp [Value.cells] at hcs
      obtain ⟨rfl, rfl, rfl⟩ := hcs
      simp only [Prod.mk.injEq] at hx
      obtain ⟨rfl, _⟩ := hx
      have hb := sized_slice hsz (j := 2) (t := 34) (e := 5) rfl rfl Tryd.underlying34
      rw [show Tryd.prog.bytesOf 5 = 1 from by kernel_rfl] at hb
      simp only [lits, List.length_map, List.length_take, List.length_drop, reachBytes] at hb
      have hz' : zs.length = cap2 := by simpa using hz
      exact ⟨_, Bs.of_ints hl hz' hcell hwz, hl, by omega⟩
  have hTab := of_lay1 hL
  clear hA0 hval0
  refine (walk W s0 w0 a1 w1 a2 len2 cap2 l2 w2 s2 hTab).mono fun e W' ⟨he, bel⟩ => ?_
  subst he
  exact ⟨_, rfl, _, _, _, [], _, [], hW', trodAll_mk1 (shut_bool Tryd.underlying4 _), (trodAll_cons_mk (Below.trod laidOut (by kernel_rfl) (of_decide_eq_true (by kernel_rfl)) k0 bel lt0) (trodAll_cons_mk (shut_int Tryd.underlying3 w1) (trodAll_cons_mk (Below.trod laidOut (by kernel_rfl) (of_decide_eq_true (by kernel_rfl)) k2 bel lt2) trodAll_mk0))), rfl, bel.frame _, fun h => by cases h⟩
theorem over : Rows.otsBackRow.holds Tryd.pinned (OpenSpec.ofChange Rows.otsBackSpec) :=
  OpenClaim.holds_of_wide 5 Tryd.f5 rfl rfl rfl rfl rfl rfl rfl ⟨rfl, rfl, rfl, rfl, rfl⟩ rfl rfl rfl rfl rfl (by kernel_rfl) Tryd.func5 (by kernel_rfl)
    (of_decide_eq_true (by kernel_rfl)) (by unfold Func.isWrapper; first | (rw [if_pos (by decide +kernel)]; kernel_rfl) | (rw [if_neg (by decide +kernel)]; exact ⟨rfl, rfl⟩))
    (fun os started H enc _ => lifted os started H enc)
theorem otsBack_holds : Rows.OtsBackCardSaid :=
  Claim7.holds_tied_plain_at .later [] [.data] true (true, "38853a3e69654356aeca0a1f5f06e005877108b1e9361b026282a30c4990b858") false
    over (fun _ h => by cases h) (by kernel_rfl) (fun _ h => by cases h) otsBack_row_tie rfl ⟨rfl, rfl⟩ (by kernel_rfl) rfl
    (fun f fn hf hfn => by
      obtain rfl : f = 5 := Option.some.inj ((show Tryd.prog.funcNamed "jurat/juratlaw05.OtsBack" = some 5 by kernel_rfl).symm.trans hf) |>.symm
      obtain rfl : fn = Tryd.f5 := (Option.some.inj (Tryd.func5.symm.trans hfn)).symm
      exact ⟨by kernel_rfl, fun j t ht => by
        rw [Tryd.params5] at ht
        have hm : t ∈ [23, 3, 34] := by simpa using Array.mem_of_getElem? ht
        have hall : ([23, 3, 34].all fun u => !Tryd.prog.wantsStandIn u) = true := by kernel_rfl
        exact (show Tryd.prog.wantsStandIn t = false by simpa using List.all_eq_true.1 hall t hm)⟩)
    (by kernel_rfl)
#print axioms otsBack_holds
end Go.Proofs.YtghihgmgadaoeaaDoor.otsBack
