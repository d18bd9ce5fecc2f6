/-
  The law's same answers no: another generation, another number of records.
-/
import Derived.Test.YtgiobcpljbpmiaaDoorVltCa
import Derived.Test.YtgiobcpljbpmiaaDoorVltO
namespace Go.Proofs.YtgiobcpljbpmiaaDoor
open Go.RowKit
theorem LSame_no (A B : Option Addr) (n m c d : Nat) (w : World) (h : n ≠ m) : Calls Tryd.prog 28 #[.slice A n c, .slice B m d] w fun e w' => e = .returned (.bool false) ∧ w = w' := by
  have hne : ((n : Int) != (m : Int)) = true := by simp; omega
  clear h
  go_enter Tryd.func28, Tryd.ntmps28
  go_wp2
  go_ret
  exact ⟨rfl, rfl⟩
set_option maxRecDepth 100000 in
set_option maxHeartbeats 4000000 in
theorem same_gen (v g m : Nat) (H D : Nat → Prop) (W V : Vs) (w : World) (h : Vlt w v g H W) (hm : DM w m D V) (hs : W.gen ≠ V.gen) :
    Calls Tryd.prog 14 #[.pointer (some ⟨v, 0, none⟩), .pointer (some ⟨m, 0, none⟩)] w fun e w' => e = .returned (.bool false) ∧ Below w.heap.size w w' := by
  obtain ⟨A, n, c, B, k, d, hr, ho, hk, ht⟩ := h.rows
  obtain ⟨A2, n2, c2, B2, k2, d2, hr2, ho2, hf2, hk2, ht2⟩ := hm.cells
  have HG := Lib.hid (fun wq (hb : Below w.heap.size w wq) => Gen_row v (W.gen : Int) _ wq (hr.below hb hr.lt) rfl)
  have KP : Hid (∀ wq, Below w.heap.size w wq → Row wq m 35 #[.int .i64 (V.gen : Int), .slice A2 n2 c2, .slice B2 k2 d2]) := Lib.hid (fun wq hb => hr2.below hb hr2.lt)
  have HNe := Lib.hid (show ((W.gen : Int) == (V.gen : Int)) = false by simp; omega)
  clear hr ho hk ht hr2 ho2 hf2 ht2 hk2 hs h hm
  go_enter Tryd.func14, Tryd.ntmps14
  go_wp2_with fail
  have Z0 : Below w.heap.size w w.drew := (Below.refl w.heap.size w).drew
  refine wp_region_noPanic ?_
  refine wp_region_held_drew (S := fun w' => Row w' m 35 #[.int .i64 (V.gen : Int), .slice A2 n2 c2, .slice B2 k2 d2]) (by kernel_rfl) (KP.out _ Z0) (fun hHeld => ?_)
  refine takeD (i := 0) (some 5) (.pointer (some ⟨v, 0, none⟩)) rfl rfl (by kernel_rfl) (by kernel_rfl) (by kernel_rfl) (fun _ _ _ h => h) (Or.inl ⟨by rfl, fun _ _ => rfl⟩) hHeld ?_
  simp only [Act.put, List.setIfInBounds_toArray, List.set_cons_zero, List.set_cons_succ]
  refine takeD (i := 2) (some 7) (.pointer (some ⟨m, 0, none⟩)) rfl rfl (by kernel_rfl) (by kernel_rfl) (by kernel_rfl) (fun _ _ _ h => h) (Or.inl ⟨by rfl, fun _ _ => rfl⟩) hHeld ?_
  simp only [Act.put, List.setIfInBounds_toArray, List.set_cons_zero, List.set_cons_succ]
  refine takeD (i := 3) (some 8) (.pointer (some ⟨m, 0, none⟩)) rfl rfl (by kernel_rfl) (by kernel_rfl) (by kernel_rfl) (fun _ _ _ h => h) (yields_nil (by rfl) (.tmp 7) rfl _ rfl) hHeld ?_
  simp only [Act.put, List.setIfInBounds_toArray, List.set_cons_zero, List.set_cons_succ]
  refine takeD (i := 4) (some 9) (.pointer (some ⟨m, 0, none⟩)) rfl rfl (by kernel_rfl) (by kernel_rfl) (by kernel_rfl) (fun _ _ _ h => h) (yields_fldM (by rfl) 35 (.tmp 8) 0 rfl (d := 0) (by decide) (m) 0 _ rfl rfl) hHeld ?_
  simp only [Act.put, List.setIfInBounds_toArray, List.set_cons_zero, List.set_cons_succ]
  refine takeD (i := 5) (some 10) (.int .i64 (V.gen : Int)) rfl rfl (by kernel_rfl) (by kernel_rfl) (by kernel_rfl) (fun _ _ _ h => h) (yieldsC (by rfl) 3 (.tmp 9) rfl (by decide) (m) (0) _ rfl (fun _ h => h.cell 0)) hHeld ?_
  simp only [Act.put, List.setIfInBounds_toArray, List.set_cons_zero, List.set_cons_succ]
  refine wpAnyH_ready (rs := [1]) (by kernel_rfl) (by decide) ?_
  refine AllReadyH.cons rfl (fun K' hK => ?_) AllReadyH.nil
  go_simp
  refine (HG.out w.drew Z0).mono ?_
  rintro e1 w1 ⟨rfl, rfl⟩
  refine hK.out _ _ (KP.out _ Z0) (fun hHeld1 => ?_)
  clear hK
  refine takeD (i := 6) (some 11) (.bool false) rfl rfl (by kernel_rfl) (by kernel_rfl) (by kernel_rfl) (fun _ _ _ h => h) (yields_eqN (by rfl) _ _ rfl (W.gen : Int) (V.gen : Int) false rfl rfl HNe.out) hHeld1 ?_
  simp only [Act.put, List.setIfInBounds_toArray, List.set_cons_zero, List.set_cons_succ]
  refine takeD (i := 7) (some 12) (.bool false) rfl rfl (by kernel_rfl) (by kernel_rfl) (by kernel_rfl) (fun _ _ _ h => h) (Or.inl ⟨by rfl, fun _ _ => rfl⟩) hHeld1 ?_
  simp only [Act.put, List.setIfInBounds_toArray, List.set_cons_zero, List.set_cons_succ]
  refine takeD (i := 8) (some 13) (undef) rfl rfl (by kernel_rfl) (by kernel_rfl) (by kernel_rfl) (fun _ _ _ h => h) (Or.inr ⟨by rfl, rfl⟩) hHeld1 ?_
  simp only [Act.put, List.setIfInBounds_toArray, List.set_cons_zero, List.set_cons_succ]
  refine takeD (i := 9) (some 14) (undef) rfl rfl (by kernel_rfl) (by kernel_rfl) (by kernel_rfl) (fun _ _ _ h => h) (Or.inr ⟨by rfl, rfl⟩) hHeld1 ?_
  simp only [Act.put, List.setIfInBounds_toArray, List.set_cons_zero, List.set_cons_succ]
  refine takeD (i := 10) (some 15) (undef) rfl rfl (by kernel_rfl) (by kernel_rfl) (by kernel_rfl) (fun _ _ _ h => h) (Or.inr ⟨by rfl, rfl⟩) hHeld1 ?_
  simp only [Act.put, List.setIfInBounds_toArray, List.set_cons_zero, List.set_cons_succ]
  refine takeD (i := 11) (some 16) (undef) rfl rfl (by kernel_rfl) (by kernel_rfl) (by kernel_rfl) (fun _ _ _ h => h) (Or.inr ⟨by rfl, rfl⟩) hHeld1 ?_
  simp only [Act.put, List.setIfInBounds_toArray, List.set_cons_zero, List.set_cons_succ]
  refine takeD (i := 12) (some 17) (undef) rfl rfl (by kernel_rfl) (by kernel_rfl) (by kernel_rfl) (fun _ _ _ h => h) (Or.inr ⟨by rfl, rfl⟩) hHeld1 ?_
  simp only [Act.put, List.setIfInBounds_toArray, List.set_cons_zero, List.set_cons_succ]
  refine takeD (i := 13) (some 18) (undef) rfl rfl (by kernel_rfl) (by kernel_rfl) (by kernel_rfl) (fun _ _ _ h => h) (Or.inr ⟨by rfl, rfl⟩) hHeld1 ?_
  simp only [Act.put, List.setIfInBounds_toArray, List.set_cons_zero, List.set_cons_succ]
  refine takeD (i := 14) (some 19) (undef) rfl rfl (by kernel_rfl) (by kernel_rfl) (by kernel_rfl) (fun _ _ _ h => h) (Or.inr ⟨by rfl, rfl⟩) hHeld1 ?_
  simp only [Act.put, List.setIfInBounds_toArray, List.set_cons_zero, List.set_cons_succ]
  refine takeD (i := 15) (some 20) (.bool false) rfl rfl (by kernel_rfl) (by kernel_rfl) (by kernel_rfl) (fun _ _ _ h => h) (Or.inl ⟨by rfl, fun _ _ => rfl⟩) hHeld1 ?_
  simp only [Act.put, List.setIfInBounds_toArray, List.set_cons_zero, List.set_cons_succ]
  refine takeD (i := 16) (some 21) (.bool false) rfl rfl (by kernel_rfl) (by kernel_rfl) (by kernel_rfl) (fun _ _ _ h => h) (Or.inl ⟨by rfl, fun _ _ => rfl⟩) hHeld1 ?_
  simp only [Act.put, List.setIfInBounds_toArray, List.set_cons_zero, List.set_cons_succ]
  refine takeD (i := 17) (some 22) (undef) rfl rfl (by kernel_rfl) (by kernel_rfl) (by kernel_rfl) (fun _ _ _ h => h) (Or.inr ⟨by rfl, rfl⟩) hHeld1 ?_
  simp only [Act.put, List.setIfInBounds_toArray, List.set_cons_zero, List.set_cons_succ]
  refine takeD (i := 18) (some 23) (undef) rfl rfl (by kernel_rfl) (by kernel_rfl) (by kernel_rfl) (fun _ _ _ h => h) (Or.inr ⟨by rfl, rfl⟩) hHeld1 ?_
  simp only [Act.put, List.setIfInBounds_toArray, List.set_cons_zero, List.set_cons_succ]
  refine takeD (i := 19) (some 24) (undef) rfl rfl (by kernel_rfl) (by kernel_rfl) (by kernel_rfl) (fun _ _ _ h => h) (Or.inr ⟨by rfl, rfl⟩) hHeld1 ?_
  simp only [Act.put, List.setIfInBounds_toArray, List.set_cons_zero, List.set_cons_succ]
  refine takeD (i := 20) (some 25) (undef) rfl rfl (by kernel_rfl) (by kernel_rfl) (by kernel_rfl) (fun _ _ _ h => h) (Or.inr ⟨by rfl, rfl⟩) hHeld1 ?_
  simp only [Act.put, List.setIfInBounds_toArray, List.set_cons_zero, List.set_cons_succ]
  refine takeD (i := 21) (some 26) (undef) rfl rfl (by kernel_rfl) (by kernel_rfl) (by kernel_rfl) (fun _ _ _ h => h) (Or.inr ⟨by rfl, rfl⟩) hHeld1 ?_
  simp only [Act.put, List.setIfInBounds_toArray, List.set_cons_zero, List.set_cons_succ]
  refine takeD (i := 22) (some 27) (undef) rfl rfl (by kernel_rfl) (by kernel_rfl) (by kernel_rfl) (fun _ _ _ h => h) (Or.inr ⟨by rfl, rfl⟩) hHeld1 ?_
  simp only [Act.put, List.setIfInBounds_toArray, List.set_cons_zero, List.set_cons_succ]
  refine takeD (i := 23) (some 28) (undef) rfl rfl (by kernel_rfl) (by kernel_rfl) (by kernel_rfl) (fun _ _ _ h => h) (Or.inr ⟨by rfl, rfl⟩) hHeld1 ?_
  simp only [Act.put, List.setIfInBounds_toArray, List.set_cons_zero, List.set_cons_succ]
  refine takeD (i := 24) (some 29) (.bool false) rfl rfl (by kernel_rfl) (by kernel_rfl) (by kernel_rfl) (fun _ _ _ h => h) (Or.inl ⟨by rfl, fun _ _ => rfl⟩) hHeld1 ?_
  simp only [Act.put, List.setIfInBounds_toArray, List.set_cons_zero, List.set_cons_succ]
  refine takeD (i := 25) (some 4) (.bool false) rfl rfl (by kernel_rfl) (by kernel_rfl) (by kernel_rfl) (fun _ _ _ h => h) (Or.inl ⟨by rfl, fun _ _ => rfl⟩) hHeld1 ?_
  simp only [Act.put, List.setIfInBounds_toArray, List.set_cons_zero, List.set_cons_succ]
  (try simp only [Act.put, List.setIfInBounds_toArray])
  refine wpAnyH_done (by kernel_rfl) ?_ _
  refine NoPanic.normal ?_
  go_wp2_with fail
  go_ret
  exact ⟨rfl, Z0⟩
set_option maxRecDepth 100000 in
set_option maxHeartbeats 4000000 in
theorem same_recs (v g m : Nat) (H D : Nat → Prop) (V : Vs) (R : List (List UInt8)) (w : World) (h : Vlt w v g H ⟨V.gen, V.text, R⟩) (hm : DM w m D V) (hs : Small ⟨V.gen, V.text, R⟩) (hne : R.length ≠ V.recs.length) :
    Calls Tryd.prog 14 #[.pointer (some ⟨v, 0, none⟩), .pointer (some ⟨m, 0, none⟩)] w fun e w' => e = .returned (.bool false) ∧ Below w.heap.size w w' := by
  obtain ⟨A, n, c, B, k, d, hr, ho, hk, ht⟩ := h.rows
  obtain ⟨M1, M2, A2, n2, c2, rv2, hr2, ho2, hf2, ht2⟩ := hm
  obtain ⟨B2, k2, d2, rfl, hk2⟩ := Texts.of_row ht2
  obtain rfl : n2 = n := ho2.length.symm.trans ho.length
  replace hk : k = R.length := hk
  replace ho : Own w 0 5 (.slice A n2 c) n2 V.text := ho
  have s1 : V.text.length ≤ 1000000 := hs.1
  have s2 : R.length ≤ 1000000000 := hs.2.1
  have s3 : ∀ t ∈ R, t.length ≤ 1000000 := hs.2.2
  clear hs
  have HG := Lib.hid (fun wq (hb : Below w.heap.size w wq) => Gen_row v (V.gen : Int) _ wq (hr.below hb hr.lt) rfl)
  have HX := Lib.hid (fun wq (hb : Below w.heap.size w wq) => Text_row v n2 c A V.text _ wq (hr.below hb hr.lt) rfl (ho.bs.below hb) (by rw [← ho.length]; omega))
  have HRc := Lib.hid (fun wq (hb : Below w.heap.size w wq) => Records_row v k d B R H _ wq (hr.below hb hr.lt) rfl (ht.same (fun b q => hb.block b (h.2.1 b q))) (by rw [hk]; exact s2) (fun t q => by have := s3 t q; omega))
  have HB2 := Lib.hid (fun wq (hb : Below w.heap.size w wq) => ho2.bs.below hb)
  have KP : Hid (∀ wq, Below w.heap.size w wq → Row wq m 35 #[.int .i64 (V.gen : Int), .slice A2 n2 c2, .slice B2 k2 d2]) := Lib.hid (fun wq hb => hr2.below hb hr2.lt)
  have HTl := Lib.hid ho.length
  have HS1 := Lib.hid s1
  unfold S4NewSlice at HX
  rw [ho.length] at HX
  have HNe := Lib.hid (show k ≠ k2 by rw [hk, hk2]; exact hne)
  clear hne
  clear hr ho hk ht M1 M2 hr2 ho2 hf2 ht2 hk2 s1 s2 s3
  go_enter Tryd.func14, Tryd.ntmps14
  go_wp2_with fail
  have Z0 : Below w.heap.size w w.drew := (Below.refl w.heap.size w).drew
  refine wp_region_noPanic ?_
  refine wp_region_held_drew (S := fun w' => Row w' m 35 #[.int .i64 (V.gen : Int), .slice A2 n2 c2, .slice B2 k2 d2]) (by kernel_rfl) (KP.out _ Z0) (fun hHeld => ?_)
  refine takeD (i := 0) (some 5) (.pointer (some ⟨v, 0, none⟩)) rfl rfl (by kernel_rfl) (by kernel_rfl) (by kernel_rfl) (fun _ _ _ h => h) (Or.inl ⟨by rfl, fun _ _ => rfl⟩) hHeld ?_
  simp only [Act.put, List.setIfInBounds_toArray, List.set_cons_zero, List.set_cons_succ]
  refine takeD (i := 2) (some 7) (.pointer (some ⟨m, 0, none⟩)) rfl rfl (by kernel_rfl) (by kernel_rfl) (by kernel_rfl) (fun _ _ _ h => h) (Or.inl ⟨by rfl, fun _ _ => rfl⟩) hHeld ?_
  simp only [Act.put, List.setIfInBounds_toArray, List.set_cons_zero, List.set_cons_succ]
  refine takeD (i := 3) (some 8) (.pointer (some ⟨m, 0, none⟩)) rfl rfl (by kernel_rfl) (by kernel_rfl) (by kernel_rfl) (fun _ _ _ h => h) (yields_nil (by rfl) (.tmp 7) rfl _ rfl) hHeld ?_
  simp only [Act.put, List.setIfInBounds_toArray, List.set_cons_zero, List.set_cons_succ]
  refine takeD (i := 4) (some 9) (.pointer (some ⟨m, 0, none⟩)) rfl rfl (by kernel_rfl) (by kernel_rfl) (by kernel_rfl) (fun _ _ _ h => h) (yields_fldM (by rfl) 35 (.tmp 8) 0 rfl (d := 0) (by decide) (m) 0 _ rfl rfl) hHeld ?_
  simp only [Act.put, List.setIfInBounds_toArray, List.set_cons_zero, List.set_cons_succ]
  refine takeD (i := 5) (some 10) (.int .i64 (V.gen : Int)) rfl rfl (by kernel_rfl) (by kernel_rfl) (by kernel_rfl) (fun _ _ _ h => h) (yieldsC (by rfl) 3 (.tmp 9) rfl (by decide) (m) (0) _ rfl (fun _ h => h.cell 0)) hHeld ?_
  simp only [Act.put, List.setIfInBounds_toArray, List.set_cons_zero, List.set_cons_succ]
  refine wpAnyH_ready (rs := [1]) (by kernel_rfl) (by decide) ?_
  refine AllReadyH.cons rfl (fun K' hK => ?_) AllReadyH.nil
  go_simp
  refine (HG.out w.drew Z0).mono ?_
  rintro e1 w1 ⟨rfl, rfl⟩
  refine hK.out _ _ (KP.out _ Z0) (fun hHeld1 => ?_)
  clear hK
  refine takeD (i := 6) (some 11) (.bool true) rfl rfl (by kernel_rfl) (by kernel_rfl) (by kernel_rfl) (fun _ _ _ h => h) (yields_eqN (by rfl) _ _ rfl (V.gen : Int) (V.gen : Int) true rfl rfl (by simp)) hHeld1 ?_
  simp only [Act.put, List.setIfInBounds_toArray, List.set_cons_zero, List.set_cons_succ]
  refine takeD (i := 7) (some 12) (.bool true) rfl rfl (by kernel_rfl) (by kernel_rfl) (by kernel_rfl) (fun _ _ _ h => h) (Or.inl ⟨by rfl, fun _ _ => rfl⟩) hHeld1 ?_
  simp only [Act.put, List.setIfInBounds_toArray, List.set_cons_zero, List.set_cons_succ]
  refine takeD (i := 8) (some 13) (.pointer (some ⟨v, 0, none⟩)) rfl rfl (by kernel_rfl) (by kernel_rfl) (by kernel_rfl) (fun _ _ _ h => h) (Or.inl ⟨by rfl, fun _ _ => rfl⟩) hHeld1 ?_
  simp only [Act.put, List.setIfInBounds_toArray, List.set_cons_zero, List.set_cons_succ]
  refine takeD (i := 10) (some 15) (.pointer (some ⟨m, 0, none⟩)) rfl rfl (by kernel_rfl) (by kernel_rfl) (by kernel_rfl) (fun _ _ _ h => h) (Or.inl ⟨by rfl, fun _ _ => rfl⟩) hHeld1 ?_
  simp only [Act.put, List.setIfInBounds_toArray, List.set_cons_zero, List.set_cons_succ]
  refine takeD (i := 11) (some 16) (.pointer (some ⟨m, 0, none⟩)) rfl rfl (by kernel_rfl) (by kernel_rfl) (by kernel_rfl) (fun _ _ _ h => h) (yields_nil (by rfl) (.tmp 15) rfl _ rfl) hHeld1 ?_
  simp only [Act.put, List.setIfInBounds_toArray, List.set_cons_zero, List.set_cons_succ]
  refine takeD (i := 12) (some 17) (.pointer (some ⟨m, 1, none⟩)) rfl rfl (by kernel_rfl) (by kernel_rfl) (by kernel_rfl) (fun _ _ _ h => h) (yields_fldM (by rfl) 35 (.tmp 16) 1 rfl (d := 1) (by decide) (m) 0 _ rfl rfl) hHeld1 ?_
  simp only [Act.put, List.setIfInBounds_toArray, List.set_cons_zero, List.set_cons_succ]
  refine takeD (i := 13) (some 18) (.slice A2 n2 c2) rfl rfl (by kernel_rfl) (by kernel_rfl) (by kernel_rfl) (fun _ _ _ h => h) (yieldsC (by rfl) 32 (.tmp 17) rfl (by decide) (m) (1) _ rfl (fun _ h => h.cell 1)) hHeld1 ?_
  simp only [Act.put, List.setIfInBounds_toArray, List.set_cons_zero, List.set_cons_succ]
  refine wpAnyH_ready (rs := [9]) (by kernel_rfl) (by decide) ?_
  refine AllReadyH.cons rfl (fun K' hK => ?_) AllReadyH.nil
  go_simp
  refine (HX.out w.drew Z0).mono ?_
  rintro e3 w3 ⟨A3, c3, rfl, hc3, hb3, ho3⟩
  have B3 : Below w.heap.size w w3 := Z0.trans hb3
  have HO3 := Lib.hid ho3
  clear ho3 hc3 hb3
  refine hK.out _ _ (KP.out _ B3) (fun hHeld2 => ?_)
  clear hK
  refine wpAnyH_ready (rs := [14]) (by kernel_rfl) (by decide) ?_
  refine AllReadyH.cons rfl (fun K' hK => ?_) AllReadyH.nil
  go_simp
  refine (Same_yes A3 A2 n2 c3 c2 V.text w3 HO3.out.bs (HB2.out _ B3) (by have := HTl.out; have := HS1.out; omega)).mono ?_
  rintro e4 w4 ⟨rfl, k4, rfl⟩
  have B4 : Below w.heap.size w (w3.drewN k4) := below_drewN B3 k4
  refine hK.out _ _ (KP.out _ B4) (fun hHeld3 => ?_)
  clear hK
  refine takeD (i := 15) (some 20) (.bool true) rfl rfl (by kernel_rfl) (by kernel_rfl) (by kernel_rfl) (fun _ _ _ h => h) (Or.inl ⟨by rfl, fun _ _ => rfl⟩) hHeld3 ?_
  simp only [Act.put, List.setIfInBounds_toArray, List.set_cons_zero, List.set_cons_succ]
  refine takeD (i := 16) (some 21) (.bool true) rfl rfl (by kernel_rfl) (by kernel_rfl) (by kernel_rfl) (fun _ _ _ h => h) (Or.inl ⟨by rfl, fun _ _ => rfl⟩) hHeld3 ?_
  simp only [Act.put, List.setIfInBounds_toArray, List.set_cons_zero, List.set_cons_succ]
  refine takeD (i := 17) (some 22) (.pointer (some ⟨v, 0, none⟩)) rfl rfl (by kernel_rfl) (by kernel_rfl) (by kernel_rfl) (fun _ _ _ h => h) (Or.inl ⟨by rfl, fun _ _ => rfl⟩) hHeld3 ?_
  simp only [Act.put, List.setIfInBounds_toArray, List.set_cons_zero, List.set_cons_succ]
  refine takeD (i := 19) (some 24) (.pointer (some ⟨m, 0, none⟩)) rfl rfl (by kernel_rfl) (by kernel_rfl) (by kernel_rfl) (fun _ _ _ h => h) (Or.inl ⟨by rfl, fun _ _ => rfl⟩) hHeld3 ?_
  simp only [Act.put, List.setIfInBounds_toArray, List.set_cons_zero, List.set_cons_succ]
  refine takeD (i := 20) (some 25) (.pointer (some ⟨m, 0, none⟩)) rfl rfl (by kernel_rfl) (by kernel_rfl) (by kernel_rfl) (fun _ _ _ h => h) (yields_nil (by rfl) (.tmp 24) rfl _ rfl) hHeld3 ?_
  simp only [Act.put, List.setIfInBounds_toArray, List.set_cons_zero, List.set_cons_succ]
  refine takeD (i := 21) (some 26) (.pointer (some ⟨m, 2, none⟩)) rfl rfl (by kernel_rfl) (by kernel_rfl) (by kernel_rfl) (fun _ _ _ h => h) (yields_fldM (by rfl) 35 (.tmp 25) 2 rfl (d := 2) (by decide) (m) 0 _ rfl rfl) hHeld3 ?_
  simp only [Act.put, List.setIfInBounds_toArray, List.set_cons_zero, List.set_cons_succ]
  refine takeD (i := 22) (some 27) (.slice B2 k2 d2) rfl rfl (by kernel_rfl) (by kernel_rfl) (by kernel_rfl) (fun _ _ _ h => h) (yieldsC (by rfl) 33 (.tmp 26) rfl (by decide) (m) (2) _ rfl (fun _ h => h.cell 2)) hHeld3 ?_
  simp only [Act.put, List.setIfInBounds_toArray, List.set_cons_zero, List.set_cons_succ]
  refine wpAnyH_ready (rs := [18]) (by kernel_rfl) (by decide) ?_
  refine AllReadyH.cons rfl (fun K' hK => ?_) AllReadyH.nil
  go_simp
  refine (HRc.out _ B4).mono ?_
  rintro e5 w5 ⟨A5, c5, rfl, hc5, ho5, hb5⟩
  have B5 : Below w.heap.size w w5 := B4.trans (hb5.mono B4.size)
  clear ho5 hc5 hb5
  refine hK.out _ _ (KP.out _ B5) (fun hHeld4 => ?_)
  clear hK
  refine wpAnyH_ready (rs := [23]) (by kernel_rfl) (by decide) ?_
  refine AllReadyH.cons rfl (fun K' hK => ?_) AllReadyH.nil
  go_simp
  refine (LSame_no A5 B2 k k2 c5 d2 w5 HNe.out).mono ?_
  rintro e6 w6 ⟨rfl, rfl⟩
  refine hK.out _ _ (KP.out _ B5) (fun hHeld5 => ?_)
  clear hK
  refine takeD (i := 24) (some 29) (.bool false) rfl rfl (by kernel_rfl) (by kernel_rfl) (by kernel_rfl) (fun _ _ _ h => h) (Or.inl ⟨by rfl, fun _ _ => rfl⟩) hHeld5 ?_
  simp only [Act.put, List.setIfInBounds_toArray, List.set_cons_zero, List.set_cons_succ]
  refine takeD (i := 25) (some 4) (.bool false) rfl rfl (by kernel_rfl) (by kernel_rfl) (by kernel_rfl) (fun _ _ _ h => h) (Or.inl ⟨by rfl, fun _ _ => rfl⟩) hHeld5 ?_
  simp only [Act.put, List.setIfInBounds_toArray, List.set_cons_zero, List.set_cons_succ]
  (try simp only [Act.put, List.setIfInBounds_toArray])
  refine wpAnyH_done (by kernel_rfl) ?_ _
  refine NoPanic.normal ?_
  go_wp2_with fail
  go_ret
  exact ⟨rfl, B5⟩
theorem VNoGen {S : Tp} (v g m : Nat) (P D : Nat → Prop) (W V : Vs) (w : World) (h : VT w v g P S W) (hm : DM w m D V) (hs : W.gen ≠ V.gen) :
    Calls Tryd.prog 14 #[.pointer (some ⟨v, 0, none⟩), .pointer (some ⟨m, 0, none⟩)] w fun e w' => e = .returned (.bool false) ∧ Below w.heap.size w w' := by
  obtain ⟨_, _, _, _, _, H, F, _, _, k3, _⟩ := h
  exact same_gen v g m H D W V w k3 hm hs
theorem VNoAdd {S : Tp} (v g m : Nat) (P D : Nat → Prop) (V : Vs) (t : List UInt8) (w : World) (h : VT w v g P S (V.add t)) (hm : DM w m D V) :
    Calls Tryd.prog 14 #[.pointer (some ⟨v, 0, none⟩), .pointer (some ⟨m, 0, none⟩)] w fun e w' => e = .returned (.bool false) ∧ Below w.heap.size w w' := by
  have hs := h.small.1
  obtain ⟨_, _, _, _, _, H, F, _, _, k3, _⟩ := h
  exact same_recs v g m H D V (V.recs ++ [t]) w k3 hm hs (by simp)
end Go.Proofs.YtgiobcpljbpmiaaDoor
