/-
  The document's Copy of a signature.
-/
import Derived.Test.YtfelmdndjdaniaaDoorKeyF
namespace Go.Proofs.YtfelmdndjdaniaaDoor
open Go.RowKit
def CopyS (w : World) (i : Int) (n m : Nat) (L M : List (List UInt8)) (e : Ending) (w' : World) : Prop :=
  ∃ A' c' B' d', e = .returned (.agg (sigC i A' n c' B' m d')) ∧ Ds w' A' n L ∧ Ds w' B' m M ∧ Below w.heap.size w w'
set_option maxRecDepth 100000 in
set_option maxHeartbeats 4000000 in
theorem kCopy_any (i : Int) (A B : Option Addr) (n c m d : Nat) (L M : List (List UInt8)) (w : World) (hA : Ds w A n L) (hB : Ds w B m M) (hn : n ≤ 1000000) (hm : m ≤ 1000000) :
    Calls Tryd.prog 26 #[.agg (sigC i A n c B m d)] w fun e w' => CopyS w i n m L M e w' := by
  unfold CopyS
  obtain ⟨w0, hw0⟩ : ∃ w0, (w.alloc (.cells (sigC i A n c B m d) 44)).alloc (.cells sig0 44) = w0 := ⟨_, rfl⟩
  have hb0 : Below w.heap.size w w0 := by rw [← hw0]; exact ((Below.refl w.heap.size w).alloc (Nat.le_refl _) _).alloc (by simp) _
  have hs0 : w.heap.size + 1 < w0.heap.size := by rw [← hw0]; simp
  have HR := Lib.hid (show Row w0 w.heap.size 44 (sigC i A n c B m d) by rw [← hw0]; exact (Row.new w 44 _).alloc _)
  have HZ := Lib.hid (show Row w0 (w.heap.size + 1) 44 sig0 by rw [← hw0]; exact Row.new1 w _ 44 _)
  have HA := Lib.hid (hA.below hb0)
  have HB := Lib.hid (hB.below hb0)
  clear hA hB
  go_enter Tryd.func26, Tryd.ntmps26
  go_wp2_with fail
  have B0 : Below w0.heap.size w0 w0.drew := (Below.refl w0.heap.size w0).drew
  have K0 := Lib.hid (HR.out.below B0 (by omega))
  refine wp_region_noPanic ?_
  refine wp_region_held_drew (S := fun w' => Row w' w.heap.size 44 (sigC i A n c B m d)) (by kernel_rfl) K0.out (fun hHeld => ?_)
  refine takeD (i := 0) (some 3) (.pointer (some ⟨w.heap.size, 0, none⟩)) rfl rfl (by kernel_rfl) (by kernel_rfl) (by kernel_rfl) (fun _ _ _ h => h) (yields_fld44 (by rfl) (.tmp 1) 0 rfl (by decide) (w.heap.size) rfl) hHeld ?_
  simp only [Act.put, List.setIfInBounds_toArray, List.set_cons_zero, List.set_cons_succ]
  refine takeD (i := 1) (some 4) (.int .i64 i) rfl rfl (by kernel_rfl) (by kernel_rfl) (by kernel_rfl) (fun _ _ _ h => h) (yields_cell (by rfl) 3 (.tmp 3) rfl (by decide) (w.heap.size) (0) rfl _ (fun _ h => h.cell 0)) hHeld ?_
  simp only [Act.put, List.setIfInBounds_toArray, List.set_cons_zero, List.set_cons_succ]
  refine takeD (i := 3) (some 6) (.pointer (some ⟨w.heap.size, 1, none⟩)) rfl rfl (by kernel_rfl) (by kernel_rfl) (by kernel_rfl) (fun _ _ _ h => h) (yields_fld44 (by rfl) (.tmp 1) 1 rfl (by decide) (w.heap.size) rfl) hHeld ?_
  simp only [Act.put, List.setIfInBounds_toArray, List.set_cons_zero, List.set_cons_succ]
  refine takeD (i := 4) (some 7) (.slice A n c) rfl rfl (by kernel_rfl) (by kernel_rfl) (by kernel_rfl) (fun _ _ _ h => h) (yields_cell (by rfl) 42 (.tmp 6) rfl (by decide) (w.heap.size) (1) rfl _ (fun _ h => h.cell 1)) hHeld ?_
  simp only [Act.put, List.setIfInBounds_toArray, List.set_cons_zero, List.set_cons_succ]
  refine takeD (i := 7) (some 10) (.pointer (some ⟨w.heap.size, 2, none⟩)) rfl rfl (by kernel_rfl) (by kernel_rfl) (by kernel_rfl) (fun _ _ _ h => h) (yields_fld44 (by rfl) (.tmp 1) 2 rfl (by decide) (w.heap.size) rfl) hHeld ?_
  simp only [Act.put, List.setIfInBounds_toArray, List.set_cons_zero, List.set_cons_succ]
  refine takeD (i := 8) (some 11) (.slice B m d) rfl rfl (by kernel_rfl) (by kernel_rfl) (by kernel_rfl) (fun _ _ _ h => h) (yields_cell (by rfl) 42 (.tmp 10) rfl (by decide) (w.heap.size) (2) rfl _ (fun _ h => h.cell 2)) hHeld ?_
  simp only [Act.put, List.setIfInBounds_toArray, List.set_cons_zero, List.set_cons_succ]
  refine wpAnyH_ready (rs := [2, 6]) (by kernel_rfl) (by decide) ?_
  refine AllReadyH.cons rfl (fun K' hK => ?_) (AllReadyH.cons rfl (fun K' hK => ?_) AllReadyH.nil)
  · refine step_of rfl (wp_emptyE 5 rfl rfl ?_)
    intro g1 w1 hg1 hl1 ho1 hb1
    have B1 : Below w0.heap.size w0 w1 := B0.trans (hb1.mono B0.size)
    have hge1 : w0.heap.size ≤ g1 := by rw [hg1]; exact B0.size
    have hz1 : w0.drew.heap.size ≤ w1.heap.size := hb1.size
    clear hg1
    refine hK.out _ _ (HR.out.below B1 (by omega)) (fun hHeld1 => ?_)
    clear hK
    (try simp only [Act.put, List.setIfInBounds_toArray, List.set_cons_zero, List.set_cons_succ])
    refine wpAnyH_ready (rs := [5, 6]) (by kernel_rfl) (by decide) ?_
    refine AllReadyH.cons rfl (fun K' hK => ?_) (AllReadyH.cons rfl (fun K' hK => ?_) AllReadyH.nil)
    · refine step_of rfl (wp_appDA 8 rfl (.tmp 5) (.tmp 7) rfl _ g1 0 rfl ho1 A n c L rfl (HA.out.below B1) hn hz1 ?_)
      intro A2 c2 w2 hd2 ho2 _
      have B2 : Below w0.heap.size w0 w2 := B1.trans (ho2.below hge1 B1.size)
      refine hK.out _ _ (HR.out.below B2 (by omega)) (fun hHeld2 => ?_)
      clear hK
      (try simp only [Act.put, List.setIfInBounds_toArray, List.set_cons_zero, List.set_cons_succ])
      refine wpAnyH_ready (rs := [6]) (by kernel_rfl) (by decide) ?_
      refine AllReadyH.cons rfl (fun K' hK => ?_) AllReadyH.nil
      refine step_of rfl (wp_emptyE 9 rfl rfl ?_)
      intro g3 w3 hg3 hl3 ho3 hb3
      have B3 : Below w0.heap.size w0 w3 := B2.trans (hb3.mono B2.size)
      have hge3 : w2.heap.size ≤ g3 := by rw [hg3]; exact Nat.le_refl _
      have hz3 := hb3.size
      have hz2 := B2.size
      clear hg3
      refine hK.out _ _ (HR.out.below B3 (by omega)) (fun hHeld3 => ?_)
      clear hK
      (try simp only [Act.put, List.setIfInBounds_toArray, List.set_cons_zero, List.set_cons_succ])
      refine wpAnyH_ready (rs := [9]) (by kernel_rfl) (by decide) ?_
      refine AllReadyH.cons rfl (fun K' hK => ?_) AllReadyH.nil
      refine step_of rfl (wp_appDA 12 rfl (.tmp 9) (.tmp 11) rfl _ g3 0 rfl ho3 B m d M rfl (HB.out.below B3) hm hz3 ?_)
      intro A4 c4 w4 hd4 ho4 _
      have B4 : Below w0.heap.size w0 w4 := B3.trans (ho4.below (by omega) (by omega))
      have hdA : Ds w4 A2 n L := (hd2.below hb3).only (hd2.apart hge3) ho4
      refine hK.out _ _ (HR.out.below B4 (by omega)) (fun hHeld4 => ?_)
      clear hK
      (try simp only [Act.put, List.setIfInBounds_toArray, List.set_cons_zero, List.set_cons_succ])
      refine takeD (i := 10) (some 13) (.agg (sigC i A2 n c2 A4 m c4)) rfl rfl (by kernel_rfl) (by kernel_rfl) (by kernel_rfl) (fun _ _ _ h => h) (yields_buildS (by rfl) (.tmp 4) (.tmp 8) (.tmp 12) rfl _ _ _ _ _ _ _ rfl rfl rfl) hHeld4 ?_
      simp only [Act.put, List.setIfInBounds_toArray, List.set_cons_zero, List.set_cons_succ]
      refine wpAnyH_ready (rs := [11]) (by kernel_rfl) (by decide) ?_
      refine AllReadyH.cons rfl (fun K' hK => ?_) AllReadyH.nil
      refine step_of rfl (wp_storeS rfl (.tmp 2) (.tmp 13) rfl (w.heap.size + 1) (sigC i A2 n c2 A4 m c4) rfl rfl 44 sig0 (HZ.out.below B4 hs0) (sigC_size _ _ _ _ _ _ _) (sigC_size _ _ _ _ _ _ _) (sigC_one _ _ _ _ _ _ _) ?_)
      intro w9 hr9 ho9
      have HR9 := Lib.hid hr9
      clear hr9
      have k9 : Keeps w4 w9 := Keeps.only (HZ.out.below B4 hs0) sig0_none ho9
      refine hK.out _ _ ((HR.out.below B4 (by omega)).only ho9 (by omega)) (fun hHeld5 => ?_)
      clear hK
      (try simp only [Act.put, List.setIfInBounds_toArray])
      refine wpAnyH_done (by kernel_rfl) ?_ _
      refine NoPanic.normal ?_
      go_wp2_with fail
      have hs9 := B4.size
      exact bodyPost_ret (results_row1 Tryd.aggSig Tryd.results26 rfl HR9.out (sigC_size _ _ _ _ _ _ _)) rfl ⟨A2, c2, A4, c4, rfl, (hdA).keeps k9, (hd4).keeps k9, (hb0.trans (B4.mono (by omega))).trans (ho9.below (B := w.heap.size) (by omega) (by omega))⟩
    · refine step_of rfl (wp_emptyE 9 rfl rfl ?_)
      intro g3 w3 hg3 hlt3 hq3 hb3
      have B3 : Below w0.heap.size w0 w3 := B1.trans (hb3.mono B1.size)
      have hge3 : w0.heap.size ≤ g3 := by rw [hg3]; exact B1.size
      have hne : g3 ≠ g1 := by omega
      have hqz3 := hb3.size
      have hqz1 : w0.drew.heap.size ≤ w3.heap.size := by omega
      have hq1 := ho1.below hb3
      clear hg3
      refine hK.out _ _ (HR.out.below B3 (by omega)) (fun hHeld2 => ?_)
      clear hK
      (try simp only [Act.put, List.setIfInBounds_toArray, List.set_cons_zero, List.set_cons_succ])
      refine wpAnyH_ready (rs := [5]) (by kernel_rfl) (by decide) ?_
      refine AllReadyH.cons rfl (fun K' hK => ?_) AllReadyH.nil
      refine step_of rfl (wp_appDA 8 rfl (.tmp 5) (.tmp 7) rfl _ g1 0 rfl hq1 A n c L rfl (HA.out.below B3) hn hqz1 ?_)
      intro A2 c2 w2 hd2 ho2 hap2
      have B2 : Below w0.heap.size w0 w2 := B3.trans (ho2.below hge1 B3.size)
      have hz2 := ho2.size
      have hq4 := hq3.ne ho2 hne
      refine hK.out _ _ (HR.out.below B2 (by omega)) (fun hHeld3 => ?_)
      clear hK
      (try simp only [Act.put, List.setIfInBounds_toArray, List.set_cons_zero, List.set_cons_succ])
      refine wpAnyH_ready (rs := [9]) (by kernel_rfl) (by decide) ?_
      refine AllReadyH.cons rfl (fun K' hK => ?_) AllReadyH.nil
      refine step_of rfl (wp_appDA 12 rfl (.tmp 9) (.tmp 11) rfl _ g3 0 rfl hq4 B m d M rfl (HB.out.below B2) hm (by omega) ?_)
      intro A4 c4 w4 hd4 ho4 _
      have B4 : Below w0.heap.size w0 w4 := B2.trans (ho4.below hge3 B2.size)
      have hdA : Ds w4 A2 n L := hd2.only (hap2 g3 hlt3 hne) ho4
      refine hK.out _ _ (HR.out.below B4 (by omega)) (fun hHeld4 => ?_)
      clear hK
      (try simp only [Act.put, List.setIfInBounds_toArray, List.set_cons_zero, List.set_cons_succ])
      refine takeD (i := 10) (some 13) (.agg (sigC i A2 n c2 A4 m c4)) rfl rfl (by kernel_rfl) (by kernel_rfl) (by kernel_rfl) (fun _ _ _ h => h) (yields_buildS (by rfl) (.tmp 4) (.tmp 8) (.tmp 12) rfl _ _ _ _ _ _ _ rfl rfl rfl) hHeld4 ?_
      simp only [Act.put, List.setIfInBounds_toArray, List.set_cons_zero, List.set_cons_succ]
      refine wpAnyH_ready (rs := [11]) (by kernel_rfl) (by decide) ?_
      refine AllReadyH.cons rfl (fun K' hK => ?_) AllReadyH.nil
      refine step_of rfl (wp_storeS rfl (.tmp 2) (.tmp 13) rfl (w.heap.size + 1) (sigC i A2 n c2 A4 m c4) rfl rfl 44 sig0 (HZ.out.below B4 hs0) (sigC_size _ _ _ _ _ _ _) (sigC_size _ _ _ _ _ _ _) (sigC_one _ _ _ _ _ _ _) ?_)
      intro w9 hr9 ho9
      have HR9 := Lib.hid hr9
      clear hr9
      have k9 : Keeps w4 w9 := Keeps.only (HZ.out.below B4 hs0) sig0_none ho9
      refine hK.out _ _ ((HR.out.below B4 (by omega)).only ho9 (by omega)) (fun hHeld5 => ?_)
      clear hK
      (try simp only [Act.put, List.setIfInBounds_toArray])
      refine wpAnyH_done (by kernel_rfl) ?_ _
      refine NoPanic.normal ?_
      go_wp2_with fail
      have hs9 := B4.size
      exact bodyPost_ret (results_row1 Tryd.aggSig Tryd.results26 rfl HR9.out (sigC_size _ _ _ _ _ _ _)) rfl ⟨A2, c2, A4, c4, rfl, (hdA).keeps k9, (hd4).keeps k9, (hb0.trans (B4.mono (by omega))).trans (ho9.below (B := w.heap.size) (by omega) (by omega))⟩
  · refine step_of rfl (wp_emptyE 9 rfl rfl ?_)
    intro g3 w1 hg3 hl3 ho3 hb1
    have B1 : Below w0.heap.size w0 w1 := B0.trans (hb1.mono B0.size)
    have hge3 : w0.heap.size ≤ g3 := by rw [hg3]; exact B0.size
    have hz1 : w0.drew.heap.size ≤ w1.heap.size := hb1.size
    clear hg3
    refine hK.out _ _ (HR.out.below B1 (by omega)) (fun hHeld1 => ?_)
    clear hK
    (try simp only [Act.put, List.setIfInBounds_toArray, List.set_cons_zero, List.set_cons_succ])
    refine wpAnyH_ready (rs := [2]) (by kernel_rfl) (by decide) ?_
    refine AllReadyH.cons rfl (fun K' hK => ?_) AllReadyH.nil
    refine step_of rfl (wp_emptyE 5 rfl rfl ?_)
    intro g1 w3 hg1 hl1 hq1 hb3
    have B3 : Below w0.heap.size w0 w3 := B1.trans (hb3.mono B1.size)
    have hge1 : w0.heap.size ≤ g1 := by rw [hg1]; exact B1.size
    have hne : g3 ≠ g1 := by omega
    have hqz1 := hb3.size
    have hq3 := ho3.below hb3
    have hlt3 : g3 < w3.heap.size := by omega
    clear hg1
    refine hK.out _ _ (HR.out.below B3 (by omega)) (fun hHeld2 => ?_)
    clear hK
    (try simp only [Act.put, List.setIfInBounds_toArray, List.set_cons_zero, List.set_cons_succ])
    refine wpAnyH_ready (rs := [5]) (by kernel_rfl) (by decide) ?_
    refine AllReadyH.cons rfl (fun K' hK => ?_) AllReadyH.nil
    refine step_of rfl (wp_appDA 8 rfl (.tmp 5) (.tmp 7) rfl _ g1 0 rfl hq1 A n c L rfl (HA.out.below B3) hn hqz1 ?_)
    intro A2 c2 w2 hd2 ho2 hap2
    have B2 : Below w0.heap.size w0 w2 := B3.trans (ho2.below hge1 B3.size)
    have hz2 := ho2.size
    have hq4 := hq3.ne ho2 hne
    refine hK.out _ _ (HR.out.below B2 (by omega)) (fun hHeld3 => ?_)
    clear hK
    (try simp only [Act.put, List.setIfInBounds_toArray, List.set_cons_zero, List.set_cons_succ])
    refine wpAnyH_ready (rs := [9]) (by kernel_rfl) (by decide) ?_
    refine AllReadyH.cons rfl (fun K' hK => ?_) AllReadyH.nil
    refine step_of rfl (wp_appDA 12 rfl (.tmp 9) (.tmp 11) rfl _ g3 0 rfl hq4 B m d M rfl (HB.out.below B2) hm (by omega) ?_)
    intro A4 c4 w4 hd4 ho4 _
    have B4 : Below w0.heap.size w0 w4 := B2.trans (ho4.below hge3 B2.size)
    have hdA : Ds w4 A2 n L := hd2.only (hap2 g3 hlt3 hne) ho4
    refine hK.out _ _ (HR.out.below B4 (by omega)) (fun hHeld4 => ?_)
    clear hK
    (try simp only [Act.put, List.setIfInBounds_toArray, List.set_cons_zero, List.set_cons_succ])
    refine takeD (i := 10) (some 13) (.agg (sigC i A2 n c2 A4 m c4)) rfl rfl (by kernel_rfl) (by kernel_rfl) (by kernel_rfl) (fun _ _ _ h => h) (yields_buildS (by rfl) (.tmp 4) (.tmp 8) (.tmp 12) rfl _ _ _ _ _ _ _ rfl rfl rfl) hHeld4 ?_
    simp only [Act.put, List.setIfInBounds_toArray, List.set_cons_zero, List.set_cons_succ]
    refine wpAnyH_ready (rs := [11]) (by kernel_rfl) (by decide) ?_
    refine AllReadyH.cons rfl (fun K' hK => ?_) AllReadyH.nil
    refine step_of rfl (wp_storeS rfl (.tmp 2) (.tmp 13) rfl (w.heap.size + 1) (sigC i A2 n c2 A4 m c4) rfl rfl 44 sig0 (HZ.out.below B4 hs0) (sigC_size _ _ _ _ _ _ _) (sigC_size _ _ _ _ _ _ _) (sigC_one _ _ _ _ _ _ _) ?_)
    intro w9 hr9 ho9
    have HR9 := Lib.hid hr9
    clear hr9
    have k9 : Keeps w4 w9 := Keeps.only (HZ.out.below B4 hs0) sig0_none ho9
    refine hK.out _ _ ((HR.out.below B4 (by omega)).only ho9 (by omega)) (fun hHeld5 => ?_)
    clear hK
    (try simp only [Act.put, List.setIfInBounds_toArray])
    refine wpAnyH_done (by kernel_rfl) ?_ _
    refine NoPanic.normal ?_
    go_wp2_with fail
    have hs9 := B4.size
    exact bodyPost_ret (results_row1 Tryd.aggSig Tryd.results26 rfl HR9.out (sigC_size _ _ _ _ _ _ _)) rfl ⟨A2, c2, A4, c4, rfl, (hdA).keeps k9, (hd4).keeps k9, (hb0.trans (B4.mono (by omega))).trans (ho9.below (B := w.heap.size) (by omega) (by omega))⟩
end Go.Proofs.YtfelmdndjdaniaaDoor
