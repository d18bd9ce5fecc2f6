/-
  The document's Cut and Sync.
-/
import Derived.Test.YtpnllbadalcnaaaRefE
namespace Go.Proofs.Ytpnllbadalcnaaa
open Go.RowKit
set_option maxRecDepth 100000 in
set_option maxHeartbeats 4000000 in
theorem MCut_any {S : Tp} (g K : Nat) (z n : Int) (F : Nat → Nat → Prop) (w : World) (h : TapM w g F S) (hok : S.ok K) (hK : K ≤ 100000000) :
    Calls Try.prog 32 #[.pointer (some ⟨g, 0, none⟩), .int .i64 z, .int .i64 n] w (DidM w g F (S.cutT z n)) := by
  have HT := Lib.hid h
  unfold DidM
  by_cases hz : isF z
  · obtain ⟨i, rfl, hi, hzi⟩ := isF_nat hz
    have HI := Lib.hid (fun w => is_yes hz w)
    obtain ⟨N, hN⟩ : ∃ N, (S.f i).now.length = N := ⟨_, rfl⟩
    have HNw := Lib.hid ((Now_any g i K F w h hi hok (by omega)).mono (R' := fun e w' => ∃ A' c', e = .returned (.slice A' N c') ∧ Below w.heap.size w w') (by rintro e w' ⟨A', n', c', rfl, ho, hb⟩; have hl := ho.length; rw [hN] at hl; subst hl; exact ⟨A', c', rfl, hb⟩))
    by_cases hn0 : n < 0
    · have HQ := Lib.hid (show S.cutT (i : Int) n = (S, 1) by unfold Tp.cutT; rw [if_neg (by intro q; omega)])
      clear h hok hz hzi hN
      generalize S.cutT (i : Int) n = R at *
      go_enter Try.func32, Try.ntmps32
      go_wp2_with (go_at_call 19; refine (HI.out _).mono ?_; rintro e1 w1 ⟨rfl, rfl⟩)
      go_ret
      rw [HQ.out]
      exact ⟨rfl, ⟨F, fun _ _ q => .inl q, HT.out⟩, Off.of_below (Below.refl _ _)⟩
    · by_cases hnN : (N : Int) < n
      · have HQ := Lib.hid (show S.cutT (i : Int) n = (S, 1) by unfold Tp.cutT Tp.now; rw [hzi, hN, if_neg (by intro q; omega)])
        clear h hok hz hzi hN
        generalize S.cutT (i : Int) n = R at *
        go_enter Try.func32, Try.ntmps32
        go_wp2_with (first
          | (go_at_call 19; refine (HI.out _).mono ?_; rintro e1 w1 ⟨rfl, rfl⟩)
          | (go_at_call 43; refine HNw.out.mono ?_; rintro e2 w2 ⟨A2, c2, rfl, hb2⟩))
        go_ret
        rw [HQ.out]
        exact ⟨rfl, ⟨F, fun _ _ q => .inl q, HT.out.below hb2⟩, Off.of_below hb2⟩
      · obtain ⟨q, rfl⟩ := Int.eq_ofNat_of_zero_le (show 0 ≤ n by omega)
        have hqN : q ≤ N := by omega
        have HC : S.cutT (i : Int) (q : Int) = (match S.pow with | none => (S.dead, 100) | some T => (T.add i (.cut q), 0)) := by
          unfold Tp.cutT Tp.now
          rw [hzi, hN, if_pos ⟨hz, by omega, by omega⟩]
          rfl
        have c13 := h.cell.2
        by_cases hd : S.down = true
        · have hp : S.pow = none := by unfold Tp.pow; exact if_pos (.inl hd)
          rw [hp, dead_of_down hd] at HC
          have HQ := Lib.hid HC
          have HC1 := Lib.hid (fun w' (hb : Below w.heap.size w w') => show w'.cell? ⟨g, 9, none⟩ = some (.bool true) from (hb.cell (p := ⟨g, 9, none⟩) h.glt).trans (by rw [c13, hd]))
          clear h hok hz hzi hN HC hp hd c13
          generalize S.cutT (i : Int) (q : Int) = R at *
          go_enter Try.func32, Try.ntmps32
          go_wp2_with (first
            | (go_at_call 19; refine (HI.out _).mono ?_; rintro e1 w1 ⟨rfl, rfl⟩)
            | (go_at_call 43; refine HNw.out.mono ?_; rintro e2 w2 ⟨A2, c2, rfl, hb2⟩; have c13 := HC1.out _ hb2))
          go_ret
          rw [HQ.out]
          exact ⟨rfl, ⟨F, fun _ _ q => .inl q, HT.out.below hb2⟩, Off.of_below hb2⟩
        · have hd' : S.down = false := by simpa using hd
          have HC1 := Lib.hid (fun w' (hb : Below w.heap.size w w') => show w'.cell? ⟨g, 9, none⟩ = some (.bool false) from (hb.cell (p := ⟨g, 9, none⟩) h.glt).trans (by rw [c13, hd']))
          have HDn := Lib.hid hd'
          cases hp : S.pow with
          | none =>
            rw [hp] at HC
            have HQ := Lib.hid HC
            have HP := Lib.hid hp
            clear h hok hz hzi hN HC hp hd hd' c13
            generalize S.cutT (i : Int) (q : Int) = R at *
            go_enter Try.func32, Try.ntmps32
            go_wp2_with (first
              | (go_at_call 19; refine (HI.out _).mono ?_; rintro e1 w1 ⟨rfl, rfl⟩)
              | (go_at_call 43; refine HNw.out.mono ?_; rintro e2 w2 ⟨A2, c2, rfl, hb2⟩; have c13 := HC1.out _ hb2; have HT2 := Lib.hid (HT.out.below hb2))
              | (go_at_call 44; refine (mpow_none g F _ HT2.out HP.out HDn.out).mono ?_; rintro e3 w3 ⟨rfl, ht3, ho3⟩))
            go_ret
            rw [HQ.out]
            exact ⟨rfl, GrowM.trans (fun _ _ q => .inl q) (Off.of_below hb2) (ht3.grew ho3)⟩
          | some U =>
            rw [hp] at HC
            have HQ := Lib.hid HC
            have HP := Lib.hid hp
            have HUok := Lib.hid (hok.pow hp)
            clear h hok hz hzi hN HC hp hd hd' c13
            generalize S.cutT (i : Int) (q : Int) = R at *
            go_enter Try.func32, Try.ntmps32
            go_wp2_with (first
              | (go_at_call 19; refine (HI.out _).mono ?_; rintro e1 w1 ⟨rfl, rfl⟩)
              | (go_at_call 43; refine HNw.out.mono ?_; rintro e2 w1 ⟨A2, c2, rfl, hb2⟩; have c13 := HC1.out _ hb2; have HT1 := Lib.hid (HT.out.below hb2))
              | (go_at_call 44; refine (mpow_some g F _ HT1.out HP.out).mono ?_; rintro e3 w2 ⟨rfl, ht2, ho2⟩; have HT2 := Lib.hid ht2; have HO2 := Lib.hid ho2; clear ht2 ho2))
            clear c13
            obtain ⟨A1, n1, c1, A2, c2, hr2, _, hS2, _, hF2⟩ := HT2.out.file hi
            obtain ⟨n2, hn2e⟩ : ∃ n2, (U.f i).opn.length = n2 := ⟨_, rfl⟩
            rw [hn2e] at hr2 hS2 hF2
            have hn2 : n2 + 1 ≤ 1000000000 := by have := (HUok.out i).2; omega
            have HCo := Lib.hid (filR_cell hr2).2
            have HSt := Lib.hid hS2
            have HV := Lib.hid hS2.lt
            have hgl2 := HT2.out.glt
            clear hr2 hS2 hF2 hn2e
            refine cutR (fun a a' w' => ∃ (g4 : Nat) (A5 : Option Addr) (c5 : Nat), a' = (((((((((((((((((a.put (some 31) (.pointer (some ⟨g, 0, none⟩))).put (some 32) (.int .i64 (i : Int))).put (some 33) (.pointer (some ⟨g, 0, none⟩))).put (some 34) (.int .i64 (i : Int))).put (some 35) (.pointer (some ⟨g, 0, none⟩))).put (some 36) (.pointer (some ⟨g, 0, none⟩))).put (some 37) (.pointer (some ⟨g, 2 * i, none⟩))).put (some 38) (.pointer (some ⟨g, 2 * i + 1, none⟩))).put (some 39) (.slice A2 n2 c2)).put (some 40) (.int .i64 (q : Int))).put (some 41) (.agg (stpR (.cut q)).toArray)).put (some 44) (.pointer (some ⟨g, 0, none⟩))).put (some 45) (.pointer (some ⟨g, 0, none⟩))).put (some 42) (.slice (some ⟨g4, 0, none⟩) 1 1)).put (some 43) (.slice A5 (n2 + 1) c5)).put (some 46) (.pointer (some ⟨g, 2 * i, none⟩))).put (some 47) (.pointer (some ⟨g, 2 * i + 1, none⟩))) ∧ GrowM w2 g F (U.add i (.cut q)) w') ?_ ?_
            · have B0 : Below w2.heap.size w2 w2.drew := (Below.refl w2.heap.size w2).drew
              refine wp_region_noPanic ?_
              refine wp_region_held_drew (S := fun w' => True) (by kernel_rfl) trivial (fun hHeld => ?_)
              refine takeD (i := 0) (some 31) (.pointer (some ⟨g, 0, none⟩)) rfl rfl (by kernel_rfl) (by kernel_rfl) (by kernel_rfl) (fun _ _ _ h => h) (Or.inl ⟨by rfl, fun _ _ => rfl⟩) hHeld ?_
              simp only [Act.put, List.setIfInBounds_toArray, List.set_cons_zero, List.set_cons_succ]
              refine takeD (i := 1) (some 32) (.int .i64 (i : Int)) rfl rfl (by kernel_rfl) (by kernel_rfl) (by kernel_rfl) (fun _ _ _ h => h) (Or.inl ⟨by rfl, fun _ _ => rfl⟩) hHeld ?_
              simp only [Act.put, List.setIfInBounds_toArray, List.set_cons_zero, List.set_cons_succ]
              refine takeD (i := 2) (some 33) (.pointer (some ⟨g, 0, none⟩)) rfl rfl (by kernel_rfl) (by kernel_rfl) (by kernel_rfl) (fun _ _ _ h => h) (Or.inl ⟨by rfl, fun _ _ => rfl⟩) hHeld ?_
              simp only [Act.put, List.setIfInBounds_toArray, List.set_cons_zero, List.set_cons_succ]
              refine takeD (i := 3) (some 34) (.int .i64 (i : Int)) rfl rfl (by kernel_rfl) (by kernel_rfl) (by kernel_rfl) (fun _ _ _ h => h) (Or.inl ⟨by rfl, fun _ _ => rfl⟩) hHeld ?_
              simp only [Act.put, List.setIfInBounds_toArray, List.set_cons_zero, List.set_cons_succ]
              refine takeD (i := 4) (some 35) (.pointer (some ⟨g, 0, none⟩)) rfl rfl (by kernel_rfl) (by kernel_rfl) (by kernel_rfl) (fun _ _ _ h => h) (yields_nil (by rfl) (.tmp 33) rfl _ rfl) hHeld ?_
              simp only [Act.put, List.setIfInBounds_toArray, List.set_cons_zero, List.set_cons_succ]
              refine takeD (i := 5) (some 36) (.pointer (some ⟨g, 0, none⟩)) rfl rfl (by kernel_rfl) (by kernel_rfl) (by kernel_rfl) (fun _ _ _ h => h) (yields_fld66 (by rfl) 41 (.tmp 35) rfl (by decide) g rfl) hHeld ?_
              simp only [Act.put, List.setIfInBounds_toArray, List.set_cons_zero, List.set_cons_succ]
              refine takeD (i := 6) (some 37) (.pointer (some ⟨g, 2 * i, none⟩)) rfl rfl (by kernel_rfl) (by kernel_rfl) (by kernel_rfl) (fun _ _ _ h => h) (yields_indexM (by rfl) (.tmp 36) (.tmp 34) rfl g i rfl rfl hi) hHeld ?_
              simp only [Act.put, List.setIfInBounds_toArray, List.set_cons_zero, List.set_cons_succ]
              refine takeD (i := 7) (some 38) (.pointer (some ⟨g, 2 * i + 1, none⟩)) rfl rfl (by kernel_rfl) (by kernel_rfl) (by kernel_rfl) (fun _ _ _ h => h) (yields_fld38 (by rfl) (.tmp 37) 1 rfl (by decide) g (2 * i) _ rfl rfl) hHeld ?_
              simp only [Act.put, List.setIfInBounds_toArray, List.set_cons_zero, List.set_cons_succ]
              refine takeD (i := 9) (some 40) (.int .i64 (q : Int)) rfl rfl (by kernel_rfl) (by kernel_rfl) (by kernel_rfl) (fun _ _ _ h => h) (Or.inl ⟨by rfl, fun _ _ => rfl⟩) hHeld ?_
              simp only [Act.put, List.setIfInBounds_toArray, List.set_cons_zero, List.set_cons_succ]
              refine takeD (i := 10) (some 41) (.agg (stpR (.cut q)).toArray) rfl rfl (by kernel_rfl) (by kernel_rfl) (by kernel_rfl) (fun _ _ _ h => h) (yields_bCut (by rfl) (.tmp 40) rfl q rfl) hHeld ?_
              simp only [Act.put, List.setIfInBounds_toArray, List.set_cons_zero, List.set_cons_succ]
              refine takeD (i := 13) (some 44) (.pointer (some ⟨g, 0, none⟩)) rfl rfl (by kernel_rfl) (by kernel_rfl) (by kernel_rfl) (fun _ _ _ h => h) (yields_nil (by rfl) (.tmp 31) rfl _ rfl) hHeld ?_
              simp only [Act.put, List.setIfInBounds_toArray, List.set_cons_zero, List.set_cons_succ]
              refine takeD (i := 14) (some 45) (.pointer (some ⟨g, 0, none⟩)) rfl rfl (by kernel_rfl) (by kernel_rfl) (by kernel_rfl) (fun _ _ _ h => h) (yields_fld66 (by rfl) 41 (.tmp 44) rfl (by decide) g rfl) hHeld ?_
              simp only [Act.put, List.setIfInBounds_toArray, List.set_cons_zero, List.set_cons_succ]
              refine wpAnyH_ready (rs := [8, 11]) (by kernel_rfl) (by decide) ?_
              refine AllReadyH.cons rfl (fun K' hK => ?_) (AllReadyH.cons rfl (fun K' hK => ?_) AllReadyH.nil)
              · skip
                refine step_of rfl (wp_loadC 36 (.tmp 38) rfl (.inr (.inr rfl)) g (2 * i + 1) (.slice A2 n2 c2) rfl ((World.cell?_of_block (a := ⟨g, 2 * i + 1, none⟩) (B0.block g hgl2)).trans HCo.out) ?_)
                refine hK.out _ _ trivial (fun hHeld1 => ?_)
                clear hK
                simp only [List.getElem_toArray, List.getElem_cons_succ, List.getElem_cons_zero, Act.put, List.setIfInBounds_toArray, List.set_cons_zero, List.set_cons_succ]
                refine wpAnyH_ready (rs := [11]) (by kernel_rfl) (by decide) ?_
                refine AllReadyH.cons rfl (fun K' hK => ?_) AllReadyH.nil
                refine step_of rfl (Try.stR.wp_build (.tmp 41) rfl (.cut q) rfl ?_)
                intro g4 w4 hg4 hr4 hb4
                have HX4 := Lib.hid (rangeAt_row hr4)
                have B4 : Below w2.heap.size w2 w4 := B0.trans hb4
                clear hg4 hr4 hb4
                refine hK.out _ _ trivial (fun hHeld2 => ?_)
                clear hK
                simp only [List.getElem_toArray, List.getElem_cons_succ, List.getElem_cons_zero, Act.put, List.setIfInBounds_toArray, List.set_cons_zero, List.set_cons_succ]
                refine wpAnyH_ready (rs := [12]) (by kernel_rfl) (by decide) ?_
                refine AllReadyH.cons rfl (fun K' hK => ?_) AllReadyH.nil
                refine step_of rfl (Try.stR.wp_app (.tmp 39) (.tmp 42) rfl (.slice A2 n2 c2) n2 (U.f i).opn rfl (HSt.out.keep (fun b q => B4.block b (HV.out b q).2)) (.cut q) g4 0 1 rfl HX4.out hn2 ?_)
                intro A5 c5 w5 h5 hg5 hf5
                obtain ⟨cs5, hr5, hp5, hgr5⟩ := madd_grow HT2.out hi HCo.out B4 hg5 h5 hf5
                have HR5 := Lib.hid hr5
                have HG5 := Lib.hid hgr5
                have HG := Lib.hid hg5
                clear h5 hg5 hf5 hr5 hgr5
                refine hK.out _ _ trivial (fun hHeld3 => ?_)
                clear hK
                simp only [List.getElem_toArray, List.getElem_cons_succ, List.getElem_cons_zero, Act.put, List.setIfInBounds_toArray, List.set_cons_zero, List.set_cons_succ]
                refine takeD (i := 15) (some 46) (.pointer (some ⟨g, 2 * i, none⟩)) rfl rfl (by kernel_rfl) (by kernel_rfl) (by kernel_rfl) (fun _ _ _ h => h) (yields_indexM (by rfl) (.tmp 45) (.tmp 32) rfl g i rfl rfl hi) hHeld3 ?_
                simp only [Act.put, List.setIfInBounds_toArray, List.set_cons_zero, List.set_cons_succ]
                refine takeD (i := 16) (some 47) (.pointer (some ⟨g, 2 * i + 1, none⟩)) rfl rfl (by kernel_rfl) (by kernel_rfl) (by kernel_rfl) (fun _ _ _ h => h) (yields_fld38 (by rfl) (.tmp 46) 1 rfl (by decide) g (2 * i) _ rfl rfl) hHeld3 ?_
                simp only [Act.put, List.setIfInBounds_toArray, List.set_cons_zero, List.set_cons_succ]
                refine wpAnyH_ready (rs := [17]) (by kernel_rfl) (by decide) ?_
                refine AllReadyH.cons rfl (fun K' hK => ?_) AllReadyH.nil
                refine step_of rfl (wp_storeC 36 (.tmp 47) (.tmp 43) rfl (.inr (.inr rfl)) g (2 * i + 1) A5 (n2 + 1) c5 41 _ rfl rfl HR5.out hp5 ?_)
                refine hK.out _ _ trivial (fun hHeld4 => ?_)
                clear hK
                refine wpAnyH_done (by kernel_rfl) ?_ _
                refine NoPanic.normal ?_
                exact ⟨rfl, g4, A5, c5, rfl, HG5.out⟩
              · skip
                refine step_of rfl (Try.stR.wp_build (.tmp 41) rfl (.cut q) rfl ?_)
                intro g4 w4 hg4 hr4 hb4
                have HX4 := Lib.hid (rangeAt_row hr4)
                have B4 : Below w2.heap.size w2 w4 := B0.trans hb4
                clear hg4 hr4 hb4
                refine hK.out _ _ trivial (fun hHeld5 => ?_)
                clear hK
                simp only [List.getElem_toArray, List.getElem_cons_succ, List.getElem_cons_zero, Act.put, List.setIfInBounds_toArray, List.set_cons_zero, List.set_cons_succ]
                refine wpAnyH_ready (rs := [8]) (by kernel_rfl) (by decide) ?_
                refine AllReadyH.cons rfl (fun K' hK => ?_) AllReadyH.nil
                refine step_of rfl (wp_loadC 36 (.tmp 38) rfl (.inr (.inr rfl)) g (2 * i + 1) (.slice A2 n2 c2) rfl ((World.cell?_of_block (a := ⟨g, 2 * i + 1, none⟩) (B4.block g hgl2)).trans HCo.out) ?_)
                refine hK.out _ _ trivial (fun hHeld6 => ?_)
                clear hK
                simp only [List.getElem_toArray, List.getElem_cons_succ, List.getElem_cons_zero, Act.put, List.setIfInBounds_toArray, List.set_cons_zero, List.set_cons_succ]
                refine wpAnyH_ready (rs := [12]) (by kernel_rfl) (by decide) ?_
                refine AllReadyH.cons rfl (fun K' hK => ?_) AllReadyH.nil
                refine step_of rfl (Try.stR.wp_app (.tmp 39) (.tmp 42) rfl (.slice A2 n2 c2) n2 (U.f i).opn rfl (HSt.out.keep (fun b q => B4.block b (HV.out b q).2)) (.cut q) g4 0 1 rfl HX4.out hn2 ?_)
                intro A5 c5 w5 h5 hg5 hf5
                obtain ⟨cs5, hr5, hp5, hgr5⟩ := madd_grow HT2.out hi HCo.out B4 hg5 h5 hf5
                have HR5 := Lib.hid hr5
                have HG5 := Lib.hid hgr5
                have HG := Lib.hid hg5
                clear h5 hg5 hf5 hr5 hgr5
                refine hK.out _ _ trivial (fun hHeld7 => ?_)
                clear hK
                simp only [List.getElem_toArray, List.getElem_cons_succ, List.getElem_cons_zero, Act.put, List.setIfInBounds_toArray, List.set_cons_zero, List.set_cons_succ]
                refine takeD (i := 15) (some 46) (.pointer (some ⟨g, 2 * i, none⟩)) rfl rfl (by kernel_rfl) (by kernel_rfl) (by kernel_rfl) (fun _ _ _ h => h) (yields_indexM (by rfl) (.tmp 45) (.tmp 32) rfl g i rfl rfl hi) hHeld7 ?_
                simp only [Act.put, List.setIfInBounds_toArray, List.set_cons_zero, List.set_cons_succ]
                refine takeD (i := 16) (some 47) (.pointer (some ⟨g, 2 * i + 1, none⟩)) rfl rfl (by kernel_rfl) (by kernel_rfl) (by kernel_rfl) (fun _ _ _ h => h) (yields_fld38 (by rfl) (.tmp 46) 1 rfl (by decide) g (2 * i) _ rfl rfl) hHeld7 ?_
                simp only [Act.put, List.setIfInBounds_toArray, List.set_cons_zero, List.set_cons_succ]
                refine wpAnyH_ready (rs := [17]) (by kernel_rfl) (by decide) ?_
                refine AllReadyH.cons rfl (fun K' hK => ?_) AllReadyH.nil
                refine step_of rfl (wp_storeC 36 (.tmp 47) (.tmp 43) rfl (.inr (.inr rfl)) g (2 * i + 1) A5 (n2 + 1) c5 41 _ rfl rfl HR5.out hp5 ?_)
                refine hK.out _ _ trivial (fun hHeld8 => ?_)
                clear hK
                refine wpAnyH_done (by kernel_rfl) ?_ _
                refine NoPanic.normal ?_
                exact ⟨rfl, g4, A5, c5, rfl, HG5.out⟩
            · rintro a' w6 ⟨g4, A5, c5, rfl, hg6⟩
              simp only [Act.put, List.setIfInBounds_toArray, List.set_cons_zero, List.set_cons_succ]
              have HG6 := Lib.hid hg6
              clear hg6
              go_wp2
              go_ret
              rw [HQ.out]
              exact ⟨rfl, GrowM.trans (fun _ _ q => .inl q) ((Off.of_below (F := Foot g F) hb2).trans (HO2.out.mono (F' := Foot g F) (fun b (q : b = g) => .inl q)) (fun x q => .inl q)) HG6.out⟩
  · have HQ := Lib.hid (show S.cutT z n = (S, 1) by unfold Tp.cutT; rw [if_neg (fun q => hz q.1)])
    have HI := Lib.hid (fun w => is_no hz w)
    clear h hok hz
    generalize S.cutT z n = R at *
    go_enter Try.func32, Try.ntmps32
    go_wp2_with (go_at_call 19; refine (HI.out _).mono ?_; rintro e1 w1 ⟨rfl, rfl⟩)
    go_ret
    rw [HQ.out]
    exact ⟨rfl, ⟨F, fun _ _ q => .inl q, HT.out⟩, Off.of_below (Below.refl _ _)⟩
theorem msettle_grow {w w5 : World} {S : Tp} {g i n5 c5 : Nat} {F : Nat → Nat → Prop} {A5 : Option Addr} (h : TapM w g F S) (hi : i < 4) (hb5 : Below w.heap.size w w5) (h5 : Own w5 w.heap.size 5 (.slice A5 n5 c5) n5 (S.f i).now) :
    ∃ cs, Row w5 g 41 cs ∧ 2 * i + 1 < cs.size ∧ ∀ w6, Row w6 g 41 ((cs.setIfInBounds (2 * i) (.slice A5 n5 c5)).setIfInBounds (2 * i + 1) (.slice none 0 0)) → Off (· = g) w5 w6 → GrowM w g F (S.settle i) w6 := by
  obtain ⟨cs, hr, hs, h12, h13, h4⟩ := h.row
  have hgl := hr.lt
  refine ⟨cs, (hb5.block g hgl).trans hr, by omega, fun w6 hr6 ho6 => ?_⟩
  have o6 : Off (fun b => b = g ∨ F i b) w w6 := (Off.of_below (F := fun b => b = g ∨ F i b) hb5).trans (ho6.mono (F' := fun b => b = g ∨ F i b) (fun b q => .inl q)) (fun x q => .inl q)
  have hne : ∀ b, OB (.slice A5 n5 c5) b → b ≠ g := fun b q e => by have := (h5.lt b q).1; omega
  refine h.put hr hr6 (by rw [Array.size_setIfInBounds, Array.size_setIfInBounds]; exact hs) ?_ ?_ h.fz hi ?_ o6 ⟨A5, n5, c5, none, 0, 0, ?_, ?_, ?_, OwnS.nil _ _, fun b q => .inr (h5.lt b q).1, (fun b (q : none = some b) => by cases q)⟩
  · rw [set2 8 (by omega) (by omega)]; exact h12
  · rw [set2 9 (by omega) (by omega)]; exact h13
  · intro j hj hji k hk
    exact set2 _ (by omega) (by omega)
  · rw [Array.getElem?_setIfInBounds, if_neg (by omega), Array.getElem?_setIfInBounds, if_pos rfl, if_pos (by omega)]
  · rw [Array.getElem?_setIfInBounds, if_pos rfl, if_pos (by rw [Array.size_setIfInBounds]; omega)]
  · exact ownsRow_base (h5.keep (fun b q => ho6.block b (h5.lt b q).2 (hne b q))) (Nat.zero_le _)
theorem wp_storeM {o : Oper} {a : Act} {w : World} {K : Act → World → Prop} {Q : Exit → Act → World → Prop} (x y : Operand) (ho : o.op = .store 38 x y) (g p n c m d : Nat) (A B : Option Addr) (cs : Array Value)
    (hx : a.eval x = .pointer (some ⟨g, p, none⟩)) (hy : a.eval y = .agg (filR A n c B m d)) (hr : Row w g 41 cs) (hp : p + 1 < cs.size)
    (h : ∀ w', Row w' g 41 ((cs.setIfInBounds p (.slice A n c)).setIfInBounds (p + 1) (.slice B m d)) → Off (· = g) w w' → K (a.put o.dst undef) w') : o.wp Try.prog a w K Q := by
  have hth : w.there g p 2 := fun j hj => ⟨by rw [hr.cell (p + j), Array.getElem?_eq_getElem (by omega)]; rfl, hr.frozen _⟩
  refine wp_store_mid 38 x y ho g p _ hx hy hth Try.size38i (by simp [Value.oneCell']) (h _ ?_ ?_)
  · exact (hr.set p (.slice A n c)).set (p + 1) (.slice B m d)
  · exact (Off.setCell (F := fun x => x = g) w g p (.slice A n c) rfl).trans (Off.setCell (F := fun x => x = g) _ g (p + 1) (.slice B m d) rfl) (fun x q => .inl q)
set_option maxRecDepth 100000 in
theorem yields_bFil {ops : Array Oper} {S : World → Prop} {o : Oper} {a : Act} (hw : Region.wanted o (yielded ops a.tmps) = true) (x : Operand) (ho : o.op = .build 38 #[(0, x)]) (A : Option Addr) (n c : Nat)
    (hx : a.eval x = .slice A n c) : YieldsIf Try.prog ops S o (.agg (filR A n c none 0 0)) a :=
  .inl ⟨hw, fun w _ => by
    unfold execOp
    simp only [ho, List.map_toArray, List.map_cons, List.map_nil, hx]
    go_simp⟩
set_option maxRecDepth 100000 in
set_option maxHeartbeats 4000000 in
theorem MSync_any {S : Tp} (g K : Nat) (z : Int) (F : Nat → Nat → Prop) (w : World) (h : TapM w g F S) (hok : S.ok K) (hK : K ≤ 100000000) :
    Calls Try.prog 33 #[.pointer (some ⟨g, 0, none⟩), .int .i64 z] w (DidM w g F (S.syncT z)) := by
  have HT := Lib.hid h
  have hKK := hK
  clear hK
  unfold DidM
  by_cases hz : isF z
  · obtain ⟨i, rfl, hi, hzi⟩ := isF_nat hz
    have HI := Lib.hid (fun w => is_yes hz w)
    have HC : S.syncT (i : Int) = (match S.pow with | none => (S.dead, 100) | some T => (T.settle i, 0)) := by
      unfold Tp.syncT
      rw [if_pos hz, hzi]
      rfl
    have c13 := h.cell.2
    by_cases hd : S.down = true
    · have hp : S.pow = none := by unfold Tp.pow; exact if_pos (.inl hd)
      rw [hp, dead_of_down hd] at HC
      have HQ := Lib.hid HC
      rw [hd] at c13
      clear h hok hz hzi HC hp hd
      generalize S.syncT (i : Int) = R at *
      go_enter Try.func33, Try.ntmps33
      go_wp2_with (go_at_call 19; refine (HI.out _).mono ?_; rintro e1 w1 ⟨rfl, rfl⟩)
      go_ret
      rw [HQ.out]
      exact ⟨rfl, ⟨F, fun _ _ q => .inl q, HT.out⟩, Off.of_below (Below.refl _ _)⟩
    · have hd' : S.down = false := by simpa using hd
      rw [hd'] at c13
      have HDn := Lib.hid hd'
      cases hp : S.pow with
      | none =>
        rw [hp] at HC
        have HQ := Lib.hid HC
        have HP := Lib.hid hp
        clear h hok hz hzi HC hp hd hd'
        generalize S.syncT (i : Int) = R at *
        go_enter Try.func33, Try.ntmps33
        go_wp2_with (first
          | (go_at_call 19; refine (HI.out _).mono ?_; rintro e1 w1 ⟨rfl, rfl⟩)
          | (go_at_call 44; refine (mpow_none g F _ HT.out HP.out HDn.out).mono ?_; rintro e3 w3 ⟨rfl, ht3, ho3⟩))
        go_ret
        rw [HQ.out]
        exact ⟨rfl, ht3.grew ho3⟩
      | some U =>
        rw [hp] at HC
        have HQ := Lib.hid HC
        have HP := Lib.hid hp
        have HUok := Lib.hid (hok.pow hp)
        clear h hok hz hzi HC hp hd hd'
        generalize S.syncT (i : Int) = R at *
        go_enter Try.func33, Try.ntmps33
        go_wp2_with (first
          | (go_at_call 19; refine (HI.out _).mono ?_; rintro e1 w1 ⟨rfl, rfl⟩)
          | (go_at_call 44; refine (mpow_some g F _ HT.out HP.out).mono ?_; rintro e3 w2 ⟨rfl, ht2, ho2⟩; have HT2 := Lib.hid ht2; have HO2 := Lib.hid ho2; clear ht2 ho2))
        clear c13
        refine cutR (fun a a' w' => ∃ (A5 : Option Addr) (n5 c5 : Nat), a' = ((((((((((a.put (some 17) (.pointer (some ⟨g, 0, none⟩))).put (some 18) (.int .i64 (i : Int))).put (some 19) (.pointer (some ⟨g, 0, none⟩))).put (some 20) (.int .i64 (i : Int))).put (some 21) (.slice A5 n5 c5)).put (some 22) (.agg (filR A5 n5 c5 none 0 0))).put (some 23) (.pointer (some ⟨g, 0, none⟩))).put (some 24) (.pointer (some ⟨g, 0, none⟩))).put (some 25) (.pointer (some ⟨g, 2 * i, none⟩)))) ∧ GrowM w2 g F (U.settle i) w') ?_ ?_
        · refine wp_region_noPanic ?_
          refine wp_region_held_drew (S := fun w' => True) (by kernel_rfl) trivial (fun hHeld => ?_)
          refine takeD (i := 0) (some 17) (.pointer (some ⟨g, 0, none⟩)) rfl rfl (by kernel_rfl) (by kernel_rfl) (by kernel_rfl) (fun _ _ _ h => h) (Or.inl ⟨by rfl, fun _ _ => rfl⟩) hHeld ?_
          simp only [Act.put, List.setIfInBounds_toArray, List.set_cons_zero, List.set_cons_succ]
          refine takeD (i := 1) (some 18) (.int .i64 (i : Int)) rfl rfl (by kernel_rfl) (by kernel_rfl) (by kernel_rfl) (fun _ _ _ h => h) (Or.inl ⟨by rfl, fun _ _ => rfl⟩) hHeld ?_
          simp only [Act.put, List.setIfInBounds_toArray, List.set_cons_zero, List.set_cons_succ]
          refine takeD (i := 2) (some 19) (.pointer (some ⟨g, 0, none⟩)) rfl rfl (by kernel_rfl) (by kernel_rfl) (by kernel_rfl) (fun _ _ _ h => h) (Or.inl ⟨by rfl, fun _ _ => rfl⟩) hHeld ?_
          simp only [Act.put, List.setIfInBounds_toArray, List.set_cons_zero, List.set_cons_succ]
          refine takeD (i := 3) (some 20) (.int .i64 (i : Int)) rfl rfl (by kernel_rfl) (by kernel_rfl) (by kernel_rfl) (fun _ _ _ h => h) (Or.inl ⟨by rfl, fun _ _ => rfl⟩) hHeld ?_
          simp only [Act.put, List.setIfInBounds_toArray, List.set_cons_zero, List.set_cons_succ]
          refine takeD (i := 6) (some 23) (.pointer (some ⟨g, 0, none⟩)) rfl rfl (by kernel_rfl) (by kernel_rfl) (by kernel_rfl) (fun _ _ _ h => h) (yields_nil (by rfl) (.tmp 17) rfl _ rfl) hHeld ?_
          simp only [Act.put, List.setIfInBounds_toArray, List.set_cons_zero, List.set_cons_succ]
          refine takeD (i := 7) (some 24) (.pointer (some ⟨g, 0, none⟩)) rfl rfl (by kernel_rfl) (by kernel_rfl) (by kernel_rfl) (fun _ _ _ h => h) (yields_fld66 (by rfl) 41 (.tmp 23) rfl (by decide) g rfl) hHeld ?_
          simp only [Act.put, List.setIfInBounds_toArray, List.set_cons_zero, List.set_cons_succ]
          refine wpAnyH_ready (rs := [4]) (by kernel_rfl) (by decide) ?_
          refine AllReadyH.cons rfl (fun K' hK => ?_) AllReadyH.nil
          go_simp
          refine (Now_any g i K F w2.drew (HT2.out.below ((Below.refl w2.heap.size w2).drew)) hi HUok.out hKK).mono ?_
          rintro e4 w5 ⟨A5, n5, c5, rfl, ho5, hb5⟩
          have B5 : Below w2.heap.size w2 w5 := ((Below.refl w2.heap.size w2).drew).trans hb5
          obtain ⟨cs5, hr5, hp5, hg5⟩ := msettle_grow HT2.out hi B5 (show Own w5 w2.heap.size 5 (.slice A5 n5 c5) n5 _ from ho5)
          have HR5 := Lib.hid hr5
          have HG5 := Lib.hid hg5
          clear ho5 hr5 hg5
          refine hK.out _ _ trivial (fun hHeld2 => ?_)
          clear hK
          (try simp only [Act.put, List.setIfInBounds_toArray, List.set_cons_zero, List.set_cons_succ])
          refine takeD (i := 5) (some 22) (.agg (filR A5 n5 c5 none 0 0)) rfl rfl (by kernel_rfl) (by kernel_rfl) (by kernel_rfl) (fun _ _ _ h => h) (yields_bFil (by rfl) (.tmp 21) rfl A5 n5 c5 rfl) hHeld2 ?_
          simp only [Act.put, List.setIfInBounds_toArray, List.set_cons_zero, List.set_cons_succ]
          refine takeD (i := 8) (some 25) (.pointer (some ⟨g, 2 * i, none⟩)) rfl rfl (by kernel_rfl) (by kernel_rfl) (by kernel_rfl) (fun _ _ _ h => h) (yields_indexM (by rfl) (.tmp 24) (.tmp 18) rfl g i rfl rfl hi) hHeld2 ?_
          simp only [Act.put, List.setIfInBounds_toArray, List.set_cons_zero, List.set_cons_succ]
          refine wpAnyH_ready (rs := [9]) (by kernel_rfl) (by decide) ?_
          refine AllReadyH.cons rfl (fun K' hK => ?_) AllReadyH.nil
          refine step_of rfl (wp_storeM (.tmp 25) (.tmp 22) rfl g (2 * i) n5 c5 0 0 A5 none cs5 rfl rfl HR5.out hp5 ?_)
          intro w6 hr6 ho6
          refine hK.out _ _ trivial (fun hHeld3 => ?_)
          clear hK
          refine wpAnyH_done (by kernel_rfl) ?_ _
          refine NoPanic.normal ?_
          exact ⟨rfl, A5, n5, c5, rfl, HG5.out w6 hr6 ho6⟩
        · rintro a' w6 ⟨A5, n5, c5, rfl, hg6⟩
          simp only [Act.put, List.setIfInBounds_toArray, List.set_cons_zero, List.set_cons_succ]
          have HG6 := Lib.hid hg6
          clear hg6
          go_wp2
          go_ret
          rw [HQ.out]
          exact ⟨rfl, GrowM.trans (fun _ _ q => .inl q) (HO2.out.mono (F' := Foot g F) (fun b (q : b = g) => .inl q)) HG6.out⟩
  · have HQ := Lib.hid (show S.syncT z = (S, 1) by unfold Tp.syncT; rw [if_neg hz])
    have HI := Lib.hid (fun w => is_no hz w)
    clear h hok hz
    generalize S.syncT z = R at *
    go_enter Try.func33, Try.ntmps33
    go_wp2_with (go_at_call 19; refine (HI.out _).mono ?_; rintro e1 w1 ⟨rfl, rfl⟩)
    go_ret
    rw [HQ.out]
    exact ⟨rfl, ⟨F, fun _ _ q => .inl q, HT.out⟩, Off.of_below (Below.refl _ _)⟩
end Go.Proofs.Ytpnllbadalcnaaa
