/-
  The document's Append and Cut, Sync.
-/
import Derived.Test.YtpnllbadalcnaaaRefD
namespace Go.Proofs.Ytpnllbadalcnaaa
open Go.RowKit
set_option maxRecDepth 100000 in
set_option maxHeartbeats 4000000 in
theorem MApp_any {S : Tp} (g K m c : Nat) (z : Int) (A : Option Addr) (l : List UInt8) (F : Nat → Nat → Prop) (w : World) (h : TapM w g F S) (hok : S.ok K) (hK : K + m ≤ 100000000) (hB : Bs w A m l) (hA : m ≠ 0 → ∀ b off, A = some ⟨b, off, none⟩ → ¬ Foot g F b) :
    Calls Try.prog 31 #[.pointer (some ⟨g, 0, none⟩), .int .i64 z, .slice A m c] w (DidM w g F (S.append z l)) := by
  have HT := Lib.hid h
  unfold DidM
  by_cases hz : isF z
  · obtain ⟨i, rfl, hi, hzi⟩ := isF_nat hz
    have HI := Lib.hid (fun w => is_yes hz w)
    have c13 := h.cell.2
    by_cases hd : S.down = true
    · have HQ := Lib.hid (show S.append (i : Int) l = (S, 100) by unfold Tp.append; rw [if_pos hz, if_pos hd])
      rw [hd] at c13
      clear h hok hB hA hz hzi hd
      generalize S.append (i : Int) l = R at *
      go_enter Try.func31, Try.ntmps31
      go_wp2_with (go_at_call 19; refine (HI.out _).mono ?_; rintro e1 w1 ⟨rfl, rfl⟩)
      go_ret
      rw [HQ.out]
      exact ⟨rfl, ⟨F, fun _ _ q => .inl q, HT.out⟩, Off.of_below (Below.refl _ _)⟩
    · have hd' : S.down = false := by simpa using hd
      rw [hd'] at c13
      obtain ⟨N, hN⟩ : ∃ N, (S.f i).now.length = N := ⟨_, rfl⟩
      have hNM : N ≤ 1048576 := by have := hok.now i; omega
      have hm : l.length = m := hB.1
      have HNw := Lib.hid ((Now_any g i K F w h hi hok (by omega)).mono (R' := fun e w' => ∃ A' c', e = .returned (.slice A' N c') ∧ Below w.heap.size w w') (by rintro e w' ⟨A', n', c', rfl, ho, hb⟩; have hl := ho.length; rw [hN] at hl; subst hl; exact ⟨A', c', rfl, hb⟩))
      have HWm := Lib.hid (show wrap64 (1048576 - (m : Int)) = 1048576 - (m : Int) by unfold wrap64; omega)
      by_cases hf : 1048576 < N + m
      · have HQ := Lib.hid (show S.append (i : Int) l = (S, 90) by unfold Tp.append Tp.now; rw [if_pos hz, if_neg hd, hzi, hN, hm, if_pos hf])
        have hf1 : (1048576 : Int) - (m : Int) < (N : Int) := by omega
        clear h hok hB hA hz hzi hd hd' hN hNM hm hf
        generalize S.append (i : Int) l = R at *
        have hw := HWm.out
        go_enter Try.func31, Try.ntmps31
        go_wp2_with (first
          | (go_at_call 19; refine (HI.out _).mono ?_; rintro e1 w1 ⟨rfl, rfl⟩)
          | (go_at_call 43; refine HNw.out.mono ?_; rintro e2 w2 ⟨A2, c2, rfl, hb2⟩))
        go_ret
        rw [HQ.out]
        exact ⟨rfl, ⟨F, fun _ _ q => .inl q, HT.out.below hb2⟩, Off.of_below hb2⟩
      · have HQ := Lib.hid (show S.append (i : Int) l = S.run i l by unfold Tp.append Tp.now; rw [if_pos hz, if_neg hd, hzi, hN, hm, if_neg hf])
        have hf1 : ¬ (1048576 : Int) - (m : Int) < (N : Int) := by omega
        have HB := Lib.hid hB
        have HA := Lib.hid hA
        have HOK := Lib.hid hok
        have HD0 := Lib.hid hd'
        have HN := Lib.hid hN
        have hNm : N + m ≤ 1048576 := by omega
        clear h hok hB hA hz hzi hd hd' hN hm hf
        have hw := HWm.out
        go_enter Try.func31, Try.ntmps31
        go_wp2_with (first
          | (go_at_call 19; refine (HI.out _).mono ?_; rintro e1 w1 ⟨rfl, rfl⟩)
          | (go_at_call 43; refine HNw.out.mono ?_; rintro e2 wn ⟨A2, c2, rfl, hbn⟩))
        clear c13 hw hf1
        go_loopw [7] (fun x wr => ∃ (k : Nat) (T : Tp) (F' : Nat → Nat → Prop), k ≤ m ∧ x = .int .i64 (k : Int) ∧ Hid (Within w F F') ∧ Hid (TapM wr g F' T) ∧ Hid (S.run i l = T.run i (l.drop k)) ∧ Hid (T.ok (K + k)) ∧ Hid ((T.f i).now.length = N + k) ∧ Hid (T.down = false) ∧ Off (Foot g F) w wr) (fun x _ => m - (intOf x).toNat)
        case atStart => exact ⟨0, S, F, Nat.zero_le _, rfl, Lib.hid (fun _ _ q => .inl q), Lib.hid (HT.out.below hbn), Lib.hid (by rw [List.drop_zero]), HOK, HN, HD0, Off.of_below hbn⟩
        case round =>
          obtain ⟨k, T, F', hk, rfl, HW, HTk, HRun, HOk, HLn, HDn, hoff⟩ := hrel
          by_cases hlt : k < m
          · obtain ⟨b, off, x, rfl, hbl, hx, hc⟩ := (HB.out.off (fun b off e => HA.out (by omega) b off e) hoff).get hlt
            have hbw : b < w.heap.size := by
              obtain ⟨b', off', x', e', hb', _⟩ := HB.out.get hlt
              injection e' with e'
              injection e' with e'
              omega
            have hbF : ¬ Foot g F' b := fun q => by
              rcases HW.out.foot b q with q | q
              · exact HA.out (by omega) b off rfl q
              · omega
            have HDr := Lib.hid (drop_cons hx)
            have hKk : K + k + 1 ≤ 100000000 := by omega
            have hkI : (k : Int) < (m : Int) := by omega
            clear hx
            cases hp : T.pow with
            | none =>
              have HE := Lib.hid (show T.run i (x :: l.drop (k + 1)) = (T.dead, 100) by rw [Tp.run, hp])
              have HP := Lib.hid hp
              clear hp
              go_wp2_with (go_at_call 44; refine (mpow_none g F' _ HTk.out HP.out HDn.out).mono ?_; rintro e2 w2 ⟨rfl, ht2, ho2⟩)
              go_ret
              rw [HQ.out, HRun.out, HDr.out, HE.out]
              exact ⟨rfl, GrowM.trans HW.out hoff (ht2.grew ho2)⟩
            | some U =>
              have HE := Lib.hid (show T.run i (x :: l.drop (k + 1)) = (U.add i (.app x)).run i (l.drop (k + 1)) by rw [Tp.run, hp])
              have HP := Lib.hid hp
              have HUf := Lib.hid (pow_f hp)
              have HUd := Lib.hid (show U.down = false by unfold Tp.pow at hp; split at hp; cases hp; injection hp with hp; rw [← hp])
              have HUok := Lib.hid (HOk.out.pow hp)
              have HUn := Lib.hid (show (U.f i).now.length = N + k by rw [HUf.out]; exact HLn.out)
              clear hp
              go_wp2_with (go_at_call 44; refine (mpow_some g F' _ HTk.out HP.out).mono ?_; rintro e2 w2 ⟨rfl, ht2, ho2⟩; have HT2 := Lib.hid ht2; have HO2 := Lib.hid ho2; clear ht2 ho2)
              obtain ⟨A1, n1, c1, A2, c2, hr2, _, hS2, _, hF2⟩ := HT2.out.file hi
              obtain ⟨n2, hn2e⟩ : ∃ n2, (U.f i).opn.length = n2 := ⟨_, rfl⟩
              rw [hn2e] at hr2 hS2 hF2
              have hn2 : n2 + 1 ≤ 1000000000 := by have := (HUok.out i).2; omega
              have HCo := Lib.hid (filR_cell hr2).2
              have HSt := Lib.hid hS2
              have HV := Lib.hid hS2.lt
              have HNb := Lib.hid (fun (q : OB (.slice A2 n2 c2) b) => hbF (.inr ⟨i, hF2 b q⟩))
              have hbg : g ≠ b := fun e => hbF (.inl e.symm)
              have hgl2 := HT2.out.glt
              have HcB := Lib.hid ((World.cell?_of_block (a := ⟨b, off + k, none⟩) (HO2.out.block b hbl (fun e => hbg e.symm))).trans hc)
              have hbl2 : b < w2.heap.size := Nat.lt_of_lt_of_le hbl HO2.out.size
              have hlt' := hlt
              clear hr2 hS2 hF2 hn2e hc
              refine cutR (fun a a' w' => ∃ (g4 : Nat) (A5 : Option Addr) (c5 : Nat), a' = ((((((((((((((((((((a.put (some 32) (.pointer (some ⟨g, 0, none⟩))).put (some 33) (.int .i64 (i : Int))).put (some 34) (.pointer (some ⟨g, 0, none⟩))).put (some 35) (.int .i64 (i : Int))).put (some 36) (.pointer (some ⟨g, 0, none⟩))).put (some 37) (.pointer (some ⟨g, 0, none⟩))).put (some 38) (.pointer (some ⟨g, 2 * i, none⟩))).put (some 39) (.pointer (some ⟨g, 2 * i + 1, none⟩))).put (some 40) (.slice A2 n2 c2)).put (some 41) (.slice (some ⟨b, off, none⟩) m c)).put (some 42) (.int .i64 (k : Int))).put (some 43) (.pointer (some ⟨b, off + k, none⟩))).put (some 44) (.int .u8 (x.toNat : Int))).put (some 45) (.agg (stpR (.app x)).toArray)).put (some 48) (.pointer (some ⟨g, 0, none⟩))).put (some 49) (.pointer (some ⟨g, 0, none⟩))).put (some 46) (.slice (some ⟨g4, 0, none⟩) 1 1)).put (some 47) (.slice A5 (n2 + 1) c5)).put (some 50) (.pointer (some ⟨g, 2 * i, none⟩))).put (some 51) (.pointer (some ⟨g, 2 * i + 1, none⟩))) ∧ GrowM w2 g F' (U.add i (.app x)) w') ?_ ?_
              · have B0 : Below w2.heap.size w2 w2.drew := (Below.refl w2.heap.size w2).drew
                refine wp_region_noPanic ?_
                refine wp_region_held_drew (S := fun w' => w'.cell? ⟨b, off + k, none⟩ = some (.int .u8 (x.toNat : Int))) (by kernel_rfl) HcB.out (fun hHeld => ?_)
                refine takeD (i := 0) (some 32) (.pointer (some ⟨g, 0, none⟩)) rfl rfl (by kernel_rfl) (by kernel_rfl) (by kernel_rfl) (fun _ _ _ h => h) (Or.inl ⟨by rfl, fun _ _ => rfl⟩) hHeld ?_
                simp only [Act.put, List.setIfInBounds_toArray, List.set_cons_zero, List.set_cons_succ]
                refine takeD (i := 1) (some 33) (.int .i64 (i : Int)) rfl rfl (by kernel_rfl) (by kernel_rfl) (by kernel_rfl) (fun _ _ _ h => h) (Or.inl ⟨by rfl, fun _ _ => rfl⟩) hHeld ?_
                simp only [Act.put, List.setIfInBounds_toArray, List.set_cons_zero, List.set_cons_succ]
                refine takeD (i := 2) (some 34) (.pointer (some ⟨g, 0, none⟩)) rfl rfl (by kernel_rfl) (by kernel_rfl) (by kernel_rfl) (fun _ _ _ h => h) (Or.inl ⟨by rfl, fun _ _ => rfl⟩) hHeld ?_
                simp only [Act.put, List.setIfInBounds_toArray, List.set_cons_zero, List.set_cons_succ]
                refine takeD (i := 3) (some 35) (.int .i64 (i : Int)) rfl rfl (by kernel_rfl) (by kernel_rfl) (by kernel_rfl) (fun _ _ _ h => h) (Or.inl ⟨by rfl, fun _ _ => rfl⟩) hHeld ?_
                simp only [Act.put, List.setIfInBounds_toArray, List.set_cons_zero, List.set_cons_succ]
                refine takeD (i := 4) (some 36) (.pointer (some ⟨g, 0, none⟩)) rfl rfl (by kernel_rfl) (by kernel_rfl) (by kernel_rfl) (fun _ _ _ h => h) (yields_nil (by rfl) (.tmp 34) rfl _ rfl) hHeld ?_
                simp only [Act.put, List.setIfInBounds_toArray, List.set_cons_zero, List.set_cons_succ]
                refine takeD (i := 5) (some 37) (.pointer (some ⟨g, 0, none⟩)) rfl rfl (by kernel_rfl) (by kernel_rfl) (by kernel_rfl) (fun _ _ _ h => h) (yields_fld66 (by rfl) 41 (.tmp 36) rfl (by decide) g rfl) hHeld ?_
                simp only [Act.put, List.setIfInBounds_toArray, List.set_cons_zero, List.set_cons_succ]
                refine takeD (i := 6) (some 38) (.pointer (some ⟨g, 2 * i, none⟩)) rfl rfl (by kernel_rfl) (by kernel_rfl) (by kernel_rfl) (fun _ _ _ h => h) (yields_indexM (by rfl) (.tmp 37) (.tmp 35) rfl g i rfl rfl hi) hHeld ?_
                simp only [Act.put, List.setIfInBounds_toArray, List.set_cons_zero, List.set_cons_succ]
                refine takeD (i := 7) (some 39) (.pointer (some ⟨g, 2 * i + 1, none⟩)) rfl rfl (by kernel_rfl) (by kernel_rfl) (by kernel_rfl) (fun _ _ _ h => h) (yields_fld38 (by rfl) (.tmp 38) 1 rfl (by decide) g (2 * i) _ rfl rfl) hHeld ?_
                simp only [Act.put, List.setIfInBounds_toArray, List.set_cons_zero, List.set_cons_succ]
                refine takeD (i := 9) (some 41) (.slice (some ⟨b, off, none⟩) m c) rfl rfl (by kernel_rfl) (by kernel_rfl) (by kernel_rfl) (fun _ _ _ h => h) (Or.inl ⟨by rfl, fun _ _ => rfl⟩) hHeld ?_
                simp only [Act.put, List.setIfInBounds_toArray, List.set_cons_zero, List.set_cons_succ]
                refine takeD (i := 10) (some 42) (.int .i64 (k : Int)) rfl rfl (by kernel_rfl) (by kernel_rfl) (by kernel_rfl) (fun _ _ _ h => h) (Or.inl ⟨by rfl, fun _ _ => rfl⟩) hHeld ?_
                simp only [Act.put, List.setIfInBounds_toArray, List.set_cons_zero, List.set_cons_succ]
                refine takeD (i := 11) (some 43) (.pointer (some ⟨b, off + k, none⟩)) rfl rfl (by kernel_rfl) (by kernel_rfl) (by kernel_rfl) (fun _ _ _ h => h) (yields_indexB (by rfl) (.tmp 41) (.tmp 42) rfl b off m c k rfl rfl hlt') hHeld ?_
                simp only [Act.put, List.setIfInBounds_toArray, List.set_cons_zero, List.set_cons_succ]
                refine takeD (i := 12) (some 44) (.int .u8 (x.toNat : Int)) rfl rfl (by kernel_rfl) (by kernel_rfl) (by kernel_rfl) (fun _ _ _ h => h) (yields_byte (by rfl) (.tmp 43) rfl b (off + k) _ rfl (fun _ h => h)) hHeld ?_
                simp only [Act.put, List.setIfInBounds_toArray, List.set_cons_zero, List.set_cons_succ]
                refine takeD (i := 13) (some 45) (.agg (stpR (.app x)).toArray) rfl rfl (by kernel_rfl) (by kernel_rfl) (by kernel_rfl) (fun _ _ _ h => h) (yields_bApp (by rfl) (.tmp 44) rfl x rfl) hHeld ?_
                simp only [Act.put, List.setIfInBounds_toArray, List.set_cons_zero, List.set_cons_succ]
                refine takeD (i := 16) (some 48) (.pointer (some ⟨g, 0, none⟩)) rfl rfl (by kernel_rfl) (by kernel_rfl) (by kernel_rfl) (fun _ _ _ h => h) (yields_nil (by rfl) (.tmp 32) rfl _ rfl) hHeld ?_
                simp only [Act.put, List.setIfInBounds_toArray, List.set_cons_zero, List.set_cons_succ]
                refine takeD (i := 17) (some 49) (.pointer (some ⟨g, 0, none⟩)) rfl rfl (by kernel_rfl) (by kernel_rfl) (by kernel_rfl) (fun _ _ _ h => h) (yields_fld66 (by rfl) 41 (.tmp 48) rfl (by decide) g rfl) hHeld ?_
                simp only [Act.put, List.setIfInBounds_toArray, List.set_cons_zero, List.set_cons_succ]
                refine wpAnyH_ready (rs := [8, 14]) (by kernel_rfl) (by decide) ?_
                refine AllReadyH.cons rfl (fun K' hK => ?_) (AllReadyH.cons rfl (fun K' hK => ?_) AllReadyH.nil)
                · skip
                  refine step_of rfl (wp_loadC 36 (.tmp 39) rfl (.inr (.inr rfl)) g (2 * i + 1) (.slice A2 n2 c2) rfl ((World.cell?_of_block (a := ⟨g, 2 * i + 1, none⟩) (B0.block g hgl2)).trans HCo.out) ?_)
                  refine hK.out _ _ ((World.cell?_of_block (a := ⟨b, off + k, none⟩) (B0.block b hbl2)).trans HcB.out) (fun hHeld1 => ?_)
                  clear hK
                  simp only [List.getElem_toArray, List.getElem_cons_succ, List.getElem_cons_zero, Act.put, List.setIfInBounds_toArray, List.set_cons_zero, List.set_cons_succ]
                  refine wpAnyH_ready (rs := [14]) (by kernel_rfl) (by decide) ?_
                  refine AllReadyH.cons rfl (fun K' hK => ?_) AllReadyH.nil
                  refine step_of rfl (Try.stR.wp_build (.tmp 45) rfl (.app x) rfl ?_)
                  intro g4 w4 hg4 hr4 hb4
                  have HX4 := Lib.hid (rangeAt_row hr4)
                  have B4 : Below w2.heap.size w2 w4 := B0.trans hb4
                  clear hg4 hr4 hb4
                  refine hK.out _ _ ((World.cell?_of_block (a := ⟨b, off + k, none⟩) (B4.block b hbl2)).trans HcB.out) (fun hHeld2 => ?_)
                  clear hK
                  simp only [List.getElem_toArray, List.getElem_cons_succ, List.getElem_cons_zero, Act.put, List.setIfInBounds_toArray, List.set_cons_zero, List.set_cons_succ]
                  refine wpAnyH_ready (rs := [15]) (by kernel_rfl) (by decide) ?_
                  refine AllReadyH.cons rfl (fun K' hK => ?_) AllReadyH.nil
                  refine step_of rfl (Try.stR.wp_app (.tmp 40) (.tmp 46) rfl (.slice A2 n2 c2) n2 (U.f i).opn rfl (HSt.out.keep (fun b q => B4.block b (HV.out b q).2)) (.app x) g4 0 1 rfl HX4.out hn2 ?_)
                  intro A5 c5 w5 h5 hg5 hf5
                  obtain ⟨cs5, hr5, hp5, hgr5⟩ := madd_grow HT2.out hi HCo.out B4 hg5 h5 hf5
                  have HR5 := Lib.hid hr5
                  have HG5 := Lib.hid hgr5
                  have HG := Lib.hid hg5
                  clear h5 hg5 hf5 hr5 hgr5
                  refine hK.out _ _ ((World.cell?_of_block (a := ⟨b, off + k, none⟩) (HG.out.block b (Nat.lt_of_lt_of_le hbl2 B4.size) (fun e => HNb.out e.symm))).trans ((World.cell?_of_block (a := ⟨b, off + k, none⟩) (B4.block b hbl2)).trans HcB.out)) (fun hHeld3 => ?_)
                  clear hK
                  simp only [List.getElem_toArray, List.getElem_cons_succ, List.getElem_cons_zero, Act.put, List.setIfInBounds_toArray, List.set_cons_zero, List.set_cons_succ]
                  refine takeD (i := 18) (some 50) (.pointer (some ⟨g, 2 * i, none⟩)) rfl rfl (by kernel_rfl) (by kernel_rfl) (by kernel_rfl) (fun _ _ _ h => h) (yields_indexM (by rfl) (.tmp 49) (.tmp 33) rfl g i rfl rfl hi) hHeld3 ?_
                  simp only [Act.put, List.setIfInBounds_toArray, List.set_cons_zero, List.set_cons_succ]
                  refine takeD (i := 19) (some 51) (.pointer (some ⟨g, 2 * i + 1, none⟩)) rfl rfl (by kernel_rfl) (by kernel_rfl) (by kernel_rfl) (fun _ _ _ h => h) (yields_fld38 (by rfl) (.tmp 50) 1 rfl (by decide) g (2 * i) _ rfl rfl) hHeld3 ?_
                  simp only [Act.put, List.setIfInBounds_toArray, List.set_cons_zero, List.set_cons_succ]
                  refine wpAnyH_ready (rs := [20]) (by kernel_rfl) (by decide) ?_
                  refine AllReadyH.cons rfl (fun K' hK => ?_) AllReadyH.nil
                  refine step_of rfl (wp_storeC 36 (.tmp 51) (.tmp 47) rfl (.inr (.inr rfl)) g (2 * i + 1) A5 (n2 + 1) c5 41 _ rfl rfl HR5.out hp5 ?_)
                  refine hK.out _ _ ((World.cell?_of_block (a := ⟨b, off + k, none⟩) (Below.heap_setCell _ _ _ _ (fun e => hbg e.symm))).trans ((World.cell?_of_block (a := ⟨b, off + k, none⟩) (HG.out.block b (Nat.lt_of_lt_of_le hbl2 B4.size) (fun e => HNb.out e.symm))).trans ((World.cell?_of_block (a := ⟨b, off + k, none⟩) (B4.block b hbl2)).trans HcB.out))) (fun hHeld4 => ?_)
                  clear hK
                  refine wpAnyH_done (by kernel_rfl) ?_ _
                  refine NoPanic.normal ?_
                  exact ⟨rfl, g4, A5, c5, rfl, HG5.out⟩
                · skip
                  refine step_of rfl (Try.stR.wp_build (.tmp 45) rfl (.app x) rfl ?_)
                  intro g4 w4 hg4 hr4 hb4
                  have HX4 := Lib.hid (rangeAt_row hr4)
                  have B4 : Below w2.heap.size w2 w4 := B0.trans hb4
                  clear hg4 hr4 hb4
                  refine hK.out _ _ ((World.cell?_of_block (a := ⟨b, off + k, none⟩) (B4.block b hbl2)).trans HcB.out) (fun hHeld5 => ?_)
                  clear hK
                  simp only [List.getElem_toArray, List.getElem_cons_succ, List.getElem_cons_zero, Act.put, List.setIfInBounds_toArray, List.set_cons_zero, List.set_cons_succ]
                  refine wpAnyH_ready (rs := [8]) (by kernel_rfl) (by decide) ?_
                  refine AllReadyH.cons rfl (fun K' hK => ?_) AllReadyH.nil
                  refine step_of rfl (wp_loadC 36 (.tmp 39) rfl (.inr (.inr rfl)) g (2 * i + 1) (.slice A2 n2 c2) rfl ((World.cell?_of_block (a := ⟨g, 2 * i + 1, none⟩) (B4.block g hgl2)).trans HCo.out) ?_)
                  refine hK.out _ _ ((World.cell?_of_block (a := ⟨b, off + k, none⟩) (B4.block b hbl2)).trans HcB.out) (fun hHeld6 => ?_)
                  clear hK
                  simp only [List.getElem_toArray, List.getElem_cons_succ, List.getElem_cons_zero, Act.put, List.setIfInBounds_toArray, List.set_cons_zero, List.set_cons_succ]
                  refine wpAnyH_ready (rs := [15]) (by kernel_rfl) (by decide) ?_
                  refine AllReadyH.cons rfl (fun K' hK => ?_) AllReadyH.nil
                  refine step_of rfl (Try.stR.wp_app (.tmp 40) (.tmp 46) rfl (.slice A2 n2 c2) n2 (U.f i).opn rfl (HSt.out.keep (fun b q => B4.block b (HV.out b q).2)) (.app x) g4 0 1 rfl HX4.out hn2 ?_)
                  intro A5 c5 w5 h5 hg5 hf5
                  obtain ⟨cs5, hr5, hp5, hgr5⟩ := madd_grow HT2.out hi HCo.out B4 hg5 h5 hf5
                  have HR5 := Lib.hid hr5
                  have HG5 := Lib.hid hgr5
                  have HG := Lib.hid hg5
                  clear h5 hg5 hf5 hr5 hgr5
                  refine hK.out _ _ ((World.cell?_of_block (a := ⟨b, off + k, none⟩) (HG.out.block b (Nat.lt_of_lt_of_le hbl2 B4.size) (fun e => HNb.out e.symm))).trans ((World.cell?_of_block (a := ⟨b, off + k, none⟩) (B4.block b hbl2)).trans HcB.out)) (fun hHeld7 => ?_)
                  clear hK
                  simp only [List.getElem_toArray, List.getElem_cons_succ, List.getElem_cons_zero, Act.put, List.setIfInBounds_toArray, List.set_cons_zero, List.set_cons_succ]
                  refine takeD (i := 18) (some 50) (.pointer (some ⟨g, 2 * i, none⟩)) rfl rfl (by kernel_rfl) (by kernel_rfl) (by kernel_rfl) (fun _ _ _ h => h) (yields_indexM (by rfl) (.tmp 49) (.tmp 33) rfl g i rfl rfl hi) hHeld7 ?_
                  simp only [Act.put, List.setIfInBounds_toArray, List.set_cons_zero, List.set_cons_succ]
                  refine takeD (i := 19) (some 51) (.pointer (some ⟨g, 2 * i + 1, none⟩)) rfl rfl (by kernel_rfl) (by kernel_rfl) (by kernel_rfl) (fun _ _ _ h => h) (yields_fld38 (by rfl) (.tmp 50) 1 rfl (by decide) g (2 * i) _ rfl rfl) hHeld7 ?_
                  simp only [Act.put, List.setIfInBounds_toArray, List.set_cons_zero, List.set_cons_succ]
                  refine wpAnyH_ready (rs := [20]) (by kernel_rfl) (by decide) ?_
                  refine AllReadyH.cons rfl (fun K' hK => ?_) AllReadyH.nil
                  refine step_of rfl (wp_storeC 36 (.tmp 51) (.tmp 47) rfl (.inr (.inr rfl)) g (2 * i + 1) A5 (n2 + 1) c5 41 _ rfl rfl HR5.out hp5 ?_)
                  refine hK.out _ _ ((World.cell?_of_block (a := ⟨b, off + k, none⟩) (Below.heap_setCell _ _ _ _ (fun e => hbg e.symm))).trans ((World.cell?_of_block (a := ⟨b, off + k, none⟩) (HG.out.block b (Nat.lt_of_lt_of_le hbl2 B4.size) (fun e => HNb.out e.symm))).trans ((World.cell?_of_block (a := ⟨b, off + k, none⟩) (B4.block b hbl2)).trans HcB.out))) (fun hHeld8 => ?_)
                  clear hK
                  refine wpAnyH_done (by kernel_rfl) ?_ _
                  refine NoPanic.normal ?_
                  exact ⟨rfl, g4, A5, c5, rfl, HG5.out⟩
              · rintro a' w6 ⟨g4, A5, c5, rfl, hg6⟩
                simp only [Act.put, List.setIfInBounds_toArray, List.set_cons_zero, List.set_cons_succ]
                have HG6 := Lib.hid hg6
                clear hg6
                go_wp2
                go_roundw
                case rel =>
                  obtain ⟨⟨F3, hw3, ht3⟩, ho3⟩ := GrowM.trans (w := wr) (F := F') (fun _ _ q => .inl q) (HO2.out.mono (fun b (q : b = g) => .inl q)) HG6.out
                  refine ⟨k + 1, U.add i (.app x), F3, by omega, by go_num, Lib.hid (HW.out.trans hw3 hoff.size), Lib.hid ht3, Lib.hid (by rw [HRun.out, HDr.out, HE.out]), Lib.hid ?_, Lib.hid ?_, HUd, hoff.trans ho3 HW.out.foot⟩
                  · exact HUok.out.addA (by rw [HUn.out]; omega)
                  · rw [add_now]; simp [pstep]; have := HUn.out; omega
                case measure => simp [intOf]; omega
          · obtain rfl : k = m := by omega
            have HE := Lib.hid (show l.drop k = [] from List.drop_eq_nil_of_le (by rw [HB.out.1]; exact Nat.le_refl _))
            go_wp2
            go_ret
            rw [HQ.out, HRun.out, HE.out]
            exact ⟨rfl, ⟨F', HW.out, HTk.out⟩, hoff⟩
  · have HQ := Lib.hid (show S.append z l = (S, 1) by unfold Tp.append; rw [if_neg hz])
    have HI := Lib.hid (fun w => is_no hz w)
    clear h hok hB hA hz
    generalize S.append z l = R at *
    go_enter Try.func31, Try.ntmps31
    go_wp2_with (go_at_call 19; refine (HI.out _).mono ?_; rintro e1 w1 ⟨rfl, rfl⟩)
    go_ret
    rw [HQ.out]
    exact ⟨rfl, ⟨F, fun _ _ q => .inl q, HT.out⟩, Off.of_below (Below.refl _ _)⟩
end Go.Proofs.Ytpnllbadalcnaaa
