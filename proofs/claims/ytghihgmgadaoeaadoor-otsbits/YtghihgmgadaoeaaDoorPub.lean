/-
  What ots.Public and the document's own Public answer: the public part, or the error.
-/
import Derived.Test.YtghihgmgadaoeaaDoorSmall
namespace Go.Proofs.YtghihgmgadaoeaaDoor
open Go.RowKit
theorem made_zeroD (n : Nat) : madeCells (Value.agg (bcells zero32)).cells n = bcells (List.replicate n 0) := by
  apply Array.ext_getElem?
  intro j
  rw [bcells_get?]
  by_cases h : j < n
  · rw [List.getElem?_replicate, if_pos h]
    have hm : j % 32 < 32 := Nat.mod_lt _ (by omega)
    have e : ((bcells zero32)[j % 32]! : Value) = bcell 0 := by
      rw [getElem!_def, bcells_get?]
      unfold zero32
      rw [List.getElem?_replicate, if_pos hm]; rfl
    have hz : (Value.agg (bcells zero32)).cells = bcells zero32 := rfl
    have hs : (bcells zero32).size = 32 := by rw [bcells_size]; rfl
    rw [hz, madeCells, Array.getElem?_map, Array.getElem?_range, if_pos h, Option.map_some, hs, e]
    rfl
  · rw [List.getElem?_eq_none (by simp; omega), Array.getElem?_eq_none (by rw [size_madeCells]; omega)]; rfl
/-- make([]Digest, n, c) -/
theorem run_madeD (n c : Nat) (L C : Int) (hL : L = n) (hC : C = c) (hnc : n ≤ c) (hc : c ≤ 65536) (w : World) :
    (Instr.makeSlice 24 (.int .i64 L) (.int .i64 C)).run Tryd.prog w = .ok (.slice (some ⟨w.heap.size, 0, none⟩) n c) (w.alloc (.cells (bcells (List.replicate (c * 32) 0)) 23)) := by
  obtain ⟨i, hi, hz, hsize, hby⟩ := info_parts Tryd.infoD
  have hr := run_make (P := Tryd.prog) w 24 23 i (.agg (bcells zero32)) Tryd.under24 hi hz .i64 .i64 L C (by omega) (by omega) (by rw [hby]; omega) (by omega)
  rw [hr, hsize, hL, hC]
  simp only [Int.toNat_natCast]
  rw [← made_zeroD]
set_option maxHeartbeats 400000 in
theorem Public_no (s : List UInt8) (n : Int) (w : World) (h : n < 1 ∨ 256 < n) : Calls Tryd.prog 10 #[.agg (bcells s), .int .i64 n] w (NewD w [] 1) := by
  have HM := Lib.hid (fun w => mayBe_no n w h)
  clear h
  go_enter Tryd.func10, Tryd.ntmps10
  go_wp2_with (go_at_call 25; refine (HM.out _).mono ?_; rintro e1 w1 ⟨rfl, rfl⟩)
  go_ret2
  exact ⟨none, 0, rfl, Nat.le_refl _, Ds.nil _ _, (Below.refl _ _).alloc (Nat.le_refl _) _⟩
set_option maxHeartbeats 400000 in
theorem RefPublic_no (s : List UInt8) (n : Int) (w : World) (h : n < 1 ∨ 256 < n) : Calls Tryd.prog 11 #[.agg (bcells s), .int .i64 n] w (NewD w [] 1) := by
  have HM := Lib.hid (fun w => Right_no n w h)
  clear h
  go_enter Tryd.func11, Tryd.ntmps11
  go_wp2_with (go_at_call 20; refine (HM.out _).mono ?_; rintro e1 w1 ⟨rfl, rfl⟩)
  go_ret2
  exact ⟨none, 0, rfl, Nat.le_refl _, Ds.nil _ _, (Below.refl _ _).alloc (Nat.le_refl _) _⟩
set_option maxRecDepth 100000 in
set_option maxHeartbeats 2000000 in
theorem Public_ok (s : List UInt8) (n : Nat) (w : World) (hs : s.length = 32) (h1 : 1 ≤ n) (h2 : n ≤ 256) (hT : Tab 2 w) : Calls Tryd.prog 10 #[.agg (bcells s), .int .i64 (n : Int)] w (NewD w (pubN s n) 0) := by
  have HMB := Lib.hid (fun w => mayBe_yes (n : Int) w (by omega) (by omega))
  have hmk := run_madeD 0 (2 * n) 0 (2 * (n : Int)) rfl (by omega) (by omega) (by omega)
  have HT := Lib.hid hT
  have hT2 := hT.1
  have rl : (s.map bcell).length = 32 := by rw [List.length_map, hs]
  have rz : (Tryd.prog.info? 23).map (·.size) = some (s.map bcell).length := by rw [rl]; exact Tryd.sizeD
  have ru := Tryd.under23
  have HS := Lib.hid hs
  clear hT hs rl
  go_enter Tryd.func10, Tryd.ntmps10
  go_wp2_with (go_at_call 25; refine (HMB.out _).mono ?_; rintro e1 w1 ⟨rfl, rfl⟩)
  go_loopw [6, 15] (fun p i wr => ∃ (m : Nat) (A1 : Option Addr) (c1 : Nat), m ≤ n ∧ i = .int .i64 (m : Int) ∧ p = .slice A1 (2 * m) c1 ∧ Below w.heap.size w wr ∧ Row wr w.heap.size 23 (bcells s) ∧ OwnD wr (w.heap.size + 1) (.slice A1 (2 * m) c1) (2 * m) (pubN s m)) (fun _ i _ => n - (intOf i).toNat)
  case atStart => exact ⟨0, _, 2 * n, Nat.zero_le _, rfl, rfl, ((Below.refl _ _).alloc (Nat.le_refl _) _).alloc (by simp) _, (Row.new _ _ _).alloc _, by have h := OwnD.made (w.alloc (.cells (bcells s) 23)) (w.heap.size + 1) (2 * n) (bcells (List.replicate (2 * n * 32) 0)) (by simp) (by omega) (by rw [bcells_size, List.length_replicate]); simp at h; exact h⟩
  case round =>
    obtain ⟨m, A1, c1, hm, rfl, rfl, hbel, hrow, hown⟩ := hrel
    have hbs := hbel.size
    have hlts := hrow.lt
    have HRS := Lib.hid hrow
    have HO := Lib.hid hown
    clear hrow hown
    by_cases hlt : m < n
    · have him : (m : Int) < (n : Int) := by omega
      have HP := Lib.hid (show pubN s (m + 1) = pubN s m ++ [hidL s m 0, hidL s m 1] from rfl)
      have HD0 := Lib.hid (hidL_length s m 0)
      have HD1 := Lib.hid (hidL_length s m 1)
      have HH0 := Lib.hid (fun w hT => hidden_any s m 0 (m : Int) 0 w HS.out rfl rfl (by omega) (by omega) hT)
      have HH1 := Lib.hid (fun w hT => hidden_any s m 1 (m : Int) 1 w HS.out rfl rfl (by omega) (by omega) hT)
      have HTr := Lib.hid (HT.out.below hbel)
      generalize hidL s m 0 = D0 at *
      generalize hidL s m 1 = D1 at *
      go_wp2_with fail
      have K0 := Lib.hid (show wr.drew.rangeAt w.heap.size 0 (s.map bcell) by exact range_row (HRS.out.below ((Below.refl _ _).drew) hlts))
      refine wp_region_noPanic ?_
      refine wp_region_held_drew (S := fun w' => w'.rangeAt w.heap.size 0 (s.map bcell)) (by kernel_rfl) K0.out (fun hHeld => ?_)
      refine takeD (i := 0) (some 18) (.slice A1 (2 * m) c1) rfl rfl (by kernel_rfl) (by kernel_rfl) (by kernel_rfl) (fun _ _ _ h => h) (Or.inl ⟨by rfl, fun _ _ => rfl⟩) hHeld ?_
      simp only [Act.put, List.setIfInBounds_toArray, List.set_cons_zero, List.set_cons_succ]
      refine takeD (i := 1) (some 19) (.agg (s.map bcell).toArray) rfl rfl (by kernel_rfl) (by kernel_rfl) (by kernel_rfl) (fun _ _ _ h => h) (yieldsIf_load_mid (by rfl) _ _ rfl _ _ rfl _ _ (fun _ h => h) ru rfl rz) hHeld ?_
      simp only [Act.put, List.setIfInBounds_toArray, List.set_cons_zero, List.set_cons_succ]
      refine takeD (i := 2) (some 20) (.int .i64 (m : Int)) rfl rfl (by kernel_rfl) (by kernel_rfl) (by kernel_rfl) (fun _ _ _ h => h) (Or.inl ⟨by rfl, fun _ _ => rfl⟩) hHeld ?_
      simp only [Act.put, List.setIfInBounds_toArray, List.set_cons_zero, List.set_cons_succ]
      refine takeD (i := 4) (some 22) (.agg (s.map bcell).toArray) rfl rfl (by kernel_rfl) (by kernel_rfl) (by kernel_rfl) (fun _ _ _ h => h) (yieldsIf_load_mid (by rfl) _ _ rfl _ _ rfl _ _ (fun _ h => h) ru rfl rz) hHeld ?_
      simp only [Act.put, List.setIfInBounds_toArray, List.set_cons_zero, List.set_cons_succ]
      refine takeD (i := 5) (some 23) (.int .i64 (m : Int)) rfl rfl (by kernel_rfl) (by kernel_rfl) (by kernel_rfl) (fun _ _ _ h => h) (Or.inl ⟨by rfl, fun _ _ => rfl⟩) hHeld ?_
      simp only [Act.put, List.setIfInBounds_toArray, List.set_cons_zero, List.set_cons_succ]
      have B0 : Below wr.heap.size wr wr.drew := (Below.refl wr.heap.size wr).drew
      refine wpAnyH_ready (rs := [3]) (by kernel_rfl) (by decide) ?_
      refine AllReadyH.cons rfl (fun K' hK => ?_) AllReadyH.nil
      go_simp
      refine (HH0.out wr.drew (HTr.out.below B0)).mono ?_
      rintro e3 w3 ⟨rfl, hb3⟩
      have B3 : Below wr.heap.size wr w3 := B0.trans (hb3.mono B0.size)
      refine hK.out _ _ (range_row (HRS.out.below B3 hlts)) (fun hHeld3 => ?_)
      clear hK
      refine wpAnyH_ready (rs := [6]) (by kernel_rfl) (by decide) ?_
      refine AllReadyH.cons rfl (fun K' hK => ?_) AllReadyH.nil
      go_simp
      refine (HH1.out w3 (HTr.out.below B3)).mono ?_
      rintro e4 w4 ⟨rfl, hb4⟩
      have B4 : Below wr.heap.size wr w4 := B3.trans (hb4.mono B3.size)
      refine hK.out _ _ (range_row (HRS.out.below B4 hlts)) (fun hHeld4 => ?_)
      clear hK
      refine wpAnyH_ready (rs := [7]) (by kernel_rfl) (by decide) ?_
      refine AllReadyH.cons rfl (fun K' hK => ?_) AllReadyH.nil
      refine step_of rfl (wp_buildD (.tmp 21) (.tmp 24) rfl D0 D1 rfl rfl HD0.out HD1.out ?_)
      have B5 : Below wr.heap.size wr (w4.alloc (.cells (bcells (D0 ++ D1)) 23)) := B4.alloc B4.size _
      refine hK.out _ _ (range_row (HRS.out.below B5 hlts)) (fun hHeld5 => ?_)
      clear hK
      refine wpAnyH_ready (rs := [8]) (by kernel_rfl) (by decide) ?_
      refine AllReadyH.cons rfl (fun K' hK => ?_) AllReadyH.nil
      refine step_of rfl (wp_appD (.tmp 18) (.tmp 25) rfl (w.heap.size + 1) _ (2 * m) (pubN s m) rfl (HO.out.below B5) _ 2 2 [D0, D1] rfl (two_ds w4 D0 D1 HD0.out HD1.out) (by omega) (by have := B5.size; omega) ?_)
      intro A6 c6 w6 ho6 hb6
      have HO6 := Lib.hid ho6
      have HR6 := Lib.hid ((HRS.out.below B5 hlts).below hb6 (by omega))
      have B6 : Below w.heap.size w w6 := (hbel.trans (B5.mono hbs)).trans (hb6.mono (by omega))
      clear ho6
      refine hK.out _ _ (range_row HR6.out) (fun hHeld6 => ?_)
      clear hK
      refine wpAnyH_ready (rs := [9]) (by kernel_rfl) (by decide) ?_
      refine AllReadyH.cons rfl (fun K' hK => ?_) AllReadyH.nil
      go_simp
      refine hK.out _ _ (range_row HR6.out) (fun hHeld7 => ?_)
      clear hK
      (try simp only [Act.put, List.setIfInBounds_toArray])
      refine wpAnyH_done (by kernel_rfl) ?_ _
      refine NoPanic.normal ?_
      go_wp2_with fail
      refine ⟨⟨m + 1, A6, c6, by omega, by go_num, rfl, B6, HR6.out, ?_⟩, by simp [intOf]; omega⟩
      rw [HP.out]
      exact HO6.out
    · obtain rfl : n = m := by omega
      go_wp2_with fail
      go_ret2
      exact (HO.out.mono (by omega)).new hbel
set_option maxRecDepth 100000 in
set_option maxHeartbeats 2000000 in
theorem RefPublic_ok (s : List UInt8) (n : Nat) (w : World) (hs : s.length = 32) (h1 : 1 ≤ n) (h2 : n ≤ 256) (hF : First w) (hT : Tab 1 w) : Calls Tryd.prog 11 #[.agg (bcells s), .int .i64 (n : Int)] w (NewD w (pubN s n) 0) := by
  have HMB := Lib.hid (fun w => Right_yes (n : Int) w (by omega) (by omega))
  have HT := Lib.hid hT
  have HF := Lib.hid hF
  have hT2 := hT.1
  have rl : (s.map bcell).length = 32 := by rw [List.length_map, hs]
  have rz : (Tryd.prog.info? 23).map (·.size) = some (s.map bcell).length := by rw [rl]; exact Tryd.sizeD
  have ru := Tryd.under23
  have HS := Lib.hid hs
  clear hT hF hs rl
  go_enter Tryd.func11, Tryd.ntmps11
  go_wp2_with (go_at_call 20; refine (HMB.out _).mono ?_; rintro e1 w1 ⟨rfl, rfl⟩)
  go_loopw [6, 7] (fun p i wr => ∃ (m : Nat) (A1 : Option Addr) (c1 : Nat), m ≤ n ∧ i = .int .i64 (m : Int) ∧ p = .slice A1 (2 * m) c1 ∧ Below w.heap.size w wr ∧ Row wr w.heap.size 23 (bcells s) ∧ OwnD wr (w.heap.size + 1) (.slice A1 (2 * m) c1) (2 * m) (pubN s m)) (fun _ i _ => n - (intOf i).toNat)
  case atStart => exact ⟨0, none, 0, Nat.zero_le _, rfl, rfl, (Below.refl _ _).alloc (Nat.le_refl _) _, Row.new _ _ _, OwnD.nil _ _⟩
  case round =>
    obtain ⟨m, A1, c1, hm, rfl, rfl, hbel, hrow, hown⟩ := hrel
    have hbs := hbel.size
    have hlts := hrow.lt
    have HRS := Lib.hid hrow
    have HO := Lib.hid hown
    clear hrow hown
    by_cases hlt : m < n
    · have him : (m : Int) < (n : Int) := by omega
      have HP := Lib.hid (show pubN s (m + 1) = pubN s m ++ [hidL s m 0, hidL s m 1] from rfl)
      have HS0 := Lib.hid (secL_length s m 0)
      have HS1 := Lib.hid (secL_length s m 1)
      have HD0 := Lib.hid (hidL_length s m 0)
      have HD1 := Lib.hid (hidL_length s m 1)
      have HH0 := Lib.hid (fun w hF hT => RefSecret_any s m 0 (m : Int) 0 w HS.out rfl rfl (by omega) (by omega) hF hT)
      have HH1 := Lib.hid (fun w hF hT => RefSecret_any s m 1 (m : Int) 1 w HS.out rfl rfl (by omega) (by omega) hF hT)
      have HG0 := Lib.hid (fun w hF hT => show Calls Tryd.prog 27 #[.agg (bcells (secL s m 0))] w fun e w' => e = .returned (.agg (bcells (hidL s m 0))) ∧ Below w.heap.size w w' from RefDSum_any (secL s m 0) w (secL_length s m 0) hF hT)
      have HG1 := Lib.hid (fun w hF hT => show Calls Tryd.prog 27 #[.agg (bcells (secL s m 1))] w fun e w' => e = .returned (.agg (bcells (hidL s m 1))) ∧ Below w.heap.size w w' from RefDSum_any (secL s m 1) w (secL_length s m 1) hF hT)
      have HTr := Lib.hid (HT.out.below hbel)
      have HFr := Lib.hid (HF.out.below hbel)
      generalize hidL s m 0 = D0 at *
      generalize hidL s m 1 = D1 at *
      generalize secL s m 0 = S0 at *
      generalize secL s m 1 = S1 at *
      go_wp2_with fail
      have K0 := Lib.hid (show wr.drew.rangeAt w.heap.size 0 (s.map bcell) by exact range_row (HRS.out.below ((Below.refl _ _).drew) hlts))
      refine wp_region_noPanic ?_
      refine wp_region_held_drew (S := fun w' => w'.rangeAt w.heap.size 0 (s.map bcell)) (by kernel_rfl) K0.out (fun hHeld => ?_)
      refine takeD (i := 0) (some 16) (.slice A1 (2 * m) c1) rfl rfl (by kernel_rfl) (by kernel_rfl) (by kernel_rfl) (fun _ _ _ h => h) (Or.inl ⟨by rfl, fun _ _ => rfl⟩) hHeld ?_
      simp only [Act.put, List.setIfInBounds_toArray, List.set_cons_zero, List.set_cons_succ]
      refine takeD (i := 1) (some 17) (.agg (s.map bcell).toArray) rfl rfl (by kernel_rfl) (by kernel_rfl) (by kernel_rfl) (fun _ _ _ h => h) (yieldsIf_load_mid (by rfl) _ _ rfl _ _ rfl _ _ (fun _ h => h) ru rfl rz) hHeld ?_
      simp only [Act.put, List.setIfInBounds_toArray, List.set_cons_zero, List.set_cons_succ]
      refine takeD (i := 2) (some 18) (.int .i64 (m : Int)) rfl rfl (by kernel_rfl) (by kernel_rfl) (by kernel_rfl) (fun _ _ _ h => h) (Or.inl ⟨by rfl, fun _ _ => rfl⟩) hHeld ?_
      simp only [Act.put, List.setIfInBounds_toArray, List.set_cons_zero, List.set_cons_succ]
      refine takeD (i := 5) (some 21) (.agg (s.map bcell).toArray) rfl rfl (by kernel_rfl) (by kernel_rfl) (by kernel_rfl) (fun _ _ _ h => h) (yieldsIf_load_mid (by rfl) _ _ rfl _ _ rfl _ _ (fun _ h => h) ru rfl rz) hHeld ?_
      simp only [Act.put, List.setIfInBounds_toArray, List.set_cons_zero, List.set_cons_succ]
      refine takeD (i := 6) (some 22) (.int .i64 (m : Int)) rfl rfl (by kernel_rfl) (by kernel_rfl) (by kernel_rfl) (fun _ _ _ h => h) (Or.inl ⟨by rfl, fun _ _ => rfl⟩) hHeld ?_
      simp only [Act.put, List.setIfInBounds_toArray, List.set_cons_zero, List.set_cons_succ]
      have B0 : Below wr.heap.size wr wr.drew := (Below.refl wr.heap.size wr).drew
      refine wpAnyH_ready (rs := [3]) (by kernel_rfl) (by decide) ?_
      refine AllReadyH.cons rfl (fun K' hK => ?_) AllReadyH.nil
      go_simp
      refine (HH0.out wr.drew (HFr.out.below B0) (HTr.out.below B0)).mono ?_
      rintro e3 w1 ⟨rfl, hb1⟩
      have B1 : Below wr.heap.size wr w1 := B0.trans (hb1.mono B0.size)
      refine hK.out _ _ (range_row (HRS.out.below B1 hlts)) (fun hHeld1 => ?_)
      clear hK
      refine wpAnyH_ready (rs := [4]) (by kernel_rfl) (by decide) ?_
      refine AllReadyH.cons rfl (fun K' hK => ?_) AllReadyH.nil
      go_simp
      refine (HG0.out w1 (HFr.out.below B1) (HTr.out.below B1)).mono ?_
      rintro e3 w2 ⟨rfl, hb2⟩
      have B2 : Below wr.heap.size wr w2 := B1.trans (hb2.mono B1.size)
      refine hK.out _ _ (range_row (HRS.out.below B2 hlts)) (fun hHeld2 => ?_)
      clear hK
      refine wpAnyH_ready (rs := [7]) (by kernel_rfl) (by decide) ?_
      refine AllReadyH.cons rfl (fun K' hK => ?_) AllReadyH.nil
      go_simp
      refine (HH1.out w2 (HFr.out.below B2) (HTr.out.below B2)).mono ?_
      rintro e3 w3 ⟨rfl, hb3⟩
      have B3 : Below wr.heap.size wr w3 := B2.trans (hb3.mono B2.size)
      refine hK.out _ _ (range_row (HRS.out.below B3 hlts)) (fun hHeld3 => ?_)
      clear hK
      refine wpAnyH_ready (rs := [8]) (by kernel_rfl) (by decide) ?_
      refine AllReadyH.cons rfl (fun K' hK => ?_) AllReadyH.nil
      go_simp
      refine (HG1.out w3 (HFr.out.below B3) (HTr.out.below B3)).mono ?_
      rintro e4 w4 ⟨rfl, hb4⟩
      have B4 : Below wr.heap.size wr w4 := B3.trans (hb4.mono B3.size)
      refine hK.out _ _ (range_row (HRS.out.below B4 hlts)) (fun hHeld4 => ?_)
      clear hK
      refine wpAnyH_ready (rs := [9]) (by kernel_rfl) (by decide) ?_
      refine AllReadyH.cons rfl (fun K' hK => ?_) AllReadyH.nil
      refine step_of rfl (wp_buildD (.tmp 20) (.tmp 24) rfl D0 D1 rfl rfl HD0.out HD1.out ?_)
      have B5 : Below wr.heap.size wr (w4.alloc (.cells (bcells (D0 ++ D1)) 23)) := B4.alloc B4.size _
      refine hK.out _ _ (range_row (HRS.out.below B5 hlts)) (fun hHeld5 => ?_)
      clear hK
      refine wpAnyH_ready (rs := [10]) (by kernel_rfl) (by decide) ?_
      refine AllReadyH.cons rfl (fun K' hK => ?_) AllReadyH.nil
      refine step_of rfl (wp_appD (.tmp 16) (.tmp 25) rfl (w.heap.size + 1) _ (2 * m) (pubN s m) rfl (HO.out.below B5) _ 2 2 [D0, D1] rfl (two_ds w4 D0 D1 HD0.out HD1.out) (by omega) (by have := B5.size; omega) ?_)
      intro A6 c6 w6 ho6 hb6
      have HO6 := Lib.hid ho6
      have HR6 := Lib.hid ((HRS.out.below B5 hlts).below hb6 (by omega))
      have B6 : Below w.heap.size w w6 := (hbel.trans (B5.mono hbs)).trans (hb6.mono (by omega))
      clear ho6
      refine hK.out _ _ (range_row HR6.out) (fun hHeld6 => ?_)
      clear hK
      refine wpAnyH_ready (rs := [11]) (by kernel_rfl) (by decide) ?_
      refine AllReadyH.cons rfl (fun K' hK => ?_) AllReadyH.nil
      go_simp
      refine hK.out _ _ (range_row HR6.out) (fun hHeld7 => ?_)
      clear hK
      (try simp only [Act.put, List.setIfInBounds_toArray])
      refine wpAnyH_done (by kernel_rfl) ?_ _
      refine NoPanic.normal ?_
      go_wp2_with fail
      refine ⟨⟨m + 1, A6, c6, by omega, by go_num, rfl, B6, HR6.out, ?_⟩, by simp [intOf]; omega⟩
      rw [HP.out]
      exact HO6.out
    · obtain rfl : n = m := by omega
      go_wp2_with fail
      go_ret2
      exact (HO.out.mono (by omega)).new hbel
end Go.Proofs.YtghihgmgadaoeaaDoor
