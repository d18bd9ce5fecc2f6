/-
  What proof.Consistent and the document's own answer of no beginning, of none and of all; and the document's own of those between.
-/
import Derived.Test.YtojepkhooabjiaaDoorConS
namespace Go.Proofs.YtojepkhooabjiaaDoor
open Go.RowKit
set_option maxRecDepth 100000 in
set_option maxHeartbeats 400000 in
theorem Con_no (d r : List UInt8) (i n : Int) (A : Option Addr) (m c : Nat) (w : World) (h : i < 0 ∨ n < i) : Calls Tryd.prog 25 #[.int .i64 i, .int .i64 n, .slice A m c, .agg (bcells d), .agg (bcells r)] w fun e w' => e = .returned (.bool false) ∧ Below w.heap.size w w' := by
  have hb0 := ((Below.refl w.heap.size w).alloc (Nat.le_refl _) (.cells (bcells d) 24)).alloc (by simp) (.cells (bcells r) 24)
  by_cases h0 : i < 0
  · clear h
    go_enter Tryd.func25, Tryd.ntmps25
    go_wp2
    go_ret
    exact ⟨rfl, hb0⟩
  · have h1 : n < i := by omega
    clear h
    go_enter Tryd.func25, Tryd.ntmps25
    go_wp2
    go_ret
    exact ⟨rfl, hb0⟩
set_option maxRecDepth 100000 in
set_option maxHeartbeats 400000 in
theorem Con_zero (d r : List UInt8) (n : Nat) (A : Option Addr) (c : Nat) (w : World) (hd : d.length = 32) (hr : r.length = 32) (hT : Tab 2 w) : Calls Tryd.prog 25 #[.int .i64 0, .int .i64 (n : Int), .slice A 0 c, .agg (bcells d), .agg (bcells r)] w fun e w' => e = .returned (.bool (decide (d = sumL []))) ∧ Below w.heap.size w w' := by
  have HDS := Lib.hid (show (bcells d).size = 32 by rw [bcells_size, hd])
  have HDL := Lib.hid hd
  have HRL := Lib.hid hr
  have hb0 := ((Below.refl w.heap.size w).alloc (Nat.le_refl _) (.cells (bcells d) 24)).alloc (by simp) (.cells (bcells r) 24)
  have HO0 := Lib.hid ((Row.new w 24 (bcells d)).alloc (.cells (bcells r) 24))
  have HR0 := Lib.hid (Row.new1 w (.cells (bcells d) 24) 24 (bcells r))
  obtain ⟨wz, hwz⟩ : ∃ wz, (w.alloc (.cells (bcells d) 24)).alloc (.cells (bcells r) 24) = wz := ⟨_, rfl⟩
  rw [hwz] at hb0 HO0 HR0
  have HM := Lib.hid (fun A c w' hT => show Calls Tryd.prog 11 #[.slice A 0 c] w' fun e w'' => e = .returned (.agg (bcells (sumL []))) ∧ Below w'.heap.size w' w'' by have q := root_ok A 0 c [] w' (by omega) (Nat.zero_le _) (Ds.nil _ _) hT; rwa [show rootL [] = sumL [] from rootP_nil nodeL (sumL [])] at q)
  have HSL := Lib.hid (sumL_length [])
  generalize sumL [] = z at *
  obtain ⟨q, hq⟩ : ∃ q, decide (d = z) = q := ⟨_, rfl⟩
  rw [hq]
  have HQ := Lib.hid hq
  have HT := Lib.hid hT
  clear hT hq
  have i0 : ¬ (n : Int) < 0 := by omega
  clear hd hr
  go_enter Tryd.func25, Tryd.ntmps25
  go_wp2_with fail
  clear hwz
  have KP : Hid (∀ wq, Below wz.heap.size wz wq → wq.rangeAt w.heap.size 0 (d.map bcell)) := Lib.hid (fun wq hb => range_row (HO0.out.below hb HO0.out.lt))
  have B0 : Below wz.heap.size wz wz.drew := (Below.refl wz.heap.size wz).drew
  have BW0 := hb0.trans (B0.mono hb0.size)
  refine wp_region_noPanic ?_
  refine wp_region_held_drew (S := fun w' => w'.rangeAt w.heap.size 0 (d.map bcell)) (by kernel_rfl) (KP.out _ B0) (fun hHeld => ?_)
  refine takeD (i := 0) (some 28) (.slice A 0 c) rfl rfl (by kernel_rfl) (by kernel_rfl) (by kernel_rfl) (fun _ _ _ h => h) (Or.inl ⟨by rfl, fun _ _ => rfl⟩) hHeld ?_
  simp only [Act.put, List.setIfInBounds_toArray, List.set_cons_zero, List.set_cons_succ]
  refine takeD (i := 1) (some 29) (.int .i64 ((0 : Nat) : Int)) rfl rfl (by kernel_rfl) (by kernel_rfl) (by kernel_rfl) (fun _ _ _ h => h) (yields_len (by rfl) (.tmp 28) rfl A _ c rfl) hHeld ?_
  simp only [Act.put, List.setIfInBounds_toArray, List.set_cons_zero, List.set_cons_succ]
  refine takeD (i := 2) (some 30) (.bool true) rfl rfl (by kernel_rfl) (by kernel_rfl) (by kernel_rfl) (fun _ _ _ h => h) (yields_eqI rfl (.tmp 29) _ rfl ((0 : Nat) : Int) 0 true rfl rfl rfl) hHeld ?_
  simp only [Act.put, List.setIfInBounds_toArray, List.set_cons_zero, List.set_cons_succ]
  refine takeD (i := 3) (some 31) (.bool true) rfl rfl (by kernel_rfl) (by kernel_rfl) (by kernel_rfl) (fun _ _ _ h => h) (Or.inl ⟨by rfl, fun _ _ => rfl⟩) hHeld ?_
  simp only [Act.put, List.setIfInBounds_toArray, List.set_cons_zero, List.set_cons_succ]
  refine takeD (i := 4) (some 32) (.agg (bcells d)) rfl rfl (by kernel_rfl) (by kernel_rfl) (by kernel_rfl) (fun _ _ _ h => h) (yields_loadW (by rfl) (.tmp 8) rfl _ 0 d rfl (fun _ h => h) HDL.out) hHeld ?_
  simp only [Act.put, List.setIfInBounds_toArray, List.set_cons_zero, List.set_cons_succ]
  refine wpAnyH_ready (rs := [5]) (by kernel_rfl) (by decide) ?_
  refine AllReadyH.cons rfl (fun K' hK => ?_) AllReadyH.nil
  go_simp
  refine (HM.out _ _ wz.drew (HT.out.below BW0)).mono ?_
  rintro e5 w5 ⟨rfl, hb5⟩
  have B5 : Below wz.heap.size wz w5 := B0.trans (hb5.mono B0.size)
  have BW5 := hb0.trans (B5.mono hb0.size)
  refine hK.out _ _ (KP.out _ B5) (fun hHeld5 => ?_)
  clear hK
  (try simp only [Act.put, List.setIfInBounds_toArray, List.set_cons_zero, List.set_cons_succ])
  refine takeD (i := 6) (some 34) (.bool q) rfl rfl (by kernel_rfl) (by kernel_rfl) (by kernel_rfl) (fun _ _ _ h => h) (yields_eqlW (by rfl) (.tmp 32) (.tmp 33) rfl d z q rfl rfl HDL.out HSL.out HQ.out) hHeld5 ?_
  simp only [Act.put, List.setIfInBounds_toArray, List.set_cons_zero, List.set_cons_succ]
  refine takeD (i := 7) (some 35) (.bool q) rfl rfl (by kernel_rfl) (by kernel_rfl) (by kernel_rfl) (fun _ _ _ h => h) (Or.inl ⟨by rfl, fun _ _ => rfl⟩) hHeld5 ?_
  simp only [Act.put, List.setIfInBounds_toArray, List.set_cons_zero, List.set_cons_succ]
  refine takeD (i := 8) (some 10) (.bool q) rfl rfl (by kernel_rfl) (by kernel_rfl) (by kernel_rfl) (fun _ _ _ h => h) (Or.inl ⟨by rfl, fun _ _ => rfl⟩) hHeld5 ?_
  simp only [Act.put, List.setIfInBounds_toArray, List.set_cons_zero, List.set_cons_succ]
  (try simp only [Act.put, List.setIfInBounds_toArray])
  refine wpAnyH_done (by kernel_rfl) ?_ _
  refine NoPanic.normal ?_
  go_wp2_with fail
  go_ret
  exact ⟨rfl, BW5⟩
set_option maxRecDepth 100000 in
set_option maxHeartbeats 400000 in
theorem Con_all (d r : List UInt8) (n : Nat) (A : Option Addr) (c : Nat) (w : World) (hd : d.length = 32) (hr : r.length = 32) (hn : 1 ≤ n) : Calls Tryd.prog 25 #[.int .i64 (n : Int), .int .i64 (n : Int), .slice A 0 c, .agg (bcells d), .agg (bcells r)] w fun e w' => e = .returned (.bool (decide (d = r))) ∧ Below w.heap.size w w' := by
  have HDS := Lib.hid (show (bcells d).size = 32 by rw [bcells_size, hd])
  have HDL := Lib.hid hd
  have HRL := Lib.hid hr
  have hb0 := ((Below.refl w.heap.size w).alloc (Nat.le_refl _) (.cells (bcells d) 24)).alloc (by simp) (.cells (bcells r) 24)
  have HO0 := Lib.hid ((Row.new w 24 (bcells d)).alloc (.cells (bcells r) 24))
  have HR0 := Lib.hid (Row.new1 w (.cells (bcells d) 24) 24 (bcells r))
  obtain ⟨wz, hwz⟩ : ∃ wz, (w.alloc (.cells (bcells d) 24)).alloc (.cells (bcells r) 24) = wz := ⟨_, rfl⟩
  rw [hwz] at hb0 HO0 HR0
  have i0 : ¬ (n : Int) < 0 := by omega
  have i1 : ((n : Int) == 0) = false := by simp; omega
  obtain ⟨q, hq⟩ : ∃ q, decide (d = r) = q := ⟨_, rfl⟩
  rw [hq]
  have HE := Lib.hid (fun w => (eqD d r hd hr w).trans (by rw [hq]))
  clear hd hr hn hq
  go_enter Tryd.func25, Tryd.ntmps25
  go_wp2_with (first
    | (with_reducible refine wpList_loadG (by with_unfolding_all rfl) (.tmp 8) rfl _ 0 d rfl (range_row HO0.out) HDL.out ?_; have heqa := HE.out)
    | (with_reducible refine wpList_loadG (by with_unfolding_all rfl) (.tmp 9) rfl _ 0 r rfl (range_row HR0.out) HRL.out ?_))
  go_ret
  exact ⟨rfl, hb0⟩
set_option maxRecDepth 100000 in
set_option maxHeartbeats 400000 in
theorem Con_zero_no (d r : List UInt8) (n : Nat) (A : Option Addr) (k c : Nat) (w : World) (hd : d.length = 32) (hr : r.length = 32) : Calls Tryd.prog 25 #[.int .i64 0, .int .i64 (n : Int), .slice A (k + 1) c, .agg (bcells d), .agg (bcells r)] w fun e w' => e = .returned (.bool false) ∧ Below w.heap.size w w' := by
  have HDS := Lib.hid (show (bcells d).size = 32 by rw [bcells_size, hd])
  have HDL := Lib.hid hd
  have HRL := Lib.hid hr
  have hb0 := ((Below.refl w.heap.size w).alloc (Nat.le_refl _) (.cells (bcells d) 24)).alloc (by simp) (.cells (bcells r) 24)
  have HO0 := Lib.hid ((Row.new w 24 (bcells d)).alloc (.cells (bcells r) 24))
  have HR0 := Lib.hid (Row.new1 w (.cells (bcells d) 24) 24 (bcells r))
  obtain ⟨wz, hwz⟩ : ∃ wz, (w.alloc (.cells (bcells d) 24)).alloc (.cells (bcells r) 24) = wz := ⟨_, rfl⟩
  rw [hwz] at hb0 HO0 HR0
  have hle : (((k + 1 : Nat) : Int) == 0) = false := by simp; omega
  have i0 : ¬ (n : Int) < 0 := by omega
  clear hd hr
  go_enter Tryd.func25, Tryd.ntmps25
  go_wp2_with fail
  clear hwz
  have KP : Hid (∀ wq, Below wz.heap.size wz wq → wq.rangeAt w.heap.size 0 (d.map bcell)) := Lib.hid (fun wq hb => range_row (HO0.out.below hb HO0.out.lt))
  have B0 : Below wz.heap.size wz wz.drew := (Below.refl wz.heap.size wz).drew
  have BW0 := hb0.trans (B0.mono hb0.size)
  refine wp_region_noPanic ?_
  refine wp_region_held_drew (S := fun w' => w'.rangeAt w.heap.size 0 (d.map bcell)) (by kernel_rfl) (KP.out _ B0) (fun hHeld => ?_)
  refine takeD (i := 0) (some 28) (.slice A (k + 1) c) rfl rfl (by kernel_rfl) (by kernel_rfl) (by kernel_rfl) (fun _ _ _ h => h) (Or.inl ⟨by rfl, fun _ _ => rfl⟩) hHeld ?_
  simp only [Act.put, List.setIfInBounds_toArray, List.set_cons_zero, List.set_cons_succ]
  refine takeD (i := 1) (some 29) (.int .i64 ((k + 1 : Nat) : Int)) rfl rfl (by kernel_rfl) (by kernel_rfl) (by kernel_rfl) (fun _ _ _ h => h) (yields_len (by rfl) (.tmp 28) rfl A _ c rfl) hHeld ?_
  simp only [Act.put, List.setIfInBounds_toArray, List.set_cons_zero, List.set_cons_succ]
  refine takeD (i := 2) (some 30) (.bool false) rfl rfl (by kernel_rfl) (by kernel_rfl) (by kernel_rfl) (fun _ _ _ h => h) (yields_eqI rfl (.tmp 29) _ rfl ((k + 1 : Nat) : Int) 0 false rfl rfl hle) hHeld ?_
  simp only [Act.put, List.setIfInBounds_toArray, List.set_cons_zero, List.set_cons_succ]
  refine takeD (i := 3) (some 31) (.bool false) rfl rfl (by kernel_rfl) (by kernel_rfl) (by kernel_rfl) (fun _ _ _ h => h) (Or.inl ⟨by rfl, fun _ _ => rfl⟩) hHeld ?_
  simp only [Act.put, List.setIfInBounds_toArray, List.set_cons_zero, List.set_cons_succ]
  refine takeD (i := 4) (some 32) (undef) rfl rfl (by kernel_rfl) (by kernel_rfl) (by kernel_rfl) (fun _ _ _ h => h) (Or.inr ⟨by rfl, rfl⟩) hHeld ?_
  simp only [Act.put, List.setIfInBounds_toArray, List.set_cons_zero, List.set_cons_succ]
  refine takeD (i := 5) (some 33) (undef) rfl rfl (by kernel_rfl) (by kernel_rfl) (by kernel_rfl) (fun _ _ _ h => h) (Or.inr ⟨by rfl, rfl⟩) hHeld ?_
  simp only [Act.put, List.setIfInBounds_toArray, List.set_cons_zero, List.set_cons_succ]
  refine takeD (i := 6) (some 34) (undef) rfl rfl (by kernel_rfl) (by kernel_rfl) (by kernel_rfl) (fun _ _ _ h => h) (Or.inr ⟨by rfl, rfl⟩) hHeld ?_
  simp only [Act.put, List.setIfInBounds_toArray, List.set_cons_zero, List.set_cons_succ]
  refine takeD (i := 7) (some 35) (.bool false) rfl rfl (by kernel_rfl) (by kernel_rfl) (by kernel_rfl) (fun _ _ _ h => h) (Or.inl ⟨by rfl, fun _ _ => rfl⟩) hHeld ?_
  simp only [Act.put, List.setIfInBounds_toArray, List.set_cons_zero, List.set_cons_succ]
  refine takeD (i := 8) (some 10) (.bool false) rfl rfl (by kernel_rfl) (by kernel_rfl) (by kernel_rfl) (fun _ _ _ h => h) (Or.inl ⟨by rfl, fun _ _ => rfl⟩) hHeld ?_
  simp only [Act.put, List.setIfInBounds_toArray, List.set_cons_zero, List.set_cons_succ]
  (try simp only [Act.put, List.setIfInBounds_toArray])
  refine wpAnyH_done (by kernel_rfl) ?_ _
  refine NoPanic.normal ?_
  go_wp2_with fail
  go_ret
  exact ⟨rfl, BW0⟩
set_option maxRecDepth 100000 in
set_option maxHeartbeats 400000 in
theorem Con_all_no (d r : List UInt8) (n : Nat) (A : Option Addr) (k c : Nat) (w : World) (hd : d.length = 32) (hr : r.length = 32) (hn : 1 ≤ n) : Calls Tryd.prog 25 #[.int .i64 (n : Int), .int .i64 (n : Int), .slice A (k + 1) c, .agg (bcells d), .agg (bcells r)] w fun e w' => e = .returned (.bool false) ∧ Below w.heap.size w w' := by
  have HDS := Lib.hid (show (bcells d).size = 32 by rw [bcells_size, hd])
  have HDL := Lib.hid hd
  have HRL := Lib.hid hr
  have hb0 := ((Below.refl w.heap.size w).alloc (Nat.le_refl _) (.cells (bcells d) 24)).alloc (by simp) (.cells (bcells r) 24)
  have HO0 := Lib.hid ((Row.new w 24 (bcells d)).alloc (.cells (bcells r) 24))
  have HR0 := Lib.hid (Row.new1 w (.cells (bcells d) 24) 24 (bcells r))
  obtain ⟨wz, hwz⟩ : ∃ wz, (w.alloc (.cells (bcells d) 24)).alloc (.cells (bcells r) 24) = wz := ⟨_, rfl⟩
  rw [hwz] at hb0 HO0 HR0
  have i0 : ¬ (n : Int) < 0 := by omega
  have i1 : ((n : Int) == 0) = false := by simp; omega
  have hle : (((k + 1 : Nat) : Int) == 0) = false := by simp; omega
  have hle2 : ((k : Int) + 1 == 0) = false := by simp; omega
  clear hd hr hn
  go_enter Tryd.func25, Tryd.ntmps25
  go_wp2
  go_ret
  exact ⟨rfl, hb0⟩
set_option maxRecDepth 100000 in
set_option maxHeartbeats 400000 in
theorem RefCon_no (d r : List UInt8) (i n : Int) (A : Option Addr) (m c : Nat) (w : World) (h : i < 0 ∨ n < i) : Calls Tryd.prog 26 #[.int .i64 i, .int .i64 n, .slice A m c, .agg (bcells d), .agg (bcells r)] w fun e w' => e = .returned (.bool false) ∧ Below w.heap.size w w' := by
  have hb0 := ((Below.refl w.heap.size w).alloc (Nat.le_refl _) (.cells (bcells d) 24)).alloc (by simp) (.cells (bcells r) 24)
  by_cases h0 : i < 0
  · clear h
    go_enter Tryd.func26, Tryd.ntmps26
    go_wp2
    go_ret
    exact ⟨rfl, hb0⟩
  · have h1 : n < i := by omega
    clear h
    go_enter Tryd.func26, Tryd.ntmps26
    go_wp2
    go_ret
    exact ⟨rfl, hb0⟩
set_option maxRecDepth 100000 in
set_option maxHeartbeats 400000 in
theorem RefCon_zero (d r : List UInt8) (n : Nat) (A : Option Addr) (c : Nat) (w : World) (hd : d.length = 32) (hr : r.length = 32) (hF : First w) (hT : Tab 1 w) : Calls Tryd.prog 26 #[.int .i64 0, .int .i64 (n : Int), .slice A 0 c, .agg (bcells d), .agg (bcells r)] w fun e w' => e = .returned (.bool (decide (d = sumL []))) ∧ Below w.heap.size w w' := by
  have HDS := Lib.hid (show (bcells d).size = 32 by rw [bcells_size, hd])
  have HDL := Lib.hid hd
  have HRL := Lib.hid hr
  have hb0 := ((Below.refl w.heap.size w).alloc (Nat.le_refl _) (.cells (bcells d) 24)).alloc (by simp) (.cells (bcells r) 24)
  have HO0 := Lib.hid ((Row.new w 24 (bcells d)).alloc (.cells (bcells r) 24))
  have HR0 := Lib.hid (Row.new1 w (.cells (bcells d) 24) 24 (bcells r))
  obtain ⟨wz, hwz⟩ : ∃ wz, (w.alloc (.cells (bcells d) 24)).alloc (.cells (bcells r) 24) = wz := ⟨_, rfl⟩
  rw [hwz] at hb0 HO0 HR0
  have HM := Lib.hid (fun A c w' hF hT => show Calls Tryd.prog 13 #[.slice A 0 c] w' fun e w'' => e = .returned (.agg (bcells (sumL []))) ∧ Below w'.heap.size w' w'' by have q := Refroot_ok A 0 c [] w' (by omega) (Nat.zero_le _) (Ds.nil _ _) hF hT; rwa [show rootL [] = sumL [] from rootP_nil nodeL (sumL [])] at q)
  have HSL := Lib.hid (sumL_length [])
  generalize sumL [] = z at *
  obtain ⟨q, hq⟩ : ∃ q, decide (d = z) = q := ⟨_, rfl⟩
  rw [hq]
  have HQ := Lib.hid hq
  have HF := Lib.hid hF
  have HT := Lib.hid hT
  clear hF hT hq
  have i0 : ¬ (n : Int) < 0 := by omega
  clear hd hr
  go_enter Tryd.func26, Tryd.ntmps26
  go_wp2_with fail
  clear hwz
  have KP : Hid (∀ wq, Below wz.heap.size wz wq → wq.rangeAt w.heap.size 0 (d.map bcell)) := Lib.hid (fun wq hb => range_row (HO0.out.below hb HO0.out.lt))
  have B0 : Below wz.heap.size wz wz.drew := (Below.refl wz.heap.size wz).drew
  have BW0 := hb0.trans (B0.mono hb0.size)
  refine wp_region_noPanic ?_
  refine wp_region_held_drew (S := fun w' => w'.rangeAt w.heap.size 0 (d.map bcell)) (by kernel_rfl) (KP.out _ B0) (fun hHeld => ?_)
  refine takeD (i := 0) (some 23) (.slice A 0 c) rfl rfl (by kernel_rfl) (by kernel_rfl) (by kernel_rfl) (fun _ _ _ h => h) (Or.inl ⟨by rfl, fun _ _ => rfl⟩) hHeld ?_
  simp only [Act.put, List.setIfInBounds_toArray, List.set_cons_zero, List.set_cons_succ]
  refine takeD (i := 1) (some 24) (.int .i64 ((0 : Nat) : Int)) rfl rfl (by kernel_rfl) (by kernel_rfl) (by kernel_rfl) (fun _ _ _ h => h) (yields_len (by rfl) (.tmp 23) rfl A _ c rfl) hHeld ?_
  simp only [Act.put, List.setIfInBounds_toArray, List.set_cons_zero, List.set_cons_succ]
  refine takeD (i := 2) (some 25) (.bool true) rfl rfl (by kernel_rfl) (by kernel_rfl) (by kernel_rfl) (fun _ _ _ h => h) (yields_eqI rfl (.tmp 24) _ rfl ((0 : Nat) : Int) 0 true rfl rfl rfl) hHeld ?_
  simp only [Act.put, List.setIfInBounds_toArray, List.set_cons_zero, List.set_cons_succ]
  refine takeD (i := 3) (some 26) (.bool true) rfl rfl (by kernel_rfl) (by kernel_rfl) (by kernel_rfl) (fun _ _ _ h => h) (Or.inl ⟨by rfl, fun _ _ => rfl⟩) hHeld ?_
  simp only [Act.put, List.setIfInBounds_toArray, List.set_cons_zero, List.set_cons_succ]
  refine takeD (i := 4) (some 27) (.agg (bcells d)) rfl rfl (by kernel_rfl) (by kernel_rfl) (by kernel_rfl) (fun _ _ _ h => h) (yields_loadW (by rfl) (.tmp 8) rfl _ 0 d rfl (fun _ h => h) HDL.out) hHeld ?_
  simp only [Act.put, List.setIfInBounds_toArray, List.set_cons_zero, List.set_cons_succ]
  refine wpAnyH_ready (rs := [5]) (by kernel_rfl) (by decide) ?_
  refine AllReadyH.cons rfl (fun K' hK => ?_) AllReadyH.nil
  go_simp
  refine (HM.out _ _ wz.drew (HF.out.below BW0) (HT.out.below BW0)).mono ?_
  rintro e5 w5 ⟨rfl, hb5⟩
  have B5 : Below wz.heap.size wz w5 := B0.trans (hb5.mono B0.size)
  have BW5 := hb0.trans (B5.mono hb0.size)
  refine hK.out _ _ (KP.out _ B5) (fun hHeld5 => ?_)
  clear hK
  (try simp only [Act.put, List.setIfInBounds_toArray, List.set_cons_zero, List.set_cons_succ])
  refine takeD (i := 6) (some 29) (.bool q) rfl rfl (by kernel_rfl) (by kernel_rfl) (by kernel_rfl) (fun _ _ _ h => h) (yields_eqlW (by rfl) (.tmp 27) (.tmp 28) rfl d z q rfl rfl HDL.out HSL.out HQ.out) hHeld5 ?_
  simp only [Act.put, List.setIfInBounds_toArray, List.set_cons_zero, List.set_cons_succ]
  refine takeD (i := 7) (some 30) (.bool q) rfl rfl (by kernel_rfl) (by kernel_rfl) (by kernel_rfl) (fun _ _ _ h => h) (Or.inl ⟨by rfl, fun _ _ => rfl⟩) hHeld5 ?_
  simp only [Act.put, List.setIfInBounds_toArray, List.set_cons_zero, List.set_cons_succ]
  refine takeD (i := 8) (some 10) (.bool q) rfl rfl (by kernel_rfl) (by kernel_rfl) (by kernel_rfl) (fun _ _ _ h => h) (Or.inl ⟨by rfl, fun _ _ => rfl⟩) hHeld5 ?_
  simp only [Act.put, List.setIfInBounds_toArray, List.set_cons_zero, List.set_cons_succ]
  (try simp only [Act.put, List.setIfInBounds_toArray])
  refine wpAnyH_done (by kernel_rfl) ?_ _
  refine NoPanic.normal ?_
  go_wp2_with fail
  go_ret
  exact ⟨rfl, BW5⟩
set_option maxRecDepth 100000 in
set_option maxHeartbeats 400000 in
theorem RefCon_all (d r : List UInt8) (n : Nat) (A : Option Addr) (c : Nat) (w : World) (hd : d.length = 32) (hr : r.length = 32) (hn : 1 ≤ n) : Calls Tryd.prog 26 #[.int .i64 (n : Int), .int .i64 (n : Int), .slice A 0 c, .agg (bcells d), .agg (bcells r)] w fun e w' => e = .returned (.bool (decide (d = r))) ∧ Below w.heap.size w w' := by
  have HDS := Lib.hid (show (bcells d).size = 32 by rw [bcells_size, hd])
  have HDL := Lib.hid hd
  have HRL := Lib.hid hr
  have hb0 := ((Below.refl w.heap.size w).alloc (Nat.le_refl _) (.cells (bcells d) 24)).alloc (by simp) (.cells (bcells r) 24)
  have HO0 := Lib.hid ((Row.new w 24 (bcells d)).alloc (.cells (bcells r) 24))
  have HR0 := Lib.hid (Row.new1 w (.cells (bcells d) 24) 24 (bcells r))
  obtain ⟨wz, hwz⟩ : ∃ wz, (w.alloc (.cells (bcells d) 24)).alloc (.cells (bcells r) 24) = wz := ⟨_, rfl⟩
  rw [hwz] at hb0 HO0 HR0
  have i0 : ¬ (n : Int) < 0 := by omega
  have i1 : ((n : Int) == 0) = false := by simp; omega
  obtain ⟨q, hq⟩ : ∃ q, decide (d = r) = q := ⟨_, rfl⟩
  rw [hq]
  have HE := Lib.hid (fun w => (eqD d r hd hr w).trans (by rw [hq]))
  clear hd hr hn hq
  go_enter Tryd.func26, Tryd.ntmps26
  go_wp2_with (first
    | (with_reducible refine wpList_loadG (by with_unfolding_all rfl) (.tmp 8) rfl _ 0 d rfl (range_row HO0.out) HDL.out ?_; have heqa := HE.out)
    | (with_reducible refine wpList_loadG (by with_unfolding_all rfl) (.tmp 9) rfl _ 0 r rfl (range_row HR0.out) HRL.out ?_))
  go_ret
  exact ⟨rfl, hb0⟩
set_option maxRecDepth 100000 in
set_option maxHeartbeats 400000 in
theorem RefCon_zero_no (d r : List UInt8) (n : Nat) (A : Option Addr) (k c : Nat) (w : World) (hd : d.length = 32) (hr : r.length = 32) : Calls Tryd.prog 26 #[.int .i64 0, .int .i64 (n : Int), .slice A (k + 1) c, .agg (bcells d), .agg (bcells r)] w fun e w' => e = .returned (.bool false) ∧ Below w.heap.size w w' := by
  have HDS := Lib.hid (show (bcells d).size = 32 by rw [bcells_size, hd])
  have HDL := Lib.hid hd
  have HRL := Lib.hid hr
  have hb0 := ((Below.refl w.heap.size w).alloc (Nat.le_refl _) (.cells (bcells d) 24)).alloc (by simp) (.cells (bcells r) 24)
  have HO0 := Lib.hid ((Row.new w 24 (bcells d)).alloc (.cells (bcells r) 24))
  have HR0 := Lib.hid (Row.new1 w (.cells (bcells d) 24) 24 (bcells r))
  obtain ⟨wz, hwz⟩ : ∃ wz, (w.alloc (.cells (bcells d) 24)).alloc (.cells (bcells r) 24) = wz := ⟨_, rfl⟩
  rw [hwz] at hb0 HO0 HR0
  have hle : (((k + 1 : Nat) : Int) == 0) = false := by simp; omega
  have i0 : ¬ (n : Int) < 0 := by omega
  clear hd hr
  go_enter Tryd.func26, Tryd.ntmps26
  go_wp2_with fail
  clear hwz
  have KP : Hid (∀ wq, Below wz.heap.size wz wq → wq.rangeAt w.heap.size 0 (d.map bcell)) := Lib.hid (fun wq hb => range_row (HO0.out.below hb HO0.out.lt))
  have B0 : Below wz.heap.size wz wz.drew := (Below.refl wz.heap.size wz).drew
  have BW0 := hb0.trans (B0.mono hb0.size)
  refine wp_region_noPanic ?_
  refine wp_region_held_drew (S := fun w' => w'.rangeAt w.heap.size 0 (d.map bcell)) (by kernel_rfl) (KP.out _ B0) (fun hHeld => ?_)
  refine takeD (i := 0) (some 23) (.slice A (k + 1) c) rfl rfl (by kernel_rfl) (by kernel_rfl) (by kernel_rfl) (fun _ _ _ h => h) (Or.inl ⟨by rfl, fun _ _ => rfl⟩) hHeld ?_
  simp only [Act.put, List.setIfInBounds_toArray, List.set_cons_zero, List.set_cons_succ]
  refine takeD (i := 1) (some 24) (.int .i64 ((k + 1 : Nat) : Int)) rfl rfl (by kernel_rfl) (by kernel_rfl) (by kernel_rfl) (fun _ _ _ h => h) (yields_len (by rfl) (.tmp 23) rfl A _ c rfl) hHeld ?_
  simp only [Act.put, List.setIfInBounds_toArray, List.set_cons_zero, List.set_cons_succ]
  refine takeD (i := 2) (some 25) (.bool false) rfl rfl (by kernel_rfl) (by kernel_rfl) (by kernel_rfl) (fun _ _ _ h => h) (yields_eqI rfl (.tmp 24) _ rfl ((k + 1 : Nat) : Int) 0 false rfl rfl hle) hHeld ?_
  simp only [Act.put, List.setIfInBounds_toArray, List.set_cons_zero, List.set_cons_succ]
  refine takeD (i := 3) (some 26) (.bool false) rfl rfl (by kernel_rfl) (by kernel_rfl) (by kernel_rfl) (fun _ _ _ h => h) (Or.inl ⟨by rfl, fun _ _ => rfl⟩) hHeld ?_
  simp only [Act.put, List.setIfInBounds_toArray, List.set_cons_zero, List.set_cons_succ]
  refine takeD (i := 4) (some 27) (undef) rfl rfl (by kernel_rfl) (by kernel_rfl) (by kernel_rfl) (fun _ _ _ h => h) (Or.inr ⟨by rfl, rfl⟩) hHeld ?_
  simp only [Act.put, List.setIfInBounds_toArray, List.set_cons_zero, List.set_cons_succ]
  refine takeD (i := 5) (some 28) (undef) rfl rfl (by kernel_rfl) (by kernel_rfl) (by kernel_rfl) (fun _ _ _ h => h) (Or.inr ⟨by rfl, rfl⟩) hHeld ?_
  simp only [Act.put, List.setIfInBounds_toArray, List.set_cons_zero, List.set_cons_succ]
  refine takeD (i := 6) (some 29) (undef) rfl rfl (by kernel_rfl) (by kernel_rfl) (by kernel_rfl) (fun _ _ _ h => h) (Or.inr ⟨by rfl, rfl⟩) hHeld ?_
  simp only [Act.put, List.setIfInBounds_toArray, List.set_cons_zero, List.set_cons_succ]
  refine takeD (i := 7) (some 30) (.bool false) rfl rfl (by kernel_rfl) (by kernel_rfl) (by kernel_rfl) (fun _ _ _ h => h) (Or.inl ⟨by rfl, fun _ _ => rfl⟩) hHeld ?_
  simp only [Act.put, List.setIfInBounds_toArray, List.set_cons_zero, List.set_cons_succ]
  refine takeD (i := 8) (some 10) (.bool false) rfl rfl (by kernel_rfl) (by kernel_rfl) (by kernel_rfl) (fun _ _ _ h => h) (Or.inl ⟨by rfl, fun _ _ => rfl⟩) hHeld ?_
  simp only [Act.put, List.setIfInBounds_toArray, List.set_cons_zero, List.set_cons_succ]
  (try simp only [Act.put, List.setIfInBounds_toArray])
  refine wpAnyH_done (by kernel_rfl) ?_ _
  refine NoPanic.normal ?_
  go_wp2_with fail
  go_ret
  exact ⟨rfl, BW0⟩
set_option maxRecDepth 100000 in
set_option maxHeartbeats 400000 in
theorem RefCon_all_no (d r : List UInt8) (n : Nat) (A : Option Addr) (k c : Nat) (w : World) (hd : d.length = 32) (hr : r.length = 32) (hn : 1 ≤ n) : Calls Tryd.prog 26 #[.int .i64 (n : Int), .int .i64 (n : Int), .slice A (k + 1) c, .agg (bcells d), .agg (bcells r)] w fun e w' => e = .returned (.bool false) ∧ Below w.heap.size w w' := by
  have HDS := Lib.hid (show (bcells d).size = 32 by rw [bcells_size, hd])
  have HDL := Lib.hid hd
  have HRL := Lib.hid hr
  have hb0 := ((Below.refl w.heap.size w).alloc (Nat.le_refl _) (.cells (bcells d) 24)).alloc (by simp) (.cells (bcells r) 24)
  have HO0 := Lib.hid ((Row.new w 24 (bcells d)).alloc (.cells (bcells r) 24))
  have HR0 := Lib.hid (Row.new1 w (.cells (bcells d) 24) 24 (bcells r))
  obtain ⟨wz, hwz⟩ : ∃ wz, (w.alloc (.cells (bcells d) 24)).alloc (.cells (bcells r) 24) = wz := ⟨_, rfl⟩
  rw [hwz] at hb0 HO0 HR0
  have i0 : ¬ (n : Int) < 0 := by omega
  have i1 : ((n : Int) == 0) = false := by simp; omega
  have hle : (((k + 1 : Nat) : Int) == 0) = false := by simp; omega
  have hle2 : ((k : Int) + 1 == 0) = false := by simp; omega
  clear hd hr hn
  go_enter Tryd.func26, Tryd.ntmps26
  go_wp2
  go_ret
  exact ⟨rfl, hb0⟩
set_option maxRecDepth 100000 in
set_option maxHeartbeats 1000000 in
theorem RefCon_mid (d r : List UInt8) (i n : Nat) (A : Option Addr) (m c : Nat) (P : List (List UInt8)) (w : World) (hd : d.length = 32) (hr : r.length = 32) (hm : m ≤ 1024) (hc : m ≤ c) (h1 : 1 ≤ i) (hi : i < n) (hn : n ≤ 9223372036854775807) (hD : Ds w A m P) (hF : First w) (hT : Tab 1 w) :
    Calls Tryd.prog 26 #[.int .i64 (i : Int), .int .i64 (n : Int), .slice A m c, .agg (bcells d), .agg (bcells r)] w fun e w' => e = .returned (.bool (decide (leadsR nodeL d i n true P.reverse = some (d, r)))) ∧ Below w.heap.size w w' := by
  have i0 : ¬ (i : Int) < 0 := by omega
  have i1 : ¬ (n : Int) < (i : Int) := by omega
  have i2 : ((i : Int) == 0) = false := by simp; omega
  have i3 : ((i : Int) == (n : Int)) = false := by simp; omega
  have HC := Lib.hid (fun w' (hb : Below w.heap.size w w') hF hT => leads_any d hd m i n true A c P w' h1 (by omega) hn (by omega) hc (hD.below hb) hF hT)
  generalize leadsR nodeL d i n true P.reverse = U at *
  have HDS := Lib.hid (show (bcells d).size = 32 by rw [bcells_size, hd])
  have HDL := Lib.hid hd
  have HRL := Lib.hid hr
  have hb0 := ((Below.refl w.heap.size w).alloc (Nat.le_refl _) (.cells (bcells d) 24)).alloc (by simp) (.cells (bcells r) 24)
  have HO0 := Lib.hid ((Row.new w 24 (bcells d)).alloc (.cells (bcells r) 24))
  have HR0 := Lib.hid (Row.new1 w (.cells (bcells d) 24) 24 (bcells r))
  obtain ⟨wz, hwz⟩ : ∃ wz, (w.alloc (.cells (bcells d) 24)).alloc (.cells (bcells r) 24) = wz := ⟨_, rfl⟩
  rw [hwz] at hb0 HO0 HR0
  have HF := Lib.hid hF
  have HT := Lib.hid hT
  clear hd hr hm h1 hi hn hD hF hT
  cases U with
  | none =>
    have hdec : decide ((none : Option (List UInt8 × List UInt8)) = some (d, r)) = false := rfl
    rw [hdec]
    clear hdec
    go_enter Tryd.func26, Tryd.ntmps26
    go_wp2_with (first
      | (with_reducible refine wpList_load_row Tryd.agg25 rfl (.tmp 8) rfl _ rfl 24 _ HO0.out HDS.out ?_)
      | (go_at_call 43; refine (HC.out _ hb0 (HF.out.below hb0) (HT.out.below hb0)).mono ?_; rintro e7 w7 ⟨f, a, is, rfl, hf, ha, hres, hb7⟩; obtain rfl : is = false := hres; have HFS := Lib.hid (show (bcells f).size = 32 by rw [bcells_size, hf]); have HAS := Lib.hid (show (bcells a).size = 32 by rw [bcells_size, ha]); have HFL := Lib.hid hf; have HAL := Lib.hid ha; have HO7 := Lib.hid (HO0.out.below hb7 HO0.out.lt); have HR7 := Lib.hid (HR0.out.below hb7 HR0.out.lt); have hb7' := hb0.trans (hb7.mono hb0.size); have hg7 : w.heap.size + 1 < w7.heap.size := HR7.out.lt; clear hf ha)
      | (with_reducible refine wpList_store_row Tryd.agg25 rfl (.tmp 11) (.tmp 48) rfl _ _ rfl rfl 24 lit32 ((Row.new w7 24 lit32).alloc (.cells lit32 24)) HFS.out lit32_size (bcells_one _) ?_; intro w8 hr8 ho8; have HF8 := Lib.hid hr8; have HA8 := Lib.hid ((Row.new1 w7 (.cells lit32 24) 24 lit32).only ho8 (by omega)); have HO8 := Lib.hid (((HO7.out.alloc (.cells lit32 24)).alloc (.cells lit32 24)).only ho8 (by omega)); have HR8 := Lib.hid (((HR7.out.alloc (.cells lit32 24)).alloc (.cells lit32 24)).only ho8 (by omega)); have hb8 := ((hb7'.alloc hb7'.size (.cells lit32 24)).alloc (by have := hb7'.size; simp; omega) (.cells lit32 24)).trans (ho8.below (B := w.heap.size) (by omega) (by have := hb7'.size; simp; omega)); clear hr8)
      | (with_reducible refine wpList_store_row Tryd.agg25 rfl (.tmp 12) (.tmp 49) rfl _ _ rfl rfl 24 lit32 HA8.out HAS.out lit32_size (bcells_one _) ?_; intro w9 hr9 ho9; have HA9 := Lib.hid hr9; have HF9 := Lib.hid (HF8.out.only ho9 (by omega)); have HO9 := Lib.hid (HO8.out.only ho9 (by omega)); have HR9 := Lib.hid (HR8.out.only ho9 (by omega)); have hb9 := hb8.trans (ho9.below (B := w.heap.size) (by omega) hb8.size); clear hr9))
    go_ret
    exact ⟨rfl, hb9⟩
  | some v =>
    obtain ⟨f0, a0⟩ := v
    by_cases hfo : d = f0
    · subst hfo
      have hdec : decide (some (d, a0) = some (d, r)) = decide (a0 = r) := by simp
      rw [hdec]
      clear hdec
      obtain ⟨q2, hq2⟩ : ∃ q, decide (a0 = r) = q := ⟨_, rfl⟩
      rw [hq2]
      have HE1 := Lib.hid (eq_digest d HDL.out)
      have HE2 := Lib.hid (fun (ha : a0.length = 32) w => (eqD a0 r ha HRL.out w).trans (by rw [hq2]))
      clear hq2
      go_enter Tryd.func26, Tryd.ntmps26
      go_wp2_with (first
        | (with_reducible refine wpList_load_row Tryd.agg25 rfl (.tmp 8) rfl _ rfl 24 _ HO0.out HDS.out ?_)
        | (go_at_call 43; refine (HC.out _ hb0 (HF.out.below hb0) (HT.out.below hb0)).mono ?_; rintro e7 w7 ⟨f, a, is, rfl, hf, ha, hres, hb7⟩; obtain ⟨rfl, hva⟩ := hres; injection hva with hva1 hva2; subst hva1 hva2; have HFS := Lib.hid (show (bcells d).size = 32 by rw [bcells_size, hf]); have HAS := Lib.hid (show (bcells a0).size = 32 by rw [bcells_size, ha]); have HFL := Lib.hid hf; have HAL := Lib.hid ha; have HO7 := Lib.hid (HO0.out.below hb7 HO0.out.lt); have HR7 := Lib.hid (HR0.out.below hb7 HR0.out.lt); have hb7' := hb0.trans (hb7.mono hb0.size); have hg7 : w.heap.size + 1 < w7.heap.size := HR7.out.lt; clear hf ha)
        | (with_reducible refine wpList_store_row Tryd.agg25 rfl (.tmp 11) (.tmp 48) rfl _ _ rfl rfl 24 lit32 ((Row.new w7 24 lit32).alloc (.cells lit32 24)) HFS.out lit32_size (bcells_one _) ?_; intro w8 hr8 ho8; have HF8 := Lib.hid hr8; have HA8 := Lib.hid ((Row.new1 w7 (.cells lit32 24) 24 lit32).only ho8 (by omega)); have HO8 := Lib.hid (((HO7.out.alloc (.cells lit32 24)).alloc (.cells lit32 24)).only ho8 (by omega)); have HR8 := Lib.hid (((HR7.out.alloc (.cells lit32 24)).alloc (.cells lit32 24)).only ho8 (by omega)); have hb8 := ((hb7'.alloc hb7'.size (.cells lit32 24)).alloc (by have := hb7'.size; simp; omega) (.cells lit32 24)).trans (ho8.below (B := w.heap.size) (by omega) (by have := hb7'.size; simp; omega)); clear hr8)
        | (with_reducible refine wpList_store_row Tryd.agg25 rfl (.tmp 12) (.tmp 49) rfl _ _ rfl rfl 24 lit32 HA8.out HAS.out lit32_size (bcells_one _) ?_; intro w9 hr9 ho9; have HA9 := Lib.hid hr9; have HF9 := Lib.hid (HF8.out.only ho9 (by omega)); have HO9 := Lib.hid (HO8.out.only ho9 (by omega)); have HR9 := Lib.hid (HR8.out.only ho9 (by omega)); have hb9 := hb8.trans (ho9.below (B := w.heap.size) (by omega) hb8.size); clear hr9)
        | (with_reducible refine wpList_loadG (by with_unfolding_all rfl) (.tmp 11) rfl _ 0 d rfl (range_row HF9.out) HFL.out ?_; have heqa := HE1.out)
        | (with_reducible refine wpList_loadG (by with_unfolding_all rfl) (.tmp 8) rfl _ 0 d rfl (range_row HO9.out) HDL.out ?_)
        | (with_reducible refine wpList_loadG (by with_unfolding_all rfl) (.tmp 12) rfl _ 0 a0 rfl (range_row HA9.out) HAL.out ?_; have heqb := HE2.out HAL.out)
        | (with_reducible refine wpList_loadG (by with_unfolding_all rfl) (.tmp 9) rfl _ 0 r rfl (range_row HR9.out) HRL.out ?_))
      go_ret
      exact ⟨rfl, hb9⟩
    · have hdec : decide (some (f0, a0) = some (d, r)) = false := by
        refine decide_eq_false fun h => hfo ?_
        injection h with h
        injection h with h1 h2
        exact h1.symm
      rw [hdec]
      have hfd : decide (f0 = d) = false := decide_eq_false fun h => hfo h.symm
      have HE0 := Lib.hid (fun (hf : f0.length = 32) w => (eqD f0 d hf HDL.out w).trans (by rw [hfd]))
      clear hdec hfo hfd
      go_enter Tryd.func26, Tryd.ntmps26
      go_wp2_with (first
        | (with_reducible refine wpList_load_row Tryd.agg25 rfl (.tmp 8) rfl _ rfl 24 _ HO0.out HDS.out ?_)
        | (go_at_call 43; refine (HC.out _ hb0 (HF.out.below hb0) (HT.out.below hb0)).mono ?_; rintro e7 w7 ⟨f, a, is, rfl, hf, ha, hres, hb7⟩; obtain ⟨rfl, hva⟩ := hres; injection hva with hva1 hva2; subst hva1 hva2; have HFS := Lib.hid (show (bcells f0).size = 32 by rw [bcells_size, hf]); have HAS := Lib.hid (show (bcells a0).size = 32 by rw [bcells_size, ha]); have HFL := Lib.hid hf; have HAL := Lib.hid ha; have HO7 := Lib.hid (HO0.out.below hb7 HO0.out.lt); have HR7 := Lib.hid (HR0.out.below hb7 HR0.out.lt); have hb7' := hb0.trans (hb7.mono hb0.size); have hg7 : w.heap.size + 1 < w7.heap.size := HR7.out.lt; clear hf ha)
        | (with_reducible refine wpList_store_row Tryd.agg25 rfl (.tmp 11) (.tmp 48) rfl _ _ rfl rfl 24 lit32 ((Row.new w7 24 lit32).alloc (.cells lit32 24)) HFS.out lit32_size (bcells_one _) ?_; intro w8 hr8 ho8; have HF8 := Lib.hid hr8; have HA8 := Lib.hid ((Row.new1 w7 (.cells lit32 24) 24 lit32).only ho8 (by omega)); have HO8 := Lib.hid (((HO7.out.alloc (.cells lit32 24)).alloc (.cells lit32 24)).only ho8 (by omega)); have HR8 := Lib.hid (((HR7.out.alloc (.cells lit32 24)).alloc (.cells lit32 24)).only ho8 (by omega)); have hb8 := ((hb7'.alloc hb7'.size (.cells lit32 24)).alloc (by have := hb7'.size; simp; omega) (.cells lit32 24)).trans (ho8.below (B := w.heap.size) (by omega) (by have := hb7'.size; simp; omega)); clear hr8)
        | (with_reducible refine wpList_store_row Tryd.agg25 rfl (.tmp 12) (.tmp 49) rfl _ _ rfl rfl 24 lit32 HA8.out HAS.out lit32_size (bcells_one _) ?_; intro w9 hr9 ho9; have HA9 := Lib.hid hr9; have HF9 := Lib.hid (HF8.out.only ho9 (by omega)); have HO9 := Lib.hid (HO8.out.only ho9 (by omega)); have HR9 := Lib.hid (HR8.out.only ho9 (by omega)); have hb9 := hb8.trans (ho9.below (B := w.heap.size) (by omega) hb8.size); clear hr9)
        | (with_reducible refine wpList_loadG (by with_unfolding_all rfl) (.tmp 11) rfl _ 0 f0 rfl (range_row HF9.out) HFL.out ?_; have heqa := HE0.out HFL.out)
        | (with_reducible refine wpList_loadG (by with_unfolding_all rfl) (.tmp 8) rfl _ 0 d rfl (range_row HO9.out) HDL.out ?_))
      go_ret
      exact ⟨rfl, hb9⟩
end Go.Proofs.YtojepkhooabjiaaDoor
