/-
  What proof.Consistent and the document's own answer of no beginning, of none and of all; and the document's own of those between.
-/
import Derived.Test.YtbpbpdaohganaaaDoorConS
namespace Go.Proofs.YtbpbpdaohganaaaDoor
open Go.RowKit
set_option maxRecDepth 100000 in
set_option maxHeartbeats 400000 in
theorem Con_no (d r : List UInt8) (i n : Int) (A : Option Addr) (m c : Nat) (w : World) (h : i < 0 ∨ n < i) : Calls Tryd.prog 29 #[.int .i64 i, .int .i64 n, .slice A m c, .agg (bcells d), .agg (bcells r)] w fun e w' => e = .returned (.bool false) ∧ Below w.heap.size w w' := by
  have hb0 := ((Below.refl w.heap.size w).alloc (Nat.le_refl _) (.cells (bcells d) 46)).alloc (by simp) (.cells (bcells r) 46)
  by_cases h0 : i < 0
  · clear h
    go_enter Tryd.func29, Tryd.ntmps29
    go_wp2
    go_ret
    exact ⟨rfl, hb0⟩
  · have h1 : n < i := by omega
    clear h
    go_enter Tryd.func29, Tryd.ntmps29
    go_wp2
    go_ret
    exact ⟨rfl, hb0⟩
set_option maxRecDepth 100000 in
set_option maxHeartbeats 400000 in
theorem Con_zero (d r : List UInt8) (n : Nat) (A : Option Addr) (c : Nat) (w : World) (hd : d.length = 32) (hr : r.length = 32) (hT : Tab 1 w) : Calls Tryd.prog 29 #[.int .i64 0, .int .i64 (n : Int), .slice A 0 c, .agg (bcells d), .agg (bcells r)] w fun e w' => e = .returned (.bool (decide (d = sumL []))) ∧ Below w.heap.size w w' := by
  have HDS := Lib.hid (show (bcells d).size = 32 by rw [bcells_size, hd])
  have HDL := Lib.hid hd
  have HRL := Lib.hid hr
  have hb0 := ((Below.refl w.heap.size w).alloc (Nat.le_refl _) (.cells (bcells d) 46)).alloc (by simp) (.cells (bcells r) 46)
  have HO0 := Lib.hid ((Row.new w 46 (bcells d)).alloc (.cells (bcells r) 46))
  have HR0 := Lib.hid (Row.new1 w (.cells (bcells d) 46) 46 (bcells r))
  obtain ⟨wz, hwz⟩ : ∃ wz, (w.alloc (.cells (bcells d) 46)).alloc (.cells (bcells r) 46) = wz := ⟨_, rfl⟩
  rw [hwz] at hb0 HO0 HR0
  have HM := Lib.hid (fun A c w' hT => show Calls Tryd.prog 35 #[.slice A 0 c] w' fun e w'' => e = .returned (.agg (bcells (sumL []))) ∧ Below w'.heap.size w' w'' by have q := root_ok A 0 c [] w' (by omega) (Nat.zero_le _) (Ds.nil _ _) hT; rwa [show rootL [] = sumL [] from rootP_nil nodeL (sumL [])] at q)
  have HSL := Lib.hid (sumL_length [])
  generalize sumL [] = z at *
  obtain ⟨q, hq⟩ : ∃ q, decide (d = z) = q := ⟨_, rfl⟩
  rw [hq]
  have HQ := Lib.hid hq
  have HT := Lib.hid hT
  clear hT hq
  have i0 : ¬ (n : Int) < 0 := by omega
  clear hd hr
  go_enter Tryd.func29, Tryd.ntmps29
  go_wp2_with fail
  clear hwz
  have KP : Hid (∀ wq, Below wz.heap.size wz wq → wq.rangeAt w.heap.size 0 (d.map bcell)) := Lib.hid (fun wq hb => range_row (HO0.out.below hb HO0.out.lt))
  have B0 : Below wz.heap.size wz wz.drew := (Below.refl wz.heap.size wz).drew
  have BW0 := hb0.trans (B0.mono hb0.size)
  refine wp_region_noPanic ?_
  refine wp_region_held_drew (S := fun w' => w'.rangeAt w.heap.size 0 (d.map bcell)) (by kernel_rfl) (KP.out _ B0) (fun hHeld => ?_)
  refine takeD (i := 0) (some 28) (.slice A 0 c) rfl rfl (by kernel_rfl) (by kernel_rfl) (by kernel_rfl) (fun _ _ _ h => h) (Or.inl ⟨by rfl, fun _ _ => rfl⟩) hHeld ?_
  simp only [Act.put, List.setIfInBounds_toArray, List.set_cons_zero, List.set_cons_succ]
  refine takeD (i := 1) (some 29) (.int .i64 ((0 : Nat) : Int)) rfl rfl (by kernel_rfl) (by kernel_rfl) (by kernel_rfl) (fun _ _ _ h => h) (yields_len (by rfl) (.tmp 28) rfl A _ c rfl) hHeld ?_
  simp only [Act.put, List.setIfInBounds_toArray, List.set_cons_zero, List.set_cons_succ]
  refine takeD (i := 2) (some 30) (.bool true) rfl rfl (by kernel_rfl) (by kernel_rfl) (by kernel_rfl) (fun _ _ _ h => h) (yields_eqI rfl (.tmp 29) _ rfl ((0 : Nat) : Int) 0 true rfl rfl rfl) hHeld ?_
  simp only [Act.put, List.setIfInBounds_toArray, List.set_cons_zero, List.set_cons_succ]
  refine takeD (i := 3) (some 31) (.bool true) rfl rfl (by kernel_rfl) (by kernel_rfl) (by kernel_rfl) (fun _ _ _ h => h) (Or.inl ⟨by rfl, fun _ _ => rfl⟩) hHeld ?_
  simp only [Act.put, List.setIfInBounds_toArray, List.set_cons_zero, List.set_cons_succ]
  refine takeD (i := 4) (some 32) (.agg (bcells d)) rfl rfl (by kernel_rfl) (by kernel_rfl) (by kernel_rfl) (fun _ _ _ h => h) (yields_loadW (by rfl) (.tmp 8) rfl _ 0 d rfl (fun _ h => h) HDL.out) hHeld ?_
  simp only [Act.put, List.setIfInBounds_toArray, List.set_cons_zero, List.set_cons_succ]
  refine wpAnyH_ready (rs := [5]) (by kernel_rfl) (by decide) ?_
  refine AllReadyH.cons rfl (fun K' hK => ?_) AllReadyH.nil
  go_simp
  refine (HM.out _ _ wz.drew (HT.out.below BW0)).mono ?_
  rintro e5 w5 ⟨rfl, hb5⟩
  have B5 : Below wz.heap.size wz w5 := B0.trans (hb5.mono B0.size)
  have BW5 := hb0.trans (B5.mono hb0.size)
  refine hK.out _ _ (KP.out _ B5) (fun hHeld5 => ?_)
  clear hK
  (try simp only [Act.put, List.setIfInBounds_toArray, List.set_cons_zero, List.set_cons_succ])
  refine takeD (i := 6) (some 34) (.bool q) rfl rfl (by kernel_rfl) (by kernel_rfl) (by kernel_rfl) (fun _ _ _ h => h) (yields_eqlW (by rfl) (.tmp 32) (.tmp 33) rfl d z q rfl rfl HDL.out HSL.out HQ.out) hHeld5 ?_
  simp only [Act.put, List.setIfInBounds_toArray, List.set_cons_zero, List.set_cons_succ]
  refine takeD (i := 7) (some 35) (.bool q) rfl rfl (by kernel_rfl) (by kernel_rfl) (by kernel_rfl) (fun _ _ _ h => h) (Or.inl ⟨by rfl, fun _ _ => rfl⟩) hHeld5 ?_
  simp only [Act.put, List.setIfInBounds_toArray, List.set_cons_zero, List.set_cons_succ]
  refine takeD (i := 8) (some 10) (.bool q) rfl rfl (by kernel_rfl) (by kernel_rfl) (by kernel_rfl) (fun _ _ _ h => h) (Or.inl ⟨by rfl, fun _ _ => rfl⟩) hHeld5 ?_
  simp only [Act.put, List.setIfInBounds_toArray, List.set_cons_zero, List.set_cons_succ]
  (try simp only [Act.put, List.setIfInBounds_toArray])
  refine wpAnyH_done (by kernel_rfl) ?_ _
  refine NoPanic.normal ?_
  go_wp2_with fail
  go_ret
  exact ⟨rfl, BW5⟩
set_option maxRecDepth 100000 in
set_option maxHeartbeats 400000 in
theorem Con_all (d r : List UInt8) (n : Nat) (A : Option Addr) (c : Nat) (w : World) (hd : d.length = 32) (hr : r.length = 32) (hn : 1 ≤ n) : Calls Tryd.prog 29 #[.int .i64 (n : Int), .int .i64 (n : Int), .slice A 0 c, .agg (bcells d), .agg (bcells r)] w fun e w' => e = .returned (.bool (decide (d = r))) ∧ Below w.heap.size w w' := by
  have HDS := Lib.hid (show (bcells d).size = 32 by rw [bcells_size, hd])
  have HDL := Lib.hid hd
  have HRL := Lib.hid hr
  have hb0 := ((Below.refl w.heap.size w).alloc (Nat.le_refl _) (.cells (bcells d) 46)).alloc (by simp) (.cells (bcells r) 46)
  have HO0 := Lib.hid ((Row.new w 46 (bcells d)).alloc (.cells (bcells r) 46))
  have HR0 := Lib.hid (Row.new1 w (.cells (bcells d) 46) 46 (bcells r))
  obtain ⟨wz, hwz⟩ : ∃ wz, (w.alloc (.cells (bcells d) 46)).alloc (.cells (bcells r) 46) = wz := ⟨_, rfl⟩
  rw [hwz] at hb0 HO0 HR0
  have i0 : ¬ (n : Int) < 0 := by omega
  have i1 : ((n : Int) == 0) = false := by simp; omega
  obtain ⟨q, hq⟩ : ∃ q, decide (d = r) = q := ⟨_, rfl⟩
  rw [hq]
  have HE := Lib.hid (fun w => (eqD d r hd hr w).trans (by rw [hq]))
  clear hd hr hn hq
  go_enter Tryd.func29, Tryd.ntmps29
  go_wp2_with (first
    | (with_reducible refine wpList_loadG (by with_unfolding_all rfl) (.tmp 8) rfl _ 0 d rfl (range_row HO0.out) HDL.out ?_; have heqa := HE.out)
    | (with_reducible refine wpList_loadG (by with_unfolding_all rfl) (.tmp 9) rfl _ 0 r rfl (range_row HR0.out) HRL.out ?_))
  go_ret
  exact ⟨rfl, hb0⟩
set_option maxRecDepth 100000 in
set_option maxHeartbeats 400000 in
theorem Con_zero_no (d r : List UInt8) (n : Nat) (A : Option Addr) (k c : Nat) (w : World) (hd : d.length = 32) (hr : r.length = 32) : Calls Tryd.prog 29 #[.int .i64 0, .int .i64 (n : Int), .slice A (k + 1) c, .agg (bcells d), .agg (bcells r)] w fun e w' => e = .returned (.bool false) ∧ Below w.heap.size w w' := by
  have HDS := Lib.hid (show (bcells d).size = 32 by rw [bcells_size, hd])
  have HDL := Lib.hid hd
  have HRL := Lib.hid hr
  have hb0 := ((Below.refl w.heap.size w).alloc (Nat.le_refl _) (.cells (bcells d) 46)).alloc (by simp) (.cells (bcells r) 46)
  have HO0 := Lib.hid ((Row.new w 46 (bcells d)).alloc (.cells (bcells r) 46))
  have HR0 := Lib.hid (Row.new1 w (.cells (bcells d) 46) 46 (bcells r))
  obtain ⟨wz, hwz⟩ : ∃ wz, (w.alloc (.cells (bcells d) 46)).alloc (.cells (bcells r) 46) = wz := ⟨_, rfl⟩
  rw [hwz] at hb0 HO0 HR0
  have hle : (((k + 1 : Nat) : Int) == 0) = false := by simp; omega
  have i0 : ¬ (n : Int) < 0 := by omega
  clear hd hr
  go_enter Tryd.func29, Tryd.ntmps29
  go_wp2_with fail
  clear hwz
  have KP : Hid (∀ wq, Below wz.heap.size wz wq → wq.rangeAt w.heap.size 0 (d.map bcell)) := Lib.hid (fun wq hb => range_row (HO0.out.below hb HO0.out.lt))
  have B0 : Below wz.heap.size wz wz.drew := (Below.refl wz.heap.size wz).drew
  have BW0 := hb0.trans (B0.mono hb0.size)
  refine wp_region_noPanic ?_
  refine wp_region_held_drew (S := fun w' => w'.rangeAt w.heap.size 0 (d.map bcell)) (by kernel_rfl) (KP.out _ B0) (fun hHeld => ?_)
  refine takeD (i := 0) (some 28) (.slice A (k + 1) c) rfl rfl (by kernel_rfl) (by kernel_rfl) (by kernel_rfl) (fun _ _ _ h => h) (Or.inl ⟨by rfl, fun _ _ => rfl⟩) hHeld ?_
  simp only [Act.put, List.setIfInBounds_toArray, List.set_cons_zero, List.set_cons_succ]
  refine takeD (i := 1) (some 29) (.int .i64 ((k + 1 : Nat) : Int)) rfl rfl (by kernel_rfl) (by kernel_rfl) (by kernel_rfl) (fun _ _ _ h => h) (yields_len (by rfl) (.tmp 28) rfl A _ c rfl) hHeld ?_
  simp only [Act.put, List.setIfInBounds_toArray, List.set_cons_zero, List.set_cons_succ]
  refine takeD (i := 2) (some 30) (.bool false) rfl rfl (by kernel_rfl) (by kernel_rfl) (by kernel_rfl) (fun _ _ _ h => h) (yields_eqI rfl (.tmp 29) _ rfl ((k + 1 : Nat) : Int) 0 false rfl rfl hle) hHeld ?_
  simp only [Act.put, List.setIfInBounds_toArray, List.set_cons_zero, List.set_cons_succ]
  refine takeD (i := 3) (some 31) (.bool false) rfl rfl (by kernel_rfl) (by kernel_rfl) (by kernel_rfl) (fun _ _ _ h => h) (Or.inl ⟨by rfl, fun _ _ => rfl⟩) hHeld ?_
  simp only [Act.put, List.setIfInBounds_toArray, List.set_cons_zero, List.set_cons_succ]
  refine takeD (i := 4) (some 32) (undef) rfl rfl (by kernel_rfl) (by kernel_rfl) (by kernel_rfl) (fun _ _ _ h => h) (Or.inr ⟨by rfl, rfl⟩) hHeld ?_
  simp only [Act.put, List.setIfInBounds_toArray, List.set_cons_zero, List.set_cons_succ]
  refine takeD (i := 5) (some 33) (undef) rfl rfl (by kernel_rfl) (by kernel_rfl) (by kernel_rfl) (fun _ _ _ h => h) (Or.inr ⟨by rfl, rfl⟩) hHeld ?_
  simp only [Act.put, List.setIfInBounds_toArray, List.set_cons_zero, List.set_cons_succ]
  refine takeD (i := 6) (some 34) (undef) rfl rfl (by kernel_rfl) (by kernel_rfl) (by kernel_rfl) (fun _ _ _ h => h) (Or.inr ⟨by rfl, rfl⟩) hHeld ?_
  simp only [Act.put, List.setIfInBounds_toArray, List.set_cons_zero, List.set_cons_succ]
  refine takeD (i := 7) (some 35) (.bool false) rfl rfl (by kernel_rfl) (by kernel_rfl) (by kernel_rfl) (fun _ _ _ h => h) (Or.inl ⟨by rfl, fun _ _ => rfl⟩) hHeld ?_
  simp only [Act.put, List.setIfInBounds_toArray, List.set_cons_zero, List.set_cons_succ]
  refine takeD (i := 8) (some 10) (.bool false) rfl rfl (by kernel_rfl) (by kernel_rfl) (by kernel_rfl) (fun _ _ _ h => h) (Or.inl ⟨by rfl, fun _ _ => rfl⟩) hHeld ?_
  simp only [Act.put, List.setIfInBounds_toArray, List.set_cons_zero, List.set_cons_succ]
  (try simp only [Act.put, List.setIfInBounds_toArray])
  refine wpAnyH_done (by kernel_rfl) ?_ _
  refine NoPanic.normal ?_
  go_wp2_with fail
  go_ret
  exact ⟨rfl, BW0⟩
set_option maxRecDepth 100000 in
set_option maxHeartbeats 400000 in
theorem Con_all_no (d r : List UInt8) (n : Nat) (A : Option Addr) (k c : Nat) (w : World) (hd : d.length = 32) (hr : r.length = 32) (hn : 1 ≤ n) : Calls Tryd.prog 29 #[.int .i64 (n : Int), .int .i64 (n : Int), .slice A (k + 1) c, .agg (bcells d), .agg (bcells r)] w fun e w' => e = .returned (.bool false) ∧ Below w.heap.size w w' := by
  have HDS := Lib.hid (show (bcells d).size = 32 by rw [bcells_size, hd])
  have HDL := Lib.hid hd
  have HRL := Lib.hid hr
  have hb0 := ((Below.refl w.heap.size w).alloc (Nat.le_refl _) (.cells (bcells d) 46)).alloc (by simp) (.cells (bcells r) 46)
  have HO0 := Lib.hid ((Row.new w 46 (bcells d)).alloc (.cells (bcells r) 46))
  have HR0 := Lib.hid (Row.new1 w (.cells (bcells d) 46) 46 (bcells r))
  obtain ⟨wz, hwz⟩ : ∃ wz, (w.alloc (.cells (bcells d) 46)).alloc (.cells (bcells r) 46) = wz := ⟨_, rfl⟩
  rw [hwz] at hb0 HO0 HR0
  have i0 : ¬ (n : Int) < 0 := by omega
  have i1 : ((n : Int) == 0) = false := by simp; omega
  have hle : (((k + 1 : Nat) : Int) == 0) = false := by simp; omega
  have hle2 : ((k : Int) + 1 == 0) = false := by simp; omega
  clear hd hr hn
  go_enter Tryd.func29, Tryd.ntmps29
  go_wp2
  go_ret
  exact ⟨rfl, hb0⟩
end Go.Proofs.YtbpbpdaohganaaaDoor
