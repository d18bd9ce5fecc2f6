/-
  What the document's own leads answers: where a part leads, its last digest first, and whether it has neither too few digests nor too many (it calls itself).
-/
import Derived.Test.YtojepkhooabjiaaDoorLeadA
namespace Go.Proofs.YtojepkhooabjiaaDoor
open Go.RowKit
set_option maxRecDepth 100000 in
set_option maxHeartbeats 1000000 in
theorem leads_whole (d : List UInt8) (n : Nat) (A : Option Addr) (k c : Nat) (P : List (List UInt8)) (w : World) (hd : d.length = 32) (hD : Ds w A k P) :
    Calls Tryd.prog 43 #[.int .i64 (n : Int), .int .i64 (n : Int), .bool true, .slice A k c, .agg (bcells d)] w (ClimbR w (if P = [] then some (d, d) else none)) := by
  have HDS := Lib.hid (show (bcells d).size = 32 by rw [bcells_size, hd])
  have HDL := Lib.hid hd
  have hb0 := (((Below.refl w.heap.size w).alloc (Nat.le_refl _) (.cells (bcells d) 24)).alloc (by simp) (.cells lit32 24)).alloc (by simp <;> omega) (.cells lit32 24)
  have HB0 := Lib.hid (((Row.new w 24 (bcells d)).alloc (.cells lit32 24)).alloc (.cells lit32 24))
  have HZ0 := Lib.hid ((Row.new1 w (.cells (bcells d) 24) 24 lit32).alloc (.cells lit32 24))
  have HY0 := Lib.hid (Row.new2 w (.cells (bcells d) 24) (.cells lit32 24) 24 lit32)
  obtain ⟨wz, hwz⟩ : ∃ wz, ((w.alloc (.cells (bcells d) 24)).alloc (.cells lit32 24)).alloc (.cells lit32 24) = wz := ⟨_, rfl⟩
  have hsz : w.heap.size + 1 + 1 < wz.heap.size := by rw [← hwz]; simp
  rw [hwz] at hb0 HB0 HZ0 HY0
  obtain ⟨bv, hbv⟩ : ∃ bv, ((k : Int) == 0) = bv := ⟨_, rfl⟩
  have HBV := Lib.hid hbv
  have HP := Lib.hid hD.1
  obtain ⟨r, hr⟩ : ∃ r, (if P = [] then some (d, d) else none) = r := ⟨_, rfl⟩
  have HRR := Lib.hid hr
  rw [hr]
  clear hd hD hr
  go_enter Tryd.func43, Tryd.ntmps43
  go_wp2_with fail
  clear hwz
  have KS : Hid (wz.drew.rangeAt w.heap.size 0 (d.map bcell)) := Lib.hid (range_row (HB0.out.below (Below.refl _ _).drew HB0.out.lt))
  refine wp_region_noPanic ?_
  refine wp_region_held_drew (S := fun w' => w'.rangeAt w.heap.size 0 (d.map bcell)) (by kernel_rfl) KS.out (fun hHeld => ?_)
  refine takeD (i := 0) (some 28) (.agg (bcells d)) rfl rfl (by kernel_rfl) (by kernel_rfl) (by kernel_rfl) (fun _ _ _ h => h) (yields_loadW (by rfl) (.tmp 9) rfl w.heap.size 0 d rfl (fun _ h => h) HDL.out) hHeld ?_
  simp only [Act.put, List.setIfInBounds_toArray, List.set_cons_zero, List.set_cons_succ]
  refine takeD (i := 1) (some 29) (.agg (bcells d)) rfl rfl (by kernel_rfl) (by kernel_rfl) (by kernel_rfl) (fun _ _ _ h => h) (yields_loadW (by rfl) (.tmp 9) rfl w.heap.size 0 d rfl (fun _ h => h) HDL.out) hHeld ?_
  simp only [Act.put, List.setIfInBounds_toArray, List.set_cons_zero, List.set_cons_succ]
  refine takeD (i := 2) (some 30) (.slice A k c) rfl rfl (by kernel_rfl) (by kernel_rfl) (by kernel_rfl) (fun _ _ _ h => h) (Or.inl ⟨by rfl, fun _ _ => rfl⟩) hHeld ?_
  simp only [Act.put, List.setIfInBounds_toArray, List.set_cons_zero, List.set_cons_succ]
  refine takeD (i := 3) (some 31) (.int .i64 (k : Int)) rfl rfl (by kernel_rfl) (by kernel_rfl) (by kernel_rfl) (fun _ _ _ h => h) (yields_len (by rfl) (.tmp 30) rfl A k c rfl) hHeld ?_
  simp only [Act.put, List.setIfInBounds_toArray, List.set_cons_zero, List.set_cons_succ]
  refine takeD (i := 4) (some 32) (.bool bv) rfl rfl (by kernel_rfl) (by kernel_rfl) (by kernel_rfl) (fun _ _ _ h => h) (yields_eqI rfl (.tmp 31) _ rfl (k : Int) 0 bv rfl rfl HBV.out) hHeld ?_
  simp only [Act.put, List.setIfInBounds_toArray, List.set_cons_zero, List.set_cons_succ]
  have B0 : Below wz.heap.size wz wz.drew := (Below.refl wz.heap.size wz).drew
  have HZ1 := Lib.hid (HZ0.out.below B0 HZ0.out.lt)
  have HY1 := Lib.hid (HY0.out.below B0 HY0.out.lt)
  have HB1 := Lib.hid (HB0.out.below B0 HB0.out.lt)
  have BW := hb0.trans (B0.mono hb0.size)
  refine wpAnyH_ready (rs := [5]) (by kernel_rfl) (by decide) ?_
  refine AllReadyH.cons rfl (fun K' hK => ?_) AllReadyH.nil
  refine step_store_row Tryd.agg25 rfl (.tmp 10) (.tmp 28) rfl _ _ rfl rfl 24 lit32 HZ1.out HDS.out lit32_size (bcells_one _) ?_
  intro wu hru hou
  have HRU := Lib.hid hru
  have HYU := Lib.hid (HY1.out.only hou (by omega))
  have HKU0 := Lib.hid (HB1.out.only hou (by omega))
  have BU := BW.trans (hou.below (B := w.heap.size) (by omega) BW.size)
  clear hru
  refine hK.out _ _ (range_row HKU0.out) (fun hHeld21 => ?_)
  clear hK
  refine wpAnyH_ready (rs := [6]) (by kernel_rfl) (by decide) ?_
  refine AllReadyH.cons rfl (fun K' hK => ?_) AllReadyH.nil
  refine step_store_row Tryd.agg25 rfl (.tmp 11) (.tmp 29) rfl _ _ rfl rfl 24 lit32 HYU.out HDS.out lit32_size (bcells_one _) ?_
  intro wv hrv hov
  have HYV := Lib.hid hrv
  have HRV := Lib.hid (HRU.out.only hov (by omega))
  have HKV0 := Lib.hid (HKU0.out.only hov (by omega))
  have BV := BU.trans (hov.below (B := w.heap.size) (by omega) BU.size)
  clear hrv
  refine hK.out _ _ (range_row HKV0.out) (fun hHeld22 => ?_)
  clear hK
  refine takeD (i := 7) (some 12) (.bool bv) rfl rfl (by kernel_rfl) (by kernel_rfl) (by kernel_rfl) (fun _ _ _ h => h) (Or.inl ⟨by rfl, fun _ _ => rfl⟩) hHeld22 ?_
  (try simp only [Act.put, List.setIfInBounds_toArray])
  refine wpAnyH_done (by kernel_rfl) ?_ _
  refine NoPanic.normal ?_
  go_wp2_with fail
  refine bodyPost_ret (results_row12 Tryd.agg25 Tryd.results43 rfl rfl rfl HRV.out HDS.out HYV.out HDS.out) rfl ⟨d, d, bv, rfl, HDL.out, HDL.out, ?_, BV⟩
  have hp := HP.out
  have hb := HBV.out
  rw [← HRR.out]
  by_cases hq0 : P = []
  · rw [if_pos hq0]
    refine ⟨?_, rfl⟩
    rw [← hb]
    subst hq0
    have : k = 0 := hp.symm
    subst this
    rfl
  · rw [if_neg hq0]
    show bv = false
    rw [← hb]
    have : k ≠ 0 := fun h0 => hq0 (List.eq_nil_of_length_eq_zero (by omega))
    simp
    omega
set_option maxRecDepth 100000 in
set_option maxHeartbeats 1000000 in
theorem leads_none1 (d : List UInt8) (n : Nat) (A : Option Addr) (c : Nat) (w : World) (hd : d.length = 32) :
    Calls Tryd.prog 43 #[.int .i64 (n : Int), .int .i64 (n : Int), .bool false, .slice A 0 c, .agg (bcells d)] w (ClimbR w none) := by
  have HDL := Lib.hid hd
  have hb0 := (((Below.refl w.heap.size w).alloc (Nat.le_refl _) (.cells (bcells d) 24)).alloc (by simp) (.cells lit32 24)).alloc (by simp <;> omega) (.cells lit32 24)
  have HZ0 := Lib.hid ((Row.new1 w (.cells (bcells d) 24) 24 lit32).alloc (.cells lit32 24))
  have HY0 := Lib.hid (Row.new2 w (.cells (bcells d) 24) (.cells lit32 24) 24 lit32)
  obtain ⟨wz, hwz⟩ : ∃ wz, ((w.alloc (.cells (bcells d) 24)).alloc (.cells lit32 24)).alloc (.cells lit32 24) = wz := ⟨_, rfl⟩
  have hsz : w.heap.size + 1 + 1 < wz.heap.size := by rw [← hwz]; simp
  rw [hwz] at hb0 HZ0 HY0
  clear hd
  go_enter Tryd.func43, Tryd.ntmps43
  go_wp2_with (first
    | (with_reducible refine wpList_zeroD rfl rfl ?_)
    | (with_reducible refine wpList_store_row Tryd.agg25 rfl (.tmp 10) (.tmp 36) rfl _ _ rfl rfl 24 lit32 HZ0.out lit32_size lit32_size lit32_one ?_; intro w5 hr5 ho5; have HF5 := Lib.hid hr5; have HA5 := Lib.hid (HY0.out.only ho5 (by omega)); have hb5 := hb0.trans (ho5.below (B := w.heap.size) (by omega) hb0.size); clear hr5)
    | (with_reducible refine wpList_store_row Tryd.agg25 rfl (.tmp 11) (.tmp 37) rfl _ _ rfl rfl 24 lit32 HA5.out lit32_size lit32_size lit32_one ?_; intro w6 hr6 ho6; have HA6 := Lib.hid hr6; have HF6 := Lib.hid (HF5.out.only ho6 (by omega)); have hb6 := hb5.trans (ho6.below (B := w.heap.size) (by omega) hb5.size); clear hr6))
  exact bodyPost_ret (results_row12 Tryd.agg25 Tryd.results43 rfl rfl rfl HF6.out lit32_size HA6.out lit32_size) rfl ⟨zero32, zero32, false, rfl, zero32_length, zero32_length, rfl, hb6⟩
set_option maxRecDepth 100000 in
set_option maxHeartbeats 1000000 in
theorem leads_none2 (d : List UInt8) (i n : Nat) (wb : Bool) (hin : i ≠ n) (A : Option Addr) (c : Nat) (w : World) (hd : d.length = 32) :
    Calls Tryd.prog 43 #[.int .i64 (i : Int), .int .i64 (n : Int), .bool wb, .slice A 0 c, .agg (bcells d)] w (ClimbR w none) := by
  have HDL := Lib.hid hd
  have hb0 := (((Below.refl w.heap.size w).alloc (Nat.le_refl _) (.cells (bcells d) 24)).alloc (by simp) (.cells lit32 24)).alloc (by simp <;> omega) (.cells lit32 24)
  have HZ0 := Lib.hid ((Row.new1 w (.cells (bcells d) 24) 24 lit32).alloc (.cells lit32 24))
  have HY0 := Lib.hid (Row.new2 w (.cells (bcells d) 24) (.cells lit32 24) 24 lit32)
  obtain ⟨wz, hwz⟩ : ∃ wz, ((w.alloc (.cells (bcells d) 24)).alloc (.cells lit32 24)).alloc (.cells lit32 24) = wz := ⟨_, rfl⟩
  have hsz : w.heap.size + 1 + 1 < wz.heap.size := by rw [← hwz]; simp
  rw [hwz] at hb0 HZ0 HY0
  have hne : ((i : Int) == (n : Int)) = false := by simp; omega
  clear hin
  clear hd
  go_enter Tryd.func43, Tryd.ntmps43
  go_wp2_with (first
    | (with_reducible refine wpList_zeroD rfl rfl ?_)
    | (with_reducible refine wpList_store_row Tryd.agg25 rfl (.tmp 10) (.tmp 36) rfl _ _ rfl rfl 24 lit32 HZ0.out lit32_size lit32_size lit32_one ?_; intro w5 hr5 ho5; have HF5 := Lib.hid hr5; have HA5 := Lib.hid (HY0.out.only ho5 (by omega)); have hb5 := hb0.trans (ho5.below (B := w.heap.size) (by omega) hb0.size); clear hr5)
    | (with_reducible refine wpList_store_row Tryd.agg25 rfl (.tmp 11) (.tmp 37) rfl _ _ rfl rfl 24 lit32 HA5.out lit32_size lit32_size lit32_one ?_; intro w6 hr6 ho6; have HA6 := Lib.hid hr6; have HF6 := Lib.hid (HF5.out.only ho6 (by omega)); have hb6 := hb5.trans (ho6.below (B := w.heap.size) (by omega) hb5.size); clear hr6))
  exact bodyPost_ret (results_row12 Tryd.agg25 Tryd.results43 rfl rfl rfl HF6.out lit32_size HA6.out lit32_size) rfl ⟨zero32, zero32, false, rfl, zero32_length, zero32_length, rfl, hb6⟩
set_option maxRecDepth 100000 in
set_option maxHeartbeats 1000000 in
theorem leads_all (d : List UInt8) (n : Nat) (A : Option Addr) (k c : Nat) (P : List (List UInt8)) (x : List UInt8) (w : World) (hd : d.length = 32) (hk : k ≤ 1024) (hD : Ds w A (k + 1) (P ++ [x])) :
    Calls Tryd.prog 43 #[.int .i64 (n : Int), .int .i64 (n : Int), .bool false, .slice A (k + 1) c, .agg (bcells d)] w (ClimbR w (if P = [] then some (x, x) else none)) := by
  have hle1 : ((k : Int) + 1 == 0) = false := by simp; omega
  have hle0 : (((k + 1 : Nat) : Int) == 0) = false := by simp; omega
  have hPl : P.length = k := by have := hD.1; rw [List.length_append] at this; simpa using this
  obtain ⟨b, off, y, rfl, hb, hy, hyl, hB⟩ := hD.get (k := k) (by omega)
  obtain rfl : x = y := by
    rw [List.getElem?_append_right (by omega), hPl, Nat.sub_self] at hy
    simpa using hy
  obtain ⟨o1, ho1⟩ : ∃ o, off + 32 * k = o := ⟨_, rfl⟩
  rw [ho1] at hB
  have HO1 := Lib.hid ho1
  have HXL := Lib.hid hyl
  have HXS := Lib.hid (show (bcells x).size = 32 by rw [bcells_size, hyl])
  have HDL := Lib.hid hd
  have hb0 := (((Below.refl w.heap.size w).alloc (Nat.le_refl _) (.cells (bcells d) 24)).alloc (by simp) (.cells lit32 24)).alloc (by simp <;> omega) (.cells lit32 24)
  have HZ0 := Lib.hid ((Row.new1 w (.cells (bcells d) 24) 24 lit32).alloc (.cells lit32 24))
  have HY0 := Lib.hid (Row.new2 w (.cells (bcells d) 24) (.cells lit32 24) 24 lit32)
  obtain ⟨wz, hwz⟩ : ∃ wz, ((w.alloc (.cells (bcells d) 24)).alloc (.cells lit32 24)).alloc (.cells lit32 24) = wz := ⟨_, rfl⟩
  have hsz : w.heap.size + 1 + 1 < wz.heap.size := by rw [← hwz]; simp
  rw [hwz] at hb0 HZ0 HY0
  have HBX := Lib.hid (hB.below hb0).range
  obtain ⟨bv, hbv⟩ : ∃ bv, ((k : Int) + 1 == 1) = bv := ⟨_, rfl⟩
  have HBV := Lib.hid hbv
  have HP := Lib.hid hPl
  obtain ⟨r, hr⟩ : ∃ r, (if P = [] then some (x, x) else none) = r := ⟨_, rfl⟩
  have HRR := Lib.hid hr
  rw [hr]
  clear hd hD hr hPl hB hy hyl ho1 hb hbv
  go_enter Tryd.func43, Tryd.ntmps43
  go_wp2_with (first
    | (with_reducible refine wpList_indexO rfl (.tmp 38) _ rfl b off (k + 1) c k o1 _ rfl rfl rfl (by omega) HO1.out ?_)
    | (with_reducible refine wpList_loadD rfl (.tmp 42) rfl b o1 x rfl HBX.out HXL.out ?_)
    | (with_reducible refine wpList_store_row Tryd.agg25 rfl (.tmp 13) (.tmp 43) rfl _ _ rfl rfl 24 lit32 (Row.new wz 24 lit32) HXS.out lit32_size (bcells_one _) ?_; intro w2 hr2 ho2; have HL2 := Lib.hid hr2; have b2 : Below wz.heap.size wz w2 := ((Below.refl _ _).alloc (Nat.le_refl _) _).trans (ho2.below (Nat.le_refl _) (by simp)); have hb2 := hb0.trans (b2.mono hb0.size); have hlt2 := HL2.out.lt; have HZ2 := Lib.hid (HZ0.out.below b2 (by omega)); have HY2 := Lib.hid (HY0.out.below b2 (by omega)); clear hr2))
  clear hwz
  have KS : Hid (w2.drew.rangeAt wz.heap.size 0 (x.map bcell)) := Lib.hid (range_row (HL2.out.below (Below.refl _ _).drew hlt2))
  refine wp_region_noPanic ?_
  refine wp_region_held_drew (S := fun w' => w'.rangeAt wz.heap.size 0 (x.map bcell)) (by kernel_rfl) KS.out (fun hHeld => ?_)
  refine takeD (i := 0) (some 47) (.agg (bcells x)) rfl rfl (by kernel_rfl) (by kernel_rfl) (by kernel_rfl) (fun _ _ _ h => h) (yields_loadW (by rfl) (.tmp 13) rfl wz.heap.size 0 x rfl (fun _ h => h) HXL.out) hHeld ?_
  simp only [Act.put, List.setIfInBounds_toArray, List.set_cons_zero, List.set_cons_succ]
  refine takeD (i := 1) (some 48) (.agg (bcells x)) rfl rfl (by kernel_rfl) (by kernel_rfl) (by kernel_rfl) (fun _ _ _ h => h) (yields_loadW (by rfl) (.tmp 13) rfl wz.heap.size 0 x rfl (fun _ h => h) HXL.out) hHeld ?_
  simp only [Act.put, List.setIfInBounds_toArray, List.set_cons_zero, List.set_cons_succ]
  refine takeD (i := 2) (some 49) (.slice (some ⟨b, off, none⟩) (k + 1) c) rfl rfl (by kernel_rfl) (by kernel_rfl) (by kernel_rfl) (fun _ _ _ h => h) (Or.inl ⟨by rfl, fun _ _ => rfl⟩) hHeld ?_
  simp only [Act.put, List.setIfInBounds_toArray, List.set_cons_zero, List.set_cons_succ]
  refine takeD (i := 3) (some 50) (.int .i64 ((k + 1 : Nat) : Int)) rfl rfl (by kernel_rfl) (by kernel_rfl) (by kernel_rfl) (fun _ _ _ h => h) (yields_len (by rfl) (.tmp 49) rfl _ (k + 1) c rfl) hHeld ?_
  simp only [Act.put, List.setIfInBounds_toArray, List.set_cons_zero, List.set_cons_succ]
  refine takeD (i := 4) (some 51) (.bool bv) rfl rfl (by kernel_rfl) (by kernel_rfl) (by kernel_rfl) (fun _ _ _ h => h) (yields_eqI rfl (.tmp 50) _ rfl ((k + 1 : Nat) : Int) 1 bv rfl rfl HBV.out) hHeld ?_
  simp only [Act.put, List.setIfInBounds_toArray, List.set_cons_zero, List.set_cons_succ]
  have B0 : Below w2.heap.size w2 w2.drew := (Below.refl w2.heap.size w2).drew
  have HZ1 := Lib.hid (HZ2.out.below B0 HZ2.out.lt)
  have HY1 := Lib.hid (HY2.out.below B0 HY2.out.lt)
  have HL1 := Lib.hid (HL2.out.below B0 hlt2)
  have BW := hb2.trans (B0.mono hb2.size)
  refine wpAnyH_ready (rs := [5]) (by kernel_rfl) (by decide) ?_
  refine AllReadyH.cons rfl (fun K' hK => ?_) AllReadyH.nil
  refine step_store_row Tryd.agg25 rfl (.tmp 10) (.tmp 47) rfl _ _ rfl rfl 24 lit32 HZ1.out HXS.out lit32_size (bcells_one _) ?_
  intro wu hru hou
  have HRU := Lib.hid hru
  have HYU := Lib.hid (HY1.out.only hou (by omega))
  have HKU0 := Lib.hid (HL1.out.only hou (by omega))
  have BU := BW.trans (hou.below (B := w.heap.size) (by omega) BW.size)
  clear hru
  refine hK.out _ _ (range_row HKU0.out) (fun hHeld21 => ?_)
  clear hK
  refine wpAnyH_ready (rs := [6]) (by kernel_rfl) (by decide) ?_
  refine AllReadyH.cons rfl (fun K' hK => ?_) AllReadyH.nil
  refine step_store_row Tryd.agg25 rfl (.tmp 11) (.tmp 48) rfl _ _ rfl rfl 24 lit32 HYU.out HXS.out lit32_size (bcells_one _) ?_
  intro wv hrv hov
  have HYV := Lib.hid hrv
  have HRV := Lib.hid (HRU.out.only hov (by omega))
  have HKV0 := Lib.hid (HKU0.out.only hov (by omega))
  have BV := BU.trans (hov.below (B := w.heap.size) (by omega) BU.size)
  clear hrv
  refine hK.out _ _ (range_row HKV0.out) (fun hHeld22 => ?_)
  clear hK
  refine takeD (i := 7) (some 12) (.bool bv) rfl rfl (by kernel_rfl) (by kernel_rfl) (by kernel_rfl) (fun _ _ _ h => h) (Or.inl ⟨by rfl, fun _ _ => rfl⟩) hHeld22 ?_
  (try simp only [Act.put, List.setIfInBounds_toArray])
  refine wpAnyH_done (by kernel_rfl) ?_ _
  refine NoPanic.normal ?_
  go_wp2_with fail
  refine bodyPost_ret (results_row12 Tryd.agg25 Tryd.results43 rfl rfl rfl HRV.out HXS.out HYV.out HXS.out) rfl ⟨x, x, bv, rfl, HXL.out, HXL.out, ?_, BV⟩
  have hp := HP.out
  have hb := HBV.out
  rw [← HRR.out]
  by_cases hq0 : P = []
  · rw [if_pos hq0]
    refine ⟨?_, rfl⟩
    rw [← hb]
    subst hq0
    have : k = 0 := hp.symm
    subst this
    rfl
  · rw [if_neg hq0]
    show bv = false
    rw [← hb]
    have : k ≠ 0 := fun h0 => hq0 (List.eq_nil_of_length_eq_zero (by omega))
    simp
    omega
set_option maxRecDepth 100000 in
set_option maxHeartbeats 2000000 in
theorem leads_low (d : List UInt8) (i h n k : Nat) (wb : Bool) (A : Option Addr) (c : Nat) (P : List (List UInt8)) (x : List UInt8) (w : World) (r : Option (List UInt8 × List UInt8)) (hd : d.length = 32) (h2 : 2 ≤ n) (hs : splitN n = h) (hn : n ≤ 9223372036854775807) (hi : i ≤ h) (hin : i < n) (hk : k ≤ 1024) (hc : k + 1 ≤ c) (hD : Ds w A (k + 1) (P ++ [x])) (hF : First w) (hT : Tab 1 w)
    (h1 : ∀ A' c' w', k ≤ c' → Ds w' A' k P → First w' → Tab 1 w' → Calls Tryd.prog 43 #[.int .i64 (i : Int), .int .i64 (h : Int), .bool wb, .slice A' k c', .agg (bcells d)] w' (ClimbR w' r)) :
    Calls Tryd.prog 43 #[.int .i64 (i : Int), .int .i64 (n : Int), .bool wb, .slice A (k + 1) c, .agg (bcells d)] w (ClimbR w (r.map fun v => (v.1, nodeL v.2 x))) := by
  have hlt := splitN_lt h2
  rw [hs] at hlt
  have HSP := Lib.hid (fun w => show Calls Tryd.prog 30 #[.int .i64 (n : Int)] w fun e w' => e = .returned (.int .i64 (h : Int)) ∧ w = w' by have q := RefSplit_any n w h2 hn; rwa [hs] at q)
  have hne : ((i : Int) == (n : Int)) = false := by simp; omega
  have i0 : (i : Int) ≤ (h : Int) := by omega
  have hle1 : ((k : Int) + 1 == 0) = false := by simp; omega
  have hle0 : (((k + 1 : Nat) : Int) == 0) = false := by simp; omega
  have hPl : P.length = k := by have := hD.1; rw [List.length_append] at this; simpa using this
  obtain ⟨b, off, y, rfl, hb, hy, hyl, hB⟩ := hD.get (k := k) (by omega)
  obtain rfl : x = y := by
    rw [List.getElem?_append_right (by omega), hPl, Nat.sub_self] at hy
    simpa using hy
  obtain ⟨o1, ho1⟩ : ∃ o, off + 32 * k = o := ⟨_, rfl⟩
  rw [ho1] at hB
  have HO1 := Lib.hid ho1
  have HXL := Lib.hid hyl
  have HXS := Lib.hid (show (bcells x).size = 32 by rw [bcells_size, hyl])
  have HDS := Lib.hid (show (bcells d).size = 32 by rw [bcells_size, hd])
  have HDL := Lib.hid hd
  have hb0 := (((Below.refl w.heap.size w).alloc (Nat.le_refl _) (.cells (bcells d) 24)).alloc (by simp) (.cells lit32 24)).alloc (by simp <;> omega) (.cells lit32 24)
  have HB0 := Lib.hid (((Row.new w 24 (bcells d)).alloc (.cells lit32 24)).alloc (.cells lit32 24))
  have HZ0 := Lib.hid ((Row.new1 w (.cells (bcells d) 24) 24 lit32).alloc (.cells lit32 24))
  have HY0 := Lib.hid (Row.new2 w (.cells (bcells d) 24) (.cells lit32 24) 24 lit32)
  obtain ⟨wz, hwz⟩ : ∃ wz, ((w.alloc (.cells (bcells d) 24)).alloc (.cells lit32 24)).alloc (.cells lit32 24) = wz := ⟨_, rfl⟩
  have hsz : w.heap.size + 1 + 1 < wz.heap.size := by rw [← hwz]; simp
  rw [hwz] at hb0 HB0 HZ0 HY0
  have HBX := Lib.hid (hB.below hb0).range
  have HD := Lib.hid hD
  have HPT := Lib.hid (show (P ++ [x]).take k = P by rw [← hPl, List.take_left])
  have HC := Lib.hid h1
  have HF := Lib.hid hF
  have HT := Lib.hid hT
  clear hd hs hn hi hin hD hF hT h1 hlt hPl hB hy hyl ho1 hb h2
  go_enter Tryd.func43, Tryd.ntmps43
  go_wp2_with (first
    | (with_reducible refine wpList_indexO rfl (.tmp 38) _ rfl b off (k + 1) c k o1 _ rfl rfl rfl (by omega) HO1.out ?_)
    | (with_reducible refine wpList_loadD rfl (.tmp 42) rfl b o1 x rfl HBX.out HXL.out ?_)
    | (with_reducible refine wpList_store_row Tryd.agg25 rfl (.tmp 13) (.tmp 43) rfl _ _ rfl rfl 24 lit32 (Row.new wz 24 lit32) HXS.out lit32_size (bcells_one _) ?_; intro w2 hr2 ho2; have HL2 := Lib.hid hr2; have b2 : Below wz.heap.size wz w2 := ((Below.refl _ _).alloc (Nat.le_refl _) _).trans (ho2.below (Nat.le_refl _) (by simp)); have hb2 := hb0.trans (b2.mono hb0.size); have hlt2 := HL2.out.lt; have HB2 := Lib.hid (HB0.out.below b2 (by omega)); have HZ2 := Lib.hid (HZ0.out.below b2 (by omega)); have HY2 := Lib.hid (HY0.out.below b2 (by omega)); clear hr2)
    | (go_at_call 30; refine (HSP.out _).mono ?_; rintro e1 w1 ⟨rfl, rfl⟩)
    | (with_reducible refine wpList_headD rfl (.tmp 52) (.tmp 55) rfl (some ⟨b, off, none⟩) (k + 1) c k _ rfl rfl rfl (by omega) hc ?_; intro A3 d3 _; have HD3 := Lib.hid (show Ds w A3 k P by rw [← HPT.out]; exact d3 w _ HD.out); clear d3)
    | (with_reducible refine wpList_load_row Tryd.agg25 rfl (.tmp 9) rfl _ rfl 24 _ HB2.out HDS.out ?_)
    | (go_at_call 43; refine (HC.out A3 c w2 (by omega) (HD3.out.below hb2) (HF.out.below hb2) (HT.out.below hb2)).mono ?_; rintro e4 w4 ⟨f, a, is, rfl, hfl, hal, hres, hb4⟩; have HFL := Lib.hid hfl; have HAL := Lib.hid hal; have HRS := Lib.hid hres; have HFS := Lib.hid (show (bcells f).size = 32 by rw [bcells_size, hfl]); have HAS := Lib.hid (show (bcells a).size = 32 by rw [bcells_size, hal]); have HL4 := Lib.hid (HL2.out.below hb4 hlt2); have HZ4 := Lib.hid (HZ2.out.below hb4 HZ2.out.lt); have HY4 := Lib.hid (HY2.out.below hb4 HY2.out.lt); have hb4' := hb2.trans (hb4.mono hb2.size); have hs4 := hb4.size; clear hfl hal hres)
    | (with_reducible refine wpList_store_row Tryd.agg25 rfl (.tmp 16) (.tmp 69) rfl _ _ rfl rfl 24 lit32 ((Row.new w4 24 lit32).alloc (.cells lit32 24)) HFS.out lit32_size (bcells_one _) ?_; intro w5 hr5 ho5; have HV5 := Lib.hid hr5; have HW5 := Lib.hid ((Row.new1 w4 (.cells lit32 24) 24 lit32).only ho5 (by omega)); have b5 : Below w4.heap.size w4 w5 := (((Below.refl w4.heap.size w4).alloc (Nat.le_refl _) (.cells lit32 24)).alloc (by simp) (.cells lit32 24)).trans (ho5.below (Nat.le_refl _) (by simp; omega)); have hb5 := hb4'.trans (b5.mono hb4'.size); clear hr5)
    | (with_reducible refine wpList_store_row Tryd.agg25 rfl (.tmp 17) (.tmp 70) rfl _ _ rfl rfl 24 lit32 HW5.out HAS.out lit32_size (bcells_one _) ?_; intro w6 hr6 ho6; have HW6 := Lib.hid hr6; have HV6 := Lib.hid (HV5.out.only ho6 (by omega)); have b6 : Below w4.heap.size w4 w6 := b5.trans (ho6.below (by omega) b5.size); have hb6 := hb4'.trans (b6.mono hb4'.size); have HL6 := Lib.hid (HL4.out.below b6 HL4.out.lt); have HZ6 := Lib.hid (HZ4.out.below b6 HZ4.out.lt); have HY6 := Lib.hid (HY4.out.below b6 HY4.out.lt); clear hr6))
  clear hwz
  obtain ⟨ga, hga⟩ : ∃ g, g = w4.heap.size := ⟨_, rfl⟩
  rw [← hga] at HV6 HW6 ⊢
  have hga1 : wz.heap.size < ga := by have := HL4.out.lt; omega
  clear hga
  have B0 : Below w6.heap.size w6 w6.drew := (Below.refl w6.heap.size w6).drew
  have HV1 := Lib.hid (HV6.out.below B0 HV6.out.lt)
  have HW1 := Lib.hid (HW6.out.below B0 HW6.out.lt)
  have HL1 := Lib.hid (HL6.out.below B0 HL6.out.lt)
  have HZ1 := Lib.hid (HZ6.out.below B0 HZ6.out.lt)
  have HY1 := Lib.hid (HY6.out.below B0 HY6.out.lt)
  have BW := hb6.trans (B0.mono hb6.size)
  refine wp_region_noPanic ?_
  refine wp_region_held_drew (S := fun w' => w'.rangeAt ga 0 (f.map bcell) ∧ w'.rangeAt (ga + 1) 0 (a.map bcell) ∧ w'.rangeAt wz.heap.size 0 (x.map bcell)) (by kernel_rfl) ⟨range_row HV1.out, range_row HW1.out, range_row HL1.out⟩ (fun hHeld => ?_)
  refine takeD (i := 0) (some 72) (.agg (bcells f)) rfl rfl (by kernel_rfl) (by kernel_rfl) (by kernel_rfl) (fun _ _ _ h => h) (yields_loadW (by rfl) (.tmp 16) rfl ga 0 f rfl (fun _ h => h.1) HFL.out) hHeld ?_
  simp only [Act.put, List.setIfInBounds_toArray, List.set_cons_zero, List.set_cons_succ]
  refine takeD (i := 1) (some 73) (.agg (bcells a)) rfl rfl (by kernel_rfl) (by kernel_rfl) (by kernel_rfl) (fun _ _ _ h => h) (yields_loadW (by rfl) (.tmp 17) rfl (ga + 1) 0 a rfl (fun _ h => h.2.1) HAL.out) hHeld ?_
  simp only [Act.put, List.setIfInBounds_toArray, List.set_cons_zero, List.set_cons_succ]
  refine takeD (i := 2) (some 74) (.agg (bcells x)) rfl rfl (by kernel_rfl) (by kernel_rfl) (by kernel_rfl) (fun _ _ _ h => h) (yields_loadW (by rfl) (.tmp 13) rfl wz.heap.size 0 x rfl (fun _ h => h.2.2) HXL.out) hHeld ?_
  simp only [Act.put, List.setIfInBounds_toArray, List.set_cons_zero, List.set_cons_succ]
  refine takeD (i := 4) (some 76) (.bool is) rfl rfl (by kernel_rfl) (by kernel_rfl) (by kernel_rfl) (fun _ _ _ h => h) (Or.inl ⟨by rfl, fun _ _ => rfl⟩) hHeld ?_
  simp only [Act.put, List.setIfInBounds_toArray, List.set_cons_zero, List.set_cons_succ]
  refine wpAnyH_ready (rs := [3]) (by kernel_rfl) (by decide) ?_
  refine AllReadyH.cons rfl (fun K' hK => ?_) AllReadyH.nil
  go_simp
  refine (RefNode_any a x w6.drew HAL.out HXL.out (HF.out.below BW) (HT.out.below BW)).mono ?_
  rintro e7 w7 ⟨rfl, hb7⟩
  have HV7 := Lib.hid (HV1.out.below hb7 HV1.out.lt)
  have HW7 := Lib.hid (HW1.out.below hb7 HW1.out.lt)
  have HL7 := Lib.hid (HL1.out.below hb7 HL1.out.lt)
  have HZ7 := Lib.hid (HZ1.out.below hb7 HZ1.out.lt)
  have HY7 := Lib.hid (HY1.out.below hb7 HY1.out.lt)
  have BW7 := BW.trans (hb7.mono BW.size)
  have HNS := Lib.hid (show (bcells (nodeL a x)).size = 32 by rw [bcells_size, nodeL_length])
  refine hK.out _ _ ⟨range_row HV7.out, range_row HW7.out, range_row HL7.out⟩ (fun hHeld7 => ?_)
  clear hK
  refine wpAnyH_ready (rs := [5]) (by kernel_rfl) (by decide) ?_
  refine AllReadyH.cons rfl (fun K' hK => ?_) AllReadyH.nil
  refine step_store_row Tryd.agg25 rfl (.tmp 10) (.tmp 72) rfl _ _ rfl rfl 24 lit32 HZ7.out HFS.out lit32_size (bcells_one _) ?_
  intro wu hru hou
  have HRU := Lib.hid hru
  have HYU := Lib.hid (HY7.out.only hou (by omega))
  have HKU0 := Lib.hid (HV7.out.only hou (by omega))
  have HKU1 := Lib.hid (HW7.out.only hou (by omega))
  have HKU2 := Lib.hid (HL7.out.only hou (by omega))
  have BU := BW7.trans (hou.below (B := w.heap.size) (by omega) BW7.size)
  clear hru
  refine hK.out _ _ ⟨range_row HKU0.out, range_row HKU1.out, range_row HKU2.out⟩ (fun hHeld21 => ?_)
  clear hK
  refine wpAnyH_ready (rs := [6]) (by kernel_rfl) (by decide) ?_
  refine AllReadyH.cons rfl (fun K' hK => ?_) AllReadyH.nil
  refine step_store_row Tryd.agg25 rfl (.tmp 11) (.tmp 75) rfl _ _ rfl rfl 24 lit32 HYU.out HNS.out lit32_size (bcells_one _) ?_
  intro wv hrv hov
  have HYV := Lib.hid hrv
  have HRV := Lib.hid (HRU.out.only hov (by omega))
  have HKV0 := Lib.hid (HKU0.out.only hov (by omega))
  have HKV1 := Lib.hid (HKU1.out.only hov (by omega))
  have HKV2 := Lib.hid (HKU2.out.only hov (by omega))
  have BV := BU.trans (hov.below (B := w.heap.size) (by omega) BU.size)
  clear hrv
  refine hK.out _ _ ⟨range_row HKV0.out, range_row HKV1.out, range_row HKV2.out⟩ (fun hHeld22 => ?_)
  clear hK
  refine takeD (i := 7) (some 12) (.bool is) rfl rfl (by kernel_rfl) (by kernel_rfl) (by kernel_rfl) (fun _ _ _ h => h) (Or.inl ⟨by rfl, fun _ _ => rfl⟩) hHeld22 ?_
  (try simp only [Act.put, List.setIfInBounds_toArray])
  refine wpAnyH_done (by kernel_rfl) ?_ _
  refine NoPanic.normal ?_
  go_wp2_with fail
  refine bodyPost_ret (results_row12 Tryd.agg25 Tryd.results43 rfl rfl rfl HRV.out HFS.out HYV.out HNS.out) rfl ⟨f, nodeL a x, is, rfl, HFL.out, nodeL_length a x, ?_, BV⟩
  have hres := HRS.out
  cases r with
  | none => exact hres
  | some v => exact ⟨hres.1, by rw [hres.2]⟩
set_option maxRecDepth 100000 in
set_option maxHeartbeats 2000000 in
theorem leads_high (d : List UInt8) (i h n k : Nat) (I N : Nat) (hI : i - h = I) (hN : n - h = N) (wb : Bool) (A : Option Addr) (c : Nat) (P : List (List UInt8)) (x : List UInt8) (w : World) (r : Option (List UInt8 × List UInt8)) (hd : d.length = 32) (h2 : 2 ≤ n) (hs : splitN n = h) (hn : n ≤ 9223372036854775807) (hi : h < i) (hin : i < n) (hk : k ≤ 1024) (hc : k + 1 ≤ c) (hD : Ds w A (k + 1) (P ++ [x])) (hF : First w) (hT : Tab 1 w)
    (h1 : ∀ A' c' w', k ≤ c' → Ds w' A' k P → First w' → Tab 1 w' → Calls Tryd.prog 43 #[.int .i64 (I : Int), .int .i64 (N : Int), .bool false, .slice A' k c', .agg (bcells d)] w' (ClimbR w' r)) :
    Calls Tryd.prog 43 #[.int .i64 (i : Int), .int .i64 (n : Int), .bool wb, .slice A (k + 1) c, .agg (bcells d)] w (ClimbR w (r.map fun v => (nodeL x v.1, nodeL x v.2))) := by
  have hlt := splitN_lt h2
  rw [hs] at hlt
  have HSP := Lib.hid (fun w => show Calls Tryd.prog 30 #[.int .i64 (n : Int)] w fun e w' => e = .returned (.int .i64 (h : Int)) ∧ w = w' by have q := RefSplit_any n w h2 hn; rwa [hs] at q)
  have hne : ((i : Int) == (n : Int)) = false := by simp; omega
  have i0 : ¬ (i : Int) ≤ (h : Int) := by omega
  have e1 : wrap64 ((i : Int) - (h : Int)) = (I : Int) := by unfold wrap64; omega
  have e2 : wrap64 ((n : Int) - (h : Int)) = (N : Int) := by unfold wrap64; omega
  have hle1 : ((k : Int) + 1 == 0) = false := by simp; omega
  have hle0 : (((k + 1 : Nat) : Int) == 0) = false := by simp; omega
  have hPl : P.length = k := by have := hD.1; rw [List.length_append] at this; simpa using this
  obtain ⟨b, off, y, rfl, hb, hy, hyl, hB⟩ := hD.get (k := k) (by omega)
  obtain rfl : x = y := by
    rw [List.getElem?_append_right (by omega), hPl, Nat.sub_self] at hy
    simpa using hy
  obtain ⟨o1, ho1⟩ : ∃ o, off + 32 * k = o := ⟨_, rfl⟩
  rw [ho1] at hB
  have HO1 := Lib.hid ho1
  have HXL := Lib.hid hyl
  have HXS := Lib.hid (show (bcells x).size = 32 by rw [bcells_size, hyl])
  have HDS := Lib.hid (show (bcells d).size = 32 by rw [bcells_size, hd])
  have HDL := Lib.hid hd
  have hb0 := (((Below.refl w.heap.size w).alloc (Nat.le_refl _) (.cells (bcells d) 24)).alloc (by simp) (.cells lit32 24)).alloc (by simp <;> omega) (.cells lit32 24)
  have HB0 := Lib.hid (((Row.new w 24 (bcells d)).alloc (.cells lit32 24)).alloc (.cells lit32 24))
  have HZ0 := Lib.hid ((Row.new1 w (.cells (bcells d) 24) 24 lit32).alloc (.cells lit32 24))
  have HY0 := Lib.hid (Row.new2 w (.cells (bcells d) 24) (.cells lit32 24) 24 lit32)
  obtain ⟨wz, hwz⟩ : ∃ wz, ((w.alloc (.cells (bcells d) 24)).alloc (.cells lit32 24)).alloc (.cells lit32 24) = wz := ⟨_, rfl⟩
  have hsz : w.heap.size + 1 + 1 < wz.heap.size := by rw [← hwz]; simp
  rw [hwz] at hb0 HB0 HZ0 HY0
  have HBX := Lib.hid (hB.below hb0).range
  have HD := Lib.hid hD
  have HPT := Lib.hid (show (P ++ [x]).take k = P by rw [← hPl, List.take_left])
  have HC := Lib.hid h1
  have HF := Lib.hid hF
  have HT := Lib.hid hT
  clear hd hs hn hi hin hD hF hT h1 hlt hPl hB hy hyl ho1 hb h2 hI hN
  go_enter Tryd.func43, Tryd.ntmps43
  go_wp2_with (first
    | (with_reducible refine wpList_indexO rfl (.tmp 38) _ rfl b off (k + 1) c k o1 _ rfl rfl rfl (by omega) HO1.out ?_)
    | (with_reducible refine wpList_loadD rfl (.tmp 42) rfl b o1 x rfl HBX.out HXL.out ?_)
    | (with_reducible refine wpList_store_row Tryd.agg25 rfl (.tmp 13) (.tmp 43) rfl _ _ rfl rfl 24 lit32 (Row.new wz 24 lit32) HXS.out lit32_size (bcells_one _) ?_; intro w2 hr2 ho2; have HL2 := Lib.hid hr2; have b2 : Below wz.heap.size wz w2 := ((Below.refl _ _).alloc (Nat.le_refl _) _).trans (ho2.below (Nat.le_refl _) (by simp)); have hb2 := hb0.trans (b2.mono hb0.size); have hlt2 := HL2.out.lt; have HB2 := Lib.hid (HB0.out.below b2 (by omega)); have HZ2 := Lib.hid (HZ0.out.below b2 (by omega)); have HY2 := Lib.hid (HY0.out.below b2 (by omega)); clear hr2)
    | (go_at_call 30; refine (HSP.out _).mono ?_; rintro e1 w1 ⟨rfl, rfl⟩)
    | (with_reducible refine wpList_headD rfl (.tmp 52) (.tmp 55) rfl (some ⟨b, off, none⟩) (k + 1) c k _ rfl rfl rfl (by omega) hc ?_; intro A3 d3 _; have HD3 := Lib.hid (show Ds w A3 k P by rw [← HPT.out]; exact d3 w _ HD.out); clear d3)
    | (with_reducible refine wpList_load_row Tryd.agg25 rfl (.tmp 9) rfl _ rfl 24 _ HB2.out HDS.out ?_)
    | (go_at_call 43; refine (HC.out A3 c w2 (by omega) (HD3.out.below hb2) (HF.out.below hb2) (HT.out.below hb2)).mono ?_; rintro e4 w4 ⟨f, a, is, rfl, hfl, hal, hres, hb4⟩; have HFL := Lib.hid hfl; have HAL := Lib.hid hal; have HRS := Lib.hid hres; have HFS := Lib.hid (show (bcells f).size = 32 by rw [bcells_size, hfl]); have HAS := Lib.hid (show (bcells a).size = 32 by rw [bcells_size, hal]); have HL4 := Lib.hid (HL2.out.below hb4 hlt2); have HZ4 := Lib.hid (HZ2.out.below hb4 HZ2.out.lt); have HY4 := Lib.hid (HY2.out.below hb4 HY2.out.lt); have hb4' := hb2.trans (hb4.mono hb2.size); have hs4 := hb4.size; clear hfl hal hres)
    | (with_reducible refine wpList_store_row Tryd.agg25 rfl (.tmp 19) (.tmp 87) rfl _ _ rfl rfl 24 lit32 ((Row.new w4 24 lit32).alloc (.cells lit32 24)) HFS.out lit32_size (bcells_one _) ?_; intro w5 hr5 ho5; have HV5 := Lib.hid hr5; have HW5 := Lib.hid ((Row.new1 w4 (.cells lit32 24) 24 lit32).only ho5 (by omega)); have b5 : Below w4.heap.size w4 w5 := (((Below.refl w4.heap.size w4).alloc (Nat.le_refl _) (.cells lit32 24)).alloc (by simp) (.cells lit32 24)).trans (ho5.below (Nat.le_refl _) (by simp; omega)); have hb5 := hb4'.trans (b5.mono hb4'.size); clear hr5)
    | (with_reducible refine wpList_store_row Tryd.agg25 rfl (.tmp 20) (.tmp 88) rfl _ _ rfl rfl 24 lit32 HW5.out HAS.out lit32_size (bcells_one _) ?_; intro w6 hr6 ho6; have HW6 := Lib.hid hr6; have HV6 := Lib.hid (HV5.out.only ho6 (by omega)); have b6 : Below w4.heap.size w4 w6 := b5.trans (ho6.below (by omega) b5.size); have hb6 := hb4'.trans (b6.mono hb4'.size); have HL6 := Lib.hid (HL4.out.below b6 HL4.out.lt); have HZ6 := Lib.hid (HZ4.out.below b6 HZ4.out.lt); have HY6 := Lib.hid (HY4.out.below b6 HY4.out.lt); clear hr6))
  clear hwz
  obtain ⟨ga, hga⟩ : ∃ g, g = w4.heap.size := ⟨_, rfl⟩
  rw [← hga] at HV6 HW6 ⊢
  have hga1 : wz.heap.size < ga := by have := HL4.out.lt; omega
  clear hga
  have B0 : Below w6.heap.size w6 w6.drew := (Below.refl w6.heap.size w6).drew
  have HV1 := Lib.hid (HV6.out.below B0 HV6.out.lt)
  have HW1 := Lib.hid (HW6.out.below B0 HW6.out.lt)
  have HL1 := Lib.hid (HL6.out.below B0 HL6.out.lt)
  have HZ1 := Lib.hid (HZ6.out.below B0 HZ6.out.lt)
  have HY1 := Lib.hid (HY6.out.below B0 HY6.out.lt)
  have BW := hb6.trans (B0.mono hb6.size)
  refine wp_region_noPanic ?_
  refine wp_region_held_drew (S := fun w' => w'.rangeAt ga 0 (f.map bcell) ∧ w'.rangeAt (ga + 1) 0 (a.map bcell) ∧ w'.rangeAt wz.heap.size 0 (x.map bcell)) (by kernel_rfl) ⟨range_row HV1.out, range_row HW1.out, range_row HL1.out⟩ (fun hHeld => ?_)
  refine takeD (i := 0) (some 90) (.agg (bcells x)) rfl rfl (by kernel_rfl) (by kernel_rfl) (by kernel_rfl) (fun _ _ _ h => h) (yields_loadW (by rfl) (.tmp 13) rfl wz.heap.size 0 x rfl (fun _ h => h.2.2) HXL.out) hHeld ?_
  simp only [Act.put, List.setIfInBounds_toArray, List.set_cons_zero, List.set_cons_succ]
  refine takeD (i := 1) (some 91) (.agg (bcells f)) rfl rfl (by kernel_rfl) (by kernel_rfl) (by kernel_rfl) (fun _ _ _ h => h) (yields_loadW (by rfl) (.tmp 19) rfl ga 0 f rfl (fun _ h => h.1) HFL.out) hHeld ?_
  simp only [Act.put, List.setIfInBounds_toArray, List.set_cons_zero, List.set_cons_succ]
  refine takeD (i := 3) (some 93) (.agg (bcells x)) rfl rfl (by kernel_rfl) (by kernel_rfl) (by kernel_rfl) (fun _ _ _ h => h) (yields_loadW (by rfl) (.tmp 13) rfl wz.heap.size 0 x rfl (fun _ h => h.2.2) HXL.out) hHeld ?_
  simp only [Act.put, List.setIfInBounds_toArray, List.set_cons_zero, List.set_cons_succ]
  refine takeD (i := 4) (some 94) (.agg (bcells a)) rfl rfl (by kernel_rfl) (by kernel_rfl) (by kernel_rfl) (fun _ _ _ h => h) (yields_loadW (by rfl) (.tmp 20) rfl (ga + 1) 0 a rfl (fun _ h => h.2.1) HAL.out) hHeld ?_
  simp only [Act.put, List.setIfInBounds_toArray, List.set_cons_zero, List.set_cons_succ]
  refine takeD (i := 6) (some 96) (.bool is) rfl rfl (by kernel_rfl) (by kernel_rfl) (by kernel_rfl) (fun _ _ _ h => h) (Or.inl ⟨by rfl, fun _ _ => rfl⟩) hHeld ?_
  simp only [Act.put, List.setIfInBounds_toArray, List.set_cons_zero, List.set_cons_succ]
  refine wpAnyH_ready (rs := [2]) (by kernel_rfl) (by decide) ?_
  refine AllReadyH.cons rfl (fun K' hK => ?_) AllReadyH.nil
  go_simp
  refine (RefNode_any x f w6.drew HXL.out HFL.out (HF.out.below BW) (HT.out.below BW)).mono ?_
  rintro e7 w7 ⟨rfl, hb7⟩
  have HV7 := Lib.hid (HV1.out.below hb7 HV1.out.lt)
  have HW7 := Lib.hid (HW1.out.below hb7 HW1.out.lt)
  have HL7 := Lib.hid (HL1.out.below hb7 HL1.out.lt)
  have HZ7 := Lib.hid (HZ1.out.below hb7 HZ1.out.lt)
  have HY7 := Lib.hid (HY1.out.below hb7 HY1.out.lt)
  have BW7 := BW.trans (hb7.mono BW.size)
  have HNS := Lib.hid (show (bcells (nodeL x f)).size = 32 by rw [bcells_size, nodeL_length])
  refine hK.out _ _ ⟨range_row HV7.out, range_row HW7.out, range_row HL7.out⟩ (fun hHeld7 => ?_)
  clear hK
  refine wpAnyH_ready (rs := [5]) (by kernel_rfl) (by decide) ?_
  refine AllReadyH.cons rfl (fun K' hK => ?_) AllReadyH.nil
  go_simp
  refine (RefNode_any x a w7 HXL.out HAL.out (HF.out.below BW7) (HT.out.below BW7)).mono ?_
  rintro e8 w8 ⟨rfl, hb8⟩
  have HV8 := Lib.hid (HV7.out.below hb8 HV7.out.lt)
  have HW8 := Lib.hid (HW7.out.below hb8 HW7.out.lt)
  have HL8 := Lib.hid (HL7.out.below hb8 HL7.out.lt)
  have HZ8 := Lib.hid (HZ7.out.below hb8 HZ7.out.lt)
  have HY8 := Lib.hid (HY7.out.below hb8 HY7.out.lt)
  have BW8 := BW7.trans (hb8.mono BW7.size)
  have HMS := Lib.hid (show (bcells (nodeL x a)).size = 32 by rw [bcells_size, nodeL_length])
  refine hK.out _ _ ⟨range_row HV8.out, range_row HW8.out, range_row HL8.out⟩ (fun hHeld8 => ?_)
  clear hK
  refine wpAnyH_ready (rs := [7]) (by kernel_rfl) (by decide) ?_
  refine AllReadyH.cons rfl (fun K' hK => ?_) AllReadyH.nil
  refine step_store_row Tryd.agg25 rfl (.tmp 10) (.tmp 92) rfl _ _ rfl rfl 24 lit32 HZ8.out HNS.out lit32_size (bcells_one _) ?_
  intro wu hru hou
  have HRU := Lib.hid hru
  have HYU := Lib.hid (HY8.out.only hou (by omega))
  have HKU0 := Lib.hid (HV8.out.only hou (by omega))
  have HKU1 := Lib.hid (HW8.out.only hou (by omega))
  have HKU2 := Lib.hid (HL8.out.only hou (by omega))
  have BU := BW8.trans (hou.below (B := w.heap.size) (by omega) BW8.size)
  clear hru
  refine hK.out _ _ ⟨range_row HKU0.out, range_row HKU1.out, range_row HKU2.out⟩ (fun hHeld21 => ?_)
  clear hK
  refine wpAnyH_ready (rs := [8]) (by kernel_rfl) (by decide) ?_
  refine AllReadyH.cons rfl (fun K' hK => ?_) AllReadyH.nil
  refine step_store_row Tryd.agg25 rfl (.tmp 11) (.tmp 95) rfl _ _ rfl rfl 24 lit32 HYU.out HMS.out lit32_size (bcells_one _) ?_
  intro wv hrv hov
  have HYV := Lib.hid hrv
  have HRV := Lib.hid (HRU.out.only hov (by omega))
  have HKV0 := Lib.hid (HKU0.out.only hov (by omega))
  have HKV1 := Lib.hid (HKU1.out.only hov (by omega))
  have HKV2 := Lib.hid (HKU2.out.only hov (by omega))
  have BV := BU.trans (hov.below (B := w.heap.size) (by omega) BU.size)
  clear hrv
  refine hK.out _ _ ⟨range_row HKV0.out, range_row HKV1.out, range_row HKV2.out⟩ (fun hHeld22 => ?_)
  clear hK
  refine takeD (i := 9) (some 12) (.bool is) rfl rfl (by kernel_rfl) (by kernel_rfl) (by kernel_rfl) (fun _ _ _ h => h) (Or.inl ⟨by rfl, fun _ _ => rfl⟩) hHeld22 ?_
  (try simp only [Act.put, List.setIfInBounds_toArray])
  refine wpAnyH_done (by kernel_rfl) ?_ _
  refine NoPanic.normal ?_
  go_wp2_with fail
  refine bodyPost_ret (results_row12 Tryd.agg25 Tryd.results43 rfl rfl rfl HRV.out HNS.out HYV.out HMS.out) rfl ⟨nodeL x f, nodeL x a, is, rfl, nodeL_length x f, nodeL_length x a, ?_, BV⟩
  have hres := HRS.out
  cases r with
  | none => exact hres
  | some v => exact ⟨hres.1, by rw [hres.2]⟩
theorem leads_any (d : List UInt8) (hd : d.length = 32) : ∀ (k i n : Nat) (wb : Bool) (A : Option Addr) (c : Nat) (P : List (List UInt8)) (w : World), 1 ≤ i → i ≤ n → n ≤ 9223372036854775807 → k ≤ 1025 → k ≤ c → Ds w A k P → First w → Tab 1 w →
    Calls Tryd.prog 43 #[.int .i64 (i : Int), .int .i64 (n : Int), .bool wb, .slice A k c, .agg (bcells d)] w (ClimbR w (leadsR nodeL d i n wb P.reverse))
  | 0, i, n, wb, A, c, P, w, h1, hi, hn, hk, hc, hD, hF, hT => by
    obtain rfl : P = [] := List.eq_nil_of_length_eq_zero hD.1
    rw [List.reverse_nil, leadsR]
    by_cases hin : i = n
    · subst hin
      cases wb
      · rw [if_neg (by simp)]; exact leads_none1 d i A c w hd
      · rw [if_pos ⟨rfl, rfl⟩]; exact leads_whole d i A 0 c [] w hd hD
    · rw [if_neg (by simp [hin])]; exact leads_none2 d i n wb hin A c w hd
  | k + 1, i, n, wb, A, c, P, w, h1, hi, hn, hk, hc, hD, hF, hT => by
    obtain ⟨P', x, rfl⟩ : ∃ P' x, P = P' ++ [x] := by
      have hl := hD.1
      rcases List.eq_nil_or_concat P with h | ⟨P', x, h⟩
      · subst h; simp at hl
      · exact ⟨P', x, by rw [h, List.concat_eq_append]⟩
    rw [List.reverse_append, List.reverse_singleton, List.singleton_append, leadsR]
    by_cases hin : i = n
    · subst hin
      rw [if_pos rfl]
      cases wb
      · have q := leads_all d i A k c P' x w hd (by omega) hD
        simp only [Bool.false_eq_true, if_false]
        by_cases hp : P' = []
        · subst hp; exact q
        · rw [if_neg hp] at q; rw [if_neg (by simpa using hp)]; exact q
      · have q := leads_whole d i A (k + 1) c _ w hd hD
        rw [if_neg (by simp)] at q
        exact q
    · have h2 : 2 ≤ n := by omega
      have hlt := splitN_lt h2
      have hpos := splitN_pos n
      rw [if_neg hin]
      by_cases hlow : i ≤ splitN n
      · rw [if_pos hlow]
        exact leads_low d i (splitN n) n k wb A c P' x w _ hd h2 rfl hn hlow (by omega) (by omega) hc hD hF hT
          (fun A' c' w' h1' h2' h3 h4 => leads_any d hd k i (splitN n) wb A' c' P' w' h1 hlow (by omega) (by omega) h1' h2' h3 h4)
      · rw [if_neg hlow]
        exact leads_high d i (splitN n) n k _ _ rfl rfl wb A c P' x w _ hd h2 rfl hn (by omega) (by omega) (by omega) hc hD hF hT
          (fun A' c' w' h1' h2' h3 h4 => leads_any d hd k (i - splitN n) (n - splitN n) false A' c' P' w' (by omega) (by omega) (by omega) (by omega) h1' h2' h3 h4)
end Go.Proofs.YtojepkhooabjiaaDoor
