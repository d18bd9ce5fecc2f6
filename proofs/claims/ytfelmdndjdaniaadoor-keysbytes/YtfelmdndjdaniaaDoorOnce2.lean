/-
  Once2: ported texts, joined.
-/
import Derived.Test.YtfelmdndjdaniaaDoorDigA
import Derived.Test.YtfelmdndjdaniaaDoorOnce1
namespace Go.Proofs.YtfelmdndjdaniaaDoor
section
open Go.RowKit
set_option maxRecDepth 100000 in
set_option maxHeartbeats 400000 in
theorem RefRecover_no (n : Int) (A B : Option Addr) (nt ct ns cs : Nat) (w : World) (h : n < 1 ∨ 256 < n) : Calls Tryd.prog 49 #[.int .i64 n, .slice A nt ct, .slice B ns cs] w (RecD w zero32 1) := by
  have HM := Lib.hid (fun w => Right_no n w h)
  clear h
  go_enter Tryd.func49, Tryd.ntmps49
  go_wp2_with (first
    | (go_at_call 37; refine (HM.out _).mono ?_; rintro e1 w1 ⟨rfl, rfl⟩)
    | (with_reducible refine wpList_store_row Tryd.agg25 rfl (.tmp 6) (.tmp 15) rfl _ _ rfl rfl 23 lit32 (Row.new w 23 lit32) lit32_size lit32_size lit32_one ?_; intro w9 hr9 ho9; have HR9 := Lib.hid hr9; clear hr9))
  exact bodyPost_ret (results_row2 Tryd.agg25 Tryd.results49 rfl rfl HR9.out lit32_size) rfl ⟨rfl, ((Below.refl _ _).alloc (Nat.le_refl _) _).trans (ho9.below (Nat.le_refl _) (by simp))⟩
set_option maxRecDepth 100000 in
set_option maxHeartbeats 400000 in
theorem RefRecover_form (n : Nat) (A B : Option Addr) (nt ct ns cs : Nat) (w : World) (h1 : 1 ≤ n) (h2 : n ≤ 256) (hns : ns ≠ 2 * n) : Calls Tryd.prog 49 #[.int .i64 (n : Int), .slice A nt ct, .slice B ns cs] w (RecD w zero32 41) := by
  have HM := Lib.hid (fun w => Right_yes (n : Int) w (by omega) (by omega))
  have hne : ((ns : Int) != 2 * (n : Int)) = true := by simp; omega
  clear hns
  go_enter Tryd.func49, Tryd.ntmps49
  go_wp2_with (first
    | (go_at_call 37; refine (HM.out _).mono ?_; rintro e1 w1 ⟨rfl, rfl⟩)
    | (with_reducible refine wpList_store_row Tryd.agg25 rfl (.tmp 6) (.tmp 21) rfl _ _ rfl rfl 23 lit32 (Row.new w 23 lit32) lit32_size lit32_size lit32_one ?_; intro w9 hr9 ho9; have HR9 := Lib.hid hr9; clear hr9))
  exact bodyPost_ret (results_row2 Tryd.agg25 Tryd.results49 rfl rfl HR9.out lit32_size) rfl ⟨rfl, ((Below.refl _ _).alloc (Nat.le_refl _) _).trans (ho9.below (Nat.le_refl _) (by simp))⟩
set_option maxRecDepth 100000 in
set_option maxHeartbeats 4000000 in
theorem RefRecover_ok (n : Nat) (A B : Option Addr) (nt ct ns cs : Nat) (l : List UInt8) (L : List (List UInt8)) (w : World) (h1 : 1 ≤ n) (h2 : n ≤ 256) (hns : ns = 2 * n) (hB : Bs w A nt l) (hnc : nt ≤ ct) (hnt : nt ≤ 1000000) (hD : Ds w B ns L) (hF : First w) (hT : Tab 2 w) :
    Calls Tryd.prog 49 #[.int .i64 (n : Int), .slice A nt ct, .slice B ns cs] w (RecD w (rootL (ledN (sumL l) L n)) 0) := by
  have HMB := Lib.hid (fun w => Right_yes (n : Int) w (by omega) (by omega))
  have hne : ((ns : Int) != 2 * (n : Int)) = false := by simp; omega
  have HT := Lib.hid hT
  have HF := Lib.hid hF
  have HNS := Lib.hid hns
  have HD := Lib.hid hD
  have HB := Lib.hid hB
  have hb0 := (Below.refl w.heap.size w).alloc (Nat.le_refl _) (.cells lit32 23)
  have HBT := Lib.hid (fun (m : Nat) w hB hm hF hT => RefBitT_any A nt ct l m (m : Int) w hB hnc rfl hm hF hT hnt)
  generalize sumL l = D at *
  have HRS := Lib.hid (show (bcells (rootL (ledN D L n))).size = 32 by rw [bcells_size, rootL_length])
  have HRT := Lib.hid (fun A m c w hD hF hT hn => RefRoot_any A m c (ledN D L n) w hD hF hT hn)
  generalize rootL (ledN D L n) = R at *
  clear hT hF hB hD hns
  go_enter Tryd.func49, Tryd.ntmps49
  go_wp2_with (go_at_call 37; refine (HMB.out _).mono ?_; rintro e1 w1 ⟨rfl, rfl⟩)
  go_loopw [8, 9] (fun p i wr => ∃ (m : Nat) (A1 : Option Addr) (c1 : Nat), m ≤ n ∧ i = .int .i64 (m : Int) ∧ p = .slice A1 (2 * m) c1 ∧ Below w.heap.size w wr ∧ Row wr w.heap.size 23 lit32 ∧ OwnD wr (w.heap.size + 1) (.slice A1 (2 * m) c1) (2 * m) (ledN D L m)) (fun _ i _ => n - (intOf i).toNat)
  case atStart => exact ⟨0, none, 0, Nat.zero_le _, rfl, rfl, hb0, Row.new _ _ _, OwnD.nil _ _⟩
  case round =>
    obtain ⟨m, A1, c1, hm, rfl, rfl, hbel, hrow, hown⟩ := hrel
    have hbs := hbel.size
    have hlts := hrow.lt
    have HRr := Lib.hid hrow
    have HO := Lib.hid hown
    have HTr := Lib.hid (HT.out.below hbel)
    have HFr := Lib.hid (HF.out.below hbel)
    clear hrow hown
    by_cases hlt : m < n
    · have him : (m : Int) < (n : Int) := by omega
      have hns := HNS.out
      obtain ⟨bs, os, x, rfl, hbs0, hx, hxl, hBx⟩ := HD.out.get (k := 2 * m) (by omega)
      obtain ⟨bs', os', y, ee, _, hy, hyl, hBy⟩ := HD.out.get (k := 2 * m + 1) (by omega)
      injection ee with ee
      injection ee with e1 e2
      subst e1 e2
      have HBX := Lib.hid (hBx.below hbel)
      have HBY := Lib.hid (hBy.below hbel)
      have HXL := Lib.hid hxl
      have HYL := Lib.hid hyl
      have HSL := Lib.hid (sumL_length x)
      have HSS := Lib.hid (show (bcells (sumL x)).size = 32 by rw [bcells_size, sumL_length])
      have HYS := Lib.hid (show (bcells y).size = 32 by rw [bcells_size, hyl])
      have HSX := Lib.hid (fun w hF hT => RefDSum_any x w hxl hF hT)
      have HLN : Hid (ledN D L (m + 1) = ledN D L m ++ (if bitN D m = 0 then [sumL x, y] else [y, sumL x])) := Lib.hid (by
        rw [ledN]; unfold twoL; rw [List.getD_eq_getElem?_getD, List.getD_eq_getElem?_getD, hx, hy]; rfl)
      have hk1 : 2 * m < ns := by omega
      have hk2 : 2 * m + 1 < ns := by omega
      obtain ⟨o1, ho1⟩ : ∃ o, os + 32 * (2 * m) = o := ⟨_, rfl⟩
      obtain ⟨o2, ho2⟩ : ∃ o, os + 32 * (2 * m + 1) = o := ⟨_, rfl⟩
      rw [ho1] at HBX
      rw [ho2] at HBY
      have HO1 := Lib.hid ho1
      have HO2 := Lib.hid ho2
      have HBA := Lib.hid (HB.out.below hbel)
      have HBO := Lib.hid (fun w hB hF hT => HBT.out m w hB (by omega) hF hT)
      have h01 := bitN_01 D m
      generalize sumL x = SX at *
      clear hx hy hBx hBy hyl hxl ho1 ho2 hns
      have K0 := Lib.hid (show wr.drew.rangeAt bs o1 (x.map bcell) ∧ wr.drew.rangeAt bs o2 (y.map bcell) from ⟨HBX.out.range, HBY.out.range⟩)
      rcases h01 with h01 | h01
      · go_wp2_with fail
        refine wp_region_noPanic ?_
        refine wp_region_held_drew (S := fun w' => w'.rangeAt bs o1 (x.map bcell) ∧ w'.rangeAt bs o2 (y.map bcell)) (by kernel_rfl) K0.out (fun hHeld => ?_)
        refine takeD (i := 0) (some 27) (.slice (some ⟨bs, os, none⟩) ns cs) rfl rfl (by kernel_rfl) (by kernel_rfl) (by kernel_rfl) (fun _ _ _ h => h) (Or.inl ⟨by rfl, fun _ _ => rfl⟩) hHeld ?_
        simp only [Act.put, List.setIfInBounds_toArray, List.set_cons_zero, List.set_cons_succ]
        refine takeD (i := 1) (some 28) (.int .i64 (m : Int)) rfl rfl (by kernel_rfl) (by kernel_rfl) (by kernel_rfl) (fun _ _ _ h => h) (Or.inl ⟨by rfl, fun _ _ => rfl⟩) hHeld ?_
        simp only [Act.put, List.setIfInBounds_toArray, List.set_cons_zero, List.set_cons_succ]
        refine takeD (i := 2) (some 29) (.int .i64 (2 * (m : Int))) rfl rfl (by kernel_rfl) (by kernel_rfl) (by kernel_rfl) (fun _ _ _ h => h) (yields_mul rfl (.const (.int .i64 2)) (.tmp 28) rfl 2 (m : Int) _ rfl rfl rfl (by omega) (by omega)) hHeld ?_
        simp only [Act.put, List.setIfInBounds_toArray, List.set_cons_zero, List.set_cons_succ]
        refine takeD (i := 3) (some 30) (.pointer (some ⟨bs, o1, none⟩)) rfl rfl (by kernel_rfl) (by kernel_rfl) (by kernel_rfl) (fun _ _ _ h => h) (yields_indexO rfl (.tmp 27) (.tmp 29) rfl bs os ns cs (2 * m) o1 _ rfl rfl (by omega) hk1 HO1.out) hHeld ?_
        simp only [Act.put, List.setIfInBounds_toArray, List.set_cons_zero, List.set_cons_succ]
        refine takeD (i := 4) (some 31) (.agg (bcells x)) rfl rfl (by kernel_rfl) (by kernel_rfl) (by kernel_rfl) (fun _ _ _ h => h) (yields_loadD rfl (.tmp 30) rfl bs o1 x rfl (fun _ h => h.1) HXL.out) hHeld ?_
        simp only [Act.put, List.setIfInBounds_toArray, List.set_cons_zero, List.set_cons_succ]
        refine takeD (i := 6) (some 33) (.slice (some ⟨bs, os, none⟩) ns cs) rfl rfl (by kernel_rfl) (by kernel_rfl) (by kernel_rfl) (fun _ _ _ h => h) (Or.inl ⟨by rfl, fun _ _ => rfl⟩) hHeld ?_
        simp only [Act.put, List.setIfInBounds_toArray, List.set_cons_zero, List.set_cons_succ]
        refine takeD (i := 7) (some 34) (.int .i64 (m : Int)) rfl rfl (by kernel_rfl) (by kernel_rfl) (by kernel_rfl) (fun _ _ _ h => h) (Or.inl ⟨by rfl, fun _ _ => rfl⟩) hHeld ?_
        simp only [Act.put, List.setIfInBounds_toArray, List.set_cons_zero, List.set_cons_succ]
        refine takeD (i := 8) (some 35) (.int .i64 (2 * (m : Int))) rfl rfl (by kernel_rfl) (by kernel_rfl) (by kernel_rfl) (fun _ _ _ h => h) (yields_mul rfl (.const (.int .i64 2)) (.tmp 34) rfl 2 (m : Int) _ rfl rfl rfl (by omega) (by omega)) hHeld ?_
        simp only [Act.put, List.setIfInBounds_toArray, List.set_cons_zero, List.set_cons_succ]
        refine takeD (i := 9) (some 36) (.int .i64 (2 * (m : Int) + 1)) rfl rfl (by kernel_rfl) (by kernel_rfl) (by kernel_rfl) (fun _ _ _ h => h) (yields_add rfl (.tmp 35) (.const (.int .i64 1)) rfl (2 * (m : Int)) 1 _ rfl rfl rfl (by omega) (by omega)) hHeld ?_
        simp only [Act.put, List.setIfInBounds_toArray, List.set_cons_zero, List.set_cons_succ]
        refine takeD (i := 10) (some 37) (.pointer (some ⟨bs, o2, none⟩)) rfl rfl (by kernel_rfl) (by kernel_rfl) (by kernel_rfl) (fun _ _ _ h => h) (yields_indexO rfl (.tmp 33) (.tmp 36) rfl bs os ns cs (2 * m + 1) o2 _ rfl rfl (by omega) hk2 HO2.out) hHeld ?_
        simp only [Act.put, List.setIfInBounds_toArray, List.set_cons_zero, List.set_cons_succ]
        refine takeD (i := 11) (some 38) (.agg (bcells y)) rfl rfl (by kernel_rfl) (by kernel_rfl) (by kernel_rfl) (fun _ _ _ h => h) (yields_loadD rfl (.tmp 37) rfl bs o2 y rfl (fun _ h => h.2) HYL.out) hHeld ?_
        simp only [Act.put, List.setIfInBounds_toArray, List.set_cons_zero, List.set_cons_succ]
        have B0 : Below wr.heap.size wr wr.drew := (Below.refl wr.heap.size wr).drew
        refine wpAnyH_ready (rs := [5, 12, 13]) (by kernel_rfl) (by decide) ?_
        refine AllReadyH.cons rfl (fun K' hK => ?_) (AllReadyH.cons rfl (fun K' hK => ?_) (AllReadyH.cons rfl (fun K' hK => ?_) AllReadyH.nil))
        · go_simp
          refine (HSX.out wr.drew (HFr.out.below B0) (HTr.out.below B0)).mono ?_
          rintro e3 w15 ⟨rfl, hb15⟩
          have B15 : Below wr.heap.size wr w15 := B0.trans (hb15.mono B0.size)
          refine hK.out _ _ ⟨(HBX.out.below B15).range, (HBY.out.below B15).range⟩ (fun hHeld15 => ?_)
          clear hK
          refine wpAnyH_ready (rs := [12, 13]) (by kernel_rfl) (by decide) ?_
          refine AllReadyH.cons rfl (fun K' hK => ?_) (AllReadyH.cons rfl (fun K' hK => ?_) AllReadyH.nil)
          · refine step_of rfl (wp_allocD rfl ?_)
            intro g12 w212 hg12 hr12 hb212
            have B212 : Below wr.heap.size wr w212 := B15.trans (hb212.mono B15.size)
            have hge12 : wr.heap.size ≤ g12 := by have := B15.size; omega
            have HG12_2 := Lib.hid hr12
            clear hr12 hg12
            refine hK.out _ _ ⟨(HBX.out.below B212).range, (HBY.out.below B212).range⟩ (fun hHeld212 => ?_)
            clear hK
            refine wpAnyH_ready (rs := [13]) (by kernel_rfl) (by decide) ?_
            refine AllReadyH.cons rfl (fun K' hK => ?_) AllReadyH.nil
            refine step_of rfl (wp_allocD rfl ?_)
            intro g13 w313 hg13 hr13 hb313
            have B313 : Below wr.heap.size wr w313 := B212.trans (hb313.mono B212.size)
            have hne : g12 ≠ g13 := by have := HG12_2.out.lt; omega
            have HG12_3 := Lib.hid (HG12_2.out.below hb313 HG12_2.out.lt)
            have hge13 : wr.heap.size ≤ g13 := by have := B212.size; omega
            have HG13_3 := Lib.hid hr13
            clear hr13 hg13
            refine hK.out _ _ ⟨(HBX.out.below B313).range, (HBY.out.below B313).range⟩ (fun hHeld313 => ?_)
            clear hK
            refine wpAnyH_ready (rs := [14]) (by kernel_rfl) (by decide) ?_
            refine AllReadyH.cons rfl (fun K' hK => ?_) AllReadyH.nil
            refine step_store_row Tryd.agg25 rfl (.tmp 10) (.tmp 32) rfl _ _ rfl rfl 23 lit32 HG12_3.out HSS.out lit32_size (bcells_one _) ?_
            intro wy hry hoy
            have By : Below wr.heap.size wr wy := B313.trans (hoy.below (B := wr.heap.size) hge12 B313.size)
            have HGA := Lib.hid hry
            have HGB := Lib.hid (HG13_3.out.only hoy (Ne.symm hne))
            clear hry
            refine hK.out _ _ ⟨(HBX.out.below By).range, (HBY.out.below By).range⟩ (fun hHeldy => ?_)
            clear hK
            refine wpAnyH_ready (rs := [15]) (by kernel_rfl) (by decide) ?_
            refine AllReadyH.cons rfl (fun K' hK => ?_) AllReadyH.nil
            refine step_store_row Tryd.agg25 rfl (.tmp 11) (.tmp 38) rfl _ _ rfl rfl 23 lit32 HGB.out HYS.out lit32_size (bcells_one _) ?_
            intro wz hrz hoz
            have Bz : Below wr.heap.size wr wz := By.trans (hoz.below (B := wr.heap.size) hge13 By.size)
            have HGX := Lib.hid (HGA.out.only hoz hne)
            have HGY := Lib.hid hrz
            clear hrz
            refine hK.out _ _ ⟨(HBX.out.below Bz).range, (HBY.out.below Bz).range⟩ (fun hHeldz => ?_)
            clear hK
            (try simp only [Act.put, List.setIfInBounds_toArray])
            refine wpAnyH_done (by kernel_rfl) ?_ _
            refine NoPanic.normal ?_
            have hbz := hbel.trans (Bz.mono hbs)
            have hbZ := HBO.out wz (HBA.out.below Bz) (HFr.out.below Bz) (HTr.out.below Bz)
            rw [h01] at hbZ
            have HBZ := Lib.hid (show Calls Tryd.prog 79 #[.slice A nt ct, .int .i64 (m : Int)] wz fun e w' => e = .returned (.int .i64 0) ∧ Below wz.heap.size wz w' from hbZ)
            clear hbZ
            have hlx := HGX.out.lt
            have hly := HGY.out.lt
            go_wp2_with (first
              | (go_at_call 79; refine HBZ.out.mono ?_; rintro e9 wq ⟨rfl, hbq⟩; have hsq := hbq.size; have HGXq := Lib.hid (HGX.out.below hbq hlx); have HGYq := Lib.hid (HGY.out.below hbq hly); have Bq : Below wr.heap.size wr wq := Bz.trans (hbq.mono Bz.size))
              | (with_reducible refine wpList_loadD rfl (.tmp 10) rfl g12 0 SX rfl (range_row HGXq.out) HSL.out ?_)
              | (with_reducible refine wpList_loadD rfl (.tmp 11) rfl g13 0 y rfl (range_row HGYq.out) HYL.out ?_)
              | (with_reducible refine wpList_buildD rfl (.tmp 44) (.tmp 45) rfl SX y rfl rfl HSL.out HYL.out ?_)
              | (at_builtin; refine wpList_appD rfl (.tmp 43) (.tmp 46) rfl (w.heap.size + 1) _ (2 * m) (ledN D L m) rfl (HO.out.below (Bq.alloc Bq.size (.cells (bcells (SX ++ y)) 23))) _ 2 2 [SX, y] rfl (two_ds wq SX y HSL.out HYL.out) (by omega) (by have := Bq.size; simp; omega) ?_; intro A6 c6 w6 ho6 hb6; have HO6 := Lib.hid ho6; have hb5 := hbel.trans ((Bq.alloc Bq.size (.cells (bcells (SX ++ y)) 23)).mono hbs); have HR6 := Lib.hid ((HRr.out.below (Bq.alloc Bq.size (.cells (bcells (SX ++ y)) 23)) hlts).below hb6 (by omega)); have B6 := hb5.trans (hb6.mono (by omega)); clear ho6))
            refine ⟨⟨m + 1, A6, c6, by omega, by go_num, rfl, B6, HR6.out, ?_⟩, by simp [intOf]; omega⟩
            rw [HLN.out, h01]
            exact HO6.out
          · refine step_of rfl (wp_allocD rfl ?_)
            intro g13 w213 hg13 hr13 hb213
            have B213 : Below wr.heap.size wr w213 := B15.trans (hb213.mono B15.size)
            have hge13 : wr.heap.size ≤ g13 := by have := B15.size; omega
            have HG13_2 := Lib.hid hr13
            clear hr13 hg13
            refine hK.out _ _ ⟨(HBX.out.below B213).range, (HBY.out.below B213).range⟩ (fun hHeld213 => ?_)
            clear hK
            refine wpAnyH_ready (rs := [12]) (by kernel_rfl) (by decide) ?_
            refine AllReadyH.cons rfl (fun K' hK => ?_) AllReadyH.nil
            refine step_of rfl (wp_allocD rfl ?_)
            intro g12 w312 hg12 hr12 hb312
            have B312 : Below wr.heap.size wr w312 := B213.trans (hb312.mono B213.size)
            have hne : g12 ≠ g13 := by have := HG13_2.out.lt; omega
            have HG13_3 := Lib.hid (HG13_2.out.below hb312 HG13_2.out.lt)
            have hge12 : wr.heap.size ≤ g12 := by have := B213.size; omega
            have HG12_3 := Lib.hid hr12
            clear hr12 hg12
            refine hK.out _ _ ⟨(HBX.out.below B312).range, (HBY.out.below B312).range⟩ (fun hHeld312 => ?_)
            clear hK
            refine wpAnyH_ready (rs := [14]) (by kernel_rfl) (by decide) ?_
            refine AllReadyH.cons rfl (fun K' hK => ?_) AllReadyH.nil
            refine step_store_row Tryd.agg25 rfl (.tmp 10) (.tmp 32) rfl _ _ rfl rfl 23 lit32 HG12_3.out HSS.out lit32_size (bcells_one _) ?_
            intro wy hry hoy
            have By : Below wr.heap.size wr wy := B312.trans (hoy.below (B := wr.heap.size) hge12 B312.size)
            have HGA := Lib.hid hry
            have HGB := Lib.hid (HG13_3.out.only hoy (Ne.symm hne))
            clear hry
            refine hK.out _ _ ⟨(HBX.out.below By).range, (HBY.out.below By).range⟩ (fun hHeldy => ?_)
            clear hK
            refine wpAnyH_ready (rs := [15]) (by kernel_rfl) (by decide) ?_
            refine AllReadyH.cons rfl (fun K' hK => ?_) AllReadyH.nil
            refine step_store_row Tryd.agg25 rfl (.tmp 11) (.tmp 38) rfl _ _ rfl rfl 23 lit32 HGB.out HYS.out lit32_size (bcells_one _) ?_
            intro wz hrz hoz
            have Bz : Below wr.heap.size wr wz := By.trans (hoz.below (B := wr.heap.size) hge13 By.size)
            have HGX := Lib.hid (HGA.out.only hoz hne)
            have HGY := Lib.hid hrz
            clear hrz
            refine hK.out _ _ ⟨(HBX.out.below Bz).range, (HBY.out.below Bz).range⟩ (fun hHeldz => ?_)
            clear hK
            (try simp only [Act.put, List.setIfInBounds_toArray])
            refine wpAnyH_done (by kernel_rfl) ?_ _
            refine NoPanic.normal ?_
            have hbz := hbel.trans (Bz.mono hbs)
            have hbZ := HBO.out wz (HBA.out.below Bz) (HFr.out.below Bz) (HTr.out.below Bz)
            rw [h01] at hbZ
            have HBZ := Lib.hid (show Calls Tryd.prog 79 #[.slice A nt ct, .int .i64 (m : Int)] wz fun e w' => e = .returned (.int .i64 0) ∧ Below wz.heap.size wz w' from hbZ)
            clear hbZ
            have hlx := HGX.out.lt
            have hly := HGY.out.lt
            go_wp2_with (first
              | (go_at_call 79; refine HBZ.out.mono ?_; rintro e9 wq ⟨rfl, hbq⟩; have hsq := hbq.size; have HGXq := Lib.hid (HGX.out.below hbq hlx); have HGYq := Lib.hid (HGY.out.below hbq hly); have Bq : Below wr.heap.size wr wq := Bz.trans (hbq.mono Bz.size))
              | (with_reducible refine wpList_loadD rfl (.tmp 10) rfl g12 0 SX rfl (range_row HGXq.out) HSL.out ?_)
              | (with_reducible refine wpList_loadD rfl (.tmp 11) rfl g13 0 y rfl (range_row HGYq.out) HYL.out ?_)
              | (with_reducible refine wpList_buildD rfl (.tmp 44) (.tmp 45) rfl SX y rfl rfl HSL.out HYL.out ?_)
              | (at_builtin; refine wpList_appD rfl (.tmp 43) (.tmp 46) rfl (w.heap.size + 1) _ (2 * m) (ledN D L m) rfl (HO.out.below (Bq.alloc Bq.size (.cells (bcells (SX ++ y)) 23))) _ 2 2 [SX, y] rfl (two_ds wq SX y HSL.out HYL.out) (by omega) (by have := Bq.size; simp; omega) ?_; intro A6 c6 w6 ho6 hb6; have HO6 := Lib.hid ho6; have hb5 := hbel.trans ((Bq.alloc Bq.size (.cells (bcells (SX ++ y)) 23)).mono hbs); have HR6 := Lib.hid ((HRr.out.below (Bq.alloc Bq.size (.cells (bcells (SX ++ y)) 23)) hlts).below hb6 (by omega)); have B6 := hb5.trans (hb6.mono (by omega)); clear ho6))
            refine ⟨⟨m + 1, A6, c6, by omega, by go_num, rfl, B6, HR6.out, ?_⟩, by simp [intOf]; omega⟩
            rw [HLN.out, h01]
            exact HO6.out
        · refine step_of rfl (wp_allocD rfl ?_)
          intro g12 w112 hg12 hr12 hb112
          have B112 : Below wr.heap.size wr w112 := B0.trans (hb112.mono B0.size)
          have hge12 : wr.heap.size ≤ g12 := by have := B0.size; omega
          have HG12_1 := Lib.hid hr12
          clear hr12 hg12
          refine hK.out _ _ ⟨(HBX.out.below B112).range, (HBY.out.below B112).range⟩ (fun hHeld112 => ?_)
          clear hK
          refine wpAnyH_ready (rs := [5, 13]) (by kernel_rfl) (by decide) ?_
          refine AllReadyH.cons rfl (fun K' hK => ?_) (AllReadyH.cons rfl (fun K' hK => ?_) AllReadyH.nil)
          · go_simp
            refine (HSX.out w112 (HFr.out.below B112) (HTr.out.below B112)).mono ?_
            rintro e3 w25 ⟨rfl, hb25⟩
            have B25 : Below wr.heap.size wr w25 := B112.trans (hb25.mono B112.size)
            have HG12_2 := Lib.hid (HG12_1.out.below hb25 HG12_1.out.lt)
            refine hK.out _ _ ⟨(HBX.out.below B25).range, (HBY.out.below B25).range⟩ (fun hHeld25 => ?_)
            clear hK
            refine wpAnyH_ready (rs := [13]) (by kernel_rfl) (by decide) ?_
            refine AllReadyH.cons rfl (fun K' hK => ?_) AllReadyH.nil
            refine step_of rfl (wp_allocD rfl ?_)
            intro g13 w313 hg13 hr13 hb313
            have B313 : Below wr.heap.size wr w313 := B25.trans (hb313.mono B25.size)
            have hne : g12 ≠ g13 := by have := HG12_2.out.lt; omega
            have HG12_3 := Lib.hid (HG12_2.out.below hb313 HG12_2.out.lt)
            have hge13 : wr.heap.size ≤ g13 := by have := B25.size; omega
            have HG13_3 := Lib.hid hr13
            clear hr13 hg13
            refine hK.out _ _ ⟨(HBX.out.below B313).range, (HBY.out.below B313).range⟩ (fun hHeld313 => ?_)
            clear hK
            refine wpAnyH_ready (rs := [14]) (by kernel_rfl) (by decide) ?_
            refine AllReadyH.cons rfl (fun K' hK => ?_) AllReadyH.nil
            refine step_store_row Tryd.agg25 rfl (.tmp 10) (.tmp 32) rfl _ _ rfl rfl 23 lit32 HG12_3.out HSS.out lit32_size (bcells_one _) ?_
            intro wy hry hoy
            have By : Below wr.heap.size wr wy := B313.trans (hoy.below (B := wr.heap.size) hge12 B313.size)
            have HGA := Lib.hid hry
            have HGB := Lib.hid (HG13_3.out.only hoy (Ne.symm hne))
            clear hry
            refine hK.out _ _ ⟨(HBX.out.below By).range, (HBY.out.below By).range⟩ (fun hHeldy => ?_)
            clear hK
            refine wpAnyH_ready (rs := [15]) (by kernel_rfl) (by decide) ?_
            refine AllReadyH.cons rfl (fun K' hK => ?_) AllReadyH.nil
            refine step_store_row Tryd.agg25 rfl (.tmp 11) (.tmp 38) rfl _ _ rfl rfl 23 lit32 HGB.out HYS.out lit32_size (bcells_one _) ?_
            intro wz hrz hoz
            have Bz : Below wr.heap.size wr wz := By.trans (hoz.below (B := wr.heap.size) hge13 By.size)
            have HGX := Lib.hid (HGA.out.only hoz hne)
            have HGY := Lib.hid hrz
            clear hrz
            refine hK.out _ _ ⟨(HBX.out.below Bz).range, (HBY.out.below Bz).range⟩ (fun hHeldz => ?_)
            clear hK
            (try simp only [Act.put, List.setIfInBounds_toArray])
            refine wpAnyH_done (by kernel_rfl) ?_ _
            refine NoPanic.normal ?_
            have hbz := hbel.trans (Bz.mono hbs)
            have hbZ := HBO.out wz (HBA.out.below Bz) (HFr.out.below Bz) (HTr.out.below Bz)
            rw [h01] at hbZ
            have HBZ := Lib.hid (show Calls Tryd.prog 79 #[.slice A nt ct, .int .i64 (m : Int)] wz fun e w' => e = .returned (.int .i64 0) ∧ Below wz.heap.size wz w' from hbZ)
            clear hbZ
            have hlx := HGX.out.lt
            have hly := HGY.out.lt
            go_wp2_with (first
              | (go_at_call 79; refine HBZ.out.mono ?_; rintro e9 wq ⟨rfl, hbq⟩; have hsq := hbq.size; have HGXq := Lib.hid (HGX.out.below hbq hlx); have HGYq := Lib.hid (HGY.out.below hbq hly); have Bq : Below wr.heap.size wr wq := Bz.trans (hbq.mono Bz.size))
              | (with_reducible refine wpList_loadD rfl (.tmp 10) rfl g12 0 SX rfl (range_row HGXq.out) HSL.out ?_)
              | (with_reducible refine wpList_loadD rfl (.tmp 11) rfl g13 0 y rfl (range_row HGYq.out) HYL.out ?_)
              | (with_reducible refine wpList_buildD rfl (.tmp 44) (.tmp 45) rfl SX y rfl rfl HSL.out HYL.out ?_)
              | (at_builtin; refine wpList_appD rfl (.tmp 43) (.tmp 46) rfl (w.heap.size + 1) _ (2 * m) (ledN D L m) rfl (HO.out.below (Bq.alloc Bq.size (.cells (bcells (SX ++ y)) 23))) _ 2 2 [SX, y] rfl (two_ds wq SX y HSL.out HYL.out) (by omega) (by have := Bq.size; simp; omega) ?_; intro A6 c6 w6 ho6 hb6; have HO6 := Lib.hid ho6; have hb5 := hbel.trans ((Bq.alloc Bq.size (.cells (bcells (SX ++ y)) 23)).mono hbs); have HR6 := Lib.hid ((HRr.out.below (Bq.alloc Bq.size (.cells (bcells (SX ++ y)) 23)) hlts).below hb6 (by omega)); have B6 := hb5.trans (hb6.mono (by omega)); clear ho6))
            refine ⟨⟨m + 1, A6, c6, by omega, by go_num, rfl, B6, HR6.out, ?_⟩, by simp [intOf]; omega⟩
            rw [HLN.out, h01]
            exact HO6.out
          · refine step_of rfl (wp_allocD rfl ?_)
            intro g13 w213 hg13 hr13 hb213
            have B213 : Below wr.heap.size wr w213 := B112.trans (hb213.mono B112.size)
            have hne : g12 ≠ g13 := by have := HG12_1.out.lt; omega
            have HG12_2 := Lib.hid (HG12_1.out.below hb213 HG12_1.out.lt)
            have hge13 : wr.heap.size ≤ g13 := by have := B112.size; omega
            have HG13_2 := Lib.hid hr13
            clear hr13 hg13
            refine hK.out _ _ ⟨(HBX.out.below B213).range, (HBY.out.below B213).range⟩ (fun hHeld213 => ?_)
            clear hK
            refine wpAnyH_ready (rs := [5]) (by kernel_rfl) (by decide) ?_
            refine AllReadyH.cons rfl (fun K' hK => ?_) AllReadyH.nil
            go_simp
            refine (HSX.out w213 (HFr.out.below B213) (HTr.out.below B213)).mono ?_
            rintro e3 w35 ⟨rfl, hb35⟩
            have B35 : Below wr.heap.size wr w35 := B213.trans (hb35.mono B213.size)
            have HG12_3 := Lib.hid (HG12_2.out.below hb35 HG12_2.out.lt)
            have HG13_3 := Lib.hid (HG13_2.out.below hb35 HG13_2.out.lt)
            refine hK.out _ _ ⟨(HBX.out.below B35).range, (HBY.out.below B35).range⟩ (fun hHeld35 => ?_)
            clear hK
            refine wpAnyH_ready (rs := [14]) (by kernel_rfl) (by decide) ?_
            refine AllReadyH.cons rfl (fun K' hK => ?_) AllReadyH.nil
            refine step_store_row Tryd.agg25 rfl (.tmp 10) (.tmp 32) rfl _ _ rfl rfl 23 lit32 HG12_3.out HSS.out lit32_size (bcells_one _) ?_
            intro wy hry hoy
            have By : Below wr.heap.size wr wy := B35.trans (hoy.below (B := wr.heap.size) hge12 B35.size)
            have HGA := Lib.hid hry
            have HGB := Lib.hid (HG13_3.out.only hoy (Ne.symm hne))
            clear hry
            refine hK.out _ _ ⟨(HBX.out.below By).range, (HBY.out.below By).range⟩ (fun hHeldy => ?_)
            clear hK
            refine wpAnyH_ready (rs := [15]) (by kernel_rfl) (by decide) ?_
            refine AllReadyH.cons rfl (fun K' hK => ?_) AllReadyH.nil
            refine step_store_row Tryd.agg25 rfl (.tmp 11) (.tmp 38) rfl _ _ rfl rfl 23 lit32 HGB.out HYS.out lit32_size (bcells_one _) ?_
            intro wz hrz hoz
            have Bz : Below wr.heap.size wr wz := By.trans (hoz.below (B := wr.heap.size) hge13 By.size)
            have HGX := Lib.hid (HGA.out.only hoz hne)
            have HGY := Lib.hid hrz
            clear hrz
            refine hK.out _ _ ⟨(HBX.out.below Bz).range, (HBY.out.below Bz).range⟩ (fun hHeldz => ?_)
            clear hK
            (try simp only [Act.put, List.setIfInBounds_toArray])
            refine wpAnyH_done (by kernel_rfl) ?_ _
            refine NoPanic.normal ?_
            have hbz := hbel.trans (Bz.mono hbs)
            have hbZ := HBO.out wz (HBA.out.below Bz) (HFr.out.below Bz) (HTr.out.below Bz)
            rw [h01] at hbZ
            have HBZ := Lib.hid (show Calls Tryd.prog 79 #[.slice A nt ct, .int .i64 (m : Int)] wz fun e w' => e = .returned (.int .i64 0) ∧ Below wz.heap.size wz w' from hbZ)
            clear hbZ
            have hlx := HGX.out.lt
            have hly := HGY.out.lt
            go_wp2_with (first
              | (go_at_call 79; refine HBZ.out.mono ?_; rintro e9 wq ⟨rfl, hbq⟩; have hsq := hbq.size; have HGXq := Lib.hid (HGX.out.below hbq hlx); have HGYq := Lib.hid (HGY.out.below hbq hly); have Bq : Below wr.heap.size wr wq := Bz.trans (hbq.mono Bz.size))
              | (with_reducible refine wpList_loadD rfl (.tmp 10) rfl g12 0 SX rfl (range_row HGXq.out) HSL.out ?_)
              | (with_reducible refine wpList_loadD rfl (.tmp 11) rfl g13 0 y rfl (range_row HGYq.out) HYL.out ?_)
              | (with_reducible refine wpList_buildD rfl (.tmp 44) (.tmp 45) rfl SX y rfl rfl HSL.out HYL.out ?_)
              | (at_builtin; refine wpList_appD rfl (.tmp 43) (.tmp 46) rfl (w.heap.size + 1) _ (2 * m) (ledN D L m) rfl (HO.out.below (Bq.alloc Bq.size (.cells (bcells (SX ++ y)) 23))) _ 2 2 [SX, y] rfl (two_ds wq SX y HSL.out HYL.out) (by omega) (by have := Bq.size; simp; omega) ?_; intro A6 c6 w6 ho6 hb6; have HO6 := Lib.hid ho6; have hb5 := hbel.trans ((Bq.alloc Bq.size (.cells (bcells (SX ++ y)) 23)).mono hbs); have HR6 := Lib.hid ((HRr.out.below (Bq.alloc Bq.size (.cells (bcells (SX ++ y)) 23)) hlts).below hb6 (by omega)); have B6 := hb5.trans (hb6.mono (by omega)); clear ho6))
            refine ⟨⟨m + 1, A6, c6, by omega, by go_num, rfl, B6, HR6.out, ?_⟩, by simp [intOf]; omega⟩
            rw [HLN.out, h01]
            exact HO6.out
        · refine step_of rfl (wp_allocD rfl ?_)
          intro g13 w113 hg13 hr13 hb113
          have B113 : Below wr.heap.size wr w113 := B0.trans (hb113.mono B0.size)
          have hge13 : wr.heap.size ≤ g13 := by have := B0.size; omega
          have HG13_1 := Lib.hid hr13
          clear hr13 hg13
          refine hK.out _ _ ⟨(HBX.out.below B113).range, (HBY.out.below B113).range⟩ (fun hHeld113 => ?_)
          clear hK
          refine wpAnyH_ready (rs := [5, 12]) (by kernel_rfl) (by decide) ?_
          refine AllReadyH.cons rfl (fun K' hK => ?_) (AllReadyH.cons rfl (fun K' hK => ?_) AllReadyH.nil)
          · go_simp
            refine (HSX.out w113 (HFr.out.below B113) (HTr.out.below B113)).mono ?_
            rintro e3 w25 ⟨rfl, hb25⟩
            have B25 : Below wr.heap.size wr w25 := B113.trans (hb25.mono B113.size)
            have HG13_2 := Lib.hid (HG13_1.out.below hb25 HG13_1.out.lt)
            refine hK.out _ _ ⟨(HBX.out.below B25).range, (HBY.out.below B25).range⟩ (fun hHeld25 => ?_)
            clear hK
            refine wpAnyH_ready (rs := [12]) (by kernel_rfl) (by decide) ?_
            refine AllReadyH.cons rfl (fun K' hK => ?_) AllReadyH.nil
            refine step_of rfl (wp_allocD rfl ?_)
            intro g12 w312 hg12 hr12 hb312
            have B312 : Below wr.heap.size wr w312 := B25.trans (hb312.mono B25.size)
            have hne : g12 ≠ g13 := by have := HG13_2.out.lt; omega
            have HG13_3 := Lib.hid (HG13_2.out.below hb312 HG13_2.out.lt)
            have hge12 : wr.heap.size ≤ g12 := by have := B25.size; omega
            have HG12_3 := Lib.hid hr12
            clear hr12 hg12
            refine hK.out _ _ ⟨(HBX.out.below B312).range, (HBY.out.below B312).range⟩ (fun hHeld312 => ?_)
            clear hK
            refine wpAnyH_ready (rs := [14]) (by kernel_rfl) (by decide) ?_
            refine AllReadyH.cons rfl (fun K' hK => ?_) AllReadyH.nil
            refine step_store_row Tryd.agg25 rfl (.tmp 10) (.tmp 32) rfl _ _ rfl rfl 23 lit32 HG12_3.out HSS.out lit32_size (bcells_one _) ?_
            intro wy hry hoy
            have By : Below wr.heap.size wr wy := B312.trans (hoy.below (B := wr.heap.size) hge12 B312.size)
            have HGA := Lib.hid hry
            have HGB := Lib.hid (HG13_3.out.only hoy (Ne.symm hne))
            clear hry
            refine hK.out _ _ ⟨(HBX.out.below By).range, (HBY.out.below By).range⟩ (fun hHeldy => ?_)
            clear hK
            refine wpAnyH_ready (rs := [15]) (by kernel_rfl) (by decide) ?_
            refine AllReadyH.cons rfl (fun K' hK => ?_) AllReadyH.nil
            refine step_store_row Tryd.agg25 rfl (.tmp 11) (.tmp 38) rfl _ _ rfl rfl 23 lit32 HGB.out HYS.out lit32_size (bcells_one _) ?_
            intro wz hrz hoz
            have Bz : Below wr.heap.size wr wz := By.trans (hoz.below (B := wr.heap.size) hge13 By.size)
            have HGX := Lib.hid (HGA.out.only hoz hne)
            have HGY := Lib.hid hrz
            clear hrz
            refine hK.out _ _ ⟨(HBX.out.below Bz).range, (HBY.out.below Bz).range⟩ (fun hHeldz => ?_)
            clear hK
            (try simp only [Act.put, List.setIfInBounds_toArray])
            refine wpAnyH_done (by kernel_rfl) ?_ _
            refine NoPanic.normal ?_
            have hbz := hbel.trans (Bz.mono hbs)
            have hbZ := HBO.out wz (HBA.out.below Bz) (HFr.out.below Bz) (HTr.out.below Bz)
            rw [h01] at hbZ
            have HBZ := Lib.hid (show Calls Tryd.prog 79 #[.slice A nt ct, .int .i64 (m : Int)] wz fun e w' => e = .returned (.int .i64 0) ∧ Below wz.heap.size wz w' from hbZ)
            clear hbZ
            have hlx := HGX.out.lt
            have hly := HGY.out.lt
            go_wp2_with (first
              | (go_at_call 79; refine HBZ.out.mono ?_; rintro e9 wq ⟨rfl, hbq⟩; have hsq := hbq.size; have HGXq := Lib.hid (HGX.out.below hbq hlx); have HGYq := Lib.hid (HGY.out.below hbq hly); have Bq : Below wr.heap.size wr wq := Bz.trans (hbq.mono Bz.size))
              | (with_reducible refine wpList_loadD rfl (.tmp 10) rfl g12 0 SX rfl (range_row HGXq.out) HSL.out ?_)
              | (with_reducible refine wpList_loadD rfl (.tmp 11) rfl g13 0 y rfl (range_row HGYq.out) HYL.out ?_)
              | (with_reducible refine wpList_buildD rfl (.tmp 44) (.tmp 45) rfl SX y rfl rfl HSL.out HYL.out ?_)
              | (at_builtin; refine wpList_appD rfl (.tmp 43) (.tmp 46) rfl (w.heap.size + 1) _ (2 * m) (ledN D L m) rfl (HO.out.below (Bq.alloc Bq.size (.cells (bcells (SX ++ y)) 23))) _ 2 2 [SX, y] rfl (two_ds wq SX y HSL.out HYL.out) (by omega) (by have := Bq.size; simp; omega) ?_; intro A6 c6 w6 ho6 hb6; have HO6 := Lib.hid ho6; have hb5 := hbel.trans ((Bq.alloc Bq.size (.cells (bcells (SX ++ y)) 23)).mono hbs); have HR6 := Lib.hid ((HRr.out.below (Bq.alloc Bq.size (.cells (bcells (SX ++ y)) 23)) hlts).below hb6 (by omega)); have B6 := hb5.trans (hb6.mono (by omega)); clear ho6))
            refine ⟨⟨m + 1, A6, c6, by omega, by go_num, rfl, B6, HR6.out, ?_⟩, by simp [intOf]; omega⟩
            rw [HLN.out, h01]
            exact HO6.out
          · refine step_of rfl (wp_allocD rfl ?_)
            intro g12 w212 hg12 hr12 hb212
            have B212 : Below wr.heap.size wr w212 := B113.trans (hb212.mono B113.size)
            have hne : g12 ≠ g13 := by have := HG13_1.out.lt; omega
            have HG13_2 := Lib.hid (HG13_1.out.below hb212 HG13_1.out.lt)
            have hge12 : wr.heap.size ≤ g12 := by have := B113.size; omega
            have HG12_2 := Lib.hid hr12
            clear hr12 hg12
            refine hK.out _ _ ⟨(HBX.out.below B212).range, (HBY.out.below B212).range⟩ (fun hHeld212 => ?_)
            clear hK
            refine wpAnyH_ready (rs := [5]) (by kernel_rfl) (by decide) ?_
            refine AllReadyH.cons rfl (fun K' hK => ?_) AllReadyH.nil
            go_simp
            refine (HSX.out w212 (HFr.out.below B212) (HTr.out.below B212)).mono ?_
            rintro e3 w35 ⟨rfl, hb35⟩
            have B35 : Below wr.heap.size wr w35 := B212.trans (hb35.mono B212.size)
            have HG13_3 := Lib.hid (HG13_2.out.below hb35 HG13_2.out.lt)
            have HG12_3 := Lib.hid (HG12_2.out.below hb35 HG12_2.out.lt)
            refine hK.out _ _ ⟨(HBX.out.below B35).range, (HBY.out.below B35).range⟩ (fun hHeld35 => ?_)
            clear hK
            refine wpAnyH_ready (rs := [14]) (by kernel_rfl) (by decide) ?_
            refine AllReadyH.cons rfl (fun K' hK => ?_) AllReadyH.nil
            refine step_store_row Tryd.agg25 rfl (.tmp 10) (.tmp 32) rfl _ _ rfl rfl 23 lit32 HG12_3.out HSS.out lit32_size (bcells_one _) ?_
            intro wy hry hoy
            have By : Below wr.heap.size wr wy := B35.trans (hoy.below (B := wr.heap.size) hge12 B35.size)
            have HGA := Lib.hid hry
            have HGB := Lib.hid (HG13_3.out.only hoy (Ne.symm hne))
            clear hry
            refine hK.out _ _ ⟨(HBX.out.below By).range, (HBY.out.below By).range⟩ (fun hHeldy => ?_)
            clear hK
            refine wpAnyH_ready (rs := [15]) (by kernel_rfl) (by decide) ?_
            refine AllReadyH.cons rfl (fun K' hK => ?_) AllReadyH.nil
            refine step_store_row Tryd.agg25 rfl (.tmp 11) (.tmp 38) rfl _ _ rfl rfl 23 lit32 HGB.out HYS.out lit32_size (bcells_one _) ?_
            intro wz hrz hoz
            have Bz : Below wr.heap.size wr wz := By.trans (hoz.below (B := wr.heap.size) hge13 By.size)
            have HGX := Lib.hid (HGA.out.only hoz hne)
            have HGY := Lib.hid hrz
            clear hrz
            refine hK.out _ _ ⟨(HBX.out.below Bz).range, (HBY.out.below Bz).range⟩ (fun hHeldz => ?_)
            clear hK
            (try simp only [Act.put, List.setIfInBounds_toArray])
            refine wpAnyH_done (by kernel_rfl) ?_ _
            refine NoPanic.normal ?_
            have hbz := hbel.trans (Bz.mono hbs)
            have hbZ := HBO.out wz (HBA.out.below Bz) (HFr.out.below Bz) (HTr.out.below Bz)
            rw [h01] at hbZ
            have HBZ := Lib.hid (show Calls Tryd.prog 79 #[.slice A nt ct, .int .i64 (m : Int)] wz fun e w' => e = .returned (.int .i64 0) ∧ Below wz.heap.size wz w' from hbZ)
            clear hbZ
            have hlx := HGX.out.lt
            have hly := HGY.out.lt
            go_wp2_with (first
              | (go_at_call 79; refine HBZ.out.mono ?_; rintro e9 wq ⟨rfl, hbq⟩; have hsq := hbq.size; have HGXq := Lib.hid (HGX.out.below hbq hlx); have HGYq := Lib.hid (HGY.out.below hbq hly); have Bq : Below wr.heap.size wr wq := Bz.trans (hbq.mono Bz.size))
              | (with_reducible refine wpList_loadD rfl (.tmp 10) rfl g12 0 SX rfl (range_row HGXq.out) HSL.out ?_)
              | (with_reducible refine wpList_loadD rfl (.tmp 11) rfl g13 0 y rfl (range_row HGYq.out) HYL.out ?_)
              | (with_reducible refine wpList_buildD rfl (.tmp 44) (.tmp 45) rfl SX y rfl rfl HSL.out HYL.out ?_)
              | (at_builtin; refine wpList_appD rfl (.tmp 43) (.tmp 46) rfl (w.heap.size + 1) _ (2 * m) (ledN D L m) rfl (HO.out.below (Bq.alloc Bq.size (.cells (bcells (SX ++ y)) 23))) _ 2 2 [SX, y] rfl (two_ds wq SX y HSL.out HYL.out) (by omega) (by have := Bq.size; simp; omega) ?_; intro A6 c6 w6 ho6 hb6; have HO6 := Lib.hid ho6; have hb5 := hbel.trans ((Bq.alloc Bq.size (.cells (bcells (SX ++ y)) 23)).mono hbs); have HR6 := Lib.hid ((HRr.out.below (Bq.alloc Bq.size (.cells (bcells (SX ++ y)) 23)) hlts).below hb6 (by omega)); have B6 := hb5.trans (hb6.mono (by omega)); clear ho6))
            refine ⟨⟨m + 1, A6, c6, by omega, by go_num, rfl, B6, HR6.out, ?_⟩, by simp [intOf]; omega⟩
            rw [HLN.out, h01]
            exact HO6.out
      · go_wp2_with fail
        refine wp_region_noPanic ?_
        refine wp_region_held_drew (S := fun w' => w'.rangeAt bs o1 (x.map bcell) ∧ w'.rangeAt bs o2 (y.map bcell)) (by kernel_rfl) K0.out (fun hHeld => ?_)
        refine takeD (i := 0) (some 27) (.slice (some ⟨bs, os, none⟩) ns cs) rfl rfl (by kernel_rfl) (by kernel_rfl) (by kernel_rfl) (fun _ _ _ h => h) (Or.inl ⟨by rfl, fun _ _ => rfl⟩) hHeld ?_
        simp only [Act.put, List.setIfInBounds_toArray, List.set_cons_zero, List.set_cons_succ]
        refine takeD (i := 1) (some 28) (.int .i64 (m : Int)) rfl rfl (by kernel_rfl) (by kernel_rfl) (by kernel_rfl) (fun _ _ _ h => h) (Or.inl ⟨by rfl, fun _ _ => rfl⟩) hHeld ?_
        simp only [Act.put, List.setIfInBounds_toArray, List.set_cons_zero, List.set_cons_succ]
        refine takeD (i := 2) (some 29) (.int .i64 (2 * (m : Int))) rfl rfl (by kernel_rfl) (by kernel_rfl) (by kernel_rfl) (fun _ _ _ h => h) (yields_mul rfl (.const (.int .i64 2)) (.tmp 28) rfl 2 (m : Int) _ rfl rfl rfl (by omega) (by omega)) hHeld ?_
        simp only [Act.put, List.setIfInBounds_toArray, List.set_cons_zero, List.set_cons_succ]
        refine takeD (i := 3) (some 30) (.pointer (some ⟨bs, o1, none⟩)) rfl rfl (by kernel_rfl) (by kernel_rfl) (by kernel_rfl) (fun _ _ _ h => h) (yields_indexO rfl (.tmp 27) (.tmp 29) rfl bs os ns cs (2 * m) o1 _ rfl rfl (by omega) hk1 HO1.out) hHeld ?_
        simp only [Act.put, List.setIfInBounds_toArray, List.set_cons_zero, List.set_cons_succ]
        refine takeD (i := 4) (some 31) (.agg (bcells x)) rfl rfl (by kernel_rfl) (by kernel_rfl) (by kernel_rfl) (fun _ _ _ h => h) (yields_loadD rfl (.tmp 30) rfl bs o1 x rfl (fun _ h => h.1) HXL.out) hHeld ?_
        simp only [Act.put, List.setIfInBounds_toArray, List.set_cons_zero, List.set_cons_succ]
        refine takeD (i := 6) (some 33) (.slice (some ⟨bs, os, none⟩) ns cs) rfl rfl (by kernel_rfl) (by kernel_rfl) (by kernel_rfl) (fun _ _ _ h => h) (Or.inl ⟨by rfl, fun _ _ => rfl⟩) hHeld ?_
        simp only [Act.put, List.setIfInBounds_toArray, List.set_cons_zero, List.set_cons_succ]
        refine takeD (i := 7) (some 34) (.int .i64 (m : Int)) rfl rfl (by kernel_rfl) (by kernel_rfl) (by kernel_rfl) (fun _ _ _ h => h) (Or.inl ⟨by rfl, fun _ _ => rfl⟩) hHeld ?_
        simp only [Act.put, List.setIfInBounds_toArray, List.set_cons_zero, List.set_cons_succ]
        refine takeD (i := 8) (some 35) (.int .i64 (2 * (m : Int))) rfl rfl (by kernel_rfl) (by kernel_rfl) (by kernel_rfl) (fun _ _ _ h => h) (yields_mul rfl (.const (.int .i64 2)) (.tmp 34) rfl 2 (m : Int) _ rfl rfl rfl (by omega) (by omega)) hHeld ?_
        simp only [Act.put, List.setIfInBounds_toArray, List.set_cons_zero, List.set_cons_succ]
        refine takeD (i := 9) (some 36) (.int .i64 (2 * (m : Int) + 1)) rfl rfl (by kernel_rfl) (by kernel_rfl) (by kernel_rfl) (fun _ _ _ h => h) (yields_add rfl (.tmp 35) (.const (.int .i64 1)) rfl (2 * (m : Int)) 1 _ rfl rfl rfl (by omega) (by omega)) hHeld ?_
        simp only [Act.put, List.setIfInBounds_toArray, List.set_cons_zero, List.set_cons_succ]
        refine takeD (i := 10) (some 37) (.pointer (some ⟨bs, o2, none⟩)) rfl rfl (by kernel_rfl) (by kernel_rfl) (by kernel_rfl) (fun _ _ _ h => h) (yields_indexO rfl (.tmp 33) (.tmp 36) rfl bs os ns cs (2 * m + 1) o2 _ rfl rfl (by omega) hk2 HO2.out) hHeld ?_
        simp only [Act.put, List.setIfInBounds_toArray, List.set_cons_zero, List.set_cons_succ]
        refine takeD (i := 11) (some 38) (.agg (bcells y)) rfl rfl (by kernel_rfl) (by kernel_rfl) (by kernel_rfl) (fun _ _ _ h => h) (yields_loadD rfl (.tmp 37) rfl bs o2 y rfl (fun _ h => h.2) HYL.out) hHeld ?_
        simp only [Act.put, List.setIfInBounds_toArray, List.set_cons_zero, List.set_cons_succ]
        have B0 : Below wr.heap.size wr wr.drew := (Below.refl wr.heap.size wr).drew
        refine wpAnyH_ready (rs := [5, 12, 13]) (by kernel_rfl) (by decide) ?_
        refine AllReadyH.cons rfl (fun K' hK => ?_) (AllReadyH.cons rfl (fun K' hK => ?_) (AllReadyH.cons rfl (fun K' hK => ?_) AllReadyH.nil))
        · go_simp
          refine (HSX.out wr.drew (HFr.out.below B0) (HTr.out.below B0)).mono ?_
          rintro e3 w15 ⟨rfl, hb15⟩
          have B15 : Below wr.heap.size wr w15 := B0.trans (hb15.mono B0.size)
          refine hK.out _ _ ⟨(HBX.out.below B15).range, (HBY.out.below B15).range⟩ (fun hHeld15 => ?_)
          clear hK
          refine wpAnyH_ready (rs := [12, 13]) (by kernel_rfl) (by decide) ?_
          refine AllReadyH.cons rfl (fun K' hK => ?_) (AllReadyH.cons rfl (fun K' hK => ?_) AllReadyH.nil)
          · refine step_of rfl (wp_allocD rfl ?_)
            intro g12 w212 hg12 hr12 hb212
            have B212 : Below wr.heap.size wr w212 := B15.trans (hb212.mono B15.size)
            have hge12 : wr.heap.size ≤ g12 := by have := B15.size; omega
            have HG12_2 := Lib.hid hr12
            clear hr12 hg12
            refine hK.out _ _ ⟨(HBX.out.below B212).range, (HBY.out.below B212).range⟩ (fun hHeld212 => ?_)
            clear hK
            refine wpAnyH_ready (rs := [13]) (by kernel_rfl) (by decide) ?_
            refine AllReadyH.cons rfl (fun K' hK => ?_) AllReadyH.nil
            refine step_of rfl (wp_allocD rfl ?_)
            intro g13 w313 hg13 hr13 hb313
            have B313 : Below wr.heap.size wr w313 := B212.trans (hb313.mono B212.size)
            have hne : g12 ≠ g13 := by have := HG12_2.out.lt; omega
            have HG12_3 := Lib.hid (HG12_2.out.below hb313 HG12_2.out.lt)
            have hge13 : wr.heap.size ≤ g13 := by have := B212.size; omega
            have HG13_3 := Lib.hid hr13
            clear hr13 hg13
            refine hK.out _ _ ⟨(HBX.out.below B313).range, (HBY.out.below B313).range⟩ (fun hHeld313 => ?_)
            clear hK
            refine wpAnyH_ready (rs := [14]) (by kernel_rfl) (by decide) ?_
            refine AllReadyH.cons rfl (fun K' hK => ?_) AllReadyH.nil
            refine step_store_row Tryd.agg25 rfl (.tmp 10) (.tmp 32) rfl _ _ rfl rfl 23 lit32 HG12_3.out HSS.out lit32_size (bcells_one _) ?_
            intro wy hry hoy
            have By : Below wr.heap.size wr wy := B313.trans (hoy.below (B := wr.heap.size) hge12 B313.size)
            have HGA := Lib.hid hry
            have HGB := Lib.hid (HG13_3.out.only hoy (Ne.symm hne))
            clear hry
            refine hK.out _ _ ⟨(HBX.out.below By).range, (HBY.out.below By).range⟩ (fun hHeldy => ?_)
            clear hK
            refine wpAnyH_ready (rs := [15]) (by kernel_rfl) (by decide) ?_
            refine AllReadyH.cons rfl (fun K' hK => ?_) AllReadyH.nil
            refine step_store_row Tryd.agg25 rfl (.tmp 11) (.tmp 38) rfl _ _ rfl rfl 23 lit32 HGB.out HYS.out lit32_size (bcells_one _) ?_
            intro wz hrz hoz
            have Bz : Below wr.heap.size wr wz := By.trans (hoz.below (B := wr.heap.size) hge13 By.size)
            have HGX := Lib.hid (HGA.out.only hoz hne)
            have HGY := Lib.hid hrz
            clear hrz
            refine hK.out _ _ ⟨(HBX.out.below Bz).range, (HBY.out.below Bz).range⟩ (fun hHeldz => ?_)
            clear hK
            (try simp only [Act.put, List.setIfInBounds_toArray])
            refine wpAnyH_done (by kernel_rfl) ?_ _
            refine NoPanic.normal ?_
            have hbz := hbel.trans (Bz.mono hbs)
            have hbZ := HBO.out wz (HBA.out.below Bz) (HFr.out.below Bz) (HTr.out.below Bz)
            rw [h01] at hbZ
            have HBZ := Lib.hid (show Calls Tryd.prog 79 #[.slice A nt ct, .int .i64 (m : Int)] wz fun e w' => e = .returned (.int .i64 1) ∧ Below wz.heap.size wz w' from hbZ)
            clear hbZ
            have hlx := HGX.out.lt
            have hly := HGY.out.lt
            go_wp2_with (first
              | (go_at_call 79; refine HBZ.out.mono ?_; rintro e9 wq ⟨rfl, hbq⟩; have hsq := hbq.size; have HGXq := Lib.hid (HGX.out.below hbq hlx); have HGYq := Lib.hid (HGY.out.below hbq hly); have Bq : Below wr.heap.size wr wq := Bz.trans (hbq.mono Bz.size))
              | (with_reducible refine wpList_loadD rfl (.tmp 10) rfl g12 0 SX rfl (range_row HGXq.out) HSL.out ?_)
              | (with_reducible refine wpList_loadD rfl (.tmp 11) rfl g13 0 y rfl (range_row HGYq.out) HYL.out ?_)
              | (with_reducible refine wpList_buildD rfl (.tmp 49) (.tmp 50) rfl y SX rfl rfl HYL.out HSL.out ?_)
              | (at_builtin; refine wpList_appD rfl (.tmp 48) (.tmp 51) rfl (w.heap.size + 1) _ (2 * m) (ledN D L m) rfl (HO.out.below (Bq.alloc Bq.size (.cells (bcells (y ++ SX)) 23))) _ 2 2 [y, SX] rfl (two_ds wq y SX HYL.out HSL.out) (by omega) (by have := Bq.size; simp; omega) ?_; intro A6 c6 w6 ho6 hb6; have HO6 := Lib.hid ho6; have hb5 := hbel.trans ((Bq.alloc Bq.size (.cells (bcells (y ++ SX)) 23)).mono hbs); have HR6 := Lib.hid ((HRr.out.below (Bq.alloc Bq.size (.cells (bcells (y ++ SX)) 23)) hlts).below hb6 (by omega)); have B6 := hb5.trans (hb6.mono (by omega)); clear ho6))
            refine ⟨⟨m + 1, A6, c6, by omega, by go_num, rfl, B6, HR6.out, ?_⟩, by simp [intOf]; omega⟩
            rw [HLN.out, h01]
            exact HO6.out
          · refine step_of rfl (wp_allocD rfl ?_)
            intro g13 w213 hg13 hr13 hb213
            have B213 : Below wr.heap.size wr w213 := B15.trans (hb213.mono B15.size)
            have hge13 : wr.heap.size ≤ g13 := by have := B15.size; omega
            have HG13_2 := Lib.hid hr13
            clear hr13 hg13
            refine hK.out _ _ ⟨(HBX.out.below B213).range, (HBY.out.below B213).range⟩ (fun hHeld213 => ?_)
            clear hK
            refine wpAnyH_ready (rs := [12]) (by kernel_rfl) (by decide) ?_
            refine AllReadyH.cons rfl (fun K' hK => ?_) AllReadyH.nil
            refine step_of rfl (wp_allocD rfl ?_)
            intro g12 w312 hg12 hr12 hb312
            have B312 : Below wr.heap.size wr w312 := B213.trans (hb312.mono B213.size)
            have hne : g12 ≠ g13 := by have := HG13_2.out.lt; omega
            have HG13_3 := Lib.hid (HG13_2.out.below hb312 HG13_2.out.lt)
            have hge12 : wr.heap.size ≤ g12 := by have := B213.size; omega
            have HG12_3 := Lib.hid hr12
            clear hr12 hg12
            refine hK.out _ _ ⟨(HBX.out.below B312).range, (HBY.out.below B312).range⟩ (fun hHeld312 => ?_)
            clear hK
            refine wpAnyH_ready (rs := [14]) (by kernel_rfl) (by decide) ?_
            refine AllReadyH.cons rfl (fun K' hK => ?_) AllReadyH.nil
            refine step_store_row Tryd.agg25 rfl (.tmp 10) (.tmp 32) rfl _ _ rfl rfl 23 lit32 HG12_3.out HSS.out lit32_size (bcells_one _) ?_
            intro wy hry hoy
            have By : Below wr.heap.size wr wy := B312.trans (hoy.below (B := wr.heap.size) hge12 B312.size)
            have HGA := Lib.hid hry
            have HGB := Lib.hid (HG13_3.out.only hoy (Ne.symm hne))
            clear hry
            refine hK.out _ _ ⟨(HBX.out.below By).range, (HBY.out.below By).range⟩ (fun hHeldy => ?_)
            clear hK
            refine wpAnyH_ready (rs := [15]) (by kernel_rfl) (by decide) ?_
            refine AllReadyH.cons rfl (fun K' hK => ?_) AllReadyH.nil
            refine step_store_row Tryd.agg25 rfl (.tmp 11) (.tmp 38) rfl _ _ rfl rfl 23 lit32 HGB.out HYS.out lit32_size (bcells_one _) ?_
            intro wz hrz hoz
            have Bz : Below wr.heap.size wr wz := By.trans (hoz.below (B := wr.heap.size) hge13 By.size)
            have HGX := Lib.hid (HGA.out.only hoz hne)
            have HGY := Lib.hid hrz
            clear hrz
            refine hK.out _ _ ⟨(HBX.out.below Bz).range, (HBY.out.below Bz).range⟩ (fun hHeldz => ?_)
            clear hK
            (try simp only [Act.put, List.setIfInBounds_toArray])
            refine wpAnyH_done (by kernel_rfl) ?_ _
            refine NoPanic.normal ?_
            have hbz := hbel.trans (Bz.mono hbs)
            have hbZ := HBO.out wz (HBA.out.below Bz) (HFr.out.below Bz) (HTr.out.below Bz)
            rw [h01] at hbZ
            have HBZ := Lib.hid (show Calls Tryd.prog 79 #[.slice A nt ct, .int .i64 (m : Int)] wz fun e w' => e = .returned (.int .i64 1) ∧ Below wz.heap.size wz w' from hbZ)
            clear hbZ
            have hlx := HGX.out.lt
            have hly := HGY.out.lt
            go_wp2_with (first
              | (go_at_call 79; refine HBZ.out.mono ?_; rintro e9 wq ⟨rfl, hbq⟩; have hsq := hbq.size; have HGXq := Lib.hid (HGX.out.below hbq hlx); have HGYq := Lib.hid (HGY.out.below hbq hly); have Bq : Below wr.heap.size wr wq := Bz.trans (hbq.mono Bz.size))
              | (with_reducible refine wpList_loadD rfl (.tmp 10) rfl g12 0 SX rfl (range_row HGXq.out) HSL.out ?_)
              | (with_reducible refine wpList_loadD rfl (.tmp 11) rfl g13 0 y rfl (range_row HGYq.out) HYL.out ?_)
              | (with_reducible refine wpList_buildD rfl (.tmp 49) (.tmp 50) rfl y SX rfl rfl HYL.out HSL.out ?_)
              | (at_builtin; refine wpList_appD rfl (.tmp 48) (.tmp 51) rfl (w.heap.size + 1) _ (2 * m) (ledN D L m) rfl (HO.out.below (Bq.alloc Bq.size (.cells (bcells (y ++ SX)) 23))) _ 2 2 [y, SX] rfl (two_ds wq y SX HYL.out HSL.out) (by omega) (by have := Bq.size; simp; omega) ?_; intro A6 c6 w6 ho6 hb6; have HO6 := Lib.hid ho6; have hb5 := hbel.trans ((Bq.alloc Bq.size (.cells (bcells (y ++ SX)) 23)).mono hbs); have HR6 := Lib.hid ((HRr.out.below (Bq.alloc Bq.size (.cells (bcells (y ++ SX)) 23)) hlts).below hb6 (by omega)); have B6 := hb5.trans (hb6.mono (by omega)); clear ho6))
            refine ⟨⟨m + 1, A6, c6, by omega, by go_num, rfl, B6, HR6.out, ?_⟩, by simp [intOf]; omega⟩
            rw [HLN.out, h01]
            exact HO6.out
        · refine step_of rfl (wp_allocD rfl ?_)
          intro g12 w112 hg12 hr12 hb112
          have B112 : Below wr.heap.size wr w112 := B0.trans (hb112.mono B0.size)
          have hge12 : wr.heap.size ≤ g12 := by have := B0.size; omega
          have HG12_1 := Lib.hid hr12
          clear hr12 hg12
          refine hK.out _ _ ⟨(HBX.out.below B112).range, (HBY.out.below B112).range⟩ (fun hHeld112 => ?_)
          clear hK
          refine wpAnyH_ready (rs := [5, 13]) (by kernel_rfl) (by decide) ?_
          refine AllReadyH.cons rfl (fun K' hK => ?_) (AllReadyH.cons rfl (fun K' hK => ?_) AllReadyH.nil)
          · go_simp
            refine (HSX.out w112 (HFr.out.below B112) (HTr.out.below B112)).mono ?_
            rintro e3 w25 ⟨rfl, hb25⟩
            have B25 : Below wr.heap.size wr w25 := B112.trans (hb25.mono B112.size)
            have HG12_2 := Lib.hid (HG12_1.out.below hb25 HG12_1.out.lt)
            refine hK.out _ _ ⟨(HBX.out.below B25).range, (HBY.out.below B25).range⟩ (fun hHeld25 => ?_)
            clear hK
            refine wpAnyH_ready (rs := [13]) (by kernel_rfl) (by decide) ?_
            refine AllReadyH.cons rfl (fun K' hK => ?_) AllReadyH.nil
            refine step_of rfl (wp_allocD rfl ?_)
            intro g13 w313 hg13 hr13 hb313
            have B313 : Below wr.heap.size wr w313 := B25.trans (hb313.mono B25.size)
            have hne : g12 ≠ g13 := by have := HG12_2.out.lt; omega
            have HG12_3 := Lib.hid (HG12_2.out.below hb313 HG12_2.out.lt)
            have hge13 : wr.heap.size ≤ g13 := by have := B25.size; omega
            have HG13_3 := Lib.hid hr13
            clear hr13 hg13
            refine hK.out _ _ ⟨(HBX.out.below B313).range, (HBY.out.below B313).range⟩ (fun hHeld313 => ?_)
            clear hK
            refine wpAnyH_ready (rs := [14]) (by kernel_rfl) (by decide) ?_
            refine AllReadyH.cons rfl (fun K' hK => ?_) AllReadyH.nil
            refine step_store_row Tryd.agg25 rfl (.tmp 10) (.tmp 32) rfl _ _ rfl rfl 23 lit32 HG12_3.out HSS.out lit32_size (bcells_one _) ?_
            intro wy hry hoy
            have By : Below wr.heap.size wr wy := B313.trans (hoy.below (B := wr.heap.size) hge12 B313.size)
            have HGA := Lib.hid hry
            have HGB := Lib.hid (HG13_3.out.only hoy (Ne.symm hne))
            clear hry
            refine hK.out _ _ ⟨(HBX.out.below By).range, (HBY.out.below By).range⟩ (fun hHeldy => ?_)
            clear hK
            refine wpAnyH_ready (rs := [15]) (by kernel_rfl) (by decide) ?_
            refine AllReadyH.cons rfl (fun K' hK => ?_) AllReadyH.nil
            refine step_store_row Tryd.agg25 rfl (.tmp 11) (.tmp 38) rfl _ _ rfl rfl 23 lit32 HGB.out HYS.out lit32_size (bcells_one _) ?_
            intro wz hrz hoz
            have Bz : Below wr.heap.size wr wz := By.trans (hoz.below (B := wr.heap.size) hge13 By.size)
            have HGX := Lib.hid (HGA.out.only hoz hne)
            have HGY := Lib.hid hrz
            clear hrz
            refine hK.out _ _ ⟨(HBX.out.below Bz).range, (HBY.out.below Bz).range⟩ (fun hHeldz => ?_)
            clear hK
            (try simp only [Act.put, List.setIfInBounds_toArray])
            refine wpAnyH_done (by kernel_rfl) ?_ _
            refine NoPanic.normal ?_
            have hbz := hbel.trans (Bz.mono hbs)
            have hbZ := HBO.out wz (HBA.out.below Bz) (HFr.out.below Bz) (HTr.out.below Bz)
            rw [h01] at hbZ
            have HBZ := Lib.hid (show Calls Tryd.prog 79 #[.slice A nt ct, .int .i64 (m : Int)] wz fun e w' => e = .returned (.int .i64 1) ∧ Below wz.heap.size wz w' from hbZ)
            clear hbZ
            have hlx := HGX.out.lt
            have hly := HGY.out.lt
            go_wp2_with (first
              | (go_at_call 79; refine HBZ.out.mono ?_; rintro e9 wq ⟨rfl, hbq⟩; have hsq := hbq.size; have HGXq := Lib.hid (HGX.out.below hbq hlx); have HGYq := Lib.hid (HGY.out.below hbq hly); have Bq : Below wr.heap.size wr wq := Bz.trans (hbq.mono Bz.size))
              | (with_reducible refine wpList_loadD rfl (.tmp 10) rfl g12 0 SX rfl (range_row HGXq.out) HSL.out ?_)
              | (with_reducible refine wpList_loadD rfl (.tmp 11) rfl g13 0 y rfl (range_row HGYq.out) HYL.out ?_)
              | (with_reducible refine wpList_buildD rfl (.tmp 49) (.tmp 50) rfl y SX rfl rfl HYL.out HSL.out ?_)
              | (at_builtin; refine wpList_appD rfl (.tmp 48) (.tmp 51) rfl (w.heap.size + 1) _ (2 * m) (ledN D L m) rfl (HO.out.below (Bq.alloc Bq.size (.cells (bcells (y ++ SX)) 23))) _ 2 2 [y, SX] rfl (two_ds wq y SX HYL.out HSL.out) (by omega) (by have := Bq.size; simp; omega) ?_; intro A6 c6 w6 ho6 hb6; have HO6 := Lib.hid ho6; have hb5 := hbel.trans ((Bq.alloc Bq.size (.cells (bcells (y ++ SX)) 23)).mono hbs); have HR6 := Lib.hid ((HRr.out.below (Bq.alloc Bq.size (.cells (bcells (y ++ SX)) 23)) hlts).below hb6 (by omega)); have B6 := hb5.trans (hb6.mono (by omega)); clear ho6))
            refine ⟨⟨m + 1, A6, c6, by omega, by go_num, rfl, B6, HR6.out, ?_⟩, by simp [intOf]; omega⟩
            rw [HLN.out, h01]
            exact HO6.out
          · refine step_of rfl (wp_allocD rfl ?_)
            intro g13 w213 hg13 hr13 hb213
            have B213 : Below wr.heap.size wr w213 := B112.trans (hb213.mono B112.size)
            have hne : g12 ≠ g13 := by have := HG12_1.out.lt; omega
            have HG12_2 := Lib.hid (HG12_1.out.below hb213 HG12_1.out.lt)
            have hge13 : wr.heap.size ≤ g13 := by have := B112.size; omega
            have HG13_2 := Lib.hid hr13
            clear hr13 hg13
            refine hK.out _ _ ⟨(HBX.out.below B213).range, (HBY.out.below B213).range⟩ (fun hHeld213 => ?_)
            clear hK
            refine wpAnyH_ready (rs := [5]) (by kernel_rfl) (by decide) ?_
            refine AllReadyH.cons rfl (fun K' hK => ?_) AllReadyH.nil
            go_simp
            refine (HSX.out w213 (HFr.out.below B213) (HTr.out.below B213)).mono ?_
            rintro e3 w35 ⟨rfl, hb35⟩
            have B35 : Below wr.heap.size wr w35 := B213.trans (hb35.mono B213.size)
            have HG12_3 := Lib.hid (HG12_2.out.below hb35 HG12_2.out.lt)
            have HG13_3 := Lib.hid (HG13_2.out.below hb35 HG13_2.out.lt)
            refine hK.out _ _ ⟨(HBX.out.below B35).range, (HBY.out.below B35).range⟩ (fun hHeld35 => ?_)
            clear hK
            refine wpAnyH_ready (rs := [14]) (by kernel_rfl) (by decide) ?_
            refine AllReadyH.cons rfl (fun K' hK => ?_) AllReadyH.nil
            refine step_store_row Tryd.agg25 rfl (.tmp 10) (.tmp 32) rfl _ _ rfl rfl 23 lit32 HG12_3.out HSS.out lit32_size (bcells_one _) ?_
            intro wy hry hoy
            have By : Below wr.heap.size wr wy := B35.trans (hoy.below (B := wr.heap.size) hge12 B35.size)
            have HGA := Lib.hid hry
            have HGB := Lib.hid (HG13_3.out.only hoy (Ne.symm hne))
            clear hry
            refine hK.out _ _ ⟨(HBX.out.below By).range, (HBY.out.below By).range⟩ (fun hHeldy => ?_)
            clear hK
            refine wpAnyH_ready (rs := [15]) (by kernel_rfl) (by decide) ?_
            refine AllReadyH.cons rfl (fun K' hK => ?_) AllReadyH.nil
            refine step_store_row Tryd.agg25 rfl (.tmp 11) (.tmp 38) rfl _ _ rfl rfl 23 lit32 HGB.out HYS.out lit32_size (bcells_one _) ?_
            intro wz hrz hoz
            have Bz : Below wr.heap.size wr wz := By.trans (hoz.below (B := wr.heap.size) hge13 By.size)
            have HGX := Lib.hid (HGA.out.only hoz hne)
            have HGY := Lib.hid hrz
            clear hrz
            refine hK.out _ _ ⟨(HBX.out.below Bz).range, (HBY.out.below Bz).range⟩ (fun hHeldz => ?_)
            clear hK
            (try simp only [Act.put, List.setIfInBounds_toArray])
            refine wpAnyH_done (by kernel_rfl) ?_ _
            refine NoPanic.normal ?_
            have hbz := hbel.trans (Bz.mono hbs)
            have hbZ := HBO.out wz (HBA.out.below Bz) (HFr.out.below Bz) (HTr.out.below Bz)
            rw [h01] at hbZ
            have HBZ := Lib.hid (show Calls Tryd.prog 79 #[.slice A nt ct, .int .i64 (m : Int)] wz fun e w' => e = .returned (.int .i64 1) ∧ Below wz.heap.size wz w' from hbZ)
            clear hbZ
            have hlx := HGX.out.lt
            have hly := HGY.out.lt
            go_wp2_with (first
              | (go_at_call 79; refine HBZ.out.mono ?_; rintro e9 wq ⟨rfl, hbq⟩; have hsq := hbq.size; have HGXq := Lib.hid (HGX.out.below hbq hlx); have HGYq := Lib.hid (HGY.out.below hbq hly); have Bq : Below wr.heap.size wr wq := Bz.trans (hbq.mono Bz.size))
              | (with_reducible refine wpList_loadD rfl (.tmp 10) rfl g12 0 SX rfl (range_row HGXq.out) HSL.out ?_)
              | (with_reducible refine wpList_loadD rfl (.tmp 11) rfl g13 0 y rfl (range_row HGYq.out) HYL.out ?_)
              | (with_reducible refine wpList_buildD rfl (.tmp 49) (.tmp 50) rfl y SX rfl rfl HYL.out HSL.out ?_)
              | (at_builtin; refine wpList_appD rfl (.tmp 48) (.tmp 51) rfl (w.heap.size + 1) _ (2 * m) (ledN D L m) rfl (HO.out.below (Bq.alloc Bq.size (.cells (bcells (y ++ SX)) 23))) _ 2 2 [y, SX] rfl (two_ds wq y SX HYL.out HSL.out) (by omega) (by have := Bq.size; simp; omega) ?_; intro A6 c6 w6 ho6 hb6; have HO6 := Lib.hid ho6; have hb5 := hbel.trans ((Bq.alloc Bq.size (.cells (bcells (y ++ SX)) 23)).mono hbs); have HR6 := Lib.hid ((HRr.out.below (Bq.alloc Bq.size (.cells (bcells (y ++ SX)) 23)) hlts).below hb6 (by omega)); have B6 := hb5.trans (hb6.mono (by omega)); clear ho6))
            refine ⟨⟨m + 1, A6, c6, by omega, by go_num, rfl, B6, HR6.out, ?_⟩, by simp [intOf]; omega⟩
            rw [HLN.out, h01]
            exact HO6.out
        · refine step_of rfl (wp_allocD rfl ?_)
          intro g13 w113 hg13 hr13 hb113
          have B113 : Below wr.heap.size wr w113 := B0.trans (hb113.mono B0.size)
          have hge13 : wr.heap.size ≤ g13 := by have := B0.size; omega
          have HG13_1 := Lib.hid hr13
          clear hr13 hg13
          refine hK.out _ _ ⟨(HBX.out.below B113).range, (HBY.out.below B113).range⟩ (fun hHeld113 => ?_)
          clear hK
          refine wpAnyH_ready (rs := [5, 12]) (by kernel_rfl) (by decide) ?_
          refine AllReadyH.cons rfl (fun K' hK => ?_) (AllReadyH.cons rfl (fun K' hK => ?_) AllReadyH.nil)
          · go_simp
            refine (HSX.out w113 (HFr.out.below B113) (HTr.out.below B113)).mono ?_
            rintro e3 w25 ⟨rfl, hb25⟩
            have B25 : Below wr.heap.size wr w25 := B113.trans (hb25.mono B113.size)
            have HG13_2 := Lib.hid (HG13_1.out.below hb25 HG13_1.out.lt)
            refine hK.out _ _ ⟨(HBX.out.below B25).range, (HBY.out.below B25).range⟩ (fun hHeld25 => ?_)
            clear hK
            refine wpAnyH_ready (rs := [12]) (by kernel_rfl) (by decide) ?_
            refine AllReadyH.cons rfl (fun K' hK => ?_) AllReadyH.nil
            refine step_of rfl (wp_allocD rfl ?_)
            intro g12 w312 hg12 hr12 hb312
            have B312 : Below wr.heap.size wr w312 := B25.trans (hb312.mono B25.size)
            have hne : g12 ≠ g13 := by have := HG13_2.out.lt; omega
            have HG13_3 := Lib.hid (HG13_2.out.below hb312 HG13_2.out.lt)
            have hge12 : wr.heap.size ≤ g12 := by have := B25.size; omega
            have HG12_3 := Lib.hid hr12
            clear hr12 hg12
            refine hK.out _ _ ⟨(HBX.out.below B312).range, (HBY.out.below B312).range⟩ (fun hHeld312 => ?_)
            clear hK
            refine wpAnyH_ready (rs := [14]) (by kernel_rfl) (by decide) ?_
            refine AllReadyH.cons rfl (fun K' hK => ?_) AllReadyH.nil
            refine step_store_row Tryd.agg25 rfl (.tmp 10) (.tmp 32) rfl _ _ rfl rfl 23 lit32 HG12_3.out HSS.out lit32_size (bcells_one _) ?_
            intro wy hry hoy
            have By : Below wr.heap.size wr wy := B312.trans (hoy.below (B := wr.heap.size) hge12 B312.size)
            have HGA := Lib.hid hry
            have HGB := Lib.hid (HG13_3.out.only hoy (Ne.symm hne))
            clear hry
            refine hK.out _ _ ⟨(HBX.out.below By).range, (HBY.out.below By).range⟩ (fun hHeldy => ?_)
            clear hK
            refine wpAnyH_ready (rs := [15]) (by kernel_rfl) (by decide) ?_
            refine AllReadyH.cons rfl (fun K' hK => ?_) AllReadyH.nil
            refine step_store_row Tryd.agg25 rfl (.tmp 11) (.tmp 38) rfl _ _ rfl rfl 23 lit32 HGB.out HYS.out lit32_size (bcells_one _) ?_
            intro wz hrz hoz
            have Bz : Below wr.heap.size wr wz := By.trans (hoz.below (B := wr.heap.size) hge13 By.size)
            have HGX := Lib.hid (HGA.out.only hoz hne)
            have HGY := Lib.hid hrz
            clear hrz
            refine hK.out _ _ ⟨(HBX.out.below Bz).range, (HBY.out.below Bz).range⟩ (fun hHeldz => ?_)
            clear hK
            (try simp only [Act.put, List.setIfInBounds_toArray])
            refine wpAnyH_done (by kernel_rfl) ?_ _
            refine NoPanic.normal ?_
            have hbz := hbel.trans (Bz.mono hbs)
            have hbZ := HBO.out wz (HBA.out.below Bz) (HFr.out.below Bz) (HTr.out.below Bz)
            rw [h01] at hbZ
            have HBZ := Lib.hid (show Calls Tryd.prog 79 #[.slice A nt ct, .int .i64 (m : Int)] wz fun e w' => e = .returned (.int .i64 1) ∧ Below wz.heap.size wz w' from hbZ)
            clear hbZ
            have hlx := HGX.out.lt
            have hly := HGY.out.lt
            go_wp2_with (first
              | (go_at_call 79; refine HBZ.out.mono ?_; rintro e9 wq ⟨rfl, hbq⟩; have hsq := hbq.size; have HGXq := Lib.hid (HGX.out.below hbq hlx); have HGYq := Lib.hid (HGY.out.below hbq hly); have Bq : Below wr.heap.size wr wq := Bz.trans (hbq.mono Bz.size))
              | (with_reducible refine wpList_loadD rfl (.tmp 10) rfl g12 0 SX rfl (range_row HGXq.out) HSL.out ?_)
              | (with_reducible refine wpList_loadD rfl (.tmp 11) rfl g13 0 y rfl (range_row HGYq.out) HYL.out ?_)
              | (with_reducible refine wpList_buildD rfl (.tmp 49) (.tmp 50) rfl y SX rfl rfl HYL.out HSL.out ?_)
              | (at_builtin; refine wpList_appD rfl (.tmp 48) (.tmp 51) rfl (w.heap.size + 1) _ (2 * m) (ledN D L m) rfl (HO.out.below (Bq.alloc Bq.size (.cells (bcells (y ++ SX)) 23))) _ 2 2 [y, SX] rfl (two_ds wq y SX HYL.out HSL.out) (by omega) (by have := Bq.size; simp; omega) ?_; intro A6 c6 w6 ho6 hb6; have HO6 := Lib.hid ho6; have hb5 := hbel.trans ((Bq.alloc Bq.size (.cells (bcells (y ++ SX)) 23)).mono hbs); have HR6 := Lib.hid ((HRr.out.below (Bq.alloc Bq.size (.cells (bcells (y ++ SX)) 23)) hlts).below hb6 (by omega)); have B6 := hb5.trans (hb6.mono (by omega)); clear ho6))
            refine ⟨⟨m + 1, A6, c6, by omega, by go_num, rfl, B6, HR6.out, ?_⟩, by simp [intOf]; omega⟩
            rw [HLN.out, h01]
            exact HO6.out
          · refine step_of rfl (wp_allocD rfl ?_)
            intro g12 w212 hg12 hr12 hb212
            have B212 : Below wr.heap.size wr w212 := B113.trans (hb212.mono B113.size)
            have hne : g12 ≠ g13 := by have := HG13_1.out.lt; omega
            have HG13_2 := Lib.hid (HG13_1.out.below hb212 HG13_1.out.lt)
            have hge12 : wr.heap.size ≤ g12 := by have := B113.size; omega
            have HG12_2 := Lib.hid hr12
            clear hr12 hg12
            refine hK.out _ _ ⟨(HBX.out.below B212).range, (HBY.out.below B212).range⟩ (fun hHeld212 => ?_)
            clear hK
            refine wpAnyH_ready (rs := [5]) (by kernel_rfl) (by decide) ?_
            refine AllReadyH.cons rfl (fun K' hK => ?_) AllReadyH.nil
            go_simp
            refine (HSX.out w212 (HFr.out.below B212) (HTr.out.below B212)).mono ?_
            rintro e3 w35 ⟨rfl, hb35⟩
            have B35 : Below wr.heap.size wr w35 := B212.trans (hb35.mono B212.size)
            have HG13_3 := Lib.hid (HG13_2.out.below hb35 HG13_2.out.lt)
            have HG12_3 := Lib.hid (HG12_2.out.below hb35 HG12_2.out.lt)
            refine hK.out _ _ ⟨(HBX.out.below B35).range, (HBY.out.below B35).range⟩ (fun hHeld35 => ?_)
            clear hK
            refine wpAnyH_ready (rs := [14]) (by kernel_rfl) (by decide) ?_
            refine AllReadyH.cons rfl (fun K' hK => ?_) AllReadyH.nil
            refine step_store_row Tryd.agg25 rfl (.tmp 10) (.tmp 32) rfl _ _ rfl rfl 23 lit32 HG12_3.out HSS.out lit32_size (bcells_one _) ?_
            intro wy hry hoy
            have By : Below wr.heap.size wr wy := B35.trans (hoy.below (B := wr.heap.size) hge12 B35.size)
            have HGA := Lib.hid hry
            have HGB := Lib.hid (HG13_3.out.only hoy (Ne.symm hne))
            clear hry
            refine hK.out _ _ ⟨(HBX.out.below By).range, (HBY.out.below By).range⟩ (fun hHeldy => ?_)
            clear hK
            refine wpAnyH_ready (rs := [15]) (by kernel_rfl) (by decide) ?_
            refine AllReadyH.cons rfl (fun K' hK => ?_) AllReadyH.nil
            refine step_store_row Tryd.agg25 rfl (.tmp 11) (.tmp 38) rfl _ _ rfl rfl 23 lit32 HGB.out HYS.out lit32_size (bcells_one _) ?_
            intro wz hrz hoz
            have Bz : Below wr.heap.size wr wz := By.trans (hoz.below (B := wr.heap.size) hge13 By.size)
            have HGX := Lib.hid (HGA.out.only hoz hne)
            have HGY := Lib.hid hrz
            clear hrz
            refine hK.out _ _ ⟨(HBX.out.below Bz).range, (HBY.out.below Bz).range⟩ (fun hHeldz => ?_)
            clear hK
            (try simp only [Act.put, List.setIfInBounds_toArray])
            refine wpAnyH_done (by kernel_rfl) ?_ _
            refine NoPanic.normal ?_
            have hbz := hbel.trans (Bz.mono hbs)
            have hbZ := HBO.out wz (HBA.out.below Bz) (HFr.out.below Bz) (HTr.out.below Bz)
            rw [h01] at hbZ
            have HBZ := Lib.hid (show Calls Tryd.prog 79 #[.slice A nt ct, .int .i64 (m : Int)] wz fun e w' => e = .returned (.int .i64 1) ∧ Below wz.heap.size wz w' from hbZ)
            clear hbZ
            have hlx := HGX.out.lt
            have hly := HGY.out.lt
            go_wp2_with (first
              | (go_at_call 79; refine HBZ.out.mono ?_; rintro e9 wq ⟨rfl, hbq⟩; have hsq := hbq.size; have HGXq := Lib.hid (HGX.out.below hbq hlx); have HGYq := Lib.hid (HGY.out.below hbq hly); have Bq : Below wr.heap.size wr wq := Bz.trans (hbq.mono Bz.size))
              | (with_reducible refine wpList_loadD rfl (.tmp 10) rfl g12 0 SX rfl (range_row HGXq.out) HSL.out ?_)
              | (with_reducible refine wpList_loadD rfl (.tmp 11) rfl g13 0 y rfl (range_row HGYq.out) HYL.out ?_)
              | (with_reducible refine wpList_buildD rfl (.tmp 49) (.tmp 50) rfl y SX rfl rfl HYL.out HSL.out ?_)
              | (at_builtin; refine wpList_appD rfl (.tmp 48) (.tmp 51) rfl (w.heap.size + 1) _ (2 * m) (ledN D L m) rfl (HO.out.below (Bq.alloc Bq.size (.cells (bcells (y ++ SX)) 23))) _ 2 2 [y, SX] rfl (two_ds wq y SX HYL.out HSL.out) (by omega) (by have := Bq.size; simp; omega) ?_; intro A6 c6 w6 ho6 hb6; have HO6 := Lib.hid ho6; have hb5 := hbel.trans ((Bq.alloc Bq.size (.cells (bcells (y ++ SX)) 23)).mono hbs); have HR6 := Lib.hid ((HRr.out.below (Bq.alloc Bq.size (.cells (bcells (y ++ SX)) 23)) hlts).below hb6 (by omega)); have B6 := hb5.trans (hb6.mono (by omega)); clear ho6))
            refine ⟨⟨m + 1, A6, c6, by omega, by go_num, rfl, B6, HR6.out, ?_⟩, by simp [intOf]; omega⟩
            rw [HLN.out, h01]
            exact HO6.out
    · obtain rfl : n = m := by omega
      go_wp2_with (first
        | (go_at_call 73; refine (HRT.out _ _ _ wr HO.out.ds HFr.out HTr.out (by omega)).mono ?_; rintro e3 w3 ⟨rfl, hb3⟩; have HR3 := Lib.hid (HRr.out.below hb3 hlts); have hb3' := hbel.trans (hb3.mono hbs))
        | (with_reducible refine wpList_store_row Tryd.agg25 rfl (.tmp 6) (.tmp 54) rfl _ _ rfl rfl 23 lit32 HR3.out HRS.out lit32_size (bcells_one _) ?_; intro w9 hr9 ho9; have HR9 := Lib.hid hr9; clear hr9))
      exact bodyPost_ret (results_row2 Tryd.agg25 Tryd.results49 rfl rfl HR9.out HRS.out) rfl ⟨rfl, hb3'.trans (ho9.below (Nat.le_refl _) hb3'.size)⟩
end
end Go.Proofs.YtfelmdndjdaniaaDoor
