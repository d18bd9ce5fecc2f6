/-
  What the document's own Climb answers: where a path leads, or the error.
-/
import Derived.Test.YtiidcnjhjojhoaaDoorRts
namespace Go.Proofs.YtiidcnjhjojhoaaDoor
open Go.RowKit
set_option maxRecDepth 100000 in
set_option maxHeartbeats 400000 in
theorem RefClimb_long (d : List UInt8) (A : Option Addr) (n c : Nat) (i : Int) (w : World) (h : 10 < n) : Calls Tryd.prog 19 #[.agg (bcells d), .int .i64 i, .slice A n c] w (RecD w zero32 1) := by
  have i0 : (10 : Int) < (n : Int) := by omega
  clear h
  have hb0 := ((Below.refl w.heap.size w).alloc (Nat.le_refl _) (.cells (bcells d) 24)).alloc (by simp) (.cells lit32 24)
  go_enter Tryd.func19, Tryd.ntmps19
  go_wp2_with (with_reducible refine wpList_store_row Tryd.agg25 rfl (.tmp 6) (.tmp 16) rfl _ _ rfl rfl 24 lit32 (Row.new1 w (.cells (bcells d) 24) 24 lit32) lit32_size lit32_size lit32_one ?_; intro w9 hr9 ho9; have HR9 := Lib.hid hr9; clear hr9)
  exact bodyPost_ret (results_row2 Tryd.agg25 Tryd.results19 rfl rfl HR9.out lit32_size) rfl ⟨rfl, hb0.trans (ho9.below (by omega) (by simp; omega))⟩
set_option maxRecDepth 100000 in
set_option maxHeartbeats 400000 in
theorem RefClimb_neg (d : List UInt8) (A : Option Addr) (n c : Nat) (i : Int) (w : World) (h : n ≤ 10) (hi : i < 0) : Calls Tryd.prog 19 #[.agg (bcells d), .int .i64 i, .slice A n c] w (RecD w zero32 1) := by
  have i0 : ¬ (10 : Int) < (n : Int) := by omega
  clear h
  have hb0 := ((Below.refl w.heap.size w).alloc (Nat.le_refl _) (.cells (bcells d) 24)).alloc (by simp) (.cells lit32 24)
  go_enter Tryd.func19, Tryd.ntmps19
  go_wp2_with (with_reducible refine wpList_store_row Tryd.agg25 rfl (.tmp 6) (.tmp 16) rfl _ _ rfl rfl 24 lit32 (Row.new1 w (.cells (bcells d) 24) 24 lit32) lit32_size lit32_size lit32_one ?_; intro w9 hr9 ho9; have HR9 := Lib.hid hr9; clear hr9)
  exact bodyPost_ret (results_row2 Tryd.agg25 Tryd.results19 rfl rfl HR9.out lit32_size) rfl ⟨rfl, hb0.trans (ho9.below (by omega) (by simp; omega))⟩
set_option maxRecDepth 100000 in
set_option maxHeartbeats 2000000 in
theorem RefClimb_any (d : List UInt8) (A : Option Addr) (n c i : Nat) (P : List (List UInt8)) (w : World) (R : List UInt8) (E : Int) (hd : d.length = 32) (hn : n ≤ 10) (hi : i < 9223372036854775808) (hD : Ds w A n P) (hF : First w) (hT : Tab 2 w)
    (hY : i < 2 ^ n → R = climbD d i P ∧ E = 0) (hN : 2 ^ n ≤ i → R = zero32 ∧ E = 1) :
    Calls Tryd.prog 19 #[.agg (bcells d), .int .i64 (i : Int), .slice A n c] w (RecD w R E) := by
  have i0 : ¬ (10 : Int) < (n : Int) := by omega
  have i1 : ¬ (i : Int) < 0 := by omega
  have HD := Lib.hid hD
  have HT := Lib.hid hT
  have HF := Lib.hid hF
  have HKS := Lib.hid (show (bcells d).size = 32 by rw [bcells_size, hd])
  have HDL := Lib.hid hd
  have HYY := Lib.hid hY
  have HNN := Lib.hid hN
  have HRS := Lib.hid (show (bcells (climbD d i P)).size = 32 by rw [bcells_size, climbD_length P d i hd])
  have HTK := Lib.hid (show P.take n = P from List.take_of_length_le (by rw [hD.1]; exact Nat.le_refl _))
  have hb0 := (((Below.refl w.heap.size w).alloc (Nat.le_refl _) (.cells (bcells d) 24)).alloc (by simp) (.cells lit32 24))
  have HN0 := Lib.hid (((Row.new w 24 (bcells d)).alloc (.cells lit32 24)))
  have HZ0 := Lib.hid (Row.new1 w (.cells (bcells d) 24) 24 lit32)
  obtain ⟨p, hp⟩ : ∃ p, 2 ^ n = p := ⟨_, rfl⟩
  rw [hp] at HYY HNN
  have HP := Lib.hid hp
  clear hD hT hd hF hY hN hp
  go_enter Tryd.func19, Tryd.ntmps19
  go_wp2_with fail
  go_loopw [1, 8] (fun vi v wr => ∃ m t : Nat, m ≤ n ∧ v = .int .i64 (m : Int) ∧ vi = .int .i64 (t : Int) ∧ Hid (i / 2 ^ m = t) ∧ t < 9223372036854775808 ∧ Below w.heap.size w wr ∧ Row wr (w.heap.size + 1) 24 lit32 ∧ Row wr w.heap.size 24 (bcells (climbD d i (P.take m)))) (fun _ v _ => n - (intOf v).toNat)
  case atStart => exact ⟨0, i, Nat.zero_le _, rfl, rfl, Lib.hid (by simp), hi, hb0, HZ0.out, by rw [List.take_zero]; exact HN0.out⟩
  case round =>
    obtain ⟨m, t, hm, rfl, rfl, HTT, ht63, hbel, hz, hnode⟩ := hrel
    have hbs := hbel.size
    have HZr := Lib.hid hz
    have hzlt := hz.lt
    have HNr := Lib.hid hnode
    have hnlt := hnode.lt
    have HTr := Lib.hid (HT.out.below hbel)
    have HFr := Lib.hid (HF.out.below hbel)
    clear hz hnode
    by_cases hlt : m < n
    · have him : (m : Int) < (n : Int) := by omega
      obtain ⟨b, off, x, rfl, hb, hx, hxl, hBx⟩ := HD.out.get hlt
      have HBX := Lib.hid (hBx.below hbel).range
      have HXL := Lib.hid hxl
      have hst := climbD_step d i P m (by rw [HD.out.1]; exact hlt)
      have hgx : P.getD m [] = x := by rw [List.getD_eq_getElem?_getD, hx]; rfl
      rw [hgx, HTT.out] at hst
      have hcl : (climbD d i (P.take m)).length = 32 := climbD_length _ d i HDL.out
      have HCL := Lib.hid hcl
      obtain ⟨y, hy⟩ : ∃ y, climbD d i (P.take m) = y := ⟨_, rfl⟩
      rw [hy] at HNr HCL hst
      have HNX := Lib.hid (range_row HNr.out)
      have HYS : Hid ((bcells y).size = 32) := Lib.hid (by rw [bcells_size]; exact HCL.out)
      have hdv : ((t : Int)).tdiv 2 = ((t / 2 : Nat) : Int) := by rw [Int.tdiv_eq_ediv_of_nonneg (by omega)]; omega
      have hrm : ((t : Int)).tmod 2 = ((t % 2 : Nat) : Int) := by rw [Int.tmod_eq_emod_of_nonneg (by omega)]; omega
      have HT2 : Hid (i / 2 ^ (m + 1) = t / 2) := Lib.hid (by rw [Nat.pow_succ, ← Nat.div_div_eq_div_mul, HTT.out])
      obtain ⟨u, hu⟩ : ∃ u, t / 2 = u := ⟨_, rfl⟩
      have hu63 : u < 9223372036854775808 := by omega
      obtain ⟨o1, ho1⟩ : ∃ o, off + 32 * m = o := ⟨_, rfl⟩
      have HO1 := Lib.hid ho1
      rw [ho1] at HBX
      rw [hu] at hdv HT2
      have hmt : t % 2 = 0 ∨ t % 2 = 1 := by omega
      clear hx hBx hxl hgx hcl hy ho1 hu
      rcases hmt with h0 | h0
      · rw [h0] at hrm
        rw [if_pos h0] at hst
        have HST := Lib.hid hst
        have HAB := Lib.hid (fun w hF hT => RefAbove_any y x w HCL.out HXL.out hF hT)
        have HAS := Lib.hid (show (bcells (abL y x)).size = 32 by rw [bcells_size, abL_length])
        generalize abL y x = z at *
        clear hst h0
        go_wp2_with fail
        refine wp_region_noPanic ?_
        refine wp_region_held_drew (S := fun w' => True) (by kernel_rfl) trivial (fun hHeld => ?_)
        refine takeD (i := 1) (some 27) (.slice (some ⟨b, off, none⟩) n c) rfl rfl (by kernel_rfl) (by kernel_rfl) (by kernel_rfl) (fun _ _ _ h => h) (Or.inl ⟨by rfl, fun _ _ => rfl⟩) hHeld ?_
        simp only [Act.put, List.setIfInBounds_toArray, List.set_cons_zero, List.set_cons_succ]
        refine takeD (i := 2) (some 28) (.int .i64 (m : Int)) rfl rfl (by kernel_rfl) (by kernel_rfl) (by kernel_rfl) (fun _ _ _ h => h) (Or.inl ⟨by rfl, fun _ _ => rfl⟩) hHeld ?_
        simp only [Act.put, List.setIfInBounds_toArray, List.set_cons_zero, List.set_cons_succ]
        refine takeD (i := 3) (some 29) (.pointer (some ⟨b, o1, none⟩)) rfl rfl (by kernel_rfl) (by kernel_rfl) (by kernel_rfl) (fun _ _ _ h => h) (yields_indexO rfl (.tmp 27) (.tmp 28) rfl b off n c m o1 _ rfl rfl rfl hlt HO1.out) hHeld ?_
        simp only [Act.put, List.setIfInBounds_toArray, List.set_cons_zero, List.set_cons_succ]
        have B0 : Below wr.heap.size wr wr.drew := (Below.refl wr.heap.size wr).drew
        refine wpAnyH_ready (rs := [0, 4]) (by kernel_rfl) (by decide) ?_
        refine AllReadyH.cons rfl (fun K' hK => ?_) (AllReadyH.cons rfl (fun K' hK => ?_) AllReadyH.nil)
        · refine step_of rfl (wp_loadD (.tmp 3) rfl w.heap.size 0 y rfl HNX.out HCL.out ?_)
          refine hK.out _ _ trivial (fun _ => ?_)
          clear hK
          refine wpAnyH_ready (rs := [4]) (by kernel_rfl) (by decide) ?_
          refine AllReadyH.cons rfl (fun K' hK => ?_) AllReadyH.nil
          refine step_of rfl (wp_loadD (.tmp 29) rfl b o1 x rfl HBX.out HXL.out ?_)
          refine hK.out _ _ trivial (fun hHeld2 => ?_)
          clear hK
          refine wpAnyH_ready (rs := [5]) (by kernel_rfl) (by decide) ?_
          refine AllReadyH.cons rfl (fun K' hK => ?_) AllReadyH.nil
          go_simp
          refine (HAB.out wr.drew (HFr.out.below B0) (HTr.out.below B0)).mono ?_
          rintro e3 w3 ⟨rfl, hb3⟩
          have B3 : Below wr.heap.size wr w3 := B0.trans (hb3.mono B0.size)
          have HN3 := Lib.hid (HNr.out.below B3 hnlt)
          have HZ3 := Lib.hid (HZr.out.below B3 hzlt)
          refine hK.out _ _ trivial (fun hHeld3 => ?_)
          clear hK
          refine wpAnyH_ready (rs := [6]) (by kernel_rfl) (by decide) ?_
          refine AllReadyH.cons rfl (fun K' hK => ?_) AllReadyH.nil
          refine step_store_row Tryd.agg25 rfl (.tmp 3) (.tmp 31) rfl _ _ rfl rfl 24 _ HN3.out HAS.out HYS.out (bcells_one _) ?_
          intro w9 hr9 ho9
          have HR9 := Lib.hid hr9
          have HZ9 := Lib.hid (HZ3.out.only ho9 (by omega))
          clear hr9
          refine hK.out _ _ trivial (fun hHeld9 => ?_)
          clear hK
          (try simp only [Act.put, List.setIfInBounds_toArray])
          refine wpAnyH_done (by kernel_rfl) ?_ _
          refine NoPanic.normal ?_
          go_wp2_with fail
          have hb3' := hbel.trans (B3.mono hbs)
          refine ⟨⟨m + 1, u, by omega, by go_num, rfl, HT2, hu63, hb3'.trans (ho9.below (Nat.le_refl _) hb3'.size), HZ9.out, ?_⟩, by simp [intOf]; omega⟩
          rw [HST.out]
          exact HR9.out
        · refine step_of rfl (wp_loadD (.tmp 29) rfl b o1 x rfl HBX.out HXL.out ?_)
          refine hK.out _ _ trivial (fun _ => ?_)
          clear hK
          refine wpAnyH_ready (rs := [0]) (by kernel_rfl) (by decide) ?_
          refine AllReadyH.cons rfl (fun K' hK => ?_) AllReadyH.nil
          refine step_of rfl (wp_loadD (.tmp 3) rfl w.heap.size 0 y rfl HNX.out HCL.out ?_)
          refine hK.out _ _ trivial (fun hHeld2 => ?_)
          clear hK
          refine wpAnyH_ready (rs := [5]) (by kernel_rfl) (by decide) ?_
          refine AllReadyH.cons rfl (fun K' hK => ?_) AllReadyH.nil
          go_simp
          refine (HAB.out wr.drew (HFr.out.below B0) (HTr.out.below B0)).mono ?_
          rintro e3 w3 ⟨rfl, hb3⟩
          have B3 : Below wr.heap.size wr w3 := B0.trans (hb3.mono B0.size)
          have HN3 := Lib.hid (HNr.out.below B3 hnlt)
          have HZ3 := Lib.hid (HZr.out.below B3 hzlt)
          refine hK.out _ _ trivial (fun hHeld3 => ?_)
          clear hK
          refine wpAnyH_ready (rs := [6]) (by kernel_rfl) (by decide) ?_
          refine AllReadyH.cons rfl (fun K' hK => ?_) AllReadyH.nil
          refine step_store_row Tryd.agg25 rfl (.tmp 3) (.tmp 31) rfl _ _ rfl rfl 24 _ HN3.out HAS.out HYS.out (bcells_one _) ?_
          intro w9 hr9 ho9
          have HR9 := Lib.hid hr9
          have HZ9 := Lib.hid (HZ3.out.only ho9 (by omega))
          clear hr9
          refine hK.out _ _ trivial (fun hHeld9 => ?_)
          clear hK
          (try simp only [Act.put, List.setIfInBounds_toArray])
          refine wpAnyH_done (by kernel_rfl) ?_ _
          refine NoPanic.normal ?_
          go_wp2_with fail
          have hb3' := hbel.trans (B3.mono hbs)
          refine ⟨⟨m + 1, u, by omega, by go_num, rfl, HT2, hu63, hb3'.trans (ho9.below (Nat.le_refl _) hb3'.size), HZ9.out, ?_⟩, by simp [intOf]; omega⟩
          rw [HST.out]
          exact HR9.out
      · rw [h0] at hrm
        rw [if_neg (by omega)] at hst
        have HST := Lib.hid hst
        have HAB := Lib.hid (fun w hF hT => RefAbove_any x y w HXL.out HCL.out hF hT)
        have HAS := Lib.hid (show (bcells (abL x y)).size = 32 by rw [bcells_size, abL_length])
        generalize abL x y = z at *
        clear hst h0
        go_wp2_with fail
        refine wp_region_noPanic ?_
        refine wp_region_held_drew (S := fun w' => True) (by kernel_rfl) trivial (fun hHeld => ?_)
        refine takeD (i := 0) (some 32) (.slice (some ⟨b, off, none⟩) n c) rfl rfl (by kernel_rfl) (by kernel_rfl) (by kernel_rfl) (fun _ _ _ h => h) (Or.inl ⟨by rfl, fun _ _ => rfl⟩) hHeld ?_
        simp only [Act.put, List.setIfInBounds_toArray, List.set_cons_zero, List.set_cons_succ]
        refine takeD (i := 1) (some 33) (.int .i64 (m : Int)) rfl rfl (by kernel_rfl) (by kernel_rfl) (by kernel_rfl) (fun _ _ _ h => h) (Or.inl ⟨by rfl, fun _ _ => rfl⟩) hHeld ?_
        simp only [Act.put, List.setIfInBounds_toArray, List.set_cons_zero, List.set_cons_succ]
        refine takeD (i := 2) (some 34) (.pointer (some ⟨b, o1, none⟩)) rfl rfl (by kernel_rfl) (by kernel_rfl) (by kernel_rfl) (fun _ _ _ h => h) (yields_indexO rfl (.tmp 32) (.tmp 33) rfl b off n c m o1 _ rfl rfl rfl hlt HO1.out) hHeld ?_
        simp only [Act.put, List.setIfInBounds_toArray, List.set_cons_zero, List.set_cons_succ]
        have B0 : Below wr.heap.size wr wr.drew := (Below.refl wr.heap.size wr).drew
        refine wpAnyH_ready (rs := [3, 4]) (by kernel_rfl) (by decide) ?_
        refine AllReadyH.cons rfl (fun K' hK => ?_) (AllReadyH.cons rfl (fun K' hK => ?_) AllReadyH.nil)
        · refine step_of rfl (wp_loadD (.tmp 34) rfl b o1 x rfl HBX.out HXL.out ?_)
          refine hK.out _ _ trivial (fun _ => ?_)
          clear hK
          refine wpAnyH_ready (rs := [4]) (by kernel_rfl) (by decide) ?_
          refine AllReadyH.cons rfl (fun K' hK => ?_) AllReadyH.nil
          refine step_of rfl (wp_loadD (.tmp 3) rfl w.heap.size 0 y rfl HNX.out HCL.out ?_)
          refine hK.out _ _ trivial (fun hHeld2 => ?_)
          clear hK
          refine wpAnyH_ready (rs := [5]) (by kernel_rfl) (by decide) ?_
          refine AllReadyH.cons rfl (fun K' hK => ?_) AllReadyH.nil
          go_simp
          refine (HAB.out wr.drew (HFr.out.below B0) (HTr.out.below B0)).mono ?_
          rintro e3 w3 ⟨rfl, hb3⟩
          have B3 : Below wr.heap.size wr w3 := B0.trans (hb3.mono B0.size)
          have HN3 := Lib.hid (HNr.out.below B3 hnlt)
          have HZ3 := Lib.hid (HZr.out.below B3 hzlt)
          refine hK.out _ _ trivial (fun hHeld3 => ?_)
          clear hK
          refine wpAnyH_ready (rs := [6]) (by kernel_rfl) (by decide) ?_
          refine AllReadyH.cons rfl (fun K' hK => ?_) AllReadyH.nil
          refine step_store_row Tryd.agg25 rfl (.tmp 3) (.tmp 37) rfl _ _ rfl rfl 24 _ HN3.out HAS.out HYS.out (bcells_one _) ?_
          intro w9 hr9 ho9
          have HR9 := Lib.hid hr9
          have HZ9 := Lib.hid (HZ3.out.only ho9 (by omega))
          clear hr9
          refine hK.out _ _ trivial (fun hHeld9 => ?_)
          clear hK
          (try simp only [Act.put, List.setIfInBounds_toArray])
          refine wpAnyH_done (by kernel_rfl) ?_ _
          refine NoPanic.normal ?_
          go_wp2_with fail
          have hb3' := hbel.trans (B3.mono hbs)
          refine ⟨⟨m + 1, u, by omega, by go_num, rfl, HT2, hu63, hb3'.trans (ho9.below (Nat.le_refl _) hb3'.size), HZ9.out, ?_⟩, by simp [intOf]; omega⟩
          rw [HST.out]
          exact HR9.out
        · refine step_of rfl (wp_loadD (.tmp 3) rfl w.heap.size 0 y rfl HNX.out HCL.out ?_)
          refine hK.out _ _ trivial (fun _ => ?_)
          clear hK
          refine wpAnyH_ready (rs := [3]) (by kernel_rfl) (by decide) ?_
          refine AllReadyH.cons rfl (fun K' hK => ?_) AllReadyH.nil
          refine step_of rfl (wp_loadD (.tmp 34) rfl b o1 x rfl HBX.out HXL.out ?_)
          refine hK.out _ _ trivial (fun hHeld2 => ?_)
          clear hK
          refine wpAnyH_ready (rs := [5]) (by kernel_rfl) (by decide) ?_
          refine AllReadyH.cons rfl (fun K' hK => ?_) AllReadyH.nil
          go_simp
          refine (HAB.out wr.drew (HFr.out.below B0) (HTr.out.below B0)).mono ?_
          rintro e3 w3 ⟨rfl, hb3⟩
          have B3 : Below wr.heap.size wr w3 := B0.trans (hb3.mono B0.size)
          have HN3 := Lib.hid (HNr.out.below B3 hnlt)
          have HZ3 := Lib.hid (HZr.out.below B3 hzlt)
          refine hK.out _ _ trivial (fun hHeld3 => ?_)
          clear hK
          refine wpAnyH_ready (rs := [6]) (by kernel_rfl) (by decide) ?_
          refine AllReadyH.cons rfl (fun K' hK => ?_) AllReadyH.nil
          refine step_store_row Tryd.agg25 rfl (.tmp 3) (.tmp 37) rfl _ _ rfl rfl 24 _ HN3.out HAS.out HYS.out (bcells_one _) ?_
          intro w9 hr9 ho9
          have HR9 := Lib.hid hr9
          have HZ9 := Lib.hid (HZ3.out.only ho9 (by omega))
          clear hr9
          refine hK.out _ _ trivial (fun hHeld9 => ?_)
          clear hK
          (try simp only [Act.put, List.setIfInBounds_toArray])
          refine wpAnyH_done (by kernel_rfl) ?_ _
          refine NoPanic.normal ?_
          go_wp2_with fail
          have hb3' := hbel.trans (B3.mono hbs)
          refine ⟨⟨m + 1, u, by omega, by go_num, rfl, HT2, hu63, hb3'.trans (ho9.below (Nat.le_refl _) hb3'.size), HZ9.out, ?_⟩, by simp [intOf]; omega⟩
          rw [HST.out]
          exact HR9.out
    · obtain rfl : n = m := by omega
      rw [HTK.out] at HNr
      rw [HP.out] at HTT
      have hp0 : 0 < p := by rw [← HP.out]; exact Nat.pow_pos (by decide)
      by_cases ht0 : 0 < t
      · have i2 : (0 : Int) < (t : Int) := by omega
        obtain ⟨hR, hE⟩ := HNN.out (by
          rcases Nat.lt_or_ge i p with q | q
          · have := Nat.div_eq_of_lt q; have := HTT.out; omega
          · exact q)
        subst hR hE
        go_wp2_with (with_reducible refine wpList_store_row Tryd.agg25 rfl (.tmp 6) (.tmp 42) rfl _ _ rfl rfl 24 lit32 HZr.out lit32_size lit32_size lit32_one ?_; intro w9 hr9 ho9; have HR9 := Lib.hid hr9; clear hr9)
        exact bodyPost_ret (results_row2 Tryd.agg25 Tryd.results19 rfl rfl HR9.out lit32_size) rfl ⟨rfl, hbel.trans (ho9.below (by omega) hbs)⟩
      · have i2 : ¬ (0 : Int) < (t : Int) := by omega
        obtain ⟨hR, hE⟩ := HYY.out (by
          rcases Nat.lt_or_ge i p with q | q
          · exact q
          · have := Nat.div_pos q hp0; have := HTT.out; omega)
        rw [← hR] at HRS HNr
        subst hE
        clear hR
        go_wp2_with (first
          | (with_reducible refine wpList_load_row Tryd.agg25 rfl (.tmp 3) rfl _ rfl 24 _ HNr.out HRS.out ?_)
          | (with_reducible refine wpList_store_row Tryd.agg25 rfl (.tmp 6) (.tmp 43) rfl _ _ rfl rfl 24 lit32 HZr.out HRS.out lit32_size (bcells_one _) ?_; intro w9 hr9 ho9; have HR9 := Lib.hid hr9; clear hr9))
        exact bodyPost_ret (results_row2 Tryd.agg25 Tryd.results19 rfl rfl HR9.out HRS.out) rfl ⟨rfl, hbel.trans (ho9.below (by omega) hbs)⟩
end Go.Proofs.YtiidcnjhjojhoaaDoor
