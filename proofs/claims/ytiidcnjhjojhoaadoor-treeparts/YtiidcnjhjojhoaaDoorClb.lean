/-
  What tree.Climb answers: where a path leads, or the error.
-/
import Derived.Test.YtiidcnjhjojhoaaDoorRts
namespace Go.Proofs.YtiidcnjhjojhoaaDoor
open Go.RowKit
theorem wrap_pow {n : Nat} (h : n ≤ 10) : wrap64 ((2 : Int) ^ n) = ((2 ^ n : Nat) : Int) := by
  have e : ((2 : Int) ^ n) = ((2 ^ n : Nat) : Int) := by simp
  have h1 := two_pow_le h
  rw [e]
  generalize 2 ^ n = p at *
  unfold wrap64
  omega
theorem div_pow (i m : Nat) : ((i : Int)) / 2 ^ m = ((i / 2 ^ m : Nat) : Int) := by simp
set_option maxRecDepth 100000 in
set_option maxHeartbeats 400000 in
theorem Climb_long (d : List UInt8) (A : Option Addr) (n c : Nat) (i : Int) (w : World) (h : 10 < n) : Calls Tryd.prog 18 #[.agg (bcells d), .int .i64 i, .slice A n c] w (RecD w zero32 1) := by
  have i0 : (10 : Int) < (n : Int) := by omega
  clear h
  have hb0 := ((Below.refl w.heap.size w).alloc (Nat.le_refl _) (.cells (bcells d) 24)).alloc (by simp) (.cells lit32 24)
  go_enter Tryd.func18, Tryd.ntmps18
  go_wp2_with (with_reducible refine wpList_store_row Tryd.agg25 rfl (.tmp 6) (.tmp 24) rfl _ _ rfl rfl 24 lit32 (Row.new1 w (.cells (bcells d) 24) 24 lit32) lit32_size lit32_size lit32_one ?_; intro w9 hr9 ho9; have HR9 := Lib.hid hr9; clear hr9)
  exact bodyPost_ret (results_row2 Tryd.agg25 Tryd.results18 rfl rfl HR9.out lit32_size) rfl ⟨rfl, hb0.trans (ho9.below (by omega) (by simp; omega))⟩
set_option maxRecDepth 100000 in
set_option maxHeartbeats 400000 in
theorem Climb_neg (d : List UInt8) (A : Option Addr) (n c : Nat) (i : Int) (w : World) (h : n ≤ 10) (hi : i < 0) : Calls Tryd.prog 18 #[.agg (bcells d), .int .i64 i, .slice A n c] w (RecD w zero32 1) := by
  have i0 : ¬ (10 : Int) < (n : Int) := by omega
  clear h
  have hb0 := ((Below.refl w.heap.size w).alloc (Nat.le_refl _) (.cells (bcells d) 24)).alloc (by simp) (.cells lit32 24)
  go_enter Tryd.func18, Tryd.ntmps18
  go_wp2_with (with_reducible refine wpList_store_row Tryd.agg25 rfl (.tmp 6) (.tmp 24) rfl _ _ rfl rfl 24 lit32 (Row.new1 w (.cells (bcells d) 24) 24 lit32) lit32_size lit32_size lit32_one ?_; intro w9 hr9 ho9; have HR9 := Lib.hid hr9; clear hr9)
  exact bodyPost_ret (results_row2 Tryd.agg25 Tryd.results18 rfl rfl HR9.out lit32_size) rfl ⟨rfl, hb0.trans (ho9.below (by omega) (by simp; omega))⟩
set_option maxRecDepth 100000 in
set_option maxHeartbeats 400000 in
theorem Climb_far (d : List UInt8) (A : Option Addr) (n c : Nat) (i : Int) (w : World) (h : n ≤ 10) (hi : ¬ i < 0) (hf : ((2 ^ n : Nat) : Int) ≤ i) : Calls Tryd.prog 18 #[.agg (bcells d), .int .i64 i, .slice A n c] w (RecD w zero32 1) := by
  have i0 : ¬ (10 : Int) < (n : Int) := by omega
  have i1 : wrap64 ((2 : Int) ^ n) ≤ i := by rw [wrap_pow h]; exact hf
  clear h hf
  have hb0 := ((Below.refl w.heap.size w).alloc (Nat.le_refl _) (.cells (bcells d) 24)).alloc (by simp) (.cells lit32 24)
  go_enter Tryd.func18, Tryd.ntmps18
  go_wp2_with (with_reducible refine wpList_store_row Tryd.agg25 rfl (.tmp 6) (.tmp 24) rfl _ _ rfl rfl 24 lit32 (Row.new1 w (.cells (bcells d) 24) 24 lit32) lit32_size lit32_size lit32_one ?_; intro w9 hr9 ho9; have HR9 := Lib.hid hr9; clear hr9)
  exact bodyPost_ret (results_row2 Tryd.agg25 Tryd.results18 rfl rfl HR9.out lit32_size) rfl ⟨rfl, hb0.trans (ho9.below (by omega) (by simp; omega))⟩
set_option maxRecDepth 100000 in
set_option maxHeartbeats 2000000 in
theorem Climb_ok (d : List UInt8) (A : Option Addr) (n c i : Nat) (P : List (List UInt8)) (w : World) (hd : d.length = 32) (hn : n ≤ 10) (hi : i < 2 ^ n) (hD : Ds w A n P) (hT : Tab 1 w) :
    Calls Tryd.prog 18 #[.agg (bcells d), .int .i64 (i : Int), .slice A n c] w (RecD w (climbD d i P) 0) := by
  have i0 : ¬ (10 : Int) < (n : Int) := by omega
  have i1 : ¬ (i : Int) < 0 := by omega
  have hp := two_pow_le hn
  have hi2 : i < 1024 := by omega
  have hw := wrap_pow hn
  have i2 : ¬ wrap64 ((2 : Int) ^ n) ≤ (i : Int) := by rw [hw]; omega
  have HD := Lib.hid hD
  have HT := Lib.hid hT
  have h2 := hT.1
  have HKS := Lib.hid (show (bcells d).size = 32 by rw [bcells_size, hd])
  have HDL := Lib.hid hd
  have HRS := Lib.hid (show (bcells (climbD d i P)).size = 32 by rw [bcells_size, climbD_length P d i hd])
  have HTK := Lib.hid (show P.take n = P from List.take_of_length_le (by rw [hD.1]; exact Nat.le_refl _))
  have hb0 := (((Below.refl w.heap.size w).alloc (Nat.le_refl _) (.cells (bcells d) 24)).alloc (by simp) (.cells lit32 24)).alloc (by simp; omega) (.cells lit32 24)
  have HB0 := Lib.hid (((Row.new w 24 (bcells d)).alloc (.cells lit32 24)))
  have HZ0 := Lib.hid (((Row.new1 w (.cells (bcells d) 24) 24 lit32).alloc (.cells lit32 24)))
  have HN0 := Lib.hid (Row.new2 w (.cells (bcells d) 24) (.cells lit32 24) 24 lit32)
  have HSZ := Lib.hid (show w.heap.size + 1 + 1 + 1 = (((w.alloc (.cells (bcells d) 24)).alloc (.cells lit32 24)).alloc (.cells lit32 24)).heap.size by simp)
  clear hD hT hd hw hp hi
  go_enter Tryd.func18, Tryd.ntmps18
  go_wp2_with (first
    | (with_reducible refine wpList_load_row Tryd.agg25 rfl (.tmp 3) rfl _ rfl 24 _ HB0.out HKS.out ?_)
    | (with_reducible refine wpList_store_row Tryd.agg25 rfl (.tmp 8) (.tmp 25) rfl _ _ rfl rfl 24 lit32 HN0.out HKS.out lit32_size (bcells_one _) ?_; intro w1 hr1 ho1; have HN1 := Lib.hid hr1; have hs1 := ho1.size; simp at hs1; have HZ1 := Lib.hid (HZ0.out.only ho1 (by omega)); have hb1 := hb0.trans (ho1.below (B := w.heap.size) (by omega) (by simp; omega)); clear hr1))
  obtain ⟨gn, hgn⟩ : ∃ g, g = w.heap.size + 1 + 1 := ⟨_, rfl⟩
  rw [← hgn] at HN1 ⊢
  have hgn1 : w.heap.size + 1 < gn := by omega
  clear hgn
  go_loopw [28] (fun v wr => ∃ m : Nat, m ≤ n ∧ v = .int .i64 (m : Int) ∧ Below w.heap.size w wr ∧ Row wr (w.heap.size + 1) 24 lit32 ∧ Row wr gn 24 (bcells (climbD d i (P.take m)))) (fun v _ => n - (intOf v).toNat)
  case atStart => exact ⟨0, Nat.zero_le _, rfl, hb1, HZ1.out, by rw [List.take_zero]; exact HN1.out⟩
  case round =>
    obtain ⟨m, hm, rfl, hbel, hz, hnode⟩ := hrel
    have hbs := hbel.size
    have HZr := Lib.hid hz
    have hzlt := hz.lt
    have HNr := Lib.hid hnode
    have hnlt := hnode.lt
    have HTr := Lib.hid (HT.out.below hbel)
    clear hz hnode
    by_cases hlt : m < n
    · have him : (m : Int) < (n : Int) := by omega
      obtain ⟨b, off, x, rfl, hb, hx, hxl, hBx⟩ := HD.out.get hlt
      have HBX := Lib.hid (hBx.below hbel).range
      have HXL := Lib.hid hxl
      have hst := climbD_step d i P m (by rw [HD.out.1]; exact hlt)
      have hgx : P.getD m [] = x := by rw [List.getD_eq_getElem?_getD, hx]; rfl
      rw [hgx] at hst
      have hcl : (climbD d i (P.take m)).length = 32 := climbD_length _ d i HDL.out
      have HCL := Lib.hid hcl
      obtain ⟨y, hy⟩ : ∃ y, climbD d i (P.take m) = y := ⟨_, rfl⟩
      rw [hy] at HNr HCL hst
      have HNX := Lib.hid (range_row HNr.out)
      have HYS : Hid ((bcells y).size = 32) := Lib.hid (by rw [bcells_size]; exact HCL.out)
      have hdv := div_pow i m
      have hev := odd_bits (i / 2 ^ m) (Nat.lt_of_le_of_lt (Nat.div_le_self _ _) hi2)
      obtain ⟨t, ht⟩ : ∃ t, i / 2 ^ m = t := ⟨_, rfl⟩
      rw [ht] at hst hdv hev
      obtain ⟨o1, ho1⟩ : ∃ o, off + 32 * m = o := ⟨_, rfl⟩
      have HO1 := Lib.hid ho1
      rw [ho1] at HBX
      have hmt : t % 2 = 0 ∨ t % 2 = 1 := by omega
      clear hx hBx hxl hgx hcl hy ht ho1
      rcases hmt with h0 | h0
      · rw [h0] at hev
        rw [if_pos h0] at hst
        have HST := Lib.hid hst
        have HAB := Lib.hid (fun w hT => Above_any y x w HCL.out HXL.out hT)
        have HAS := Lib.hid (show (bcells (abL y x)).size = 32 by rw [bcells_size, abL_length])
        generalize abL y x = z at *
        clear hst h0
        go_wp2_with fail
        refine wp_region_noPanic ?_
        refine wp_region_held_drew (S := fun w' => True) (by kernel_rfl) trivial (fun hHeld => ?_)
        refine takeD (i := 1) (some 37) (.slice (some ⟨b, off, none⟩) n c) rfl rfl (by kernel_rfl) (by kernel_rfl) (by kernel_rfl) (fun _ _ _ h => h) (Or.inl ⟨by rfl, fun _ _ => rfl⟩) hHeld ?_
        simp only [Act.put, List.setIfInBounds_toArray, List.set_cons_zero, List.set_cons_succ]
        refine takeD (i := 2) (some 38) (.int .i64 (m : Int)) rfl rfl (by kernel_rfl) (by kernel_rfl) (by kernel_rfl) (fun _ _ _ h => h) (Or.inl ⟨by rfl, fun _ _ => rfl⟩) hHeld ?_
        simp only [Act.put, List.setIfInBounds_toArray, List.set_cons_zero, List.set_cons_succ]
        refine takeD (i := 3) (some 39) (.pointer (some ⟨b, o1, none⟩)) rfl rfl (by kernel_rfl) (by kernel_rfl) (by kernel_rfl) (fun _ _ _ h => h) (yields_indexO rfl (.tmp 37) (.tmp 38) rfl b off n c m o1 _ rfl rfl rfl hlt HO1.out) hHeld ?_
        simp only [Act.put, List.setIfInBounds_toArray, List.set_cons_zero, List.set_cons_succ]
        have B0 : Below wr.heap.size wr wr.drew := (Below.refl wr.heap.size wr).drew
        refine wpAnyH_ready (rs := [0, 4]) (by kernel_rfl) (by decide) ?_
        refine AllReadyH.cons rfl (fun K' hK => ?_) (AllReadyH.cons rfl (fun K' hK => ?_) AllReadyH.nil)
        · refine step_of rfl (wp_loadD (.tmp 8) rfl gn 0 y rfl HNX.out HCL.out ?_)
          refine hK.out _ _ trivial (fun _ => ?_)
          clear hK
          refine wpAnyH_ready (rs := [4]) (by kernel_rfl) (by decide) ?_
          refine AllReadyH.cons rfl (fun K' hK => ?_) AllReadyH.nil
          refine step_of rfl (wp_loadD (.tmp 39) rfl b o1 x rfl HBX.out HXL.out ?_)
          refine hK.out _ _ trivial (fun hHeld2 => ?_)
          clear hK
          refine wpAnyH_ready (rs := [5]) (by kernel_rfl) (by decide) ?_
          refine AllReadyH.cons rfl (fun K' hK => ?_) AllReadyH.nil
          go_simp
          refine (HAB.out wr.drew (HTr.out.below B0)).mono ?_
          rintro e3 w3 ⟨rfl, hb3⟩
          have B3 : Below wr.heap.size wr w3 := B0.trans (hb3.mono B0.size)
          have HN3 := Lib.hid (HNr.out.below B3 hnlt)
          have HZ3 := Lib.hid (HZr.out.below B3 hzlt)
          refine hK.out _ _ trivial (fun hHeld3 => ?_)
          clear hK
          refine wpAnyH_ready (rs := [6]) (by kernel_rfl) (by decide) ?_
          refine AllReadyH.cons rfl (fun K' hK => ?_) AllReadyH.nil
          refine step_store_row Tryd.agg25 rfl (.tmp 8) (.tmp 41) rfl _ _ rfl rfl 24 _ HN3.out HAS.out HYS.out (bcells_one _) ?_
          intro w9 hr9 ho9
          have HR9 := Lib.hid hr9
          have HZ9 := Lib.hid (HZ3.out.only ho9 (by omega))
          clear hr9
          refine hK.out _ _ trivial (fun hHeld9 => ?_)
          clear hK
          (try simp only [Act.put, List.setIfInBounds_toArray])
          refine wpAnyH_done (by kernel_rfl) ?_ _
          refine NoPanic.normal ?_
          go_wp2_with fail
          have hb3' := hbel.trans (B3.mono hbs)
          refine ⟨⟨m + 1, by omega, by go_num, hb3'.trans (ho9.below (by omega) hb3'.size), HZ9.out, ?_⟩, by simp [intOf]; omega⟩
          rw [HST.out]
          exact HR9.out
        · refine step_of rfl (wp_loadD (.tmp 39) rfl b o1 x rfl HBX.out HXL.out ?_)
          refine hK.out _ _ trivial (fun _ => ?_)
          clear hK
          refine wpAnyH_ready (rs := [0]) (by kernel_rfl) (by decide) ?_
          refine AllReadyH.cons rfl (fun K' hK => ?_) AllReadyH.nil
          refine step_of rfl (wp_loadD (.tmp 8) rfl gn 0 y rfl HNX.out HCL.out ?_)
          refine hK.out _ _ trivial (fun hHeld2 => ?_)
          clear hK
          refine wpAnyH_ready (rs := [5]) (by kernel_rfl) (by decide) ?_
          refine AllReadyH.cons rfl (fun K' hK => ?_) AllReadyH.nil
          go_simp
          refine (HAB.out wr.drew (HTr.out.below B0)).mono ?_
          rintro e3 w3 ⟨rfl, hb3⟩
          have B3 : Below wr.heap.size wr w3 := B0.trans (hb3.mono B0.size)
          have HN3 := Lib.hid (HNr.out.below B3 hnlt)
          have HZ3 := Lib.hid (HZr.out.below B3 hzlt)
          refine hK.out _ _ trivial (fun hHeld3 => ?_)
          clear hK
          refine wpAnyH_ready (rs := [6]) (by kernel_rfl) (by decide) ?_
          refine AllReadyH.cons rfl (fun K' hK => ?_) AllReadyH.nil
          refine step_store_row Tryd.agg25 rfl (.tmp 8) (.tmp 41) rfl _ _ rfl rfl 24 _ HN3.out HAS.out HYS.out (bcells_one _) ?_
          intro w9 hr9 ho9
          have HR9 := Lib.hid hr9
          have HZ9 := Lib.hid (HZ3.out.only ho9 (by omega))
          clear hr9
          refine hK.out _ _ trivial (fun hHeld9 => ?_)
          clear hK
          (try simp only [Act.put, List.setIfInBounds_toArray])
          refine wpAnyH_done (by kernel_rfl) ?_ _
          refine NoPanic.normal ?_
          go_wp2_with fail
          have hb3' := hbel.trans (B3.mono hbs)
          refine ⟨⟨m + 1, by omega, by go_num, hb3'.trans (ho9.below (by omega) hb3'.size), HZ9.out, ?_⟩, by simp [intOf]; omega⟩
          rw [HST.out]
          exact HR9.out
      · rw [h0] at hev
        rw [if_neg (by omega)] at hst
        have HST := Lib.hid hst
        have HAB := Lib.hid (fun w hT => Above_any x y w HXL.out HCL.out hT)
        have HAS := Lib.hid (show (bcells (abL x y)).size = 32 by rw [bcells_size, abL_length])
        generalize abL x y = z at *
        clear hst h0
        go_wp2_with fail
        refine wp_region_noPanic ?_
        refine wp_region_held_drew (S := fun w' => True) (by kernel_rfl) trivial (fun hHeld => ?_)
        refine takeD (i := 0) (some 42) (.slice (some ⟨b, off, none⟩) n c) rfl rfl (by kernel_rfl) (by kernel_rfl) (by kernel_rfl) (fun _ _ _ h => h) (Or.inl ⟨by rfl, fun _ _ => rfl⟩) hHeld ?_
        simp only [Act.put, List.setIfInBounds_toArray, List.set_cons_zero, List.set_cons_succ]
        refine takeD (i := 1) (some 43) (.int .i64 (m : Int)) rfl rfl (by kernel_rfl) (by kernel_rfl) (by kernel_rfl) (fun _ _ _ h => h) (Or.inl ⟨by rfl, fun _ _ => rfl⟩) hHeld ?_
        simp only [Act.put, List.setIfInBounds_toArray, List.set_cons_zero, List.set_cons_succ]
        refine takeD (i := 2) (some 44) (.pointer (some ⟨b, o1, none⟩)) rfl rfl (by kernel_rfl) (by kernel_rfl) (by kernel_rfl) (fun _ _ _ h => h) (yields_indexO rfl (.tmp 42) (.tmp 43) rfl b off n c m o1 _ rfl rfl rfl hlt HO1.out) hHeld ?_
        simp only [Act.put, List.setIfInBounds_toArray, List.set_cons_zero, List.set_cons_succ]
        have B0 : Below wr.heap.size wr wr.drew := (Below.refl wr.heap.size wr).drew
        refine wpAnyH_ready (rs := [3, 4]) (by kernel_rfl) (by decide) ?_
        refine AllReadyH.cons rfl (fun K' hK => ?_) (AllReadyH.cons rfl (fun K' hK => ?_) AllReadyH.nil)
        · refine step_of rfl (wp_loadD (.tmp 44) rfl b o1 x rfl HBX.out HXL.out ?_)
          refine hK.out _ _ trivial (fun _ => ?_)
          clear hK
          refine wpAnyH_ready (rs := [4]) (by kernel_rfl) (by decide) ?_
          refine AllReadyH.cons rfl (fun K' hK => ?_) AllReadyH.nil
          refine step_of rfl (wp_loadD (.tmp 8) rfl gn 0 y rfl HNX.out HCL.out ?_)
          refine hK.out _ _ trivial (fun hHeld2 => ?_)
          clear hK
          refine wpAnyH_ready (rs := [5]) (by kernel_rfl) (by decide) ?_
          refine AllReadyH.cons rfl (fun K' hK => ?_) AllReadyH.nil
          go_simp
          refine (HAB.out wr.drew (HTr.out.below B0)).mono ?_
          rintro e3 w3 ⟨rfl, hb3⟩
          have B3 : Below wr.heap.size wr w3 := B0.trans (hb3.mono B0.size)
          have HN3 := Lib.hid (HNr.out.below B3 hnlt)
          have HZ3 := Lib.hid (HZr.out.below B3 hzlt)
          refine hK.out _ _ trivial (fun hHeld3 => ?_)
          clear hK
          refine wpAnyH_ready (rs := [6]) (by kernel_rfl) (by decide) ?_
          refine AllReadyH.cons rfl (fun K' hK => ?_) AllReadyH.nil
          refine step_store_row Tryd.agg25 rfl (.tmp 8) (.tmp 47) rfl _ _ rfl rfl 24 _ HN3.out HAS.out HYS.out (bcells_one _) ?_
          intro w9 hr9 ho9
          have HR9 := Lib.hid hr9
          have HZ9 := Lib.hid (HZ3.out.only ho9 (by omega))
          clear hr9
          refine hK.out _ _ trivial (fun hHeld9 => ?_)
          clear hK
          (try simp only [Act.put, List.setIfInBounds_toArray])
          refine wpAnyH_done (by kernel_rfl) ?_ _
          refine NoPanic.normal ?_
          go_wp2_with fail
          have hb3' := hbel.trans (B3.mono hbs)
          refine ⟨⟨m + 1, by omega, by go_num, hb3'.trans (ho9.below (by omega) hb3'.size), HZ9.out, ?_⟩, by simp [intOf]; omega⟩
          rw [HST.out]
          exact HR9.out
        · refine step_of rfl (wp_loadD (.tmp 8) rfl gn 0 y rfl HNX.out HCL.out ?_)
          refine hK.out _ _ trivial (fun _ => ?_)
          clear hK
          refine wpAnyH_ready (rs := [3]) (by kernel_rfl) (by decide) ?_
          refine AllReadyH.cons rfl (fun K' hK => ?_) AllReadyH.nil
          refine step_of rfl (wp_loadD (.tmp 44) rfl b o1 x rfl HBX.out HXL.out ?_)
          refine hK.out _ _ trivial (fun hHeld2 => ?_)
          clear hK
          refine wpAnyH_ready (rs := [5]) (by kernel_rfl) (by decide) ?_
          refine AllReadyH.cons rfl (fun K' hK => ?_) AllReadyH.nil
          go_simp
          refine (HAB.out wr.drew (HTr.out.below B0)).mono ?_
          rintro e3 w3 ⟨rfl, hb3⟩
          have B3 : Below wr.heap.size wr w3 := B0.trans (hb3.mono B0.size)
          have HN3 := Lib.hid (HNr.out.below B3 hnlt)
          have HZ3 := Lib.hid (HZr.out.below B3 hzlt)
          refine hK.out _ _ trivial (fun hHeld3 => ?_)
          clear hK
          refine wpAnyH_ready (rs := [6]) (by kernel_rfl) (by decide) ?_
          refine AllReadyH.cons rfl (fun K' hK => ?_) AllReadyH.nil
          refine step_store_row Tryd.agg25 rfl (.tmp 8) (.tmp 47) rfl _ _ rfl rfl 24 _ HN3.out HAS.out HYS.out (bcells_one _) ?_
          intro w9 hr9 ho9
          have HR9 := Lib.hid hr9
          have HZ9 := Lib.hid (HZ3.out.only ho9 (by omega))
          clear hr9
          refine hK.out _ _ trivial (fun hHeld9 => ?_)
          clear hK
          (try simp only [Act.put, List.setIfInBounds_toArray])
          refine wpAnyH_done (by kernel_rfl) ?_ _
          refine NoPanic.normal ?_
          go_wp2_with fail
          have hb3' := hbel.trans (B3.mono hbs)
          refine ⟨⟨m + 1, by omega, by go_num, hb3'.trans (ho9.below (by omega) hb3'.size), HZ9.out, ?_⟩, by simp [intOf]; omega⟩
          rw [HST.out]
          exact HR9.out
    · obtain rfl : n = m := by omega
      rw [HTK.out] at HNr
      generalize climbD d i P = R at *
      go_wp2_with (first
        | (with_reducible refine wpList_load_row Tryd.agg25 rfl (.tmp 8) rfl _ rfl 24 _ HNr.out HRS.out ?_)
        | (with_reducible refine wpList_store_row Tryd.agg25 rfl (.tmp 6) (.tmp 49) rfl _ _ rfl rfl 24 lit32 HZr.out HRS.out lit32_size (bcells_one _) ?_; intro w9 hr9 ho9; have HR9 := Lib.hid hr9; clear hr9))
      exact bodyPost_ret (results_row2 Tryd.agg25 Tryd.results18 rfl rfl HR9.out HRS.out) rfl ⟨rfl, hbel.trans (ho9.below (by omega) hbs)⟩
end Go.Proofs.YtiidcnjhjojhoaaDoor
