/-
  What tree.mayBe, tree.copied, tree.raised, the document's own Right, and the laws' own answer: whether a tree has so many leaves; a lowest level of its own; the level above, written over it; digests of one's own.
-/
import Derived.Test.YtiidcnjhjojhoaaDoorAbv
import Derived.Test.YtiidcnjhjojhoaaDoorCuts
namespace Go.Proofs.YtiidcnjhjojhoaaDoor
open Go.RowKit
theorem okT_big {n : Nat} (h : 1024 < n) : okT (n : Int) = false := by
  cases hc : okT (n : Int)
  · rfl
  · obtain ⟨k, hk, e⟩ := okT_yes hc
    have := two_pow_le hk
    omega
set_option maxHeartbeats 400000 in
theorem mayBe_any (n : Nat) (w : World) : Calls Tryd.prog 21 #[.int .i64 (n : Int)] w fun e w' => e = .returned (.bool (okT (n : Int))) ∧ w = w' := by
  by_cases h0 : n = 0
  · subst h0
    have e : okT ((0 : Nat) : Int) = false := by decide
    rw [e]
    go_enter Tryd.func21, Tryd.ntmps21
    go_wp2
    go_ret
    exact ⟨rfl, rfl⟩
  · by_cases h1 : n ≤ 1024
    · have hb := okT_bits n (by omega) (by omega)
      have i0 : (1 : Int) ≤ (n : Int) := by omega
      have i1 : (n : Int) ≤ 1024 := by omega
      generalize okT (n : Int) = t at *
      clear h0 h1
      go_enter Tryd.func21, Tryd.ntmps21
      go_wp2
      go_ret
      exact ⟨rfl, rfl⟩
    · rw [okT_big (by omega)]
      have i0 : (1 : Int) ≤ (n : Int) := by omega
      have i1 : ¬ (n : Int) ≤ 1024 := by omega
      clear h0 h1
      go_enter Tryd.func21, Tryd.ntmps21
      go_wp2
      go_ret
      exact ⟨rfl, rfl⟩
set_option maxHeartbeats 400000 in
theorem Right_any (n : Nat) (w : World) : Calls Tryd.prog 24 #[.int .i64 (n : Int)] w fun e w' => e = .returned (.bool (okT (n : Int))) ∧ w = w' := by
  have HY : Hid (∀ j, j ≤ 10 → n = 2 ^ j → okT (n : Int) = true) := Lib.hid (fun j hj e => by rw [e]; exact okT_of hj)
  have HN : Hid ((∀ i, i < 11 → n ≠ 2 ^ i) → okT (n : Int) = false) := Lib.hid (fun h => by
    cases hc : okT (n : Int)
    · rfl
    · obtain ⟨k, hk, e⟩ := okT_yes hc
      exact absurd e (h k (by omega)))
  generalize okT (n : Int) = t at *
  go_enter Tryd.func24, Tryd.ntmps24
  go_wp2
  go_loop [3] (fun k => ∃ j p : Nat, j ≤ 11 ∧ Hid (p = 2 ^ j) ∧ k = .int .i64 (p : Int) ∧ Hid (∀ i, i < j → n ≠ 2 ^ i)) (fun k => 4096 - (intOf k).toNat)
  case atStart => exact ⟨0, 1, by omega, Lib.hid rfl, rfl, Lib.hid (fun i h => by omega)⟩
  case round =>
    obtain ⟨j, p, hj, HP, rfl, HI⟩ := hrel
    have hp0 : 0 < p := by rw [HP.out]; exact Nat.pow_pos (by decide)
    by_cases h10 : j ≤ 10
    · have hp1 : p ≤ 1024 := by rw [HP.out]; exact two_pow_le h10
      have i0 : (p : Int) ≤ 1024 := by omega
      by_cases he : p = n
      · have hq : ((p : Int) == (n : Int)) = true := by simp; omega
        have HE := Lib.hid he
        clear he
        go_wp2
        go_ret
        rw [HY.out j h10 (by rw [← HE.out]; exact HP.out)]
        exact ⟨rfl, rfl⟩
      · have hq : ((p : Int) == (n : Int)) = false := by simp; omega
        have HE := Lib.hid he
        clear he
        go_wp2
        go_round
        case rel => exact ⟨j + 1, 2 * p, by omega, Lib.hid (by rw [HP.out, Nat.pow_succ]; omega), by go_num, Lib.hid (fun i h => by
          by_cases hij : i = j
          · subst hij; rw [← HP.out]; exact fun e => HE.out e.symm
          · exact HI.out i (by omega))⟩
        case measure => simp [intOf]; omega
    · have hp2 : p = 2048 := by
        rw [HP.out]
        obtain rfl : j = 11 := by omega
        decide
      have HI' := Lib.hid (HN.out (fun i h => HI.out i (by omega)))
      subst hp2
      go_wp2
      go_ret
      rw [HI'.out]
      exact ⟨rfl, rfl⟩
/-- a level of a tree at the beginning of block g -/
def LevAt (w : World) (g n : Nat) (L : List (List UInt8)) : Prop := L.length = n ∧ Digs L ∧ ∃ R, Row w g 24 (bcells (flat L ++ R))
theorem LevAt.ds {w : World} {g n : Nat} {L : List (List UInt8)} (h : LevAt w g n L) : Ds w (some ⟨g, 0, none⟩) n L := by
  obtain ⟨h1, h2, R, hr⟩ := h
  refine ⟨h1, h2, ?_⟩
  have hf := flat_length h2
  have h3 := (hr.bsB (n := (flat L ++ R).length) rfl).take (m := 32 * n) (by rw [List.length_append]; omega)
  rwa [List.take_append_of_le_length (by omega), List.take_of_length_le (by omega)] at h3
theorem LevAt.lt {w : World} {g n : Nat} {L : List (List UInt8)} (h : LevAt w g n L) : g < w.heap.size := by
  obtain ⟨_, _, R, hr⟩ := h
  exact hr.lt
theorem LevAt.only {w w' : World} {g k n : Nat} {L : List (List UInt8)} (h : LevAt w g n L) (ho : Only k w w') (hne : g ≠ k) : LevAt w' g n L := by
  obtain ⟨h1, h2, R, hr⟩ := h
  exact ⟨h1, h2, R, hr.only ho hne⟩
theorem LevAt.below {w w' : World} {g n B : Nat} {L : List (List UInt8)} (h : LevAt w g n L) (hb : Below B w w') (hg : g < B) : LevAt w' g n L := by
  obtain ⟨h1, h2, R, hr⟩ := h
  exact ⟨h1, h2, R, hr.below hb hg⟩
set_option maxRecDepth 100000 in
set_option maxHeartbeats 400000 in
theorem copied_any (A : Option Addr) (n c : Nat) (L : List (List UInt8)) (w : World) (hD : Ds w A n L) (hn : n ≤ 1024) :
    Calls Tryd.prog 22 #[.slice A n c] w fun e w' => ∃ g, e = .returned (.slice (some ⟨g, 0, none⟩) n n) ∧ w.heap.size ≤ g ∧ LevAt w' g n L ∧ Below w.heap.size w w' := by
  have hmk := run_madeD n n (n : Int) (n : Int) rfl rfl (Nat.le_refl _) (by omega)
  have HD := Lib.hid hD
  have HF := Lib.hid (show spl (bcells (List.replicate (n * 32) 0)) 0 (flat (L.take n)) = bcells (flat L ++ []) by
    rw [List.take_of_length_le (by rw [hD.1]; exact Nat.le_refl _), spl_bcells]
    congr 1
    have hl := flat_length hD.2.1
    have h := splice_zero (List.replicate (n * 32) (0 : UInt8)) [] (flat L) (by rw [List.length_replicate, hl, hD.1, Nat.mul_comm])
    rwa [List.append_nil] at h)
  have hb0 := (Below.refl w.heap.size w).alloc (Nat.le_refl _) (.cells (bcells (List.replicate (n * 32) 0)) 24)
  have HR0 := Lib.hid (Row.new w 24 (bcells (List.replicate (n * 32) 0)))
  have HSZ := Lib.hid (show (bcells (List.replicate (n * 32) (0 : UInt8))).size = n * 32 by rw [bcells_size, List.length_replicate])
  generalize bcells (List.replicate (n * 32) 0) = Z at *
  clear hD
  go_enter Tryd.func22, Tryd.ntmps22
  go_wp2_with (with_reducible refine wpList_copyDs rfl (.tmp 7) (.tmp 8) rfl w.heap.size 0 n n A n c rfl rfl L 24 Z HR0.out (HD.out.below hb0) n (Nat.min_self n) (by rw [HSZ.out]; omega) ?_; intro w1 hr1 ho1)
  go_ret
  rw [HF.out] at hr1
  exact ⟨_, rfl, Nat.le_refl _, ⟨HD.out.1, HD.out.2.1, [], hr1⟩, hb0.trans (ho1.below (Nat.le_refl _) (by simp))⟩
theorem wp_loadD {o : Oper} {a : Act} {w : World} {K : Act → World → Prop} {Q : Exit → Act → World → Prop} (x : Operand) (ho : o.op = .load 24 x) (b off : Nat) (d : List UInt8)
    (hx : a.eval x = .pointer (some ⟨b, off, none⟩)) (hc : w.rangeAt b off (d.map bcell)) (hd : d.length = 32) (h : K (a.put o.dst (.agg (bcells d))) w) : o.wp Tryd.prog a w K Q :=
  wp_load_mid 24 x ho b off hx _ _ hc Tryd.under23 rfl (by rw [List.length_map, hd]; exact Tryd.sizeD) h
/-- x[:k] of digests that lie at an address -/
theorem wpList_headAt {ops : Array Oper} {rest : List Oper} {o : Oper} {a : Act} {w : World} {Q : Exit → Act → World → Prop} (hgd : o.guard = none) (x y : Operand) (ho : o.op = .slice 22 x none (some y) none)
    (b off n c k : Nat) (z : Int) (hx : a.eval x = .slice (some ⟨b, off, none⟩) n c) (hy : a.eval y = .int .i64 z) (hz : z = k) (hk : k ≤ c)
    (h : wpList Tryd.prog ops Q rest (a.put o.dst (.slice (some ⟨b, off, none⟩) k c)) w) : wpList Tryd.prog ops Q (o :: rest) a w := by
  subst hz
  have hrun : (Instr.sliceAt 22 (.slice (some ⟨b, off, none⟩) n c) none (some (.int .i64 (k : Int))) none).run Tryd.prog w = .ok (.slice (some ⟨b, off, none⟩) k c) w := by
    have h2 : (k : Int) ≤ c := by omega
    simp [Instr.sliceAt, Instr.slice, run_underlying Tryd.under24, Instr.sliceBounds, run_sliceBound, h2, Addr.add_mid]
  refine wpList_plain hgd fun K hK => ?_
  unfold Oper.wp execOp
  simp [ho, hx, hy, hrun, Result.andThen]
  exact hK _ _ h
/-- a digest that lies in the middle of a row -/
theorem range_mid {w : World} {g j : Nat} {Y d : List UInt8} (h : Row w g 24 (bcells Y)) (hj : 32 * j + 32 ≤ Y.length) (he : (Y.drop (32 * j)).take 32 = d) : w.rangeAt g (32 * j) (d.map bcell) := by
  have h1 := ((h.bsB (n := Y.length) rfl).drop (m := 32 * j)).take (m := 32) (by omega)
  rw [he, Nat.zero_add] at h1
  exact h1.range
set_option maxRecDepth 100000 in
set_option maxHeartbeats 2000000 in
theorem raised_any (g h c : Nat) (L : List (List UInt8)) (w : World) (n : Nat) (hn : n = 2 * h) (hL : LevAt w g n L) (hc : n ≤ c) (hh : h ≤ 1024) (hT : Tab 1 w) (hg : 1 < g) :
    Calls Tryd.prog 23 #[.slice (some ⟨g, 0, none⟩) n c] w fun e w' => e = .returned (.slice (some ⟨g, 0, none⟩) h c) ∧ LevAt w' g h (levelT abL L) ∧ Only g w w' := by
  have HN := Lib.hid hn
  have hdiv : ((n : Int)).tdiv 2 = (h : Int) := by rw [hn, Int.tdiv_eq_ediv_of_nonneg (by omega)]; omega
  obtain ⟨hl, hD, R, hr⟩ := hL
  have HL := Lib.hid (show L.length = 2 * h by rw [hl, hn])
  have HD := Lib.hid hD
  have HFL : Hid (64 * h ≤ (flat L ++ R).length) := Lib.hid (by rw [List.length_append, flat_length hD, hl, hn]; omega)
  have HR := Lib.hid hr
  have HT := Lib.hid hT
  have hglt := hr.lt
  have HX := Lib.hid (lvR_zero L (flat L ++ R))
  clear hr hT hD hl hn
  go_enter Tryd.func23, Tryd.ntmps23
  go_wp2_with fail
  go_loopw [9] (fun i wr => ∃ m : Nat, m ≤ h ∧ i = .int .i64 (m : Int) ∧ Only g w wr ∧ Row wr g 24 (bcells (lvR L (flat L ++ R) m))) (fun i _ => h - (intOf i).toNat)
  case atStart => exact ⟨0, Nat.zero_le _, rfl, Only.refl _ _, by rw [HX.out]; exact HR.out⟩
  case round =>
    obtain ⟨m, hm, rfl, hon, hrow⟩ := hrel
    have hos := hon.size
    have HRr := Lib.hid hrow
    have HO := Lib.hid hon
    clear hrow hon
    by_cases hlt : m < h
    · have him : (m : Int) < (h : Int) := by omega
      have hnn := HN.out
      have hk1 : 2 * m < n := by omega
      have hk2 : 2 * m + 1 < n := by omega
      have hk3 : m < n := by omega
      clear hnn
      have HG1 := Lib.hid (lvR_get HD.out R h m (2 * m) HL.out (by omega) (by omega) (by omega))
      have HG2 := Lib.hid (lvR_get HD.out R h m (2 * m + 1) HL.out (by omega) (by omega) (by omega))
      have HST := Lib.hid (lvR_step (flat L ++ R) h m HL.out hlt)
      have HLN := Lib.hid (lvR_length L (flat L ++ R) h m HL.out (by omega) HFL.out)
      have HX1 : Hid ((L.getD (2 * m) []).length = 32) := Lib.hid (HD.out.getD (by rw [HL.out]; omega))
      have HX2 : Hid ((L.getD (2 * m + 1) []).length = 32) := Lib.hid (HD.out.getD (by rw [HL.out]; omega))
      have HAB := Lib.hid (fun w hT => Above_any (L.getD (2 * m) []) (L.getD (2 * m + 1) []) w HX1.out HX2.out hT)
      have HAL := Lib.hid (abL_length (L.getD (2 * m) []) (L.getD (2 * m + 1) []))
      generalize L.getD (2 * m) [] = x at *
      generalize L.getD (2 * m + 1) [] = y at *
      generalize abL x y = d at *
      obtain ⟨Y1, hY1⟩ : ∃ Y, lvR L (flat L ++ R) (m + 1) = Y := ⟨_, rfl⟩
      rw [hY1] at HST
      have HY1 := Lib.hid hY1
      clear hY1
      have HQ1 := Lib.hid (range_mid HRr.out (j := 2 * m) (by have := HLN.out; have := HFL.out; omega) HG1.out)
      have HQ2 := Lib.hid (range_mid HRr.out (j := 2 * m + 1) (by have := HLN.out; have := HFL.out; omega) HG2.out)
      have HSZ : Hid (32 * m + 32 ≤ (bcells (lvR L (flat L ++ R) m)).size) := Lib.hid (by rw [bcells_size]; have := HLN.out; have := HFL.out; omega)
      generalize lvR L (flat L ++ R) m = Y0 at *
      obtain ⟨o1, ho1⟩ : ∃ o, 0 + 32 * (2 * m) = o := ⟨_, rfl⟩
      obtain ⟨o2, ho2⟩ : ∃ o, 0 + 32 * (2 * m + 1) = o := ⟨_, rfl⟩
      obtain ⟨o3, ho3⟩ : ∃ o, 0 + 32 * m = o := ⟨_, rfl⟩
      rw [Nat.zero_add] at ho1 ho2 ho3
      rw [ho1] at HQ1
      rw [ho2] at HQ2
      rw [ho3] at HST HSZ
      have HO1 := Lib.hid ho1
      have HO2 := Lib.hid ho2
      have HO3 := Lib.hid ho3
      clear ho1 ho2 ho3
      go_wp2_with fail
      refine wp_region_noPanic ?_
      refine wp_region_held_drew (S := fun w' => True) (by kernel_rfl) trivial (fun hHeld => ?_)
      refine takeD (i := 0) (some 12) (.slice (some ⟨g, 0, none⟩) n c) rfl rfl (by kernel_rfl) (by kernel_rfl) (by kernel_rfl) (fun _ _ _ h => h) (Or.inl ⟨by rfl, fun _ _ => rfl⟩) hHeld ?_
      simp only [Act.put, List.setIfInBounds_toArray, List.set_cons_zero, List.set_cons_succ]
      refine takeD (i := 1) (some 13) (.int .i64 (m : Int)) rfl rfl (by kernel_rfl) (by kernel_rfl) (by kernel_rfl) (fun _ _ _ h => h) (Or.inl ⟨by rfl, fun _ _ => rfl⟩) hHeld ?_
      simp only [Act.put, List.setIfInBounds_toArray, List.set_cons_zero, List.set_cons_succ]
      refine takeD (i := 2) (some 14) (.slice (some ⟨g, 0, none⟩) n c) rfl rfl (by kernel_rfl) (by kernel_rfl) (by kernel_rfl) (fun _ _ _ h => h) (Or.inl ⟨by rfl, fun _ _ => rfl⟩) hHeld ?_
      simp only [Act.put, List.setIfInBounds_toArray, List.set_cons_zero, List.set_cons_succ]
      refine takeD (i := 3) (some 15) (.int .i64 (m : Int)) rfl rfl (by kernel_rfl) (by kernel_rfl) (by kernel_rfl) (fun _ _ _ h => h) (Or.inl ⟨by rfl, fun _ _ => rfl⟩) hHeld ?_
      simp only [Act.put, List.setIfInBounds_toArray, List.set_cons_zero, List.set_cons_succ]
      refine takeD (i := 4) (some 16) (.int .i64 (2 * (m : Int))) rfl rfl (by kernel_rfl) (by kernel_rfl) (by kernel_rfl) (fun _ _ _ h => h) (yields_mul rfl _ (.tmp 15) rfl 2 (m : Int) _ rfl rfl rfl (by omega) (by omega)) hHeld ?_
      simp only [Act.put, List.setIfInBounds_toArray, List.set_cons_zero, List.set_cons_succ]
      refine takeD (i := 5) (some 17) (.pointer (some ⟨g, o1, none⟩)) rfl rfl (by kernel_rfl) (by kernel_rfl) (by kernel_rfl) (fun _ _ _ h => h) (yields_indexO rfl (.tmp 14) (.tmp 16) rfl g 0 n c (2 * m) o1 _ rfl rfl (by omega) hk1 (by rw [Nat.zero_add]; exact HO1.out)) hHeld ?_
      simp only [Act.put, List.setIfInBounds_toArray, List.set_cons_zero, List.set_cons_succ]
      refine takeD (i := 7) (some 19) (.slice (some ⟨g, 0, none⟩) n c) rfl rfl (by kernel_rfl) (by kernel_rfl) (by kernel_rfl) (fun _ _ _ h => h) (Or.inl ⟨by rfl, fun _ _ => rfl⟩) hHeld ?_
      simp only [Act.put, List.setIfInBounds_toArray, List.set_cons_zero, List.set_cons_succ]
      refine takeD (i := 8) (some 20) (.int .i64 (m : Int)) rfl rfl (by kernel_rfl) (by kernel_rfl) (by kernel_rfl) (fun _ _ _ h => h) (Or.inl ⟨by rfl, fun _ _ => rfl⟩) hHeld ?_
      simp only [Act.put, List.setIfInBounds_toArray, List.set_cons_zero, List.set_cons_succ]
      refine takeD (i := 9) (some 21) (.int .i64 (2 * (m : Int))) rfl rfl (by kernel_rfl) (by kernel_rfl) (by kernel_rfl) (fun _ _ _ h => h) (yields_mul rfl _ (.tmp 20) rfl 2 (m : Int) _ rfl rfl rfl (by omega) (by omega)) hHeld ?_
      simp only [Act.put, List.setIfInBounds_toArray, List.set_cons_zero, List.set_cons_succ]
      refine takeD (i := 10) (some 22) (.int .i64 (2 * (m : Int) + 1)) rfl rfl (by kernel_rfl) (by kernel_rfl) (by kernel_rfl) (fun _ _ _ h => h) (yields_add rfl (.tmp 21) _ rfl (2 * (m : Int)) 1 _ rfl rfl rfl (by omega) (by omega)) hHeld ?_
      simp only [Act.put, List.setIfInBounds_toArray, List.set_cons_zero, List.set_cons_succ]
      refine takeD (i := 11) (some 23) (.pointer (some ⟨g, o2, none⟩)) rfl rfl (by kernel_rfl) (by kernel_rfl) (by kernel_rfl) (fun _ _ _ h => h) (yields_indexO rfl (.tmp 19) (.tmp 22) rfl g 0 n c (2 * m + 1) o2 _ rfl rfl (by omega) hk2 (by rw [Nat.zero_add]; exact HO2.out)) hHeld ?_
      simp only [Act.put, List.setIfInBounds_toArray, List.set_cons_zero, List.set_cons_succ]
      have B0 : Below wr.heap.size wr wr.drew := (Below.refl wr.heap.size wr).drew
      refine wpAnyH_ready (rs := [6, 12]) (by kernel_rfl) (by decide) ?_
      refine AllReadyH.cons rfl (fun K' hK => ?_) (AllReadyH.cons rfl (fun K' hK => ?_) AllReadyH.nil)
      · refine step_of rfl (wp_loadD (.tmp 17) rfl g o1 x rfl HQ1.out HX1.out ?_)
        refine hK.out _ _ trivial (fun _ => ?_)
        clear hK
        refine wpAnyH_ready (rs := [12]) (by kernel_rfl) (by decide) ?_
        refine AllReadyH.cons rfl (fun K' hK => ?_) AllReadyH.nil
        refine step_of rfl (wp_loadD (.tmp 23) rfl g o2 y rfl HQ2.out HX2.out ?_)
        refine hK.out _ _ trivial (fun hHeld2 => ?_)
        clear hK
        refine wpAnyH_ready (rs := [13]) (by kernel_rfl) (by decide) ?_
        refine AllReadyH.cons rfl (fun K' hK => ?_) AllReadyH.nil
        go_simp
        refine (HAB.out wr.drew ((HT.out.only HO.out (by omega)).below B0)).mono ?_
        rintro e3 w3 ⟨rfl, hb3⟩
        have B3 : Below wr.heap.size wr w3 := B0.trans (hb3.mono B0.size)
        have HR3 := Lib.hid (HRr.out.below B3 (by omega))
        refine hK.out _ _ trivial (fun hHeld3 => ?_)
        clear hK
        (try simp only [Act.put, List.setIfInBounds_toArray, List.set_cons_zero, List.set_cons_succ])
        refine takeD (i := 14) (some 26) (.pointer (some ⟨g, o3, none⟩)) rfl rfl (by kernel_rfl) (by kernel_rfl) (by kernel_rfl) (fun _ _ _ h => h) (yields_indexO rfl (.tmp 12) (.tmp 13) rfl g 0 n c m o3 _ rfl rfl rfl hk3 (by rw [Nat.zero_add]; exact HO3.out)) hHeld ?_
        simp only [Act.put, List.setIfInBounds_toArray, List.set_cons_zero, List.set_cons_succ]
        refine wpAnyH_ready (rs := [15]) (by kernel_rfl) (by decide) ?_
        refine AllReadyH.cons rfl (fun K' hK => ?_) AllReadyH.nil
        refine step_of rfl (wp_storeD (.tmp 26) (.tmp 25) rfl g o3 d rfl rfl 24 _ HR3.out HAL.out HSZ.out ?_)
        intro w9 hr9 ho9
        have HR9 := Lib.hid hr9
        clear hr9
        refine hK.out _ _ trivial (fun hHeld9 => ?_)
        clear hK
        (try simp only [Act.put, List.setIfInBounds_toArray])
        refine wpAnyH_done (by kernel_rfl) ?_ _
        refine NoPanic.normal ?_
        go_wp2_with fail
        refine ⟨⟨m + 1, by omega, by go_num, (HO.out.trans (Only.of_below B3)).trans ho9, ?_⟩, by simp [intOf]; omega⟩
        rw [HY1.out, ← HST.out]
        exact HR9.out
      · refine step_of rfl (wp_loadD (.tmp 23) rfl g o2 y rfl HQ2.out HX2.out ?_)
        refine hK.out _ _ trivial (fun _ => ?_)
        clear hK
        refine wpAnyH_ready (rs := [6]) (by kernel_rfl) (by decide) ?_
        refine AllReadyH.cons rfl (fun K' hK => ?_) AllReadyH.nil
        refine step_of rfl (wp_loadD (.tmp 17) rfl g o1 x rfl HQ1.out HX1.out ?_)
        refine hK.out _ _ trivial (fun hHeld2 => ?_)
        clear hK
        refine wpAnyH_ready (rs := [13]) (by kernel_rfl) (by decide) ?_
        refine AllReadyH.cons rfl (fun K' hK => ?_) AllReadyH.nil
        go_simp
        refine (HAB.out wr.drew ((HT.out.only HO.out (by omega)).below B0)).mono ?_
        rintro e3 w3 ⟨rfl, hb3⟩
        have B3 : Below wr.heap.size wr w3 := B0.trans (hb3.mono B0.size)
        have HR3 := Lib.hid (HRr.out.below B3 (by omega))
        refine hK.out _ _ trivial (fun hHeld3 => ?_)
        clear hK
        (try simp only [Act.put, List.setIfInBounds_toArray, List.set_cons_zero, List.set_cons_succ])
        refine takeD (i := 14) (some 26) (.pointer (some ⟨g, o3, none⟩)) rfl rfl (by kernel_rfl) (by kernel_rfl) (by kernel_rfl) (fun _ _ _ h => h) (yields_indexO rfl (.tmp 12) (.tmp 13) rfl g 0 n c m o3 _ rfl rfl rfl hk3 (by rw [Nat.zero_add]; exact HO3.out)) hHeld ?_
        simp only [Act.put, List.setIfInBounds_toArray, List.set_cons_zero, List.set_cons_succ]
        refine wpAnyH_ready (rs := [15]) (by kernel_rfl) (by decide) ?_
        refine AllReadyH.cons rfl (fun K' hK => ?_) AllReadyH.nil
        refine step_of rfl (wp_storeD (.tmp 26) (.tmp 25) rfl g o3 d rfl rfl 24 _ HR3.out HAL.out HSZ.out ?_)
        intro w9 hr9 ho9
        have HR9 := Lib.hid hr9
        clear hr9
        refine hK.out _ _ trivial (fun hHeld9 => ?_)
        clear hK
        (try simp only [Act.put, List.setIfInBounds_toArray])
        refine wpAnyH_done (by kernel_rfl) ?_ _
        refine NoPanic.normal ?_
        go_wp2_with fail
        refine ⟨⟨m + 1, by omega, by go_num, (HO.out.trans (Only.of_below B3)).trans ho9, ?_⟩, by simp [intOf]; omega⟩
        rw [HY1.out, ← HST.out]
        exact HR9.out
    · obtain rfl : h = m := by omega
      have HE := Lib.hid (lvR_all L (flat L ++ R) h HL.out)
      have HLL := Lib.hid (levelT_length abL h L HL.out)
      have hhc : h ≤ c := by have := HN.out; omega
      rw [HE.out] at HRr
      go_wp2_with (with_reducible refine wpList_headAt rfl (.tmp 28) (.tmp 29) rfl g 0 n c h _ rfl rfl rfl hhc ?_)
      go_ret
      exact ⟨rfl, ⟨HLL.out, levelT_digs L, _, HRr.out⟩, HO.out⟩
set_option maxRecDepth 100000 in
set_option maxHeartbeats 400000 in
theorem own_any (A : Option Addr) (n c : Nat) (L : List (List UInt8)) (w : World) (hD : Ds w A n L) (hn : n ≤ 1000000) :
    Calls Tryd.prog 11 #[.slice A n c] w fun e w' => ∃ A' c', e = .returned (.slice A' n c') ∧ n ≤ c' ∧ Ds w' A' n L ∧ Below w.heap.size w w' := by
  have HD := Lib.hid hD
  clear hD
  go_enter Tryd.func11, Tryd.ntmps11
  go_wp2_with (at_builtin; refine wpList_copyD rfl (.tmp 3) (.tmp 4) rfl rfl A n c L rfl HD.out (by omega) ?_; intro A1 c1 w1 hd1 hc1 hb1)
  go_ret
  exact ⟨_, _, rfl, hc1, hd1, hb1⟩
end Go.Proofs.YtiidcnjhjojhoaaDoor
