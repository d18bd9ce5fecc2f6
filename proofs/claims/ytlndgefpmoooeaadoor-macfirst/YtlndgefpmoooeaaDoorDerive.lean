/-
  What mac.Derive answers: bytes out of a key, or the error.
-/
import Derived.Test.YtlndgefpmoooeaaDoorDer
namespace Go.Proofs.YtlndgefpmoooeaaDoor
open Go.RowKit
set_option maxHeartbeats 400000 in
theorem Derive_neg (A : Option Addr) (nk ck : Nat) (s : ByteArray) (n : Int) (w : World) (h : n < 0) :
    Calls Tryd.prog 15 #[.slice A nk ck, .string s, .int .i64 n] w fun e w' => e = .returned (.tuple #[.slice none 0 0, .int .i64 1]) ∧ w = w' := by
  go_enter Tryd.func15, Tryd.ntmps15
  go_wp2
  go_ret2
  exact ⟨rfl, rfl⟩
set_option maxHeartbeats 400000 in
theorem Derive_long (A : Option Addr) (nk ck : Nat) (s : ByteArray) (n : Int) (w : World) (h : 8160 < n) :
    Calls Tryd.prog 15 #[.slice A nk ck, .string s, .int .i64 n] w fun e w' => e = .returned (.tuple #[.slice none 0 0, .int .i64 42]) ∧ w = w' := by
  have h0 : ¬ n < 0 := by omega
  go_enter Tryd.func15, Tryd.ntmps15
  go_wp2
  go_ret2
  exact ⟨rfl, rfl⟩
/-- new bytes and an error's number -/
def NewE (w : World) (l : List UInt8) (E : Int) (e : Ending) (w' : World) : Prop :=
  ∃ A n c, e = .returned (.tuple #[.slice A n c, .int .i64 E]) ∧ Bs w' A n l ∧ n ≤ c ∧ Below w.heap.size w w'
set_option maxRecDepth 100000 in
set_option maxHeartbeats 2000000 in
theorem Derive_any (A : Option Addr) (nk ck : Nat) (k : List UInt8) (s : ByteArray) (n : Nat) (w : World) (hB : Bs w A nk k) (hnc : nk ≤ ck) (hT : Tab 2 w) (hn : n ≤ 8160) (hk : nk ≤ 1000000) (hs : s.size ≤ 200) :
    Calls Tryd.prog 15 #[.slice A nk ck, .string s, .int .i64 (n : Int)] w (NewE w (deriveL k s n) 0) := by
  have h0 : ¬ (n : Int) < 0 := by omega
  have h1 : ¬ 8160 < (n : Int) := by omega
  have HB := Lib.hid hB
  have HT := Lib.hid hT
  have h2 := hT.1
  have HKS := Lib.hid (show (bcells (padK k)).size = 64 by rw [bcells_size, padK_length])
  have HKL := Lib.hid (padK_length k)
  have HBO := Lib.hid (blockOf_any A nk ck k w hB hnc hT (by omega))
  have HBM := Lib.hid (fun (m : Nat) A n' c w hB hc hT hn => show Calls Tryd.prog 23 #[.agg (bcells (padK k)), .slice A n' c] w fun e w' => e = .returned (.agg (bcells (macL k (partL ((m : Int) + 1) s n)))) ∧ Below w.heap.size w w' by exact bmac_any (padK k) A n' c (partL ((m : Int) + 1) s n) w (padK_length k) hB hc hT hn)
  have hmk := made_byte Tryd.prog Tryd.byteTypes n (by omega)
  rw [made_zero] at hmk
  have HF0 := Lib.hid (fillL_zero k s n)
  have ru := Tryd.under44
  have rl : ((padK k).map bcell).length = 64 := by rw [List.length_map, padK_length]
  have rz : (Tryd.prog.info? 44).map (·.size) = some ((padK k).map bcell).length := by rw [rl]; kernel_rfl
  have hcut := run_cut_all (P := Tryd.prog) Tryd.underlying24' Tryd.size5
  generalize padK k = K at *
  clear hB hT
  go_enter Tryd.func15, Tryd.ntmps15
  go_wp2_with (first
    | (go_at_call 22; refine HBO.out.mono ?_; rintro e1 w1 ⟨rfl, hb1⟩; have hs1 := hb1.size)
    | (with_reducible refine wpList_store_row Tryd.agg44 rfl (.tmp 8) (.tmp 18) rfl _ _ rfl rfl 44 lit64 (Row.new w1 44 lit64) HKS.out lit64_size (bcells_one _) ?_; intro w2 hr2 ho2; have HR2 := Lib.hid hr2; have hs2 := ho2.size; have hlt2 := hr2.lt; have hb2 := (hb1.alloc hb1.size (.cells lit64 44)).trans (ho2.below (B := w.heap.size) hb1.size (by simp; omega)); clear hr2))
  have hb3 : Below w.heap.size w2 (w2.alloc (.cells (bcells (List.replicate n 0)) 5)) := (Below.refl _ _).alloc (by have := hb2.size; omega) _
  rw [← HF0.out] at hb3 ⊢
  go_loopw [10, 11] (fun t i wr => ∃ (m : Nat) (A1 : Option Addr) (c1 : Nat), i = .int .i64 ((m : Int) + 1) ∧ t = .slice A1 (n - 32 * m) c1 ∧ n - 32 * m ≤ c1 ∧ m ≤ 256 ∧ (32 * m < n → A1 = some ⟨w2.heap.size, 32 * m, none⟩) ∧ Below w2.heap.size w2 wr ∧ Row wr w2.heap.size 5 (bcells (fillL k s n m))) (fun t _ _ => lenOf t)
  case atStart => exact ⟨0, _, n, rfl, rfl, by omega, by omega, fun _ => rfl, (Below.refl _ _).alloc (Nat.le_refl _) _, Row.new _ _ _⟩
  case round =>
    obtain ⟨m, A1, c1, rfl, rfl, hc1, hm, hA1, hbel, hrow⟩ := hrel
    have hbs := hbel.size
    have hltf := hrow.lt
    have HFr := Lib.hid hrow
    by_cases hlt : 32 * m < n
    · obtain rfl := hA1 hlt
      have HPL : Hid ((partL ((m : Int) + 1) s n).length = s.size + 9) := Lib.hid (by unfold partL; rw [List.length_append, List.length_append, bytesL4_length, bytesL4_length, closedL_length]; omega)
      have HDL := Lib.hid (macL_length k (partL ((m : Int) + 1) s n))
      have HDS := Lib.hid (show (bcells (macL k (partL ((m : Int) + 1) s n))).size = 32 by rw [bcells_size, macL_length])
      obtain ⟨q, hq⟩ : ∃ q, Nat.min 32 (n - 32 * m) = q := ⟨_, rfl⟩
      have HFS := Lib.hid (fillL_step k s n m q hlt hq)
      have HQ2 : Hid (q ≤ n - 32 * m) := Lib.hid (by rw [← hq]; exact Nat.min_le_right _ _)
      have HQ4 : Hid (q ≤ 32) := Lib.hid (by rw [← hq]; exact Nat.min_le_left _ _)
      have HFit : Hid (32 * m + q ≤ (bcells (fillL k s n m)).size) := Lib.hid (by rw [bcells_size, fillL_length]; have := HQ2.out; omega)
      have HQ3 : Hid (q = 32 ∨ q = n - 32 * m) := Lib.hid (by rcases Nat.le_total 32 (n - 32 * m) with h' | h'; · left; rw [← hq]; exact Nat.min_eq_left h'
                                                              · right; rw [← hq]; exact Nat.min_eq_right h')
      have HTr := Lib.hid ((HT.out.below hb2).below hbel)
      have HC1 := Lib.hid hc1
      obtain ⟨nr, hnr⟩ : ∃ nr, n - 32 * m = nr := ⟨_, rfl⟩
      have hnr0 : (0 : Int) < (nr : Int) := by omega
      have HQ := Lib.hid hq
      rw [hnr] at HQ HQ2 HQ3 HC1 ⊢
      have HBMm := Lib.hid (fun A n' c w hB hc hT hn => HBM.out m A n' c w hB hc hT hn)
      clear HBM
      generalize macL k (partL ((m : Int) + 1) s n) = D at *
      clear hrow hA1 hq hc1
      go_wp2_with fail
      have K0 := Lib.hid (show wr.drew.rangeAt w1.heap.size 0 (K.map bcell) by exact range_row (HR2.out.below hbel.drew hlt2))
      have HKr := Lib.hid (HR2.out.below hbel hlt2)
      have hltr : w1.heap.size < wr.heap.size := by omega
      refine wp_region_noPanic ?_
      refine wp_region_held_drew (S := fun w' => w'.rangeAt w1.heap.size 0 (K.map bcell)) (by kernel_rfl) K0.out (fun hHeld => ?_)
      refine takeD (i := 0) (some 27) (.agg (K.map bcell).toArray) rfl rfl (by kernel_rfl) (by kernel_rfl) (by kernel_rfl) (fun _ _ _ h => h) (yieldsIf_load_mid (by rfl) _ _ rfl _ _ rfl _ _ (fun _ h => h) ru rfl rz) hHeld ?_
      simp only [Act.put, List.setIfInBounds_toArray, List.set_cons_zero, List.set_cons_succ]
      refine takeD (i := 1) (some 28) (.int .i64 ((m : Int) + 1)) rfl rfl (by kernel_rfl) (by kernel_rfl) (by kernel_rfl) (fun _ _ _ h => h) (Or.inl ⟨by rfl, fun _ _ => rfl⟩) hHeld ?_
      simp only [Act.put, List.setIfInBounds_toArray, List.set_cons_zero, List.set_cons_succ]
      refine takeD (i := 2) (some 29) (.string s) rfl rfl (by kernel_rfl) (by kernel_rfl) (by kernel_rfl) (fun _ _ _ h => h) (Or.inl ⟨by rfl, fun _ _ => rfl⟩) hHeld ?_
      simp only [Act.put, List.setIfInBounds_toArray, List.set_cons_zero, List.set_cons_succ]
      refine takeD (i := 3) (some 30) (.int .i64 (n : Int)) rfl rfl (by kernel_rfl) (by kernel_rfl) (by kernel_rfl) (fun _ _ _ h => h) (Or.inl ⟨by rfl, fun _ _ => rfl⟩) hHeld ?_
      simp only [Act.put, List.setIfInBounds_toArray, List.set_cons_zero, List.set_cons_succ]
      refine wpAnyH_ready (rs := [4, 6]) (by kernel_rfl) (by decide) ?_
      refine AllReadyH.cons rfl (fun K' hK => ?_) ?_
      rotate_left
      · refine AllReadyH.cons rfl (fun K' hK => ?_) AllReadyH.nil
        go_simp
        have B3 : Below wr.heap.size wr (wr.drew.alloc (.cells lit32 25)) := (Below.refl wr.heap.size wr).drew.alloc (Nat.le_refl _) _
        refine hK.out _ _ (range_row (HKr.out.below B3 hltr)) (fun hHeldA => ?_)
        clear hK
        refine wpAnyH_ready (rs := [4]) (by kernel_rfl) (by decide) ?_
        refine AllReadyH.cons rfl (fun K' hK => ?_) AllReadyH.nil
        go_simp
        refine (partText_any ((m : Int) + 1) (n : Int) s (wr.drew.alloc (.cells lit32 25)) (by omega)).mono ?_
        rintro e4 w4 ⟨A4, n4, c4, rfl, hB4, hc4, hb4, -⟩
        have HB4 := Lib.hid hB4
        have hn4 := hB4.1
        rw [HPL.out] at hn4
        have B4 : Below wr.heap.size wr w4 := B3.trans (hb4.mono B3.size)
        clear hB4
        refine hK.out _ _ (range_row (HKr.out.below B4 hltr)) (fun hHeldP => ?_)
        clear hK
        refine wpAnyH_ready (rs := [5]) (by kernel_rfl) (by decide) ?_
        refine AllReadyH.cons rfl (fun K' hK => ?_) AllReadyH.nil
        go_simp
        refine (HBMm.out A4 n4 c4 w4 (HB4.out) hc4 (HTr.out.below B4) (by omega)).mono ?_
        rintro e5 w5 ⟨rfl, hb5⟩
        have B5 : Below wr.heap.size wr w5 := B4.trans (hb5.mono B4.size)
        refine hK.out _ _ (range_row (HKr.out.below B5 hltr)) (fun hHeldM => ?_)
        clear hK
        have h9 : wr.heap.size + 1 ≤ w4.heap.size := by have h := hb4.size; rw [show (wr.drew.alloc (.cells lit32 25)).heap.size = wr.heap.size + 1 from Array.size_push _] at h; exact h
        have HZ5 := Lib.hid (((Row.new wr.drew 25 lit32).below hb4 (by simp)).below hb5 (show wr.drew.heap.size < w4.heap.size from h9))
        refine wpAnyH_ready (rs := [7]) (by kernel_rfl) (by decide) ?_
        refine AllReadyH.cons rfl (fun K' hK => ?_) AllReadyH.nil
        refine step_store_row Tryd.agg25 rfl (.tmp 12) (.tmp 32) rfl _ _ rfl rfl 25 lit32 (HZ5.out) HDS.out lit32_size (bcells_one _) ?_
        intro wz hrz hoz
        have Bz : Below wr.heap.size wr wz := B5.trans (hoz.below (B := wr.heap.size) (by omega) B5.size)
        have HRz := Lib.hid hrz
        clear hrz
        refine hK.out _ _ (range_row (HKr.out.below Bz hltr)) (fun hHeldZ => ?_)
        clear hK
        (try simp only [Act.put, List.setIfInBounds_toArray])
        refine wpAnyH_done (by kernel_rfl) ?_ _
        refine NoPanic.normal ?_
        obtain ⟨gd, hgd⟩ : ∃ gd, wr.heap.size = gd := ⟨_, rfl⟩
        rw [hgd] at HRz ⊢
        have hgd2 : wr.heap.size ≤ gd := by omega
        clear hgd
        go_wp2_with (first
          | (with_reducible refine wpList_copyK Tryd.byteTypes rfl (.tmp 34) (.tmp 35) rfl w2.heap.size (32 * m) nr c1 _ 32 32 rfl rfl _ 5 _ (HFr.out.below Bz hltf) (HRz.out.bsB HDL.out) q HQ.out HFit.out ?_; intro w7 hr7 ho7; rw [HFS.out] at hr7; have HR7 := Lib.hid hr7; clear hr7)
          | (with_reducible refine wpList_tailAt Tryd.byteTypes rfl (.tmp 33) (.tmp 36) rfl w2.heap.size (32 * m) nr c1 q rfl rfl HQ2.out HC1.out ?_; intro A8 hA8; have HA8 := Lib.hid hA8; clear hA8))
        have hq2 := HQ2.out
        have hq3 := HQ3.out
        have hq4 := HQ4.out
        have hc1 := HC1.out
        refine ⟨⟨m + 1, A8, c1 - q, by go_num, ?_, ?_, by omega, ?_, ?_, HR7.out⟩, ?_⟩
        · rw [show n - 32 * (m + 1) = nr - q by omega]
        · omega
        · intro h; rw [HA8.out (by omega)]; rw [show 32 * m + q = 32 * (m + 1) by omega]
        · exact (hbel.trans (Bz.mono hbs)).trans (ho7.below (B := w2.heap.size) (Nat.le_refl _) (hbel.trans (Bz.mono hbs)).size)
        · simp only [lenOf]; omega
      go_simp
      refine (partText_any ((m : Int) + 1) (n : Int) s wr.drew (by omega)).mono ?_
      rintro e4 w4 ⟨A4, n4, c4, rfl, hB4, hc4, hb4, -⟩
      have HB4 := Lib.hid hB4
      have hn4 := hB4.1
      rw [HPL.out] at hn4
      have B4 : Below wr.heap.size wr w4 := ((Below.refl wr.heap.size wr).drew).trans (hb4.mono ((Below.refl wr.heap.size wr).drew).size)
      clear hB4
      refine hK.out _ _ (range_row (HKr.out.below B4 hltr)) (fun hHeldP => ?_)
      clear hK
      refine wpAnyH_ready (rs := [5, 6]) (by kernel_rfl) (by decide) ?_
      refine AllReadyH.cons rfl (fun K' hK => ?_) ?_
      rotate_left
      · refine AllReadyH.cons rfl (fun K' hK => ?_) AllReadyH.nil
        go_simp
        have B6 : Below wr.heap.size wr (w4.alloc (.cells lit32 25)) := B4.alloc B4.size _
        refine hK.out _ _ (range_row (HKr.out.below B6 hltr)) (fun hHeldA => ?_)
        clear hK
        refine wpAnyH_ready (rs := [5]) (by kernel_rfl) (by decide) ?_
        refine AllReadyH.cons rfl (fun K' hK => ?_) AllReadyH.nil
        go_simp
        refine (HBMm.out A4 n4 c4 (w4.alloc (.cells lit32 25)) (HB4.out.below ((Below.refl _ _).alloc (Nat.le_refl _) _)) hc4 (HTr.out.below B6) (by omega)).mono ?_
        rintro e5 w5 ⟨rfl, hb5⟩
        have B5 : Below wr.heap.size wr w5 := B6.trans (hb5.mono B6.size)
        refine hK.out _ _ (range_row (HKr.out.below B5 hltr)) (fun hHeldM => ?_)
        clear hK
        have HZ5 := Lib.hid ((Row.new w4 25 lit32).below hb5 (by simp))
        refine wpAnyH_ready (rs := [7]) (by kernel_rfl) (by decide) ?_
        refine AllReadyH.cons rfl (fun K' hK => ?_) AllReadyH.nil
        have hs4 := B4.size
        refine step_store_row Tryd.agg25 rfl (.tmp 12) (.tmp 32) rfl _ _ rfl rfl 25 lit32 (HZ5.out) HDS.out lit32_size (bcells_one _) ?_
        intro wz hrz hoz
        have Bz : Below wr.heap.size wr wz := B5.trans (hoz.below (B := wr.heap.size) (by omega) B5.size)
        have HRz := Lib.hid hrz
        clear hrz
        refine hK.out _ _ (range_row (HKr.out.below Bz hltr)) (fun hHeldZ => ?_)
        clear hK
        (try simp only [Act.put, List.setIfInBounds_toArray])
        refine wpAnyH_done (by kernel_rfl) ?_ _
        refine NoPanic.normal ?_
        obtain ⟨gd, hgd⟩ : ∃ gd, w4.heap.size = gd := ⟨_, rfl⟩
        rw [hgd] at HRz ⊢
        have hgd2 : wr.heap.size ≤ gd := by omega
        clear hgd
        go_wp2_with (first
          | (with_reducible refine wpList_copyK Tryd.byteTypes rfl (.tmp 34) (.tmp 35) rfl w2.heap.size (32 * m) nr c1 _ 32 32 rfl rfl _ 5 _ (HFr.out.below Bz hltf) (HRz.out.bsB HDL.out) q HQ.out HFit.out ?_; intro w7 hr7 ho7; rw [HFS.out] at hr7; have HR7 := Lib.hid hr7; clear hr7)
          | (with_reducible refine wpList_tailAt Tryd.byteTypes rfl (.tmp 33) (.tmp 36) rfl w2.heap.size (32 * m) nr c1 q rfl rfl HQ2.out HC1.out ?_; intro A8 hA8; have HA8 := Lib.hid hA8; clear hA8))
        have hq2 := HQ2.out
        have hq3 := HQ3.out
        have hq4 := HQ4.out
        have hc1 := HC1.out
        refine ⟨⟨m + 1, A8, c1 - q, by go_num, ?_, ?_, by omega, ?_, ?_, HR7.out⟩, ?_⟩
        · rw [show n - 32 * (m + 1) = nr - q by omega]
        · omega
        · intro h; rw [HA8.out (by omega)]; rw [show 32 * m + q = 32 * (m + 1) by omega]
        · exact (hbel.trans (Bz.mono hbs)).trans (ho7.below (B := w2.heap.size) (Nat.le_refl _) (hbel.trans (Bz.mono hbs)).size)
        · simp only [lenOf]; omega
      go_simp
      refine (HBMm.out A4 n4 c4 w4 (HB4.out) hc4 (HTr.out.below B4) (by omega)).mono ?_
      rintro e5 w5 ⟨rfl, hb5⟩
      have B5 : Below wr.heap.size wr w5 := B4.trans (hb5.mono B4.size)
      refine hK.out _ _ (range_row (HKr.out.below B5 hltr)) (fun hHeldM => ?_)
      clear hK
      refine wpAnyH_ready (rs := [6]) (by kernel_rfl) (by decide) ?_
      refine AllReadyH.cons rfl (fun K' hK => ?_) AllReadyH.nil
      go_simp
      have B6 : Below wr.heap.size wr (w5.alloc (.cells lit32 25)) := B5.alloc B5.size _
      refine hK.out _ _ (range_row (HKr.out.below B6 hltr)) (fun hHeldA => ?_)
      clear hK
      refine wpAnyH_ready (rs := [7]) (by kernel_rfl) (by decide) ?_
      refine AllReadyH.cons rfl (fun K' hK => ?_) AllReadyH.nil
      have hs5 := B5.size
      refine step_store_row Tryd.agg25 rfl (.tmp 12) (.tmp 32) rfl _ _ rfl rfl 25 lit32 (Row.new w5 25 lit32) HDS.out lit32_size (bcells_one _) ?_
      intro wz hrz hoz
      have Bz : Below wr.heap.size wr wz := B6.trans (hoz.below (B := wr.heap.size) (by omega) B6.size)
      have HRz := Lib.hid hrz
      clear hrz
      refine hK.out _ _ (range_row (HKr.out.below Bz hltr)) (fun hHeldZ => ?_)
      clear hK
      (try simp only [Act.put, List.setIfInBounds_toArray])
      refine wpAnyH_done (by kernel_rfl) ?_ _
      refine NoPanic.normal ?_
      obtain ⟨gd, hgd⟩ : ∃ gd, w5.heap.size = gd := ⟨_, rfl⟩
      rw [hgd] at HRz ⊢
      have hgd2 : wr.heap.size ≤ gd := by omega
      clear hgd
      go_wp2_with (first
        | (with_reducible refine wpList_copyK Tryd.byteTypes rfl (.tmp 34) (.tmp 35) rfl w2.heap.size (32 * m) nr c1 _ 32 32 rfl rfl _ 5 _ (HFr.out.below Bz hltf) (HRz.out.bsB HDL.out) q HQ.out HFit.out ?_; intro w7 hr7 ho7; rw [HFS.out] at hr7; have HR7 := Lib.hid hr7; clear hr7)
        | (with_reducible refine wpList_tailAt Tryd.byteTypes rfl (.tmp 33) (.tmp 36) rfl w2.heap.size (32 * m) nr c1 q rfl rfl HQ2.out HC1.out ?_; intro A8 hA8; have HA8 := Lib.hid hA8; clear hA8))
      have hq2 := HQ2.out
      have hq3 := HQ3.out
      have hq4 := HQ4.out
      have hc1 := HC1.out
      refine ⟨⟨m + 1, A8, c1 - q, by go_num, ?_, ?_, by omega, ?_, ?_, HR7.out⟩, ?_⟩
      · rw [show n - 32 * (m + 1) = nr - q by omega]
      · omega
      · intro h; rw [HA8.out (by omega)]; rw [show 32 * m + q = 32 * (m + 1) by omega]
      · exact (hbel.trans (Bz.mono hbs)).trans (ho7.below (B := w2.heap.size) (Nat.le_refl _) (hbel.trans (Bz.mono hbs)).size)
      · simp only [lenOf]; omega
    · have hn0 : n - 32 * m = 0 := by omega
      rw [hn0]
      rw [fillL_all k s n m (by omega)] at HFr
      have HDL := Lib.hid (deriveL_length k s n)
      clear hrow hA1
      go_wp2_with fail
      go_ret2
      exact ⟨_, n, n, rfl, HFr.out.bsB HDL.out, Nat.le_refl _, hb2.trans (hbel.mono hb2.size)⟩
end Go.Proofs.YtlndgefpmoooeaaDoor
