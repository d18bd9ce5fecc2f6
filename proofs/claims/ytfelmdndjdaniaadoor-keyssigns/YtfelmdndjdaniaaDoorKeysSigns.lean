/-
  KeysSigns, whole, as the tied card (Rows.KeysSignsCardSaid): for every seed, number of bits up to 24, height up to 3 and list of up to 12 acts (sign a text of up to 200 bytes, or skip to a number), keys.Sign and Skip answer what the document's own do: the same errors, signatures that are the same, the same next index behind each act; and a key of one index signs once. Conditions: the tables sha.constants, juratref02.constants and juratref02.first read as their initialisers lay them (tied to the program's text).
-/
import Derived.Test.YtfelmdndjdaniaaDoorRows
import Derived.Test.YtfelmdndjdaniaaDoorCards
import Derived.Test.YtfelmdndjdaniaaDoorTie
import Derived.WalkKit
import Derived.ProofKit
import Derived.OpenShut
import Derived.ChangeMaps5
import Derived.ShutString
import Derived.ChangeOld
import Derived.Below
import Derived.SizedLaws
import Derived.SevenTiedAt
import Derived.Lay
import Derived.LaidLaws
import Derived.Test.YtfelmdndjdaniaaDoorKeyU
namespace Go.Proofs.YtfelmdndjdaniaaDoor.keysSigns
open Go.ChangeShapes Go.WideShapes Go.ChangeAt Go.RowKit
open Go.ChangeMaps (open_string shut_string)
set_option linter.unusedVariables false
theorem own : ownKnob Tryd.prog.godebug = none := by kernel_rfl
theorem laidOut : laidOutB Tryd.prog = true := by kernel_rfl
set_option maxRecDepth 100000 in
set_option maxHeartbeats 1000000 in
theorem walk_no (w : World) (s0 : List UInt8) (a1 a2 : Int) (a3 : Option Addr) (len3 cap3 : Nat) (h : greatB a1 a2 = true ∨ okK a1 a2 = false ∨ 12 < len3) (hT : Tab 1 w) :
    Calls Tryd.prog 4 #[.agg (bcells s0), .int .i64 a1, .int .i64 a2, .slice a3 len3 cap3] w fun e w' => e = .returned (.bool true) ∧ Below w.heap.size w w' := by
  have HG := Lib.hid (fun w => great_any a1 a2 w)
  have HR := Lib.hid (fun w => kRight_any a1 a2 w)
  have hb0 := (Below.refl w.heap.size w).alloc (Nat.le_refl _) (.cells (bcells s0) 23)
  have HT := Lib.hid hT
  clear hT
  cases hg : greatB a1 a2
  · cases hr : okK a1 a2
    · rw [hg] at HG
      rw [hr] at HR
      clear h hg hr
      go_enter Tryd.func4, Tryd.ntmps4
      go_wp2_with (first
        | (go_at_call 11; refine (HG.out _).mono ?_; rintro e1 w1 ⟨rfl, rfl⟩)
        | (go_at_call 14; refine (HR.out _).mono ?_; rintro e1 w1 ⟨rfl, rfl⟩)
        | (go_at_call 12; refine (kawake_any _ (HT.out.below hb0)).mono ?_; rintro e2 w2 ⟨rfl, hb2⟩))
      go_ret
      exact ⟨rfl, hb0.trans (hb2.mono (by simp))⟩
    · have i0 : 12 < (len3 : Int) := by
        rcases h with h | h | h
        · rw [hg] at h; cases h
        · rw [hr] at h; cases h
        · omega
      rw [hg] at HG
      rw [hr] at HR
      clear h hg hr
      go_enter Tryd.func4, Tryd.ntmps4
      go_wp2_with (first
        | (go_at_call 11; refine (HG.out _).mono ?_; rintro e1 w1 ⟨rfl, rfl⟩)
        | (go_at_call 14; refine (HR.out _).mono ?_; rintro e1 w1 ⟨rfl, rfl⟩)
        | (go_at_call 12; refine (kawake_any _ (HT.out.below hb0)).mono ?_; rintro e2 w2 ⟨rfl, hb2⟩))
      go_ret
      exact ⟨rfl, hb0.trans (hb2.mono (by simp))⟩
  · rw [hg] at HG
    clear h hg HR
    go_enter Tryd.func4, Tryd.ntmps4
    go_wp2_with (first
      | (go_at_call 11; refine (HG.out _).mono ?_; rintro e1 w1 ⟨rfl, rfl⟩)
      | (go_at_call 12; refine (kawake_any _ (HT.out.below hb0)).mono ?_; rintro e2 w2 ⟨rfl, hb2⟩))
    go_ret
    exact ⟨rfl, hb0.trans (hb2.mono (by simp))⟩
set_option maxRecDepth 100000 in
set_option maxHeartbeats 8000000 in
theorem walk_ok (w : World) (s0 : List UInt8) (w0 : s0.length = 32) (b h : Nat) (a0 : Option Addr) (n0 c0 : Nat) (hD : Dos w a0 n0) (h1 : 1 ≤ b) (h2 : b ≤ 256) (h3 : h ≤ 6) (hgr : greatB (b : Int) (h : Int) = false) (hn12 : n0 ≤ 12) (hT : First w ∧ Tab 2 w ∧ Tab 1 w) :
    Calls Tryd.prog 4 #[.agg (bcells s0), .int .i64 (b : Int), .int .i64 (h : Int), .slice a0 n0 c0] w fun e w' => e = .returned (.bool true) ∧ Below w.heap.size w w' := by
  have HGr := Lib.hid (fun w => show Calls Tryd.prog 11 #[.int .i64 (b : Int), .int .i64 (h : Int)] w fun e w' => e = .returned (.bool false) ∧ w = w' by have q := great_any b h w; rw [hgr] at q; exact q)
  have HRi := Lib.hid (fun w => show Calls Tryd.prog 14 #[.int .i64 (b : Int), .int .i64 (h : Int)] w fun e w' => e = .returned (.bool true) ∧ w = w' by have q := kRight_any b h w; rw [okK_of h1 h2 h3] at q; exact q)
  have i2 : ¬ 12 < (n0 : Int) := by omega
  have hT1 := hT.2.1.1
  have HF := Lib.hid hT.1
  have HT2 := Lib.hid hT.2.1
  have HT := Lib.hid hT.2.2
  have HD := Lib.hid hD
  have HKS := Lib.hid (show (bcells s0).size = 32 by rw [bcells_size, w0])
  have HSL := Lib.hid w0
  have HNw := Lib.hid (fun w hT => New_ok s0 b h w w0 h1 h2 h3 hT)
  have HNx := Lib.hid (fun T g nx w hK => kNext_any T g b h nx s0 w hK)
  have HSg := Lib.hid (fun g gm nx l hn => sign_pair g gm b h nx s0 l w0 h1 h2 h3 hn)
  have HSk := Lib.hid (fun g gm nx to hn => skip_pair g gm b h nx to s0 w0 h3 hn)
  generalize hN : 2 ^ h = n at *
  clear hT hD h1 h2 hgr w0
  have hb0 := (Below.refl w.heap.size w).alloc (Nat.le_refl _) (.cells (bcells s0) 23)
  go_enter Tryd.func4, Tryd.ntmps4
  go_wp2_with (first
    | (go_at_call 11; refine (HGr.out _).mono ?_; rintro e1 w1 ⟨rfl, rfl⟩)
    | (go_at_call 14; refine (HRi.out _).mono ?_; rintro e1 w1 ⟨rfl, rfl⟩)
    | (with_reducible refine wpList_load_row Tryd.agg25 rfl (.tmp 4) rfl _ rfl 23 _ HR1.out HKS.out ?_)
    | (with_reducible refine wpList_load_row Tryd.agg25 rfl (.tmp 4) rfl _ rfl 23 _ (Row.new w 23 (bcells s0)) HKS.out ?_)
    | (go_at_call 13; refine (HNw.out _ (HT.out.below hb0)).mono ?_; rintro e1 w1 ⟨g, rfl, hg, hk1, hb1⟩; have HK1 := Lib.hid hk1; have HR1 := Lib.hid ((Row.new w 23 (bcells s0)).below hb1 (by simp)); have b1 := hb0.trans (hb1.mono (by simp)); simp at hg; clear hk1)
    | (with_reducible refine wpList_buildK rfl (.tmp 39) (.tmp 40) (.tmp 41) rfl s0 b h HSL.out rfl rfl rfl ?_))
  obtain ⟨w2, hw2⟩ : ∃ w2, w1.alloc (.cells (rkC s0 b h 0) 32) = w2 := ⟨_, rfl⟩
  have HM2 := Lib.hid (show Row w2 w1.heap.size 32 (rkC s0 b h 0) by rw [← hw2]; exact Row.new w1 32 _)
  have b2 : Below w1.heap.size w1 w2 := by rw [← hw2]; exact (Below.refl _ _).alloc (Nat.le_refl _) _
  rw [hw2]
  have bw2 := b1.trans (b2.mono b1.size)
  have HK2 := Lib.hid (HK1.out.below b2)
  have hgl := HK1.out.lt.1
  obtain ⟨gm, hgm⟩ : ∃ gm, gm = w1.heap.size := ⟨_, rfl⟩
  have hgmw : w.heap.size ≤ gm := by rw [hgm]; exact b1.size
  rw [← hgm] at HM2 HK2 hgl ⊢
  clear hgm hw2
  go_loopw [12] (fun i wr => ∃ (j nx : Nat), j ≤ n0 ∧ i = .int .i64 (j : Int) ∧ nx ≤ n ∧ KeyAt wr gm g s0 b h nx ∧ Row wr gm 32 (rkC s0 b h nx) ∧ Below w.heap.size w wr) (fun i _ => n0 - (intOf i).toNat)
  case atStart => exact ⟨0, 0, Nat.zero_le _, rfl, Nat.zero_le _, HK2.out, HM2.out, bw2⟩
  case round =>
    obtain ⟨j, nx, hj, rfl, hnx, hk, hm, hb⟩ := hrel
    have hbs := hb.size
    have hml := hm.lt
    have HK := Lib.hid hk
    have HM := Lib.hid hm
    clear hk hm
    by_cases hjn : j < n0
    · obtain ⟨b', off, ki, nn, A, m, c, l, rfl, hblt, d0, d1, d2, hB, hmc⟩ := HD.out j hjn
      have HB := Lib.hid hB
      have k0 : wr.cell? ⟨b', off + 3 * j, none⟩ = some (.int .i64 ki) := (hb.cell (p := ⟨b', off + 3 * j, none⟩) hblt).trans d0
      have k2 : wr.cell? ⟨b', off + 3 * j + 2, none⟩ = some (.slice A m c) := (hb.cell (p := ⟨b', off + 3 * j + 2, none⟩) hblt).trans d2
      have HC1 := Lib.hid d1
      have HC2 := Lib.hid d2
      clear d0 d1 d2 hB
      have j1 : (j : Int) < (n0 : Int) := by omega
      by_cases h2 : 200 < m
      · have e2 : 200 < (m : Int) := by omega
        go_wp2_with (first
          | (with_reducible refine wpList_indexT rfl (.tmp 50) (.tmp 51) rfl b' off n0 c0 j _ rfl rfl rfl hjn ?_)
          | (go_at_call 12; refine (kawake_any _ (HT.out.below hb)).mono ?_; rintro e4 w4 ⟨rfl, hb4⟩))
        go_ret
        exact ⟨rfl, hb.trans (hb4.mono hbs)⟩
      · have e2 : ¬ 200 < (m : Int) := by omega
        by_cases hki : ki = 0
        · subst hki
          obtain ⟨nx', E, i, O, P, hnx', hOl, hPl, HA1, HA2⟩ := HSg.out g gm nx l hnx
          have HA1 := Lib.hid HA1
          have HA2 := Lib.hid HA2
          go_wp2_with (first
            | (with_reducible refine wpList_indexT rfl (.tmp 50) (.tmp 51) rfl b' off n0 c0 j _ rfl rfl rfl hjn ?_)
            | (with_reducible refine wpList_indexT rfl (.tmp 58) (.tmp 59) rfl b' off n0 c0 j _ rfl rfl rfl hjn ?_)
            | (with_reducible refine wpList_indexT rfl (.tmp 90) (.tmp 91) rfl b' off n0 c0 j _ rfl rfl rfl hjn ?_)
            | (with_reducible refine wpList_indexT rfl (.tmp 101) (.tmp 102) rfl b' off n0 c0 j _ rfl rfl rfl hjn ?_)
            | (go_at_call 22; refine (kown_any A m c l wr (HB.out.below hb) (by omega)).mono ?_; rintro e3 w3 ⟨A3, n3, c3, rfl, hB3, hc3, hb3, -⟩; obtain rfl : m = n3 := HB.out.1.symm.trans hB3.1; have HB3 := Lib.hid hB3; have hs3 := hb3.size; have HK3 := Lib.hid (HK.out.below2 (by omega) hb3); have HM3 := Lib.hid (HM.out.below hb3 hml); have b3 := hb.trans (hb3.mono hbs); clear hB3)
            | (go_at_call 21; refine (HA1.out gm A3 m c3 w3 (by omega) HK3.out HB3.out hc3 (by omega) (HT.out.below b3) (by omega)).mono ?_; rintro e4 w4 ⟨A1, n1, c1, A2, n2, c2, rfl, hd1, hd2, hk4, ho4, -⟩; have hs4 := ho4.size; have HK4 := Lib.hid hk4; have HM4 := Lib.hid (HM3.out.only ho4 (by omega)); have HX1 := Lib.hid hd1; have HX2 := Lib.hid hd2; have b4 := b3.trans (ho4.below (B := w.heap.size) (by omega) b3.size); clear hk4 hd1 hd2)
            | (with_reducible refine wpList_store_row Tryd.aggSig rfl (.tmp 13) (.tmp 97) rfl _ (sigC i A1 n1 c1 A2 n2 c2) rfl rfl 44 sig0 (Row.new w4 44 sig0) (sigC_size _ _ _ _ _ _ _) (sigC_size _ _ _ _ _ _ _) (sigC_one _ _ _ _ _ _ _) ?_; intro w5 hr5 ho5; have HS5 := Lib.hid hr5; have hl5 := hr5.lt; have b5' : Below w4.heap.size w4 w5 := ((Below.refl _ _).alloc (Nat.le_refl _) _).trans (ho5.below (Nat.le_refl _) (by simp)); have hs5 := b5'.size; have b5 := b4.trans (b5'.mono b4.size); have HK5 := Lib.hid (HK4.out.below2 (by omega) b5'); have HM5 := Lib.hid (HM4.out.below b5' (by omega)); have k5 : w5.cell? ⟨b', off + 3 * j + 2, none⟩ = some (.slice A m c) := (b5.cell (p := ⟨b', off + 3 * j + 2, none⟩) hblt).trans HC2.out; clear hr5)
            | (go_at_call 23; refine (HA2.out A m c w5 HM5.out (HB.out.below b5) hmc (by omega) (HF.out.below b5) (HT2.out.below b5) (by omega)).mono ?_; rintro e6 w6 ⟨B1, m1, d1, B2, m2, d2, rfl, hd1, hd2, hk6, ho6, hkp6⟩; have hs6 := ho6.size; have HM6 := Lib.hid hk6; have HK6 := Lib.hid (HK5.out.only ho6 (Nat.le_refl _)); have HS6 := Lib.hid (HS5.out.only ho6 (by omega)); have HY1 := Lib.hid hd1; have HY2 := Lib.hid hd2; have HX61 := Lib.hid ((HX1.out.below b5').keeps hkp6); have HX62 := Lib.hid ((HX2.out.below b5').keeps hkp6); have b6 := b5.trans (ho6.below (B := w.heap.size) (by omega) b5.size); clear hk6 hd1 hd2)
            | (with_reducible refine wpList_store_row Tryd.aggSig rfl (.tmp 15) (.tmp 107) rfl _ (sigC i B1 m1 d1 B2 m2 d2) rfl rfl 44 sig0 (Row.new w6 44 sig0) (sigC_size _ _ _ _ _ _ _) (sigC_size _ _ _ _ _ _ _) (sigC_one _ _ _ _ _ _ _) ?_; intro w7 hr7 ho7; have HU7 := Lib.hid hr7; have hl7 := hr7.lt; have b7' : Below w6.heap.size w6 w7 := ((Below.refl _ _).alloc (Nat.le_refl _) _).trans (ho7.below (Nat.le_refl _) (by simp)); have hs7 := b7'.size; have b7 := b6.trans (b7'.mono b6.size); have HK7 := Lib.hid (HK6.out.below2 (by omega) b7'); have HM7 := Lib.hid (HM6.out.below b7' (by omega)); have HS7 := Lib.hid (HS6.out.below b7' (by omega)); clear hr7))
          have HXA := Lib.hid (HX61.out.below b7')
          have HXB := Lib.hid (HX62.out.below b7')
          have HYA := Lib.hid (HY1.out.below b7')
          have HYB := Lib.hid (HY2.out.below b7')
          obtain rfl : n1 = m1 := HXA.out.1.symm.trans HYA.out.1
          obtain rfl : n2 = m2 := HXB.out.1.symm.trans HYB.out.1
          have hn1 : n1 ≤ 1000000 := by have := HXA.out.1; omega
          have hn2 : n2 ≤ 1000000 := by have := HXB.out.1; omega
          obtain ⟨gs, hgs⟩ : ∃ gs, gs = w4.heap.size := ⟨_, rfl⟩
          obtain ⟨gt, hgt⟩ : ∃ gt, gt = w6.heap.size := ⟨_, rfl⟩
          rw [← hgs] at HS7 ⊢
          rw [← hgt] at HU7 ⊢
          clear hgs hgt
          have hgsl := HS7.out.lt
          have hgtl := HU7.out.lt
          have hgml := HM7.out.lt
          have B0 : Below w7.heap.size w7 w7.drew := (Below.refl w7.heap.size w7).drew
          refine wp_region_noPanic ?_
          refine wp_region_held_drew (S := fun w' => Row w' gs 44 (sigC i A1 n1 c1 A2 n2 c2) ∧ Row w' gt 44 (sigC i B1 n1 d1 B2 n2 d2) ∧ Row w' gm 32 (rkC s0 b h nx')) (by kernel_rfl) ⟨HS7.out.below B0 hgsl, HU7.out.below B0 hgtl, HM7.out.below B0 hgml⟩ (fun hHeld => ?_)
          refine takeD (i := 0) (some 109) (.int .i64 E) rfl rfl (by kernel_rfl) (by kernel_rfl) (by kernel_rfl) (fun _ _ _ h => h) (Or.inl ⟨by rfl, fun _ _ => rfl⟩) hHeld ?_
          simp only [Act.put, List.setIfInBounds_toArray, List.set_cons_zero, List.set_cons_succ]
          refine takeD (i := 1) (some 110) (.int .i64 E) rfl rfl (by kernel_rfl) (by kernel_rfl) (by kernel_rfl) (fun _ _ _ h => h) (Or.inl ⟨by rfl, fun _ _ => rfl⟩) hHeld ?_
          simp only [Act.put, List.setIfInBounds_toArray, List.set_cons_zero, List.set_cons_succ]
          refine takeD (i := 2) (some 111) (.bool false) rfl rfl (by kernel_rfl) (by kernel_rfl) (by kernel_rfl) (fun _ _ _ h => h) (yields_neqN (by rfl) _ _ rfl E rfl rfl) hHeld ?_
          simp only [Act.put, List.setIfInBounds_toArray, List.set_cons_zero, List.set_cons_succ]
          refine takeD (i := 3) (some 112) (.bool false) rfl rfl (by kernel_rfl) (by kernel_rfl) (by kernel_rfl) (fun _ _ _ h => h) (Or.inl ⟨by rfl, fun _ _ => rfl⟩) hHeld ?_
          simp only [Act.put, List.setIfInBounds_toArray, List.set_cons_zero, List.set_cons_succ]
          refine takeD (i := 4) (some 113) (.agg (sigC i A1 n1 c1 A2 n2 c2)) rfl rfl (by kernel_rfl) (by kernel_rfl) (by kernel_rfl) (fun _ _ _ h => h) (yields_loadS (by rfl) (.tmp 13) rfl (gs) rfl _ _ _ _ _ _ _ (fun _ h => h.1)) hHeld ?_
          simp only [Act.put, List.setIfInBounds_toArray, List.set_cons_zero, List.set_cons_succ]
          refine takeD (i := 5) (some 114) (.agg (sigC i B1 n1 d1 B2 n2 d2)) rfl rfl (by kernel_rfl) (by kernel_rfl) (by kernel_rfl) (fun _ _ _ h => h) (yields_loadS (by rfl) (.tmp 15) rfl (gt) rfl _ _ _ _ _ _ _ (fun _ h => h.2.1)) hHeld ?_
          simp only [Act.put, List.setIfInBounds_toArray, List.set_cons_zero, List.set_cons_succ]
          refine wpAnyH_ready (rs := [6]) (by kernel_rfl) (by decide) ?_
          refine AllReadyH.cons rfl (fun K' hK => ?_) AllReadyH.nil
          go_simp
          refine (kSame_yes i A1 B1 A2 B2 n1 c1 d1 n2 c2 d2 O P w7.drew (HXA.out.below B0) (HYA.out.below B0) (HXB.out.below B0) (HYB.out.below B0) hn1 hn2).mono ?_
          rintro e8 w8 ⟨rfl, hb8⟩
          have B8 : Below w7.heap.size w7 w8 := B0.trans (hb8.mono B0.size)
          refine hK.out _ _ ⟨HS7.out.below B8 hgsl, HU7.out.below B8 hgtl, HM7.out.below B8 hgml⟩ (fun hHeld1 => ?_)
          clear hK
          (try simp only [Act.put, List.setIfInBounds_toArray, List.set_cons_zero, List.set_cons_succ])
          refine takeD (i := 7) (some 116) (.bool false) rfl rfl (by kernel_rfl) (by kernel_rfl) (by kernel_rfl) (fun _ _ _ h => h) (Or.inl ⟨by rfl, fun _ _ => rfl⟩) hHeld1 ?_
          simp only [Act.put, List.setIfInBounds_toArray, List.set_cons_zero, List.set_cons_succ]
          refine takeD (i := 8) (some 117) (.bool false) rfl rfl (by kernel_rfl) (by kernel_rfl) (by kernel_rfl) (fun _ _ _ h => h) (Or.inl ⟨by rfl, fun _ _ => rfl⟩) hHeld1 ?_
          simp only [Act.put, List.setIfInBounds_toArray, List.set_cons_zero, List.set_cons_succ]
          refine takeD (i := 9) (some 118) (.bool false) rfl rfl (by kernel_rfl) (by kernel_rfl) (by kernel_rfl) (fun _ _ _ h => h) (Or.inl ⟨by rfl, fun _ _ => rfl⟩) hHeld1 ?_
          simp only [Act.put, List.setIfInBounds_toArray, List.set_cons_zero, List.set_cons_succ]
          refine takeD (i := 10) (some 119) (.pointer (some ⟨g, 0, none⟩)) rfl rfl (by kernel_rfl) (by kernel_rfl) (by kernel_rfl) (fun _ _ _ h => h) (Or.inl ⟨by rfl, fun _ _ => rfl⟩) hHeld1 ?_
          simp only [Act.put, List.setIfInBounds_toArray, List.set_cons_zero, List.set_cons_succ]
          refine takeD (i := 12) (some 121) (.pointer (some ⟨gm, 0, none⟩)) rfl rfl (by kernel_rfl) (by kernel_rfl) (by kernel_rfl) (fun _ _ _ h => h) (Or.inl ⟨by rfl, fun _ _ => rfl⟩) hHeld1 ?_
          simp only [Act.put, List.setIfInBounds_toArray, List.set_cons_zero, List.set_cons_succ]
          refine takeD (i := 13) (some 122) (.pointer (some ⟨gm, 0, none⟩)) rfl rfl (by kernel_rfl) (by kernel_rfl) (by kernel_rfl) (fun _ _ _ h => h) (yields_nil (by rfl) (.tmp 121) rfl _ rfl) hHeld1 ?_
          simp only [Act.put, List.setIfInBounds_toArray, List.set_cons_zero, List.set_cons_succ]
          refine takeD (i := 14) (some 123) (.pointer (some ⟨gm, 34, none⟩)) rfl rfl (by kernel_rfl) (by kernel_rfl) (by kernel_rfl) (fun _ _ _ h => h) (yields_fld32 (by rfl) (.tmp 122) 3 rfl (by decide) (gm) rfl) hHeld1 ?_
          simp only [Act.put, List.setIfInBounds_toArray, List.set_cons_zero, List.set_cons_succ]
          refine takeD (i := 15) (some 124) (.int .i64 (nx' : Int)) rfl rfl (by kernel_rfl) (by kernel_rfl) (by kernel_rfl) (fun _ _ _ h => h) (yields_cell (by rfl) 3 (.tmp 123) rfl (by decide) (gm) (34) rfl _ (fun _ h => (h.2.2.cell 34).trans (rkC_34 HSL.out))) hHeld1 ?_
          simp only [Act.put, List.setIfInBounds_toArray, List.set_cons_zero, List.set_cons_succ]
          refine wpAnyH_ready (rs := [11]) (by kernel_rfl) (by decide) ?_
          refine AllReadyH.cons rfl (fun K' hK => ?_) AllReadyH.nil
          go_simp
          refine (HNx.out gm g nx' w8 (HK7.out.below2 (by omega) B8)).mono ?_
          rintro e9 w9 ⟨rfl, rfl⟩
          refine hK.out _ _ ⟨HS7.out.below B8 hgsl, HU7.out.below B8 hgtl, HM7.out.below B8 hgml⟩ (fun hHeld2 => ?_)
          clear hK
          (try simp only [Act.put, List.setIfInBounds_toArray, List.set_cons_zero, List.set_cons_succ])
          refine takeD (i := 16) (some 125) (.bool false) rfl rfl (by kernel_rfl) (by kernel_rfl) (by kernel_rfl) (fun _ _ _ h => h) (yields_neqN (by rfl) _ _ rfl (nx' : Int) rfl rfl) hHeld2 ?_
          simp only [Act.put, List.setIfInBounds_toArray, List.set_cons_zero, List.set_cons_succ]
          refine takeD (i := 17) (some 126) (.bool false) rfl rfl (by kernel_rfl) (by kernel_rfl) (by kernel_rfl) (fun _ _ _ h => h) (Or.inl ⟨by rfl, fun _ _ => rfl⟩) hHeld2 ?_
          simp only [Act.put, List.setIfInBounds_toArray, List.set_cons_zero, List.set_cons_succ]
          (try simp only [Act.put, List.setIfInBounds_toArray])
          refine wpAnyH_done (by kernel_rfl) ?_ _
          refine NoPanic.normal ?_
          go_wp2_with fail
          go_roundw
          case rel => exact ⟨j + 1, nx', by omega, by go_num, hnx', HK7.out.below2 (by omega) B8, HM7.out.below B8 hgml, b7.trans (B8.mono b7.size)⟩
          case measure => simp [intOf]; omega
        · have hki' : (ki != 0) = true := by simp [hki]
          obtain ⟨nx', E, hnx', HA1, HA2⟩ := HSk.out g gm nx nn hnx
          have HA1 := Lib.hid HA1
          have HA2 := Lib.hid HA2
          go_wp2_with (first
            | (with_reducible refine wpList_indexT rfl (.tmp 50) (.tmp 51) rfl b' off n0 c0 j _ rfl rfl rfl hjn ?_)
            | (with_reducible refine wpList_indexT rfl (.tmp 58) (.tmp 59) rfl b' off n0 c0 j _ rfl rfl rfl hjn ?_))
          have hcl : ∀ w', Below w.heap.size w w' → w'.cell? ⟨b', off + 3 * j + 1, none⟩ = some (.int .i64 nn) := fun w' hb' => (hb'.cell (p := ⟨b', off + 3 * j + 1, none⟩) hblt).trans HC1.out
          have HCl := Lib.hid hcl
          clear hcl
          have B0 : Below wr.heap.size wr wr.drew := (Below.refl wr.heap.size wr).drew
          have bd : Below w.heap.size w wr.drew := hb.trans (B0.mono hbs)
          refine wp_region_noPanic ?_
          refine wp_region_held_drew (S := fun w' => w'.cell? ⟨b', off + 3 * j + 1, none⟩ = some (.int .i64 nn)) (by kernel_rfl) (HCl.out _ bd) (fun hHeld => ?_)
          refine takeD (i := 0) (some 64) (.pointer (some ⟨g, 0, none⟩)) rfl rfl (by kernel_rfl) (by kernel_rfl) (by kernel_rfl) (fun _ _ _ h => h) (Or.inl ⟨by rfl, fun _ _ => rfl⟩) hHeld ?_
          simp only [Act.put, List.setIfInBounds_toArray, List.set_cons_zero, List.set_cons_succ]
          refine takeD (i := 1) (some 65) (.slice (some ⟨b', off, none⟩) n0 c0) rfl rfl (by kernel_rfl) (by kernel_rfl) (by kernel_rfl) (fun _ _ _ h => h) (Or.inl ⟨by rfl, fun _ _ => rfl⟩) hHeld ?_
          simp only [Act.put, List.setIfInBounds_toArray, List.set_cons_zero, List.set_cons_succ]
          refine takeD (i := 2) (some 66) (.int .i64 (j : Int)) rfl rfl (by kernel_rfl) (by kernel_rfl) (by kernel_rfl) (fun _ _ _ h => h) (Or.inl ⟨by rfl, fun _ _ => rfl⟩) hHeld ?_
          simp only [Act.put, List.setIfInBounds_toArray, List.set_cons_zero, List.set_cons_succ]
          refine takeD (i := 3) (some 67) (.pointer (some ⟨b', off + 3 * j, none⟩)) rfl rfl (by kernel_rfl) (by kernel_rfl) (by kernel_rfl) (fun _ _ _ h => h) (yields_indexT rfl (.tmp 65) (.tmp 66) rfl b' off n0 c0 j _ rfl rfl rfl hjn) hHeld ?_
          simp only [Act.put, List.setIfInBounds_toArray, List.set_cons_zero, List.set_cons_succ]
          refine takeD (i := 4) (some 68) (.pointer (some ⟨b', off + 3 * j + 1, none⟩)) rfl rfl (by kernel_rfl) (by kernel_rfl) (by kernel_rfl) (fun _ _ _ h => h) (yields_fld39 (by rfl) (.tmp 67) 1 rfl (by decide) (b') (off + 3 * j) rfl) hHeld ?_
          simp only [Act.put, List.setIfInBounds_toArray, List.set_cons_zero, List.set_cons_succ]
          refine takeD (i := 5) (some 69) (.int .i64 nn) rfl rfl (by kernel_rfl) (by kernel_rfl) (by kernel_rfl) (fun _ _ _ h => h) (yields_cell (by rfl) 3 (.tmp 68) rfl (by decide) (b') (off + 3 * j + 1) rfl _ (fun _ h => h)) hHeld ?_
          simp only [Act.put, List.setIfInBounds_toArray, List.set_cons_zero, List.set_cons_succ]
          refine takeD (i := 7) (some 71) (.pointer (some ⟨gm, 0, none⟩)) rfl rfl (by kernel_rfl) (by kernel_rfl) (by kernel_rfl) (fun _ _ _ h => h) (Or.inl ⟨by rfl, fun _ _ => rfl⟩) hHeld ?_
          simp only [Act.put, List.setIfInBounds_toArray, List.set_cons_zero, List.set_cons_succ]
          refine takeD (i := 8) (some 72) (.slice (some ⟨b', off, none⟩) n0 c0) rfl rfl (by kernel_rfl) (by kernel_rfl) (by kernel_rfl) (fun _ _ _ h => h) (Or.inl ⟨by rfl, fun _ _ => rfl⟩) hHeld ?_
          simp only [Act.put, List.setIfInBounds_toArray, List.set_cons_zero, List.set_cons_succ]
          refine takeD (i := 9) (some 73) (.int .i64 (j : Int)) rfl rfl (by kernel_rfl) (by kernel_rfl) (by kernel_rfl) (fun _ _ _ h => h) (Or.inl ⟨by rfl, fun _ _ => rfl⟩) hHeld ?_
          simp only [Act.put, List.setIfInBounds_toArray, List.set_cons_zero, List.set_cons_succ]
          refine takeD (i := 10) (some 74) (.pointer (some ⟨b', off + 3 * j, none⟩)) rfl rfl (by kernel_rfl) (by kernel_rfl) (by kernel_rfl) (fun _ _ _ h => h) (yields_indexT rfl (.tmp 72) (.tmp 73) rfl b' off n0 c0 j _ rfl rfl rfl hjn) hHeld ?_
          simp only [Act.put, List.setIfInBounds_toArray, List.set_cons_zero, List.set_cons_succ]
          refine takeD (i := 11) (some 75) (.pointer (some ⟨b', off + 3 * j + 1, none⟩)) rfl rfl (by kernel_rfl) (by kernel_rfl) (by kernel_rfl) (fun _ _ _ h => h) (yields_fld39 (by rfl) (.tmp 74) 1 rfl (by decide) (b') (off + 3 * j) rfl) hHeld ?_
          simp only [Act.put, List.setIfInBounds_toArray, List.set_cons_zero, List.set_cons_succ]
          refine takeD (i := 12) (some 76) (.int .i64 nn) rfl rfl (by kernel_rfl) (by kernel_rfl) (by kernel_rfl) (fun _ _ _ h => h) (yields_cell (by rfl) 3 (.tmp 75) rfl (by decide) (b') (off + 3 * j + 1) rfl _ (fun _ h => h)) hHeld ?_
          simp only [Act.put, List.setIfInBounds_toArray, List.set_cons_zero, List.set_cons_succ]
          refine wpAnyH_ready (rs := [6]) (by kernel_rfl) (by decide) ?_
          refine AllReadyH.cons rfl (fun K' hK => ?_) AllReadyH.nil
          go_simp
          refine (HA1.out gm wr.drew (HK.out.below2 (by omega) B0)).mono ?_
          rintro e3 w3 ⟨rfl, hk3, ho3⟩
          have HK3 := Lib.hid hk3
          have HM3 := Lib.hid ((HM.out.below B0 hml).only ho3 (by omega))
          have hs3 := ho3.size
          simp at hs3
          have b3 : Below w.heap.size w w3 := bd.trans (ho3.below (B := w.heap.size) (by omega) bd.size)
          clear hk3
          refine hK.out _ _ (HCl.out _ b3) (fun hHeld1 => ?_)
          clear hK
          (try simp only [Act.put, List.setIfInBounds_toArray, List.set_cons_zero, List.set_cons_succ])
          refine wpAnyH_ready (rs := [13]) (by kernel_rfl) (by decide) ?_
          refine AllReadyH.cons rfl (fun K' hK => ?_) AllReadyH.nil
          go_simp
          refine (HA2.out w3 HM3.out).mono ?_
          rintro e4 w4 ⟨rfl, hk4, ho4⟩
          have HM4 := Lib.hid hk4
          have HK4 := Lib.hid (HK3.out.only ho4 (Nat.le_refl _))
          have hs4 := ho4.size
          have b4 : Below w.heap.size w w4 := b3.trans (ho4.below (B := w.heap.size) (by omega) b3.size)
          have k34 : w4.cell? ⟨gm, 34, none⟩ = some (.int .i64 (nx' : Int)) := (hk4.cell 34).trans (rkC_34 HSL.out)
          clear hk4
          refine hK.out _ _ (HCl.out _ b4) (fun hHeld2 => ?_)
          clear hK
          (try simp only [Act.put, List.setIfInBounds_toArray, List.set_cons_zero, List.set_cons_succ])
          refine takeD (i := 14) (some 78) (.bool false) rfl rfl (by kernel_rfl) (by kernel_rfl) (by kernel_rfl) (fun _ _ _ h => h) (yields_neqN (by rfl) _ _ rfl E rfl rfl) hHeld2 ?_
          simp only [Act.put, List.setIfInBounds_toArray, List.set_cons_zero, List.set_cons_succ]
          refine takeD (i := 15) (some 79) (.bool false) rfl rfl (by kernel_rfl) (by kernel_rfl) (by kernel_rfl) (fun _ _ _ h => h) (Or.inl ⟨by rfl, fun _ _ => rfl⟩) hHeld2 ?_
          simp only [Act.put, List.setIfInBounds_toArray, List.set_cons_zero, List.set_cons_succ]
          refine takeD (i := 16) (some 80) (.pointer (some ⟨g, 0, none⟩)) rfl rfl (by kernel_rfl) (by kernel_rfl) (by kernel_rfl) (fun _ _ _ h => h) (Or.inl ⟨by rfl, fun _ _ => rfl⟩) hHeld2 ?_
          simp only [Act.put, List.setIfInBounds_toArray, List.set_cons_zero, List.set_cons_succ]
          refine takeD (i := 18) (some 82) (.pointer (some ⟨gm, 0, none⟩)) rfl rfl (by kernel_rfl) (by kernel_rfl) (by kernel_rfl) (fun _ _ _ h => h) (Or.inl ⟨by rfl, fun _ _ => rfl⟩) hHeld2 ?_
          simp only [Act.put, List.setIfInBounds_toArray, List.set_cons_zero, List.set_cons_succ]
          refine takeD (i := 19) (some 83) (.pointer (some ⟨gm, 0, none⟩)) rfl rfl (by kernel_rfl) (by kernel_rfl) (by kernel_rfl) (fun _ _ _ h => h) (yields_nil (by rfl) (.tmp 82) rfl _ rfl) hHeld2 ?_
          simp only [Act.put, List.setIfInBounds_toArray, List.set_cons_zero, List.set_cons_succ]
          refine takeD (i := 20) (some 84) (.pointer (some ⟨gm, 34, none⟩)) rfl rfl (by kernel_rfl) (by kernel_rfl) (by kernel_rfl) (fun _ _ _ h => h) (yields_fld32 (by rfl) (.tmp 83) 3 rfl (by decide) (gm) rfl) hHeld2 ?_
          simp only [Act.put, List.setIfInBounds_toArray, List.set_cons_zero, List.set_cons_succ]
          refine wpAnyH_ready (rs := [17, 21]) (by kernel_rfl) (by decide) ?_
          refine AllReadyH.cons rfl (fun K' hK => ?_) (AllReadyH.cons rfl (fun K' hK => ?_) AllReadyH.nil)
          · go_simp
            refine (HNx.out gm g nx' w4 HK4.out).mono ?_
            rintro e5 w5 ⟨rfl, rfl⟩
            refine hK.out _ _ (HCl.out _ b4) (fun hHeld3 => ?_)
            clear hK
            (try simp only [Act.put, List.setIfInBounds_toArray, List.set_cons_zero, List.set_cons_succ])
            refine wpAnyH_ready (rs := [21]) (by kernel_rfl) (by decide) ?_
            refine AllReadyH.cons rfl (fun K' hK => ?_) AllReadyH.nil
            go_simp
            refine hK.out _ _ (HCl.out _ b4) (fun hHeld4 => ?_)
            clear hK
            (try simp only [Act.put, List.setIfInBounds_toArray, List.set_cons_zero, List.set_cons_succ])
            refine takeD (i := 22) (some 86) (.bool false) rfl rfl (by kernel_rfl) (by kernel_rfl) (by kernel_rfl) (fun _ _ _ h => h) (yields_neqN (by rfl) _ _ rfl (nx' : Int) rfl rfl) hHeld4 ?_
            simp only [Act.put, List.setIfInBounds_toArray, List.set_cons_zero, List.set_cons_succ]
            refine takeD (i := 23) (some 87) (.bool false) rfl rfl (by kernel_rfl) (by kernel_rfl) (by kernel_rfl) (fun _ _ _ h => h) (Or.inl ⟨by rfl, fun _ _ => rfl⟩) hHeld4 ?_
            simp only [Act.put, List.setIfInBounds_toArray, List.set_cons_zero, List.set_cons_succ]
            (try simp only [Act.put, List.setIfInBounds_toArray])
            refine wpAnyH_done (by kernel_rfl) ?_ _
            refine NoPanic.normal ?_
            go_wp2_with fail
            go_roundw
            case rel => exact ⟨j + 1, nx', by omega, by go_num, hnx', HK4.out, HM4.out, b4⟩
            case measure => simp [intOf]; omega
          · go_simp
            refine hK.out _ _ (HCl.out _ b4) (fun hHeld3 => ?_)
            clear hK
            (try simp only [Act.put, List.setIfInBounds_toArray, List.set_cons_zero, List.set_cons_succ])
            refine wpAnyH_ready (rs := [17]) (by kernel_rfl) (by decide) ?_
            refine AllReadyH.cons rfl (fun K' hK => ?_) AllReadyH.nil
            go_simp
            refine (HNx.out gm g nx' w4 HK4.out).mono ?_
            rintro e5 w5 ⟨rfl, rfl⟩
            refine hK.out _ _ (HCl.out _ b4) (fun hHeld4 => ?_)
            clear hK
            (try simp only [Act.put, List.setIfInBounds_toArray, List.set_cons_zero, List.set_cons_succ])
            refine takeD (i := 22) (some 86) (.bool false) rfl rfl (by kernel_rfl) (by kernel_rfl) (by kernel_rfl) (fun _ _ _ h => h) (yields_neqN (by rfl) _ _ rfl (nx' : Int) rfl rfl) hHeld4 ?_
            simp only [Act.put, List.setIfInBounds_toArray, List.set_cons_zero, List.set_cons_succ]
            refine takeD (i := 23) (some 87) (.bool false) rfl rfl (by kernel_rfl) (by kernel_rfl) (by kernel_rfl) (fun _ _ _ h => h) (Or.inl ⟨by rfl, fun _ _ => rfl⟩) hHeld4 ?_
            simp only [Act.put, List.setIfInBounds_toArray, List.set_cons_zero, List.set_cons_succ]
            (try simp only [Act.put, List.setIfInBounds_toArray])
            refine wpAnyH_done (by kernel_rfl) ?_ _
            refine NoPanic.normal ?_
            go_wp2_with fail
            go_roundw
            case rel => exact ⟨j + 1, nx', by omega, by go_num, hnx', HK4.out, HM4.out, b4⟩
            case measure => simp [intOf]; omega
    · go_wp2_with (go_at_call 12; refine (kawake_any _ (HT.out.below hb)).mono ?_; rintro e4 w4 ⟨rfl, hb4⟩)
      go_ret
      exact ⟨rfl, hb.trans (hb4.mono hbs)⟩
theorem walk (w : World) (s0 : List UInt8) (w0 : s0.length = 32) (a1 : Int) (_w1 : (Lit.int .i64 a1).wf = true) (a2 : Int) (_w2 : (Lit.int .i64 a2).wf = true) (a3 : Option Addr) (len3 cap3 : Nat) (w3 : Dos w a3 len3) (hT : First w ∧ Tab 2 w ∧ Tab 1 w) :
    Calls Tryd.prog 4 #[.agg (bcells s0), .int .i64 a1, .int .i64 a2, .slice a3 len3 cap3] w fun e w' => e = .returned (.bool true) ∧ Below w.heap.size w w' := by
  cases hg : greatB a1 a2
  · cases hr : okK a1 a2
    · exact walk_no w s0 a1 a2 a3 len3 cap3 (.inr (.inl hr)) hT.2.2
    · by_cases hl : 12 < len3
      · exact walk_no w s0 a1 a2 a3 len3 cap3 (.inr (.inr hl)) hT.2.2
      · obtain ⟨b, h, rfl, rfl, h1, h2, h3⟩ := okK_yes hr
        exact walk_ok w s0 w0 b h a3 len3 cap3 w3 h1 h2 h3 hg (by omega) hT
  · exact walk_no w s0 a1 a2 a3 len3 cap3 (.inl hg) hT.2.2

set_option maxRecDepth 100000 in
theorem lifted (os : Os) (started : os.Started) (H : Type) (enc : TypeId × Value → H) :
    ReturnsInHanded {} Tryd.checked os 4 .any (fun w args => (Rows.keysSignsSpec.pre enc Tryd.prog Tryd.f4 Rows.keysSignsRow.domain false w args ∧ laidMetH Tryd.prog lay3 w) ∧ sizedMet enc Tryd.prog Tryd.f4 (OpenSpec.ofChange Rows.keysSignsSpec) false w args)
      (Rows.keysSignsSpec.post enc Tryd.prog Tryd.f4 false true false false) := by
  refine returnsInHanded_of_change_and (C := Tryd.checked) (X := fun w _ => laidMetH Tryd.prog lay3 w) (fun _ _ _ hh h => h.of_heap hh) own started (by kernel_rfl) Tryd.func4
    (ChangeSpec.witness_shaped (enc := enc) (C := Tryd.checked) (os := os) (X := fun w _ => laidMetH Tryd.prog lay3 w) false (World.laidAll Tryd.prog os lay3) #[.agg #[.int .u8 0, .int .u8 0, .int .u8 0, .int .u8 0, .int .u8 0, .int .u8 0, .int .u8 0, .int .u8 0, .int .u8 0, .int .u8 0, .int .u8 0, .int .u8 0, .int .u8 0, .int .u8 0, .int .u8 0, .int .u8 0, .int .u8 0, .int .u8 0, .int .u8 0, .int .u8 0, .int .u8 0, .int .u8 0, .int .u8 0, .int .u8 0, .int .u8 0, .int .u8 0, .int .u8 0, .int .u8 0, .int .u8 0, .int .u8 0, .int .u8 0, .int .u8 0], .int .i64 0, .int .i64 0, .slice none 0 0] 8 rfl (World.shaped_of_ZipB (by kernel_rfl) (by kernel_rfl)) (by kernel_rfl) (by kernel_rfl) (by kernel_rfl) (met3 os _)) ?_
  intro W base args ds gs before hval0 hW hcnd hsz0 hL _
  have hval : ∀ (j : Nat) t v, Tryd.f4.params[j]? = some t → args[j]? = some v → Value.okWide Tryd.prog W .any base t v := hval0
  have hW' := hW
  obtain ⟨p, q, hA0, hV, rfl, hfz, hnd⟩ := hW
  have hA : DataW.TrodAll enc Tryd.prog W 0 (fun _ => true) true Tryd.f4.params.toList args.toList ds p := hA0
  have hsz : (DataW.weightsEach Tryd.prog (Tryd.f4.params.toList ++ Rows.keysSignsSpec.plain.varTypes Tryd.prog) (ds ++ gs)).all (· ≤ reachBytes) = true := hsz0
  rw [Tryd.params4] at hA hval hsz
  obtain ⟨v0, vs0, d0, ds0, p0, q0, hargs, rfl, rfl, h0, r0⟩ := trodAll_cons hA
  obtain ⟨v1, vs1, d1, ds1, p1, q1, rfl, rfl, rfl, h1, r1⟩ := trodAll_cons r0
  obtain ⟨v2, vs2, d2, ds2, p2, q2, rfl, rfl, rfl, h2, r2⟩ := trodAll_cons r1
  obtain ⟨v3, vs3, d3, ds3, p3, q3, rfl, rfl, rfl, h3, r3⟩ := trodAll_cons r2
  obtain ⟨rfl, rfl, rfl⟩ := trodAll_nil r3
  obtain rfl : args = #[v0, v1, v2, v3] := by cases args; simp_all
  obtain ⟨rfl, rfl⟩ := trodVars_none hV
  have k0 := h0
  have lt0 : ∀ x ∈ p0, x.block < W.heap.size := by obtain ⟨m, hm⟩ := k0; exact DataW.trod_lt m _ _ _ hm
  obtain ⟨s0, w0, rfl⟩ : ∃ s : List UInt8, s.length = 32 ∧ v0 = .agg (bcells s) := open_digest (hval 0 23 v0 rfl rfl) h0
  obtain ⟨a1, rfl, rfl, rfl, w1⟩ := open_int Tryd.underlying3 (hval 1 3 v1 rfl rfl) h1
  obtain ⟨a2, rfl, rfl, rfl, w2⟩ := open_int Tryd.underlying3 (hval 2 3 v2 rfl rfl) h2
  have k3 := h3
  have lt3 : ∀ x ∈ p3, x.block < W.heap.size := by obtain ⟨m, hm⟩ := k3; exact DataW.trod_lt m _ _ _ hm
  obtain ⟨a3, len3, cap3, rfl, w3⟩ := open_dos (hval 3 36 v3 rfl rfl) h3
  have hTab := of_lay3 hL
  clear hA0 hval0
  refine (walk W s0 w0 a1 w1 a2 w2 a3 len3 cap3 w3 hTab).mono fun e W' ⟨he, bel⟩ => ?_
  subst he
  exact ⟨_, rfl, _, _, _, [], _, [], hW', trodAll_mk1 (shut_bool Tryd.underlying4 _), (trodAll_cons_mk (Below.trod laidOut (by kernel_rfl) (of_decide_eq_true (by kernel_rfl)) k0 bel lt0) (trodAll_cons_mk (shut_int Tryd.underlying3 w1) (trodAll_cons_mk (shut_int Tryd.underlying3 w2) (trodAll_cons_mk (Below.trod laidOut (by kernel_rfl) (of_decide_eq_true (by kernel_rfl)) k3 bel lt3) trodAll_mk0)))), rfl, bel.frame _, fun h => by cases h⟩
theorem over : Rows.keysSignsRow.holds Tryd.pinned (OpenSpec.ofChange Rows.keysSignsSpec) :=
  OpenClaim.holds_of_wide 4 Tryd.f4 rfl rfl rfl rfl rfl rfl rfl ⟨rfl, rfl, rfl, rfl, rfl⟩ rfl rfl rfl rfl rfl (by kernel_rfl) Tryd.func4 (by kernel_rfl)
    (of_decide_eq_true (by kernel_rfl)) (by unfold Func.isWrapper; first | (rw [if_pos (by decide +kernel)]; kernel_rfl) | (rw [if_neg (by decide +kernel)]; exact ⟨rfl, rfl⟩))
    (fun os started H enc _ => lifted os started H enc)
theorem keysSigns_holds : Rows.KeysSignsCardSaid :=
  Claim7.holds_tied_plain_at .later [] [.data, .data, .data] true (true, "d3f0664aba75a8af102b5f214e5048e24f7f5bc8fe66a510793bef99d59ac9fb") false
    over (fun _ h => by cases h) (by kernel_rfl) (fun _ h => by cases h) keysSigns_row_tie rfl ⟨rfl, rfl⟩ (by kernel_rfl) rfl
    (fun f fn hf hfn => by
      obtain rfl : f = 4 := Option.some.inj ((show Tryd.prog.funcNamed "jurat/juratlaw07.KeysSigns" = some 4 by kernel_rfl).symm.trans hf) |>.symm
      obtain rfl : fn = Tryd.f4 := (Option.some.inj (Tryd.func4.symm.trans hfn)).symm
      exact ⟨by kernel_rfl, fun j t ht => by
        rw [Tryd.params4] at ht
        have hm : t ∈ [23, 3, 36] := by simpa using Array.mem_of_getElem? ht
        have hall : ([23, 3, 36].all fun u => !Tryd.prog.wantsStandIn u) = true := by kernel_rfl
        exact (show Tryd.prog.wantsStandIn t = false by simpa using List.all_eq_true.1 hall t hm)⟩)
    (by kernel_rfl)
#print axioms keysSigns_holds
end Go.Proofs.YtfelmdndjdaniaaDoor.keysSigns
