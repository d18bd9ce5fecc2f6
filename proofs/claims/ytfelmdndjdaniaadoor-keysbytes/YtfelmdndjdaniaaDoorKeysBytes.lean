/-
  KeysBytes, whole, as the tied card (Rows.KeysBytesCardSaid): for every signature (up to 100 digests and 20 of the path), all bytes (up to 3000), every number of bits and height (up to 24 bits and height 3, or what may not be) keys.Encode of a copy has the document's own bytes, keys.Decode answers what the document's own Decode answers, error and signature, and where it says OK the bytes of what was read are just the bytes; and a key of one index signs once. Conditions: the table sha.constants reads as its initialiser lays it (tied to the program's text).
-/
import Derived.Test.YtfelmdndjdaniaaDoorRows
import Derived.Test.YtfelmdndjdaniaaDoorCards
import Derived.Test.YtfelmdndjdaniaaDoorTie
import Derived.WalkKit
import Derived.ProofKit
import Derived.OpenShut
import Derived.ChangeMaps5
import Derived.ShutString
import Derived.ChangeOld
import Derived.Below
import Derived.SizedLaws
import Derived.SevenTiedAt
import Derived.Lay
import Derived.LaidLaws
import Derived.Test.YtfelmdndjdaniaaDoorKeyS
import Derived.Test.YtfelmdndjdaniaaDoorKeyT
namespace Go.Proofs.YtfelmdndjdaniaaDoor.keysBytes
open Go.ChangeShapes Go.WideShapes Go.ChangeAt Go.RowKit
open Go.ChangeMaps (open_string shut_string)
set_option linter.unusedVariables false
theorem own : ownKnob Tryd.prog.godebug = none := by kernel_rfl
theorem laidOut : laidOutB Tryd.prog = true := by kernel_rfl
theorem decode_pair (b h : Int) (l : List UInt8) (hl : l.length ≤ 1000000) : ∃ (E i : Int) (O P : List (List UInt8)), i < 9223372036854775808 ∧ O.length ≤ 1000 ∧ P.length ≤ 1000 ∧ (E = 0 → encL i O P = l) ∧
    (∀ A n c w, Bs w A n l → 1 < w.heap.size → Calls Tryd.prog 28 #[.slice A n c, .int .i64 b, .int .i64 h] w (DecK w (E, i, O, P))) ∧
    (∀ A n c w, Bs w A n l → n ≤ c → 1 < w.heap.size → Calls Tryd.prog 29 #[.slice A n c, .int .i64 b, .int .i64 h] w (DecK w (E, i, O, P))) := by
  cases hk : okK b h
  · exact ⟨1, 0, [], [], by omega, by simp, by simp, fun q => absurd q (by decide), fun A n c w _ _ => kDecode_no A n c b h w hk, fun A n c w _ _ _ => mDecode_no A n c b h w hk⟩
  · obtain ⟨b, h, rfl, rfl, h1, h2, h3⟩ := okK_yes hk
    obtain ⟨q1, q2, q3⟩ := decR_le b h l h2 h3
    exact ⟨(decR b h l).1, (decR b h l).2.1, (decR b h l).2.2.1, (decR b h l).2.2.2, q3, by omega, by omega, fun q => (decR_one q).1, fun A n c w hB hw => kDecode_ok A n c l b h w h1 h2 h3 hB (by rw [← hB.1]; exact hl) hw, fun A n c w hB hnc hw => mDecode_ok A n c l b h w h1 h2 h3 hB hnc (by rw [← hB.1]; exact hl) hw⟩
set_option maxRecDepth 100000 in
set_option maxHeartbeats 1000000 in
theorem walk_no (w : World) (i : Int) (x : Option Addr) (m c : Nat) (y : Option Addr) (n d : Nat) (a1 : Option Addr) (n1 c1 : Nat) (b h : Int) (hx : greatB b h = true ∨ 100 < m ∨ 20 < n ∨ 3000 < n1) (hT : Tab 1 w) :
    Calls Tryd.prog 8 #[.agg (sigC i x m c y n d), .slice a1 n1 c1, .int .i64 b, .int .i64 h] w fun e w' => e = .returned (.bool true) ∧ Below w.heap.size w w' := by
  obtain ⟨wq, hwq⟩ : ∃ wq, w.alloc (.cells (sigC i x m c y n d) 44) = wq := ⟨_, rfl⟩
  have hb0 : Below w.heap.size w wq := by rw [← hwq]; exact (Below.refl w.heap.size w).alloc (Nat.le_refl _) _
  have hrs : Row wq w.heap.size 44 (sigC i x m c y n d) := by rw [← hwq]; exact Row.new w 44 _
  have k1 : wq.cell? ⟨w.heap.size, 1, none⟩ = some (.slice x m c) := hrs.cell 1
  have k2 : wq.cell? ⟨w.heap.size, 2, none⟩ = some (.slice y n d) := hrs.cell 2
  clear hrs
  have HG := Lib.hid (fun w => great_any b h w)
  have HT := Lib.hid hT
  clear hT
  cases hg : greatB b h
  · rw [hg] at HG
    by_cases hm : 100 < m
    · have im : 100 < (m : Int) := by omega
      clear hx hg hm
      go_enter Tryd.func8, Tryd.ntmps8
      go_wp2_with (first
        | (go_at_call 11; refine (HG.out _).mono ?_; rintro e1 w1 ⟨rfl, rfl⟩)
        | (go_at_call 12; refine (kawake_any _ (HT.out.below hb0)).mono ?_; rintro e2 w2 ⟨rfl, hb2⟩))
      go_ret
      exact ⟨rfl, hb0.trans (hb2.mono hb0.size)⟩
    · have im : ¬ 100 < (m : Int) := by omega
      by_cases hn : 20 < n
      · have iq : 20 < (n : Int) := by omega
        clear hx hg hm hn
        go_enter Tryd.func8, Tryd.ntmps8
        go_wp2_with (first
          | (go_at_call 11; refine (HG.out _).mono ?_; rintro e1 w1 ⟨rfl, rfl⟩)
          | (go_at_call 12; refine (kawake_any _ (HT.out.below hb0)).mono ?_; rintro e2 w2 ⟨rfl, hb2⟩))
        go_ret
        exact ⟨rfl, hb0.trans (hb2.mono hb0.size)⟩
      · have iq : ¬ 20 < (n : Int) := by omega
        have i3 : 3000 < (n1 : Int) := by
          rcases hx with h | h | h | h
          · rw [hg] at h; cases h
          · exact absurd h hm
          · exact absurd h hn
          · omega
        clear hx hg hm hn
        go_enter Tryd.func8, Tryd.ntmps8
        go_wp2_with (first
          | (go_at_call 11; refine (HG.out _).mono ?_; rintro e1 w1 ⟨rfl, rfl⟩)
          | (go_at_call 12; refine (kawake_any _ (HT.out.below hb0)).mono ?_; rintro e2 w2 ⟨rfl, hb2⟩))
        go_ret
        exact ⟨rfl, hb0.trans (hb2.mono hb0.size)⟩
  · rw [hg] at HG
    clear hx hg
    go_enter Tryd.func8, Tryd.ntmps8
    go_wp2_with (first
      | (go_at_call 11; refine (HG.out _).mono ?_; rintro e1 w1 ⟨rfl, rfl⟩)
      | (go_at_call 12; refine (kawake_any _ (HT.out.below hb0)).mono ?_; rintro e2 w2 ⟨rfl, hb2⟩))
    go_ret
    exact ⟨rfl, hb0.trans (hb2.mono hb0.size)⟩
set_option maxRecDepth 100000 in
set_option maxHeartbeats 4000000 in
theorem walk_ok (w : World) (i : Int) (hi : i < 9223372036854775808) (x : Option Addr) (m c : Nat) (O : List (List UInt8)) (hO : Ds w x m O) (y : Option Addr) (n d : Nat) (P : List (List UInt8)) (hP : Ds w y n P) (a1 : Option Addr) (n1 c1 : Nat) (l : List UInt8) (hB : Bs w a1 n1 l) (hnc : n1 ≤ c1) (b h : Int) (hg : greatB b h = false) (hm : m ≤ 100) (hn : n ≤ 20) (h3 : n1 ≤ 3000) (hT : Tab 1 w) :
    Calls Tryd.prog 8 #[.agg (sigC i x m c y n d), .slice a1 n1 c1, .int .i64 b, .int .i64 h] w fun e w' => e = .returned (.bool true) ∧ Below w.heap.size w w' := by
  have hT1 := hT.1
  obtain ⟨wq, hwq⟩ : ∃ wq, w.alloc (.cells (sigC i x m c y n d) 44) = wq := ⟨_, rfl⟩
  have hb0 : Below w.heap.size w wq := by rw [← hwq]; exact (Below.refl w.heap.size w).alloc (Nat.le_refl _) _
  have hs0 : w.heap.size < wq.heap.size := by rw [← hwq]; simp
  have hrs : Row wq w.heap.size 44 (sigC i x m c y n d) := by rw [← hwq]; exact Row.new w 44 _
  have k1 : wq.cell? ⟨w.heap.size, 1, none⟩ = some (.slice x m c) := hrs.cell 1
  have k2 : wq.cell? ⟨w.heap.size, 2, none⟩ = some (.slice y n d) := hrs.cell 2
  have HRS := Lib.hid hrs
  have HGr := Lib.hid (fun w => show Calls Tryd.prog 11 #[.int .i64 b, .int .i64 h] w fun e w' => e = .returned (.bool false) ∧ w = w' by have q := great_any b h w; rw [hg] at q; exact q)
  have HT := Lib.hid (hT.below hb0)
  have HB := Lib.hid (hB.below hb0)
  have HO := Lib.hid (hO.below hb0)
  have HP := Lib.hid (hP.below hb0)
  have i3 : ¬ 3000 < (n1 : Int) := by omega
  have im : ¬ 100 < (m : Int) := by omega
  have iq : ¬ 20 < (n : Int) := by omega
  have hll : l.length ≤ 1000000 := by rw [hB.1]; omega
  have HLl := Lib.hid hB.1
  obtain ⟨E, j, O2, P2, hj, hO2, hP2, hE, hk1, hk2⟩ := decode_pair b h l hll
  have HE := Lib.hid hE
  have HK1 := Lib.hid hk1
  have HK2 := Lib.hid hk2
  have HN1 := Lib.hid (fun A B c d w hA hB => kEnc_any i hi A B m c n d O P w hA hB (by omega) (by omega))
  have HN2 := Lib.hid (fun A B c d w hA hB => mEnc_any i hi A B m c n d O P w hA hB (by omega) (by omega))
  have HN3 := Lib.hid (fun A B n c m d w hn hm hA hB => kEnc_any j hj A B n c m d O2 P2 w hA hB hn hm)
  have hle : (encL i O P).length ≤ 1000000 := by
    rw [encL_length _ hO.2.1 hP.2.1, hO.1, hP.1]
    have := wide8 (N := i.toNat) (by omega)
    omega
  unfold S4NewSlice at HN1 HN2 HN3
  unfold DecK at HK1 HK2
  simp only at HK1 HK2
  generalize encL i O P = EL at *
  clear hrs hO hP hB hT hg hi hE hk1 hk2 hj
  go_enter Tryd.func8, Tryd.ntmps8
  go_wp2_with (first
    | (go_at_call 11; refine (HGr.out _).mono ?_; rintro e1 w1 ⟨rfl, rfl⟩)
    | (go_at_call 22; refine (kown_any a1 n1 c1 l wq HB.out (by omega)).mono ?_; rintro e1 w1 ⟨A1, q1, d1, rfl, hB1, hc1, hb1, -⟩; obtain rfl : n1 = q1 := HB.out.1.symm.trans hB1.1; have HB1 := Lib.hid hB1; have HRS1 := Lib.hid (HRS.out.below hb1 hs0); have hs1 := hb1.size; have b1 := hb0.trans (hb1.mono (by omega)); clear hB1)
    | (go_at_call 28; refine (HK1.out A1 n1 d1 w1 HB1.out (by omega)).mono ?_; rintro e2 w2 ⟨X1, u1, v1, X2, u2, v2, rfl, hd1, hd2, hb2⟩; have hs2 := hb2.size; have HX1 := Lib.hid hd1; have HX2 := Lib.hid hd2; have HRS2 := Lib.hid (HRS1.out.below hb2 (by omega)); have b2 : Below wq.heap.size wq w2 := hb1.trans (hb2.mono hb1.size); clear hd1 hd2)
    | (with_reducible refine wpList_store_row Tryd.aggSig rfl (.tmp 9) (.tmp 40) rfl _ (sigC j X1 u1 v1 X2 u2 v2) rfl rfl 44 sig0 (Row.new w2 44 sig0) (sigC_size _ _ _ _ _ _ _) (sigC_size _ _ _ _ _ _ _) (sigC_one _ _ _ _ _ _ _) ?_; intro w3 hr3 ho3; have HS3 := Lib.hid hr3; have hl3 := hr3.lt; have b3' : Below w2.heap.size w2 w3 := ((Below.refl _ _).alloc (Nat.le_refl _) _).trans (ho3.below (Nat.le_refl _) (by simp)); have hs3 := b3'.size; have b3 : Below wq.heap.size wq w3 := b2.trans (b3'.mono b2.size); have HRS3 := Lib.hid (HRS2.out.below b3' (by omega)); clear hr3)
    | (go_at_call 29; refine (HK2.out a1 n1 c1 w3 (HB.out.below b3) hnc (by omega)).mono ?_; rintro e4 w4 ⟨Y1, r1, t1, Y2, r2, t2, rfl, hd1, hd2, hb4⟩; have hs4 := hb4.size; have HY1 := Lib.hid hd1; have HY2 := Lib.hid hd2; have HRS4 := Lib.hid (HRS3.out.below hb4 (by omega)); have HS4 := Lib.hid (HS3.out.below hb4 (by omega)); have b4 : Below wq.heap.size wq w4 := b3.trans (hb4.mono b3.size); have b4' : Below w2.heap.size w2 w4 := b3'.trans (hb4.mono b3'.size); clear hd1 hd2)
    | (with_reducible refine wpList_store_row Tryd.aggSig rfl (.tmp 11) (.tmp 47) rfl _ (sigC j Y1 r1 t1 Y2 r2 t2) rfl rfl 44 sig0 (Row.new w4 44 sig0) (sigC_size _ _ _ _ _ _ _) (sigC_size _ _ _ _ _ _ _) (sigC_one _ _ _ _ _ _ _) ?_; intro w5 hr5 ho5; have HU5 := Lib.hid hr5; have hl5 := hr5.lt; have b5' : Below w4.heap.size w4 w5 := ((Below.refl _ _).alloc (Nat.le_refl _) _).trans (ho5.below (Nat.le_refl _) (by simp)); have hs5 := b5'.size; have b5 : Below wq.heap.size wq w5 := b4.trans (b5'.mono b4.size); have b5x : Below w2.heap.size w2 w5 := b4'.trans (b5'.mono b4'.size); have HRS5 := Lib.hid (HRS4.out.below b5' (by omega)); have HS5 := Lib.hid (HS4.out.below b5' (by omega)); clear hr5))
  have HXA := Lib.hid (HX1.out.below b5x)
  have HXB := Lib.hid (HX2.out.below b5x)
  have HYA := Lib.hid (HY1.out.below b5')
  have HYB := Lib.hid (HY2.out.below b5')
  obtain rfl : u1 = r1 := HXA.out.1.symm.trans HYA.out.1
  obtain rfl : u2 = r2 := HXB.out.1.symm.trans HYB.out.1
  have hu1 : u1 ≤ 1000 := by have := HXA.out.1; omega
  have hu2 : u2 ≤ 1000 := by have := HXB.out.1; omega
  obtain ⟨g9, hg9⟩ : ∃ g9, g9 = w2.heap.size := ⟨_, rfl⟩
  obtain ⟨g11, hg11⟩ : ∃ g11, g11 = w4.heap.size := ⟨_, rfl⟩
  obtain ⟨g4, hg4⟩ : ∃ g4, g4 = w.heap.size := ⟨_, rfl⟩
  rw [← hg9] at HS5 ⊢
  rw [← hg11] at HU5 ⊢
  rw [← hg4] at HRS5 ⊢
  have hbg : g4 ≤ w.heap.size ∧ w.heap.size ≤ g4 := by omega
  clear hg9 hg11 hg4
  have hgl4 := HRS5.out.lt
  have hgl9 := HS5.out.lt
  have hgl11 := HU5.out.lt
  have HOx := Lib.hid (HO.out.below b5)
  have HPx := Lib.hid (HP.out.below b5)
  have HTx := Lib.hid (HT.out.below b5)
  have HBx := Lib.hid (HB.out.below b5)
  have B0 : Below w5.heap.size w5 w5.drew := (Below.refl w5.heap.size w5).drew
  refine wp_region_noPanic ?_
  refine wp_region_held_drew (S := fun w' => Row w' g4 44 (sigC i x m c y n d) ∧ Row w' g9 44 (sigC j X1 u1 v1 X2 u2 v2) ∧ Row w' g11 44 (sigC j Y1 u1 t1 Y2 u2 t2)) (by kernel_rfl) ⟨HRS5.out.below B0 hgl4, HS5.out.below B0 hgl9, HU5.out.below B0 hgl11⟩ (fun hHeld => ?_)
  refine takeD (i := 0) (some 49) (.agg (sigC i x m c y n d)) rfl rfl (by kernel_rfl) (by kernel_rfl) (by kernel_rfl) (fun _ _ _ h => h) (yields_loadS (by rfl) (.tmp 4) rfl (g4) rfl _ _ _ _ _ _ _ (fun _ h => h.1)) hHeld ?_
  simp only [Act.put, List.setIfInBounds_toArray, List.set_cons_zero, List.set_cons_succ]
  refine takeD (i := 3) (some 52) (.agg (sigC i x m c y n d)) rfl rfl (by kernel_rfl) (by kernel_rfl) (by kernel_rfl) (fun _ _ _ h => h) (yields_loadS (by rfl) (.tmp 4) rfl (g4) rfl _ _ _ _ _ _ _ (fun _ h => h.1)) hHeld ?_
  simp only [Act.put, List.setIfInBounds_toArray, List.set_cons_zero, List.set_cons_succ]
  refine wpAnyH_ready (rs := [1]) (by kernel_rfl) (by decide) ?_
  refine AllReadyH.cons rfl (fun K' hK => ?_) AllReadyH.nil
  go_simp
  refine (kCopy_any i x y m c n d O P w5.drew (HOx.out.below B0) (HPx.out.below B0) (by omega) (by omega)).mono ?_
  rintro e6 w6 ⟨A6, q6, A7, q7, rfl, hd6, hd7, hb6⟩
  have HD6 := Lib.hid hd6
  have HD7 := Lib.hid hd7
  clear hd6 hd7
  have B6 : Below w5.heap.size w5 w6 := B0.trans (hb6.mono B0.size)
  refine hK.out _ _ ⟨HRS5.out.below B6 hgl4, HS5.out.below B6 hgl9, HU5.out.below B6 hgl11⟩ (fun hHeld1 => ?_)
  clear hK
  (try simp only [Act.put, List.setIfInBounds_toArray, List.set_cons_zero, List.set_cons_succ])
  refine wpAnyH_ready (rs := [2]) (by kernel_rfl) (by decide) ?_
  refine AllReadyH.cons rfl (fun K' hK => ?_) AllReadyH.nil
  go_simp
  refine (HN1.out A6 A7 q6 q7 w6 HD6.out HD7.out).mono ?_
  rintro e7 w7 ⟨A8, c8, rfl, hc8, hb7, ho7⟩
  have HE7 := Lib.hid ho7.bs
  clear ho7
  have B7 : Below w5.heap.size w5 w7 := B6.trans (hb7.mono B6.size)
  refine hK.out _ _ ⟨HRS5.out.below B7 hgl4, HS5.out.below B7 hgl9, HU5.out.below B7 hgl11⟩ (fun hHeld2 => ?_)
  clear hK
  (try simp only [Act.put, List.setIfInBounds_toArray, List.set_cons_zero, List.set_cons_succ])
  refine wpAnyH_ready (rs := [4]) (by kernel_rfl) (by decide) ?_
  refine AllReadyH.cons rfl (fun K' hK => ?_) AllReadyH.nil
  go_simp
  refine (HN2.out x y c d w7 (HOx.out.below B7) (HPx.out.below B7)).mono ?_
  rintro e8 w8 ⟨A9, c9, rfl, hc9, hb8, ho8⟩
  have HE8 := Lib.hid ho8.bs
  clear ho8
  have B8 : Below w5.heap.size w5 w8 := B7.trans (hb8.mono B7.size)
  refine hK.out _ _ ⟨HRS5.out.below B8 hgl4, HS5.out.below B8 hgl9, HU5.out.below B8 hgl11⟩ (fun hHeld3 => ?_)
  clear hK
  (try simp only [Act.put, List.setIfInBounds_toArray, List.set_cons_zero, List.set_cons_succ])
  refine wpAnyH_ready (rs := [5]) (by kernel_rfl) (by decide) ?_
  refine AllReadyH.cons rfl (fun K' hK => ?_) AllReadyH.nil
  go_simp
  refine (Same_yes A8 A9 EL.length c8 c9 EL w8 (HE7.out.below hb8) HE8.out (by omega)).mono ?_
  rintro e9 w9 ⟨rfl, m9, hw9⟩
  have B9 : Below w5.heap.size w5 w9 := by rw [hw9]; exact below_drewN B8 _
  clear hw9
  refine hK.out _ _ ⟨HRS5.out.below B9 hgl4, HS5.out.below B9 hgl9, HU5.out.below B9 hgl11⟩ (fun hHeld4 => ?_)
  clear hK
  (try simp only [Act.put, List.setIfInBounds_toArray, List.set_cons_zero, List.set_cons_succ])
  refine takeD (i := 6) (some 55) (.bool false) rfl rfl (by kernel_rfl) (by kernel_rfl) (by kernel_rfl) (fun _ _ _ h => h) (Or.inl ⟨by rfl, fun _ _ => rfl⟩) hHeld4 ?_
  simp only [Act.put, List.setIfInBounds_toArray, List.set_cons_zero, List.set_cons_succ]
  refine takeD (i := 7) (some 56) (.bool false) rfl rfl (by kernel_rfl) (by kernel_rfl) (by kernel_rfl) (fun _ _ _ h => h) (Or.inl ⟨by rfl, fun _ _ => rfl⟩) hHeld4 ?_
  simp only [Act.put, List.setIfInBounds_toArray, List.set_cons_zero, List.set_cons_succ]
  refine takeD (i := 8) (some 57) (.int .i64 E) rfl rfl (by kernel_rfl) (by kernel_rfl) (by kernel_rfl) (fun _ _ _ h => h) (Or.inl ⟨by rfl, fun _ _ => rfl⟩) hHeld4 ?_
  simp only [Act.put, List.setIfInBounds_toArray, List.set_cons_zero, List.set_cons_succ]
  refine takeD (i := 9) (some 58) (.int .i64 E) rfl rfl (by kernel_rfl) (by kernel_rfl) (by kernel_rfl) (fun _ _ _ h => h) (Or.inl ⟨by rfl, fun _ _ => rfl⟩) hHeld4 ?_
  simp only [Act.put, List.setIfInBounds_toArray, List.set_cons_zero, List.set_cons_succ]
  refine takeD (i := 10) (some 59) (.bool false) rfl rfl (by kernel_rfl) (by kernel_rfl) (by kernel_rfl) (fun _ _ _ h => h) (yields_neqN (by rfl) _ _ rfl E rfl rfl) hHeld4 ?_
  simp only [Act.put, List.setIfInBounds_toArray, List.set_cons_zero, List.set_cons_succ]
  refine takeD (i := 11) (some 60) (.bool false) rfl rfl (by kernel_rfl) (by kernel_rfl) (by kernel_rfl) (fun _ _ _ h => h) (Or.inl ⟨by rfl, fun _ _ => rfl⟩) hHeld4 ?_
  simp only [Act.put, List.setIfInBounds_toArray, List.set_cons_zero, List.set_cons_succ]
  refine takeD (i := 12) (some 61) (.bool false) rfl rfl (by kernel_rfl) (by kernel_rfl) (by kernel_rfl) (fun _ _ _ h => h) (Or.inl ⟨by rfl, fun _ _ => rfl⟩) hHeld4 ?_
  simp only [Act.put, List.setIfInBounds_toArray, List.set_cons_zero, List.set_cons_succ]
  refine takeD (i := 13) (some 62) (.agg (sigC j X1 u1 v1 X2 u2 v2)) rfl rfl (by kernel_rfl) (by kernel_rfl) (by kernel_rfl) (fun _ _ _ h => h) (yields_loadS (by rfl) (.tmp 9) rfl (g9) rfl _ _ _ _ _ _ _ (fun _ h => h.2.1)) hHeld4 ?_
  simp only [Act.put, List.setIfInBounds_toArray, List.set_cons_zero, List.set_cons_succ]
  refine takeD (i := 14) (some 63) (.agg (sigC j Y1 u1 t1 Y2 u2 t2)) rfl rfl (by kernel_rfl) (by kernel_rfl) (by kernel_rfl) (fun _ _ _ h => h) (yields_loadS (by rfl) (.tmp 11) rfl (g11) rfl _ _ _ _ _ _ _ (fun _ h => h.2.2)) hHeld4 ?_
  simp only [Act.put, List.setIfInBounds_toArray, List.set_cons_zero, List.set_cons_succ]
  refine wpAnyH_ready (rs := [15]) (by kernel_rfl) (by decide) ?_
  refine AllReadyH.cons rfl (fun K' hK => ?_) AllReadyH.nil
  go_simp
  refine (kSame_yes j X1 Y1 X2 Y2 u1 v1 t1 u2 v2 t2 O2 P2 w9 (HXA.out.below B9) (HYA.out.below B9) (HXB.out.below B9) (HYB.out.below B9) (by omega) (by omega)).mono ?_
  rintro e10 w10 ⟨rfl, hb10⟩
  have B10 : Below w5.heap.size w5 w10 := B9.trans (hb10.mono B9.size)
  refine hK.out _ _ ⟨HRS5.out.below B10 hgl4, HS5.out.below B10 hgl9, HU5.out.below B10 hgl11⟩ (fun hHeld5 => ?_)
  clear hK
  (try simp only [Act.put, List.setIfInBounds_toArray, List.set_cons_zero, List.set_cons_succ])
  refine takeD (i := 16) (some 65) (.bool false) rfl rfl (by kernel_rfl) (by kernel_rfl) (by kernel_rfl) (fun _ _ _ h => h) (Or.inl ⟨by rfl, fun _ _ => rfl⟩) hHeld5 ?_
  simp only [Act.put, List.setIfInBounds_toArray, List.set_cons_zero, List.set_cons_succ]
  refine takeD (i := 17) (some 66) (.bool false) rfl rfl (by kernel_rfl) (by kernel_rfl) (by kernel_rfl) (fun _ _ _ h => h) (Or.inl ⟨by rfl, fun _ _ => rfl⟩) hHeld5 ?_
  simp only [Act.put, List.setIfInBounds_toArray, List.set_cons_zero, List.set_cons_succ]
  (try simp only [Act.put, List.setIfInBounds_toArray])
  refine wpAnyH_done (by kernel_rfl) ?_ _
  refine NoPanic.normal ?_
  have bw : Below w.heap.size w w10 := (hb0.trans (b5.mono hb0.size)).trans (B10.mono (by have := hb0.size; have := b5.size; omega))
  have HS10 := Lib.hid (HS5.out.below B10 hgl9)
  by_cases hE0 : E = 0
  · subst hE0
    have HN4 : Hid (∀ A B n c m d w, n ≤ 1000 → m ≤ 1000 → Ds w A n O2 → Ds w B m P2 → Calls Tryd.prog 31 #[.agg (sigC j A n c B m d)] w fun e w' => ∃ X k, e = .returned (.slice X n1 k) ∧ Below w.heap.size w w' ∧ Bs w' X n1 l) := Lib.hid (fun A B n c m d w hn hm hA hB => by
      have q := HN3.out A B n c m d w hn hm hA hB
      rw [HE.out rfl, HLl.out] at q
      refine q.mono ?_
      rintro e w' ⟨X, k, rfl, _, q2, q3⟩
      exact ⟨X, k, rfl, q2, q3.bs⟩)
    clear HN3 HN1 HN2 HK1 HK2
    go_wp2_with (first
      | (with_reducible refine wpList_loadSG (by with_unfolding_all rfl) (.tmp 9) rfl _ rfl j X1 u1 v1 X2 u2 v2 HS10.out ?_)
      | (go_at_call 31; refine (HN4.out X1 X2 u1 v1 u2 v2 w10 hu1 hu2 (HXA.out.below B10) (HXB.out.below B10)).mono ?_; rintro e11 w11 ⟨A11, c11, rfl, hb11, hB11⟩; have HE11 := Lib.hid hB11; have b11 := bw.trans (hb11.mono bw.size); clear hB11)
      | (go_at_call 30; refine (Same_yes A11 a1 n1 c11 c1 l w11 HE11.out ((HBx.out.below B10).below hb11) (by omega)).mono ?_; rintro e12 w12 ⟨rfl, m12, hw12⟩; have b12 : Below w.heap.size w w12 := (by rw [hw12]; exact below_drewN b11 _); have hT12 := HTx.out.below (B10.trans (hb11.mono B10.size)); have HT12 : Hid (Tab 1 w12) := Lib.hid (by rw [hw12]; exact hT12.below (below_drewN (Below.refl _ _) _)); clear hw12 hT12)
      | (go_at_call 12; refine (kawake_any w12 HT12.out).mono ?_; rintro e13 w13 ⟨rfl, hb13⟩))
    go_ret
    exact ⟨rfl, b12.trans (hb13.mono b12.size)⟩
  · have hEb : (E != 0) = true := by simp [hE0]
    clear hE0
    go_wp2_with (go_at_call 12; refine (kawake_any w10 (HTx.out.below B10)).mono ?_; rintro e13 w13 ⟨rfl, hb13⟩)
    go_ret
    exact ⟨rfl, bw.trans (hb13.mono bw.size)⟩
theorem walk (w : World) (i : Int) (hi : -9223372036854775808 ≤ i ∧ i < 9223372036854775808) (x : Option Addr) (m c : Nat) (O : List (List UInt8)) (hO : Ds w x m O ∧ m ≤ c) (y : Option Addr) (n d : Nat) (P : List (List UInt8)) (hP : Ds w y n P ∧ n ≤ d) (a1 : Option Addr) (n1 c1 : Nat) (l1 : List UInt8) (hB : Bs w a1 n1 l1) (s1 : n1 ≤ c1 ∧ c1 ≤ 140737488351232) (a2 : Int) (_w2 : (Lit.int .i64 a2).wf = true) (a3 : Int) (_w3 : (Lit.int .i64 a3).wf = true) (hT : Tab 1 w) :
    Calls Tryd.prog 8 #[.agg (sigC i x m c y n d), .slice a1 n1 c1, .int .i64 a2, .int .i64 a3] w fun e w' => e = .returned (.bool true) ∧ Below w.heap.size w w' := by
  cases hg : greatB a2 a3
  · by_cases hm : 100 < m
    · exact walk_no w i x m c y n d a1 n1 c1 a2 a3 (.inr (.inl hm)) hT
    · by_cases hn : 20 < n
      · exact walk_no w i x m c y n d a1 n1 c1 a2 a3 (.inr (.inr (.inl hn))) hT
      · by_cases h3 : 3000 < n1
        · exact walk_no w i x m c y n d a1 n1 c1 a2 a3 (.inr (.inr (.inr h3))) hT
        · exact walk_ok w i hi.2 x m c O hO.1 y n d P hP.1 a1 n1 c1 l1 hB s1.1 a2 a3 hg (by omega) (by omega) (by omega) hT
  · exact walk_no w i x m c y n d a1 n1 c1 a2 a3 (.inl hg) hT

set_option maxRecDepth 100000 in
theorem lifted (os : Os) (started : os.Started) (H : Type) (enc : TypeId × Value → H) :
    ReturnsInHanded {} Tryd.checked os 8 .any (fun w args => (Rows.keysBytesSpec.pre enc Tryd.prog Tryd.f8 Rows.keysBytesRow.domain false w args ∧ laidMetH Tryd.prog lay1 w) ∧ sizedMet enc Tryd.prog Tryd.f8 (OpenSpec.ofChange Rows.keysBytesSpec) false w args)
      (Rows.keysBytesSpec.post enc Tryd.prog Tryd.f8 false true false false) := by
  refine returnsInHanded_of_change_and (C := Tryd.checked) (X := fun w _ => laidMetH Tryd.prog lay1 w) (fun _ _ _ hh h => h.of_heap hh) own started (by kernel_rfl) Tryd.func8
    (ChangeSpec.witness_shaped (enc := enc) (C := Tryd.checked) (os := os) (X := fun w _ => laidMetH Tryd.prog lay1 w) false (World.laidAll Tryd.prog os lay1) #[.agg #[.int .i64 0, .slice none 0 0, .slice none 0 0], .slice none 0 0, .int .i64 0, .int .i64 0] 8 rfl (World.shaped_of_ZipB (by kernel_rfl) (by kernel_rfl)) (by kernel_rfl) (by kernel_rfl) (by kernel_rfl) (met1 os _)) ?_
  intro W base args ds gs before hval0 hW hcnd hsz0 hL _
  have hval : ∀ (j : Nat) t v, Tryd.f8.params[j]? = some t → args[j]? = some v → Value.okWide Tryd.prog W .any base t v := hval0
  have hW' := hW
  obtain ⟨p, q, hA0, hV, rfl, hfz, hnd⟩ := hW
  have hA : DataW.TrodAll enc Tryd.prog W 0 (fun _ => true) true Tryd.f8.params.toList args.toList ds p := hA0
  have hsz : (DataW.weightsEach Tryd.prog (Tryd.f8.params.toList ++ Rows.keysBytesSpec.plain.varTypes Tryd.prog) (ds ++ gs)).all (· ≤ reachBytes) = true := hsz0
  rw [Tryd.params8] at hA hval hsz
  obtain ⟨v0, vs0, d0, ds0, p0, q0, hargs, rfl, rfl, h0, r0⟩ := trodAll_cons hA
  obtain ⟨v1, vs1, d1, ds1, p1, q1, rfl, rfl, rfl, h1, r1⟩ := trodAll_cons r0
  obtain ⟨v2, vs2, d2, ds2, p2, q2, rfl, rfl, rfl, h2, r2⟩ := trodAll_cons r1
  obtain ⟨v3, vs3, d3, ds3, p3, q3, rfl, rfl, rfl, h3, r3⟩ := trodAll_cons r2
  obtain ⟨rfl, rfl, rfl⟩ := trodAll_nil r3
  obtain rfl : args = #[v0, v1, v2, v3] := by cases args; simp_all
  obtain ⟨rfl, rfl⟩ := trodVars_none hV
  have k0 := h0
  have lt0 : ∀ x ∈ p0, x.block < W.heap.size := by obtain ⟨m, hm⟩ := k0; exact DataW.trod_lt m _ _ _ hm
  obtain ⟨i0, x0, m0, c0, O0, y0, n0, e0, P0, rfl, hi0, hO0, hP0⟩ := open_sig (hval 0 44 v0 rfl rfl) h0
  obtain ⟨a1, len1, cap1, rfl⟩ := okWide_slice Tryd.underlying37 (hval 1 37 v1 rfl rfl)
  have k1 := h1
  have lt1 : ∀ x ∈ p1, x.block < W.heap.size := by obtain ⟨m, hm⟩ := k1; exact DataW.trod_lt m _ _ _ hm
  obtain ⟨l1, w1, s1⟩ : ∃ l, Bs W a1 len1 l ∧ len1 ≤ cap1 ∧ cap1 ≤ 140737488351232 := by
    obtain ⟨fuel, hf⟩ := h1
    rcases open_ints Tryd.underlying37 Tryd.underlying5 (by kernel_rfl) hf with ⟨hcs, _⟩ | ⟨x, l, c, zs, hcs, _, hl, hm, hz, hx, hcell, hwz⟩
    · simp [Value.cells] at hcs
      obtain ⟨rfl, rfl, rfl⟩ := hcs
      exact ⟨[], Bs.nil _ _, by omega, by omega⟩
    · simp [Value.cells] at hcs
      obtain ⟨rfl, rfl, rfl⟩ := hcs
      simp only [Prod.mk.injEq] at hx
      obtain ⟨rfl, _⟩ := hx
      have hb := sized_slice hsz (j := 1) (t := 37) (e := 5) rfl rfl Tryd.underlying37
      rw [show Tryd.prog.bytesOf 5 = 1 from by kernel_rfl] at hb
      simp only [lits, List.length_map, List.length_take, List.length_drop, reachBytes] at hb
      have hz' : zs.length = cap1 := by simpa using hz
      exact ⟨_, Bs.of_ints hl hz' hcell hwz, hl, by omega⟩
  obtain ⟨a2, rfl, rfl, rfl, w2⟩ := open_int Tryd.underlying3 (hval 2 3 v2 rfl rfl) h2
  obtain ⟨a3, rfl, rfl, rfl, w3⟩ := open_int Tryd.underlying3 (hval 3 3 v3 rfl rfl) h3
  have hTab := of_lay1 hL
  clear hA0 hval0
  refine (walk W i0 hi0 x0 m0 c0 O0 hO0 y0 n0 e0 P0 hP0 a1 len1 cap1 l1 w1 s1 a2 w2 a3 w3 hTab).mono fun e W' ⟨he, bel⟩ => ?_
  subst he
  exact ⟨_, rfl, _, _, _, [], _, [], hW', trodAll_mk1 (shut_bool Tryd.underlying4 _), (trodAll_cons_mk (Below.trod laidOut (by kernel_rfl) (of_decide_eq_true (by kernel_rfl)) k0 bel lt0) (trodAll_cons_mk (Below.trod laidOut (by kernel_rfl) (of_decide_eq_true (by kernel_rfl)) k1 bel lt1) (trodAll_cons_mk (shut_int Tryd.underlying3 w2) (trodAll_cons_mk (shut_int Tryd.underlying3 w3) trodAll_mk0)))), rfl, bel.frame _, fun h => by cases h⟩
theorem over : Rows.keysBytesRow.holds Tryd.pinned (OpenSpec.ofChange Rows.keysBytesSpec) :=
  OpenClaim.holds_of_wide 8 Tryd.f8 rfl rfl rfl rfl rfl rfl rfl ⟨rfl, rfl, rfl, rfl, rfl⟩ rfl rfl rfl rfl rfl (by kernel_rfl) Tryd.func8 (by kernel_rfl)
    (of_decide_eq_true (by kernel_rfl)) (by unfold Func.isWrapper; first | (rw [if_pos (by decide +kernel)]; kernel_rfl) | (rw [if_neg (by decide +kernel)]; exact ⟨rfl, rfl⟩))
    (fun os started H enc _ => lifted os started H enc)
theorem keysBytes_holds : Rows.KeysBytesCardSaid :=
  Claim7.holds_tied_plain_at .later [] [.data] true (true, "d3f0664aba75a8af102b5f214e5048e24f7f5bc8fe66a510793bef99d59ac9fb") false
    over (fun _ h => by cases h) (by kernel_rfl) (fun _ h => by cases h) keysBytes_row_tie rfl ⟨rfl, rfl⟩ (by kernel_rfl) rfl
    (fun f fn hf hfn => by
      obtain rfl : f = 8 := Option.some.inj ((show Tryd.prog.funcNamed "jurat/juratlaw07.KeysBytes" = some 8 by kernel_rfl).symm.trans hf) |>.symm
      obtain rfl : fn = Tryd.f8 := (Option.some.inj (Tryd.func8.symm.trans hfn)).symm
      exact ⟨by kernel_rfl, fun j t ht => by
        rw [Tryd.params8] at ht
        have hm : t ∈ [44, 37, 3] := by simpa using Array.mem_of_getElem? ht
        have hall : ([44, 37, 3].all fun u => !Tryd.prog.wantsStandIn u) = true := by kernel_rfl
        exact (show Tryd.prog.wantsStandIn t = false by simpa using List.all_eq_true.1 hall t hm)⟩)
    (by kernel_rfl)
#print axioms keysBytes_holds
end Go.Proofs.YtfelmdndjdaniaaDoor.keysBytes
