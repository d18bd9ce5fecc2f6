/-
  KeysBack, whole, as the tied card (Rows.KeysBackCardSaid): for every seed, number of bits up to 24, height up to 3, number and text of up to 200 bytes, what is signed by the index (the number modulo 2^height) is right by the public key: New, Skip, Sign answer OK, the signature has that index, and Verify says yes; and a key of one index signs once. Conditions: the table sha.constants reads as its initialiser lays it (tied to the program's text).
-/
import Derived.Test.YtfelmdndjdaniaaDoorRows
import Derived.Test.YtfelmdndjdaniaaDoorCards
import Derived.Test.YtfelmdndjdaniaaDoorTie
import Derived.WalkKit
import Derived.ProofKit
import Derived.OpenShut
import Derived.ChangeMaps5
import Derived.ShutString
import Derived.ChangeOld
import Derived.Below
import Derived.SizedLaws
import Derived.SevenTiedAt
import Derived.Lay
import Derived.LaidLaws
import Derived.Test.YtfelmdndjdaniaaDoorKeyD
import Derived.Test.YtfelmdndjdaniaaDoorKeyE
namespace Go.Proofs.YtfelmdndjdaniaaDoor.keysBack
open Go.ChangeShapes Go.WideShapes Go.ChangeAt Go.RowKit
open Go.ChangeMaps (open_string shut_string)
set_option linter.unusedVariables false
theorem own : ownKnob Tryd.prog.godebug = none := by kernel_rfl
theorem laidOut : laidOutB Tryd.prog = true := by kernel_rfl
theorem mod_in (a : Int) (m : Nat) (h : 0 < m) : ∃ j : Nat, (IntKind.u64.wrap a).tmod (m : Int) = (j : Int) ∧ j < m := by
  have h0 : 0 ≤ IntKind.u64.wrap a := by simp [IntKind.wrap, IntKind.bits, IntKind.signed]; omega
  generalize IntKind.u64.wrap a = x at *
  obtain ⟨y, rfl⟩ := Int.eq_ofNat_of_zero_le h0
  refine ⟨y % m, ?_, Nat.mod_lt _ h⟩
  rw [Int.tmod_eq_emod_of_nonneg (by omega)]
  rfl
set_option maxRecDepth 100000 in
set_option maxHeartbeats 1000000 in
theorem walk_no (w : World) (s0 : List UInt8) (a1 a2 a3 : Int) (a4 : Option Addr) (len4 cap4 : Nat) (h : greatB a1 a2 = true ∨ okK a1 a2 = false ∨ 200 < len4) (hT : Tab 1 w) :
    Calls Tryd.prog 5 #[.agg (bcells s0), .int .i64 a1, .int .i64 a2, .int .i64 a3, .slice a4 len4 cap4] w fun e w' => e = .returned (.bool true) ∧ Below w.heap.size w w' := by
  have HG := Lib.hid (fun w => great_any a1 a2 w)
  have HR := Lib.hid (fun w => kRight_any a1 a2 w)
  have hb0 := (Below.refl w.heap.size w).alloc (Nat.le_refl _) (.cells (bcells s0) 23)
  have HT := Lib.hid hT
  clear hT
  cases hg : greatB a1 a2
  · cases hr : okK a1 a2
    · rw [hg] at HG
      rw [hr] at HR
      clear h hg hr
      go_enter Tryd.func5, Tryd.ntmps5
      go_wp2_with (first
        | (go_at_call 11; refine (HG.out _).mono ?_; rintro e1 w1 ⟨rfl, rfl⟩)
        | (go_at_call 14; refine (HR.out _).mono ?_; rintro e1 w1 ⟨rfl, rfl⟩)
        | (go_at_call 12; refine (kawake_any _ (HT.out.below hb0)).mono ?_; rintro e2 w2 ⟨rfl, hb2⟩))
      go_ret
      exact ⟨rfl, hb0.trans (hb2.mono (by simp))⟩
    · have i0 : 200 < (len4 : Int) := by
        rcases h with h | h | h
        · rw [hg] at h; cases h
        · rw [hr] at h; cases h
        · omega
      rw [hg] at HG
      rw [hr] at HR
      clear h hg hr
      go_enter Tryd.func5, Tryd.ntmps5
      go_wp2_with (first
        | (go_at_call 11; refine (HG.out _).mono ?_; rintro e1 w1 ⟨rfl, rfl⟩)
        | (go_at_call 14; refine (HR.out _).mono ?_; rintro e1 w1 ⟨rfl, rfl⟩)
        | (go_at_call 12; refine (kawake_any _ (HT.out.below hb0)).mono ?_; rintro e2 w2 ⟨rfl, hb2⟩))
      go_ret
      exact ⟨rfl, hb0.trans (hb2.mono (by simp))⟩
  · rw [hg] at HG
    clear h hg HR
    go_enter Tryd.func5, Tryd.ntmps5
    go_wp2_with (first
      | (go_at_call 11; refine (HG.out _).mono ?_; rintro e1 w1 ⟨rfl, rfl⟩)
      | (go_at_call 12; refine (kawake_any _ (HT.out.below hb0)).mono ?_; rintro e2 w2 ⟨rfl, hb2⟩))
    go_ret
    exact ⟨rfl, hb0.trans (hb2.mono (by simp))⟩
set_option maxRecDepth 100000 in
set_option maxHeartbeats 4000000 in
theorem walk_ok (w : World) (s0 : List UInt8) (w0 : s0.length = 32) (b h : Nat) (a3 : Int) (a4 : Option Addr) (len4 cap4 : Nat) (l4 : List UInt8) (w4 : Bs w a4 len4 l4) (h200 : len4 ≤ 200) (h1 : 1 ≤ b) (h2 : b ≤ 256) (h3 : h ≤ 6) (hgr : greatB (b : Int) (h : Int) = false) (hT : Tab 1 w) :
    Calls Tryd.prog 5 #[.agg (bcells s0), .int .i64 (b : Int), .int .i64 (h : Int), .int .i64 a3, .slice a4 len4 cap4] w fun e w' => e = .returned (.bool true) ∧ Below w.heap.size w w' := by
  have HGr := Lib.hid (fun w => show Calls Tryd.prog 11 #[.int .i64 (b : Int), .int .i64 (h : Int)] w fun e w' => e = .returned (.bool false) ∧ w = w' by have q := great_any b h w; rw [hgr] at q; exact q)
  have HRi := Lib.hid (fun w => show Calls Tryd.prog 14 #[.int .i64 (b : Int), .int .i64 (h : Int)] w fun e w' => e = .returned (.bool true) ∧ w = w' by have q := kRight_any b h w; rw [okK_of h1 h2 h3] at q; exact q)
  have hT1 := hT.1
  have i0 : ¬ 200 < (len4 : Int) := by omega
  have hsh := wrap_pow (n := h) (by omega)
  have hp6 := pow_le6 h3
  have hn0 := pow_pos2 h
  have hmin : IntKind.u64.wrap ((2 : Int) ^ min h 64) = ((2 ^ h : Nat) : Int) := by
    rw [Nat.min_eq_left (by omega), show (2 : Int) ^ h = ((2 ^ h : Nat) : Int) by simp]
    generalize 2 ^ h = n at *
    simp [IntKind.wrap, IntKind.bits, IntKind.signed]
    omega
  obtain ⟨j, hj, hjn⟩ := mod_in a3 (2 ^ h) (pow_pos2 h)
  have HKS := Lib.hid (show (bcells s0).size = 32 by rw [bcells_size, w0])
  have HNw := Lib.hid (fun w hT => New_ok s0 b h w w0 h1 h2 h3 hT)
  have HSk : Hid (∀ T g w, KeyAt w T g s0 b h 0 → Calls Tryd.prog 19 #[.pointer (some ⟨g, 0, none⟩), .int .i64 (j : Int)] w fun e w' => e = .returned (.int .i64 0) ∧ KeyAt w' T g s0 b h j ∧ Only g w w' ∧ Keeps w w') := Lib.hid (fun T g w hK => by
    have q := kSkip_any T g b h 0 (j : Int) s0 w hK
    have e1 : skB 0 (2 ^ h) (j : Int) = false := by simp only [skB, Bool.or_eq_false_iff, decide_eq_false_iff_not]; omega
    unfold SkipK skE skN at q
    rw [e1] at q
    exact q)
  have HSg := Lib.hid (fun T g A nt ct w hK hB hnc hnt hT hg => kSign_ok T g b h j nt ct s0 l4 A w w0 h1 h2 h3 hjn hK hB hnc hnt hT hg)
  have HPb := Lib.hid (fun T g w hK hT => show Calls Tryd.prog 15 #[.pointer (some ⟨g, 0, none⟩)] w fun e w' => e = .returned (.agg (bcells (pubK s0 b h))) ∧ Below w.heap.size w w' from kPublic_any T g b h (j + 1) s0 w h3 hK hT)
  have hver : verK (pubK s0 b h) b h (sumL l4) j (sigN (ksL s0 j) (sumL l4) b) (pathD h (leavesL s0 b (2 ^ h)) j) = true := verK_back s0 (sumL l4) b h j h1 h2 h3 hjn
  have HV := Lib.hid (fun A A1 A2 nt ct n1 c1 n2 c2 w hB hc hn hO hP hT => show Calls Tryd.prog 25 #[.agg (bcells (pubK s0 b h)), .int .i64 (b : Int), .int .i64 (h : Int), .slice A nt ct, .agg (sigC (j : Int) A1 n1 c1 A2 n2 c2)] w fun e w' => e = .returned (.bool true) ∧ Below w.heap.size w w' from by
    have q := kVerify_any (pubK s0 b h) b h j A A1 A2 nt ct n1 c1 n2 c2 l4 (sigN (ksL s0 j) (sumL l4) b) (pathD h (leavesL s0 b (2 ^ h)) j) w (pubK_length s0 b h) hB hc hn hO hP hT
    rw [hver] at q
    exact q)
  unfold SigK at HSg
  have HT := Lib.hid hT
  have HB := Lib.hid w4
  generalize pubK s0 b h = P at *
  generalize sigN (ksL s0 j) (sumL l4) b = SN at *
  generalize pathD h (leavesL s0 b (2 ^ h)) j = PN at *
  generalize 2 ^ h = n at *
  clear hver hT w4 h1 h2 h3 hgr w0
  have hb0 := (Below.refl w.heap.size w).alloc (Nat.le_refl _) (.cells (bcells s0) 23)
  go_enter Tryd.func5, Tryd.ntmps5
  go_wp2_with (first
    | (go_at_call 11; refine (HGr.out _).mono ?_; rintro e1 w1 ⟨rfl, rfl⟩)
    | (go_at_call 14; refine (HRi.out _).mono ?_; rintro e1 w1 ⟨rfl, rfl⟩)
    | (with_reducible refine wpList_load_row Tryd.agg25 rfl (.tmp 5) rfl _ rfl 23 _ (Row.new w 23 (bcells s0)) HKS.out ?_)
    | (go_at_call 13; refine (HNw.out _ (HT.out.below hb0)).mono ?_; rintro e1 w1 ⟨g, rfl, hg, hk1, hb1⟩; have HK1 := Lib.hid hk1; have b1 := hb0.trans (hb1.mono (by simp)); simp at hg; clear hk1)
    | (go_at_call 19; refine (HSk.out w1.heap.size g w1 HK1.out).mono ?_; rintro e2 w2 ⟨rfl, hk2, ho2, hkp2⟩; have b2 := b1.trans (ho2.below (B := w.heap.size) (by omega) b1.size); have HK2 := Lib.hid hk2.low; have HB2 := Lib.hid (hkp2 _ _ _ (HB.out.below b1)); clear hk2)
    | (go_at_call 22; refine (kown_any a4 len4 cap4 l4 w2 HB2.out (by omega)).mono ?_; rintro e3 w3 ⟨A3, n3, c3, rfl, hB3, hc3, hb3, -⟩; obtain rfl : len4 = n3 := HB2.out.1.symm.trans hB3.1; have HB3 := Lib.hid hB3; have HB3' := Lib.hid (HB2.out.below hb3); have HK3 := Lib.hid ((HK2.out.below hb3).low); have b3 := b2.trans (hb3.mono b2.size); clear hB3)
    | (go_at_call 21; refine (HSg.out w3.heap.size g A3 len4 c3 w3 HK3.out HB3.out hc3 (by omega) (HT.out.below b3) (by omega)).mono ?_; rintro e4 w4 ⟨A1, n1, c1, A2, n2, c2, rfl, hd1, hc1, hd2, hc2, hk4, ho4, hkp4⟩; have b4 := b3.trans (ho4.below (B := w.heap.size) (by omega) b3.size); have HD1 := Lib.hid hd1; have HD2 := Lib.hid hd2; have HK4 := Lib.hid hk4.low; have HB4 := Lib.hid (hkp4 _ _ _ HB3'.out); clear hd1 hd2 hk4)
    | (with_reducible refine wpList_store_row Tryd.aggSig rfl (.tmp 14) (.tmp 52) rfl _ (sigC (j : Int) A1 n1 c1 A2 n2 c2) rfl rfl 44 sig0 (Row.new w4 44 sig0) (sigC_size _ _ _ _ _ _ _) (sigC_size _ _ _ _ _ _ _) (sigC_one _ _ _ _ _ _ _) ?_; intro w5 hr5 ho5; have HS5 := Lib.hid hr5; have b5 : Below w4.heap.size w4 w5 := ((Below.refl _ _).alloc (Nat.le_refl _) _).trans (ho5.below (Nat.le_refl _) (by simp)); have HK5 := Lib.hid ((HK4.out.below b5).low); clear hr5))
  have bw5 : Below w.heap.size w w5 := b4.trans (b5.mono b4.size)
  have HDA := Lib.hid (HD1.out.below b5)
  have HDB := Lib.hid (HD2.out.below b5)
  have HB5 := Lib.hid (HB4.out.below b5)
  have HT5 := Lib.hid (HT.out.below bw5)
  have HL5 := Lib.hid HB5.out.1
  obtain ⟨gs, hgs'⟩ : ∃ gs, gs = w4.heap.size := ⟨_, rfl⟩
  rw [← hgs'] at HS5 ⊢
  have hgl : gs < w5.heap.size := HS5.out.lt
  clear hgs'
  have B0 : Below w5.heap.size w5 w5.drew := (Below.refl w5.heap.size w5).drew
  have K0 := Lib.hid (HS5.out.below B0 hgl)
  refine wp_region_noPanic ?_
  refine wp_region_held_drew (S := fun w' => Row w' gs 44 (sigC (j : Int) A1 n1 c1 A2 n2 c2)) (by kernel_rfl) K0.out (fun hHeld => ?_)
  refine takeD (i := 0) (some 54) (.int .i64 0) rfl rfl (by kernel_rfl) (by kernel_rfl) (by kernel_rfl) (fun _ _ _ h => h) (Or.inl ⟨by rfl, fun _ _ => rfl⟩) hHeld ?_
  simp only [Act.put, List.setIfInBounds_toArray, List.set_cons_zero, List.set_cons_succ]
  refine takeD (i := 1) (some 55) (.bool true) rfl rfl (by kernel_rfl) (by kernel_rfl) (by kernel_rfl) (fun _ _ _ h => h) (yields_eqE (by rfl) _ _ rfl (0) (0) true rfl rfl (by simp)) hHeld ?_
  simp only [Act.put, List.setIfInBounds_toArray, List.set_cons_zero, List.set_cons_succ]
  refine takeD (i := 2) (some 56) (.bool true) rfl rfl (by kernel_rfl) (by kernel_rfl) (by kernel_rfl) (fun _ _ _ h => h) (Or.inl ⟨by rfl, fun _ _ => rfl⟩) hHeld ?_
  simp only [Act.put, List.setIfInBounds_toArray, List.set_cons_zero, List.set_cons_succ]
  refine takeD (i := 3) (some 57) (.int .i64 0) rfl rfl (by kernel_rfl) (by kernel_rfl) (by kernel_rfl) (fun _ _ _ h => h) (Or.inl ⟨by rfl, fun _ _ => rfl⟩) hHeld ?_
  simp only [Act.put, List.setIfInBounds_toArray, List.set_cons_zero, List.set_cons_succ]
  refine takeD (i := 4) (some 58) (.bool true) rfl rfl (by kernel_rfl) (by kernel_rfl) (by kernel_rfl) (fun _ _ _ h => h) (yields_eqE (by rfl) _ _ rfl (0) (0) true rfl rfl (by simp)) hHeld ?_
  simp only [Act.put, List.setIfInBounds_toArray, List.set_cons_zero, List.set_cons_succ]
  refine takeD (i := 5) (some 59) (.bool true) rfl rfl (by kernel_rfl) (by kernel_rfl) (by kernel_rfl) (fun _ _ _ h => h) (Or.inl ⟨by rfl, fun _ _ => rfl⟩) hHeld ?_
  simp only [Act.put, List.setIfInBounds_toArray, List.set_cons_zero, List.set_cons_succ]
  refine takeD (i := 6) (some 60) (.bool true) rfl rfl (by kernel_rfl) (by kernel_rfl) (by kernel_rfl) (fun _ _ _ h => h) (Or.inl ⟨by rfl, fun _ _ => rfl⟩) hHeld ?_
  simp only [Act.put, List.setIfInBounds_toArray, List.set_cons_zero, List.set_cons_succ]
  refine takeD (i := 7) (some 61) (.int .i64 0) rfl rfl (by kernel_rfl) (by kernel_rfl) (by kernel_rfl) (fun _ _ _ h => h) (Or.inl ⟨by rfl, fun _ _ => rfl⟩) hHeld ?_
  simp only [Act.put, List.setIfInBounds_toArray, List.set_cons_zero, List.set_cons_succ]
  refine takeD (i := 8) (some 62) (.bool true) rfl rfl (by kernel_rfl) (by kernel_rfl) (by kernel_rfl) (fun _ _ _ h => h) (yields_eqE (by rfl) _ _ rfl (0) (0) true rfl rfl (by simp)) hHeld ?_
  simp only [Act.put, List.setIfInBounds_toArray, List.set_cons_zero, List.set_cons_succ]
  refine takeD (i := 9) (some 63) (.bool true) rfl rfl (by kernel_rfl) (by kernel_rfl) (by kernel_rfl) (fun _ _ _ h => h) (Or.inl ⟨by rfl, fun _ _ => rfl⟩) hHeld ?_
  simp only [Act.put, List.setIfInBounds_toArray, List.set_cons_zero, List.set_cons_succ]
  refine takeD (i := 10) (some 64) (.bool true) rfl rfl (by kernel_rfl) (by kernel_rfl) (by kernel_rfl) (fun _ _ _ h => h) (Or.inl ⟨by rfl, fun _ _ => rfl⟩) hHeld ?_
  simp only [Act.put, List.setIfInBounds_toArray, List.set_cons_zero, List.set_cons_succ]
  refine takeD (i := 11) (some 65) (.pointer (some ⟨gs, 0, none⟩)) rfl rfl (by kernel_rfl) (by kernel_rfl) (by kernel_rfl) (fun _ _ _ h => h) (yields_fld44 (by rfl) (.tmp 14) 0 rfl (by decide) (gs) rfl) hHeld ?_
  simp only [Act.put, List.setIfInBounds_toArray, List.set_cons_zero, List.set_cons_succ]
  refine takeD (i := 12) (some 66) (.int .i64 (j : Int)) rfl rfl (by kernel_rfl) (by kernel_rfl) (by kernel_rfl) (fun _ _ _ h => h) (yields_cell (by rfl) 3 (.tmp 65) rfl (by decide) (gs) (0) rfl _ (fun _ h => h.cell 0)) hHeld ?_
  simp only [Act.put, List.setIfInBounds_toArray, List.set_cons_zero, List.set_cons_succ]
  refine takeD (i := 13) (some 67) (.int .i64 (j : Int)) rfl rfl (by kernel_rfl) (by kernel_rfl) (by kernel_rfl) (fun _ _ _ h => h) (Or.inl ⟨by rfl, fun _ _ => rfl⟩) hHeld ?_
  simp only [Act.put, List.setIfInBounds_toArray, List.set_cons_zero, List.set_cons_succ]
  refine takeD (i := 14) (some 68) (.bool true) rfl rfl (by kernel_rfl) (by kernel_rfl) (by kernel_rfl) (fun _ _ _ h => h) (yields_eqN (by rfl) _ _ rfl ((j : Int)) ((j : Int)) true rfl rfl (by simp)) hHeld ?_
  simp only [Act.put, List.setIfInBounds_toArray, List.set_cons_zero, List.set_cons_succ]
  refine takeD (i := 15) (some 69) (.bool true) rfl rfl (by kernel_rfl) (by kernel_rfl) (by kernel_rfl) (fun _ _ _ h => h) (Or.inl ⟨by rfl, fun _ _ => rfl⟩) hHeld ?_
  simp only [Act.put, List.setIfInBounds_toArray, List.set_cons_zero, List.set_cons_succ]
  refine takeD (i := 16) (some 70) (.bool true) rfl rfl (by kernel_rfl) (by kernel_rfl) (by kernel_rfl) (fun _ _ _ h => h) (Or.inl ⟨by rfl, fun _ _ => rfl⟩) hHeld ?_
  simp only [Act.put, List.setIfInBounds_toArray, List.set_cons_zero, List.set_cons_succ]
  refine takeD (i := 17) (some 71) (.pointer (some ⟨g, 0, none⟩)) rfl rfl (by kernel_rfl) (by kernel_rfl) (by kernel_rfl) (fun _ _ _ h => h) (Or.inl ⟨by rfl, fun _ _ => rfl⟩) hHeld ?_
  simp only [Act.put, List.setIfInBounds_toArray, List.set_cons_zero, List.set_cons_succ]
  refine takeD (i := 19) (some 73) (.int .i64 (b : Int)) rfl rfl (by kernel_rfl) (by kernel_rfl) (by kernel_rfl) (fun _ _ _ h => h) (Or.inl ⟨by rfl, fun _ _ => rfl⟩) hHeld ?_
  simp only [Act.put, List.setIfInBounds_toArray, List.set_cons_zero, List.set_cons_succ]
  refine takeD (i := 20) (some 74) (.int .i64 (h : Int)) rfl rfl (by kernel_rfl) (by kernel_rfl) (by kernel_rfl) (fun _ _ _ h => h) (Or.inl ⟨by rfl, fun _ _ => rfl⟩) hHeld ?_
  simp only [Act.put, List.setIfInBounds_toArray, List.set_cons_zero, List.set_cons_succ]
  refine takeD (i := 21) (some 75) (.slice a4 len4 cap4) rfl rfl (by kernel_rfl) (by kernel_rfl) (by kernel_rfl) (fun _ _ _ h => h) (Or.inl ⟨by rfl, fun _ _ => rfl⟩) hHeld ?_
  simp only [Act.put, List.setIfInBounds_toArray, List.set_cons_zero, List.set_cons_succ]
  refine takeD (i := 23) (some 77) (.agg (sigC (j : Int) A1 n1 c1 A2 n2 c2)) rfl rfl (by kernel_rfl) (by kernel_rfl) (by kernel_rfl) (fun _ _ _ h => h) (yields_loadS (by rfl) (.tmp 14) rfl (gs) rfl _ _ _ _ _ _ _ (fun _ h => h)) hHeld ?_
  simp only [Act.put, List.setIfInBounds_toArray, List.set_cons_zero, List.set_cons_succ]
  refine wpAnyH_ready (rs := [18]) (by kernel_rfl) (by decide) ?_
  refine AllReadyH.cons rfl (fun K' hK => ?_) AllReadyH.nil
  go_simp
  refine (HPb.out w5.heap.size g w5.drew (HK5.out.below B0) (HT5.out.below B0)).mono ?_
  rintro e6 w6 ⟨rfl, hb6⟩
  have B6 : Below w5.heap.size w5 w6 := B0.trans (hb6.mono B0.size)
  refine hK.out _ _ (HS5.out.below B6 hgl) (fun hHeld1 => ?_)
  clear hK
  (try simp only [Act.put, List.setIfInBounds_toArray, List.set_cons_zero, List.set_cons_succ])
  refine wpAnyH_ready (rs := [22]) (by kernel_rfl) (by decide) ?_
  refine AllReadyH.cons rfl (fun K' hK => ?_) AllReadyH.nil
  go_simp
  refine (kown_any a4 len4 cap4 l4 w6 (HB5.out.below B6) (by omega)).mono ?_
  rintro e7 w7 ⟨A7, n7, c7, rfl, hB7, hc7, hb7, -⟩
  obtain rfl : len4 = n7 := HL5.out.symm.trans hB7.1
  have HB7 := Lib.hid hB7
  clear hB7
  have B7 : Below w5.heap.size w5 w7 := B6.trans (hb7.mono B6.size)
  refine hK.out _ _ (HS5.out.below B7 hgl) (fun hHeld2 => ?_)
  clear hK
  (try simp only [Act.put, List.setIfInBounds_toArray, List.set_cons_zero, List.set_cons_succ])
  refine wpAnyH_ready (rs := [24]) (by kernel_rfl) (by decide) ?_
  refine AllReadyH.cons rfl (fun K' hK => ?_) AllReadyH.nil
  go_simp
  refine (HV.out A7 A1 A2 len4 c7 n1 c1 n2 c2 w7 HB7.out hc7 (by omega) (HDA.out.below B7) (HDB.out.below B7) (HT5.out.below B7)).mono ?_
  rintro e8 w8 ⟨rfl, hb8⟩
  have B8 : Below w5.heap.size w5 w8 := B7.trans (hb8.mono B7.size)
  refine hK.out _ _ (HS5.out.below B8 hgl) (fun hHeld3 => ?_)
  clear hK
  (try simp only [Act.put, List.setIfInBounds_toArray, List.set_cons_zero, List.set_cons_succ])
  refine takeD (i := 25) (some 79) (.bool true) rfl rfl (by kernel_rfl) (by kernel_rfl) (by kernel_rfl) (fun _ _ _ h => h) (Or.inl ⟨by rfl, fun _ _ => rfl⟩) hHeld3 ?_
  simp only [Act.put, List.setIfInBounds_toArray, List.set_cons_zero, List.set_cons_succ]
  refine takeD (i := 26) (some 80) (.bool true) rfl rfl (by kernel_rfl) (by kernel_rfl) (by kernel_rfl) (fun _ _ _ h => h) (Or.inl ⟨by rfl, fun _ _ => rfl⟩) hHeld3 ?_
  simp only [Act.put, List.setIfInBounds_toArray, List.set_cons_zero, List.set_cons_succ]
  refine wpAnyH_ready (rs := [27]) (by kernel_rfl) (by decide) ?_
  refine AllReadyH.cons rfl (fun K' hK => ?_) AllReadyH.nil
  go_simp
  refine (kawake_any w8 (HT5.out.below B8)).mono ?_
  rintro e9 w9 ⟨rfl, hb9⟩
  have B9 : Below w5.heap.size w5 w9 := B8.trans (hb9.mono B8.size)
  refine hK.out _ _ (HS5.out.below B9 hgl) (fun hHeld4 => ?_)
  clear hK
  (try simp only [Act.put, List.setIfInBounds_toArray, List.set_cons_zero, List.set_cons_succ])
  refine takeD (i := 28) (some 82) (.bool true) rfl rfl (by kernel_rfl) (by kernel_rfl) (by kernel_rfl) (fun _ _ _ h => h) (Or.inl ⟨by rfl, fun _ _ => rfl⟩) hHeld4 ?_
  simp only [Act.put, List.setIfInBounds_toArray, List.set_cons_zero, List.set_cons_succ]
  refine takeD (i := 29) (some 10) (.bool true) rfl rfl (by kernel_rfl) (by kernel_rfl) (by kernel_rfl) (fun _ _ _ h => h) (Or.inl ⟨by rfl, fun _ _ => rfl⟩) hHeld4 ?_
  simp only [Act.put, List.setIfInBounds_toArray, List.set_cons_zero, List.set_cons_succ]
  (try simp only [Act.put, List.setIfInBounds_toArray])
  refine wpAnyH_done (by kernel_rfl) ?_ _
  refine NoPanic.normal ?_
  go_wp2_with fail
  go_ret
  exact ⟨rfl, bw5.trans (B9.mono bw5.size)⟩
theorem walk (w : World) (s0 : List UInt8) (w0 : s0.length = 32) (a1 : Int) (_w1 : (Lit.int .i64 a1).wf = true) (a2 : Int) (_w2 : (Lit.int .i64 a2).wf = true) (a3 : Int) (_w3 : (Lit.int .i64 a3).wf = true) (a4 : Option Addr) (len4 cap4 : Nat) (l4 : List UInt8) (w4 : Bs w a4 len4 l4) (_s4 : len4 ≤ cap4 ∧ cap4 ≤ 140737488351232) (hT : Tab 1 w) :
    Calls Tryd.prog 5 #[.agg (bcells s0), .int .i64 a1, .int .i64 a2, .int .i64 a3, .slice a4 len4 cap4] w fun e w' => e = .returned (.bool true) ∧ Below w.heap.size w w' := by
  cases hg : greatB a1 a2
  · cases hr : okK a1 a2
    · exact walk_no w s0 a1 a2 a3 a4 len4 cap4 (.inr (.inl hr)) hT
    · by_cases hl : 200 < len4
      · exact walk_no w s0 a1 a2 a3 a4 len4 cap4 (.inr (.inr hl)) hT
      · obtain ⟨b, h, rfl, rfl, h1, h2, h3⟩ := okK_yes hr
        exact walk_ok w s0 w0 b h a3 a4 len4 cap4 l4 w4 (by omega) h1 h2 h3 hg hT
  · exact walk_no w s0 a1 a2 a3 a4 len4 cap4 (.inl hg) hT

set_option maxRecDepth 100000 in
theorem lifted (os : Os) (started : os.Started) (H : Type) (enc : TypeId × Value → H) :
    ReturnsInHanded {} Tryd.checked os 5 .any (fun w args => (Rows.keysBackSpec.pre enc Tryd.prog Tryd.f5 Rows.keysBackRow.domain false w args ∧ laidMetH Tryd.prog lay1 w) ∧ sizedMet enc Tryd.prog Tryd.f5 (OpenSpec.ofChange Rows.keysBackSpec) false w args)
      (Rows.keysBackSpec.post enc Tryd.prog Tryd.f5 false true false false) := by
  refine returnsInHanded_of_change_and (C := Tryd.checked) (X := fun w _ => laidMetH Tryd.prog lay1 w) (fun _ _ _ hh h => h.of_heap hh) own started (by kernel_rfl) Tryd.func5
    (ChangeSpec.witness_shaped (enc := enc) (C := Tryd.checked) (os := os) (X := fun w _ => laidMetH Tryd.prog lay1 w) false (World.laidAll Tryd.prog os lay1) #[.agg #[.int .u8 0, .int .u8 0, .int .u8 0, .int .u8 0, .int .u8 0, .int .u8 0, .int .u8 0, .int .u8 0, .int .u8 0, .int .u8 0, .int .u8 0, .int .u8 0, .int .u8 0, .int .u8 0, .int .u8 0, .int .u8 0, .int .u8 0, .int .u8 0, .int .u8 0, .int .u8 0, .int .u8 0, .int .u8 0, .int .u8 0, .int .u8 0, .int .u8 0, .int .u8 0, .int .u8 0, .int .u8 0, .int .u8 0, .int .u8 0, .int .u8 0, .int .u8 0], .int .i64 0, .int .i64 0, .int .i64 0, .slice none 0 0] 8 rfl (World.shaped_of_ZipB (by kernel_rfl) (by kernel_rfl)) (by kernel_rfl) (by kernel_rfl) (by kernel_rfl) (met1 os _)) ?_
  intro W base args ds gs before hval0 hW hcnd hsz0 hL _
  have hval : ∀ (j : Nat) t v, Tryd.f5.params[j]? = some t → args[j]? = some v → Value.okWide Tryd.prog W .any base t v := hval0
  have hW' := hW
  obtain ⟨p, q, hA0, hV, rfl, hfz, hnd⟩ := hW
  have hA : DataW.TrodAll enc Tryd.prog W 0 (fun _ => true) true Tryd.f5.params.toList args.toList ds p := hA0
  have hsz : (DataW.weightsEach Tryd.prog (Tryd.f5.params.toList ++ Rows.keysBackSpec.plain.varTypes Tryd.prog) (ds ++ gs)).all (· ≤ reachBytes) = true := hsz0
  rw [Tryd.params5] at hA hval hsz
  obtain ⟨v0, vs0, d0, ds0, p0, q0, hargs, rfl, rfl, h0, r0⟩ := trodAll_cons hA
  obtain ⟨v1, vs1, d1, ds1, p1, q1, rfl, rfl, rfl, h1, r1⟩ := trodAll_cons r0
  obtain ⟨v2, vs2, d2, ds2, p2, q2, rfl, rfl, rfl, h2, r2⟩ := trodAll_cons r1
  obtain ⟨v3, vs3, d3, ds3, p3, q3, rfl, rfl, rfl, h3, r3⟩ := trodAll_cons r2
  obtain ⟨v4, vs4, d4, ds4, p4, q4, rfl, rfl, rfl, h4, r4⟩ := trodAll_cons r3
  obtain ⟨rfl, rfl, rfl⟩ := trodAll_nil r4
  obtain rfl : args = #[v0, v1, v2, v3, v4] := by cases args; simp_all
  obtain ⟨rfl, rfl⟩ := trodVars_none hV
  have k0 := h0
  have lt0 : ∀ x ∈ p0, x.block < W.heap.size := by obtain ⟨m, hm⟩ := k0; exact DataW.trod_lt m _ _ _ hm
  obtain ⟨s0, w0, rfl⟩ : ∃ s : List UInt8, s.length = 32 ∧ v0 = .agg (bcells s) := open_digest (hval 0 23 v0 rfl rfl) h0
  obtain ⟨a1, rfl, rfl, rfl, w1⟩ := open_int Tryd.underlying3 (hval 1 3 v1 rfl rfl) h1
  obtain ⟨a2, rfl, rfl, rfl, w2⟩ := open_int Tryd.underlying3 (hval 2 3 v2 rfl rfl) h2
  obtain ⟨a3, rfl, rfl, rfl, w3⟩ := open_int Tryd.underlying3 (hval 3 3 v3 rfl rfl) h3
  obtain ⟨a4, len4, cap4, rfl⟩ := okWide_slice Tryd.underlying37 (hval 4 37 v4 rfl rfl)
  have k4 := h4
  have lt4 : ∀ x ∈ p4, x.block < W.heap.size := by obtain ⟨m, hm⟩ := k4; exact DataW.trod_lt m _ _ _ hm
  obtain ⟨l4, w4, s4⟩ : ∃ l, Bs W a4 len4 l ∧ len4 ≤ cap4 ∧ cap4 ≤ 140737488351232 := by
    obtain ⟨fuel, hf⟩ := h4
    rcases open_ints Tryd.underlying37 Tryd.underlying5 (by kernel_rfl) hf with ⟨hcs, _⟩ | ⟨x, l, c, zs, hcs, _, hl, hm, hz, hx, hcell, hwz⟩
    · simp [Value.cells] at hcs
      obtain ⟨rfl, rfl, rfl⟩ := hcs
      exact ⟨[], Bs.nil _ _, by omega, by omega⟩
    · simp [Value.cells] at hcs
      obtain ⟨rfl, rfl, rfl⟩ := hcs
      simp only [Prod.mk.injEq] at hx
      obtain ⟨rfl, _⟩ := hx
      have hb := sized_slice hsz (j := 4) (t := 37) (e := 5) rfl rfl Tryd.underlying37
      rw [show Tryd.prog.bytesOf 5 = 1 from by kernel_rfl] at hb
      simp only [lits, List.length_map, List.length_take, List.length_drop, reachBytes] at hb
      have hz' : zs.length = cap4 := by simpa using hz
      exact ⟨_, Bs.of_ints hl hz' hcell hwz, hl, by omega⟩
  have hTab := of_lay1 hL
  clear hA0 hval0
  refine (walk W s0 w0 a1 w1 a2 w2 a3 w3 a4 len4 cap4 l4 w4 s4 hTab).mono fun e W' ⟨he, bel⟩ => ?_
  subst he
  exact ⟨_, rfl, _, _, _, [], _, [], hW', trodAll_mk1 (shut_bool Tryd.underlying4 _), (trodAll_cons_mk (Below.trod laidOut (by kernel_rfl) (of_decide_eq_true (by kernel_rfl)) k0 bel lt0) (trodAll_cons_mk (shut_int Tryd.underlying3 w1) (trodAll_cons_mk (shut_int Tryd.underlying3 w2) (trodAll_cons_mk (shut_int Tryd.underlying3 w3) (trodAll_cons_mk (Below.trod laidOut (by kernel_rfl) (of_decide_eq_true (by kernel_rfl)) k4 bel lt4) trodAll_mk0))))), rfl, bel.frame _, fun h => by cases h⟩
theorem over : Rows.keysBackRow.holds Tryd.pinned (OpenSpec.ofChange Rows.keysBackSpec) :=
  OpenClaim.holds_of_wide 5 Tryd.f5 rfl rfl rfl rfl rfl rfl rfl ⟨rfl, rfl, rfl, rfl, rfl⟩ rfl rfl rfl rfl rfl (by kernel_rfl) Tryd.func5 (by kernel_rfl)
    (of_decide_eq_true (by kernel_rfl)) (by unfold Func.isWrapper; first | (rw [if_pos (by decide +kernel)]; kernel_rfl) | (rw [if_neg (by decide +kernel)]; exact ⟨rfl, rfl⟩))
    (fun os started H enc _ => lifted os started H enc)
theorem keysBack_holds : Rows.KeysBackCardSaid :=
  Claim7.holds_tied_plain_at .later [] [.data] true (true, "d3f0664aba75a8af102b5f214e5048e24f7f5bc8fe66a510793bef99d59ac9fb") false
    over (fun _ h => by cases h) (by kernel_rfl) (fun _ h => by cases h) keysBack_row_tie rfl ⟨rfl, rfl⟩ (by kernel_rfl) rfl
    (fun f fn hf hfn => by
      obtain rfl : f = 5 := Option.some.inj ((show Tryd.prog.funcNamed "jurat/juratlaw07.KeysBack" = some 5 by kernel_rfl).symm.trans hf) |>.symm
      obtain rfl : fn = Tryd.f5 := (Option.some.inj (Tryd.func5.symm.trans hfn)).symm
      exact ⟨by kernel_rfl, fun j t ht => by
        rw [Tryd.params5] at ht
        have hm : t ∈ [23, 3, 37] := by simpa using Array.mem_of_getElem? ht
        have hall : ([23, 3, 37].all fun u => !Tryd.prog.wantsStandIn u) = true := by kernel_rfl
        exact (show Tryd.prog.wantsStandIn t = false by simpa using List.all_eq_true.1 hall t hm)⟩)
    (by kernel_rfl)
#print axioms keysBack_holds
end Go.Proofs.YtfelmdndjdaniaaDoor.keysBack
