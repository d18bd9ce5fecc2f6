/-
  OtsBits, whole, as the tied card (Rows.OtsBitsCardSaid): for every seed, number of bits and two texts of up to 500 bytes whose sums begin with the same bits, so many as there are, ots.Sign answers the same signature; what is signed is verified, and another root isn't. Conditions: the tables sha.constants, juratref02.constants and juratref02.first read as their initialisers lay them (tied to the program's text).
-/
import Derived.Test.YtghihgmgadaoeaaDoorRows
import Derived.Test.YtghihgmgadaoeaaDoorCards
import Derived.Test.YtghihgmgadaoeaaDoorTie
import Derived.WalkKit
import Derived.ProofKit
import Derived.OpenShut
import Derived.ChangeMaps5
import Derived.ShutString
import Derived.ChangeOld
import Derived.Below
import Derived.SizedLaws
import Derived.SevenTiedAt
import Derived.Lay
import Derived.LaidLaws
import Derived.Test.YtghihgmgadaoeaaDoorAlive
import Derived.Test.YtghihgmgadaoeaaDoorRSame
import Derived.Test.YtghihgmgadaoeaaDoorOpens
namespace Go.Proofs.YtghihgmgadaoeaaDoor.otsBits
open Go.ChangeShapes Go.WideShapes Go.ChangeAt Go.RowKit
open Go.ChangeMaps (open_string shut_string)
set_option linter.unusedVariables false
theorem own : ownKnob Tryd.prog.godebug = none := by kernel_rfl
theorem laidOut : laidOutB Tryd.prog = true := by kernel_rfl
set_option maxRecDepth 100000 in
set_option maxHeartbeats 2000000 in
theorem walk_in (w : World) (s0 : List UInt8) (w0 : s0.length = 32) (n : Nat) (h1 : 1 ≤ n) (h2 : n ≤ 256) (a2 : Option Addr) (len2 cap2 : Nat) (l2 : List UInt8) (w2 : Bs w a2 len2 l2) (s2 : len2 ≤ cap2) (a3 : Option Addr) (len3 cap3 : Nat) (l3 : List UInt8) (w3 : Bs w a3 len3 l3) (s3 : len3 ≤ cap3) (h500 : len2 ≤ 500) (h600 : len3 ≤ 500) (hT : First w ∧ Tab 1 w ∧ Tab 2 w) :
    Calls Tryd.prog 8 #[.agg (bcells s0), .int .i64 (n : Int), .slice a2 len2 cap2, .slice a3 len3 cap3] w fun e w' => e = .returned (.bool true) ∧ Below w.heap.size w w' := by
  have hb0 := (Below.refl w.heap.size w).alloc (Nat.le_refl _) (.cells (bcells s0) 23)
  have HF := Lib.hid hT.1
  have HT1 := Lib.hid hT.2.1
  have HT2 := Lib.hid hT.2.2
  have i0 : ¬ 500 < (len2 : Int) := by omega
  have i1 : ¬ 500 < (len3 : Int) := by omega
  have HRI := Lib.hid (fun w => Right_yes (n : Int) w (by omega) (by omega))
  have HS2 := Lib.hid (fun w hB hF hT => RefSum_any a2 len2 cap2 l2 w hB s2 hF hT (by omega))
  have HS3 := Lib.hid (fun w hB hF hT => RefSum_any a3 len3 cap3 l3 w hB s3 hF hT (by omega))
  have HL2 := Lib.hid (sumL_length l2)
  have HL3 := Lib.hid (sumL_length l3)
  have HSG := Lib.hid (fun A m c w hB hc hn hT => Sign_ok s0 n A m c l2 w w0 h1 h2 hB hc hn hT)
  have HSH := Lib.hid (fun A m c w hB hc hn hT => Sign_ok s0 n A m c l3 w w0 h1 h2 hB hc hn hT)
  generalize sumL l2 = D2 at *
  generalize sumL l3 = D3 at *
  have HD2 := Lib.hid (fun w => DBytes_any D2 w HL2.out)
  have HD3 := Lib.hid (fun w => DBytes_any D3 w HL3.out)
  have HSL := Lib.hid (show (sigN s0 D2 n).length ≤ 512 by rw [sigN_length]; omega)
  have rl : (s0.map bcell).length = 32 := by rw [List.length_map, w0]
  have rz : (Tryd.prog.info? 23).map (·.size) = some (s0.map bcell).length := by rw [rl]; exact Tryd.sizeD
  have ru := Tryd.under23
  have HB := Lib.hid w2
  have HC := Lib.hid w3
  have HLN := Lib.hid w2.1
  have HLM := Lib.hid w3.1
  clear w2 w3 hT w0 rl
  go_enter Tryd.func8, Tryd.ntmps8
  go_wp2_with (first
    | (go_at_call 20; refine (HRI.out _).mono ?_; rintro e5 w5 ⟨rfl, rfl⟩)
    | (go_at_call_of 23 (Value.slice a2 len2 cap2); refine (HS2.out _ (HB.out.below hb0) (HF.out.below hb0) (HT1.out.below hb0)).mono ?_; rintro e1 w1 ⟨rfl, hb1⟩; have HR1 := Lib.hid ((Row.new w 23 (bcells s0)).below hb1 (by simp)); have hs1 := hb1.size; simp at hs1; have hb1' := hb0.trans (hb1.mono (by simp)))
    | (go_at_call_of 22 (Value.agg (bcells D2)); refine (HD2.out _).mono ?_; rintro e2 w2 ⟨A2, n2, c2, rfl, hB2, hc2, hb2, -⟩; have HB2 := Lib.hid hB2; have hn2 : n2 ≤ 32 := (by rw [← hB2.1, HL2.out]; exact Nat.le_refl _); have HN2 := Lib.hid (show n2 = 32 from hB2.1.symm.trans HL2.out); have hs2 := hb2.size; have hb2' := hb1'.trans (hb2.mono hb1'.size); have HR2 := Lib.hid (HR1.out.below hb2 (by omega)); clear hB2)
    | (go_at_call 23; refine (HS3.out _ (HC.out.below hb2') (HF.out.below hb2') (HT1.out.below hb2')).mono ?_; rintro e1 w3 ⟨rfl, hb3⟩; have HR3 := Lib.hid (HR2.out.below hb3 (by omega)); have hs3 := hb3.size; have hb3' := hb2'.trans (hb3.mono hb2'.size))
    | (go_at_call 22; refine (HD3.out _).mono ?_; rintro e2 w4 ⟨A4, n4, c4, rfl, hB4, hc4, hb4, -⟩; have HB4 := Lib.hid hB4; have hn4 : n4 ≤ 32 := (by rw [← hB4.1, HL3.out]; exact Nat.le_refl _); have HN4 := Lib.hid (show n4 = 32 from hB4.1.symm.trans HL3.out); have hs4 := hb4.size; have hb4' := hb3'.trans (hb4.mono hb3'.size); have HR4 := Lib.hid (HR3.out.below hb4 (by omega)); have HB24 := Lib.hid ((HB2.out.below hb3).below hb4); clear hB4))
  go_loopw [11] (fun i wr => ∃ m : Nat, m ≤ n ∧ i = .int .i64 (m : Int) ∧ wr = w4 ∧ Hid (∀ j, j < m → bitN D2 j = bitN D3 j)) (fun i _ => n - (intOf i).toNat)
  case atStart => exact ⟨0, Nat.zero_le _, rfl, rfl, Lib.hid (fun j h => by omega)⟩
  case round =>
    obtain ⟨m, hm, rfl, hwr, HS⟩ := hrel
    subst wr
    by_cases hlt : m < n
    · have him : (m : Int) < (n : Int) := by omega
      have HK2 := Lib.hid (RefBit_ok A2 n2 c2 m D2 w4 HB24.out (by have := HN2.out; omega) (by omega))
      have HK4 := Lib.hid (RefBit_ok A4 n4 c4 m D3 w4 HB4.out (by have := HN4.out; omega) (by omega))
      obtain ⟨p, hp⟩ : ∃ p, bitN D2 m = p := ⟨_, rfl⟩
      obtain ⟨q, hq⟩ : ∃ q, bitN D3 m = q := ⟨_, rfl⟩
      rw [hp] at HK2
      rw [hq] at HK4
      have HP := Lib.hid hp
      have HQ := Lib.hid hq
      clear hp hq
      by_cases hpq : p = q
      · subst hpq
        have hnb : ((p : Int) != (p : Int)) = false := by simp
        go_wp2_with (first
          | (go_at_call_of 24 (Value.slice A2 n2 c2); refine HK2.out.mono ?_; rintro e7 w7 ⟨rfl, rfl⟩)
          | (go_at_call 24; refine HK4.out.mono ?_; rintro e8 w8 ⟨rfl, rfl⟩))
        go_roundw
        case rel => exact ⟨m + 1, by omega, by go_num, by trivial, Lib.hid (fun j hj => by
          by_cases e : j = m
          · subst e; rw [HP.out, HQ.out]
          · exact HS.out j (by omega))⟩
        case measure => simp [intOf]; omega
      · have hnb : ((p : Int) != (q : Int)) = true := by simp; omega
        clear hpq
        go_wp2_with (first
          | (go_at_call_of 24 (Value.slice A2 n2 c2); refine HK2.out.mono ?_; rintro e7 w7 ⟨rfl, rfl⟩)
          | (go_at_call 24; refine HK4.out.mono ?_; rintro e8 w8 ⟨rfl, rfl⟩)
          | (go_at_call 9; refine (awake_any _ (HT2.out.below hb4')).mono ?_; rintro e9 w9 ⟨rfl, hb9⟩))
        go_ret
        exact ⟨rfl, hb4'.trans (hb9.mono hb4'.size)⟩
    · obtain rfl : n = m := by omega
      have hsame := sigN_same s0 D2 D3 n HS.out
      rw [← hsame] at HSH
      clear hsame
      generalize sigN s0 D2 n = SG at *
      have HBz := Lib.hid (HB.out.below hb4')
      have HCz := Lib.hid (HC.out.below hb4')
      have HTz := Lib.hid (HT2.out.below hb4')
      have hltz : w.heap.size < w4.heap.size := HR4.out.lt
      go_wp2_with fail
      have Kq := Lib.hid (show w4.drew.rangeAt w.heap.size 0 (s0.map bcell) by exact range_row (HR4.out.below ((Below.refl _ _).drew) hltz))
      refine wp_region_noPanic ?_
      refine wp_region_held_drew (S := fun w' => w'.rangeAt w.heap.size 0 (s0.map bcell)) (by kernel_rfl) Kq.out (fun hHeld => ?_)
      refine takeD (i := 0) (some 62) (.agg (s0.map bcell).toArray) rfl rfl (by kernel_rfl) (by kernel_rfl) (by kernel_rfl) (fun _ _ _ h => h) (yieldsIf_load_mid (by rfl) _ _ rfl _ _ rfl _ _ (fun _ h => h) ru rfl rz) hHeld ?_
      simp only [Act.put, List.setIfInBounds_toArray, List.set_cons_zero, List.set_cons_succ]
      refine takeD (i := 1) (some 63) (.int .i64 (n : Int)) rfl rfl (by kernel_rfl) (by kernel_rfl) (by kernel_rfl) (fun _ _ _ h => h) (Or.inl ⟨by rfl, fun _ _ => rfl⟩) hHeld ?_
      simp only [Act.put, List.setIfInBounds_toArray, List.set_cons_zero, List.set_cons_succ]
      refine takeD (i := 2) (some 64) (.slice a2 len2 cap2) rfl rfl (by kernel_rfl) (by kernel_rfl) (by kernel_rfl) (fun _ _ _ h => h) (Or.inl ⟨by rfl, fun _ _ => rfl⟩) hHeld ?_
      simp only [Act.put, List.setIfInBounds_toArray, List.set_cons_zero, List.set_cons_succ]
      have Dq : Below w4.heap.size w4 w4.drew := (Below.refl w4.heap.size w4).drew
      refine wpAnyH_ready (rs := [3]) (by kernel_rfl) (by decide) ?_
      refine AllReadyH.cons rfl (fun K' hK => ?_) AllReadyH.nil
      go_simp
      refine (own_any a2 len2 cap2 l2 w4.drew (HBz.out.below Dq) (by omega)).mono ?_
      rintro e3 woq ⟨Aoq, noq, coq, rfl, hBoq, hcoq, hboq, -⟩
      have HBoq := Lib.hid hBoq
      have hnoq : noq ≤ 1000000 := by rw [← hBoq.1, HLN.out]; omega
      have Boq : Below w4.heap.size w4 woq := Dq.trans (hboq.mono Dq.size)
      clear hBoq
      refine hK.out _ _ (range_row (HR4.out.below Boq hltz)) (fun hHeld31 => ?_)
      clear hK
      refine wpAnyH_ready (rs := [4]) (by kernel_rfl) (by decide) ?_
      refine AllReadyH.cons rfl (fun K' hK => ?_) AllReadyH.nil
      go_simp
      refine (HSG.out Aoq noq coq woq HBoq.out hcoq hnoq (HTz.out.below Boq)).mono ?_
      rintro e4 wsq ⟨Asq, csq, rfl, hcsq, hdsq, hbsq⟩
      have HDsq := Lib.hid hdsq
      have Bsq : Below w4.heap.size w4 wsq := Boq.trans (hbsq.mono Boq.size)
      clear hdsq
      refine hK.out _ _ (range_row (HR4.out.below Bsq hltz)) (fun hHeld32 => ?_)
      clear hK
      (try simp only [Act.put, List.setIfInBounds_toArray, List.set_cons_zero, List.set_cons_succ])
      refine takeD (i := 5) (some 61) (.tuple #[.slice Asq SG.length csq, .int .i64 0]) rfl rfl (by kernel_rfl) (by kernel_rfl) (by kernel_rfl) (fun _ _ _ h => h) (Or.inl ⟨by rfl, fun _ _ => rfl⟩) hHeld32 ?_
      simp only [Act.put, List.setIfInBounds_toArray, List.set_cons_zero, List.set_cons_succ]
      refine takeD (i := 6) (some 67) (.slice Asq SG.length csq) rfl rfl (by kernel_rfl) (by kernel_rfl) (by kernel_rfl) (fun _ _ _ h => h) (Or.inl ⟨by rfl, fun _ _ => rfl⟩) hHeld32 ?_
      simp only [Act.put, List.setIfInBounds_toArray, List.set_cons_zero, List.set_cons_succ]
      refine takeD (i := 7) (some 68) (.int .i64 0) rfl rfl (by kernel_rfl) (by kernel_rfl) (by kernel_rfl) (fun _ _ _ h => h) (Or.inl ⟨by rfl, fun _ _ => rfl⟩) hHeld32 ?_
      simp only [Act.put, List.setIfInBounds_toArray, List.set_cons_zero, List.set_cons_succ]
      refine takeD (i := 8) (some 16) (.slice Asq SG.length csq) rfl rfl (by kernel_rfl) (by kernel_rfl) (by kernel_rfl) (fun _ _ _ h => h) (Or.inl ⟨by rfl, fun _ _ => rfl⟩) hHeld32 ?_
      simp only [Act.put, List.setIfInBounds_toArray, List.set_cons_zero, List.set_cons_succ]
      refine takeD (i := 9) (some 17) (.int .i64 0) rfl rfl (by kernel_rfl) (by kernel_rfl) (by kernel_rfl) (fun _ _ _ h => h) (Or.inl ⟨by rfl, fun _ _ => rfl⟩) hHeld32 ?_
      simp only [Act.put, List.setIfInBounds_toArray, List.set_cons_zero, List.set_cons_succ]
      (try simp only [Act.put, List.setIfInBounds_toArray])
      refine wpAnyH_done (by kernel_rfl) ?_ _
      refine NoPanic.normal ?_
      have HRq := Lib.hid (HR4.out.below Bsq hltz)
      have HCq := Lib.hid (HCz.out.below Bsq)
      have HTq := Lib.hid (HTz.out.below Bsq)
      have hltq : w.heap.size < wsq.heap.size := HRq.out.lt
      have hbq' := hb4'.trans (Bsq.mono hb4'.size)
      go_wp2_with fail
      have Kr := Lib.hid (show wsq.drew.rangeAt w.heap.size 0 (s0.map bcell) by exact range_row (HRq.out.below ((Below.refl _ _).drew) hltq))
      refine wp_region_noPanic ?_
      refine wp_region_held_drew (S := fun w' => w'.rangeAt w.heap.size 0 (s0.map bcell)) (by kernel_rfl) Kr.out (fun hHeld => ?_)
      refine takeD (i := 0) (some 70) (.agg (s0.map bcell).toArray) rfl rfl (by kernel_rfl) (by kernel_rfl) (by kernel_rfl) (fun _ _ _ h => h) (yieldsIf_load_mid (by rfl) _ _ rfl _ _ rfl _ _ (fun _ h => h) ru rfl rz) hHeld ?_
      simp only [Act.put, List.setIfInBounds_toArray, List.set_cons_zero, List.set_cons_succ]
      refine takeD (i := 1) (some 71) (.int .i64 (n : Int)) rfl rfl (by kernel_rfl) (by kernel_rfl) (by kernel_rfl) (fun _ _ _ h => h) (Or.inl ⟨by rfl, fun _ _ => rfl⟩) hHeld ?_
      simp only [Act.put, List.setIfInBounds_toArray, List.set_cons_zero, List.set_cons_succ]
      refine takeD (i := 2) (some 72) (.slice a3 len3 cap3) rfl rfl (by kernel_rfl) (by kernel_rfl) (by kernel_rfl) (fun _ _ _ h => h) (Or.inl ⟨by rfl, fun _ _ => rfl⟩) hHeld ?_
      simp only [Act.put, List.setIfInBounds_toArray, List.set_cons_zero, List.set_cons_succ]
      have Dr : Below wsq.heap.size wsq wsq.drew := (Below.refl wsq.heap.size wsq).drew
      refine wpAnyH_ready (rs := [3]) (by kernel_rfl) (by decide) ?_
      refine AllReadyH.cons rfl (fun K' hK => ?_) AllReadyH.nil
      go_simp
      refine (own_any a3 len3 cap3 l3 wsq.drew (HCq.out.below Dr) (by omega)).mono ?_
      rintro e3 wor ⟨Aor, nor, cor, rfl, hBor, hcor, hbor, -⟩
      have HBor := Lib.hid hBor
      have hnor : nor ≤ 1000000 := by rw [← hBor.1, HLM.out]; omega
      have Bor : Below wsq.heap.size wsq wor := Dr.trans (hbor.mono Dr.size)
      clear hBor
      refine hK.out _ _ (range_row (HRq.out.below Bor hltq)) (fun hHeld31 => ?_)
      clear hK
      refine wpAnyH_ready (rs := [4]) (by kernel_rfl) (by decide) ?_
      refine AllReadyH.cons rfl (fun K' hK => ?_) AllReadyH.nil
      go_simp
      refine (HSH.out Aor nor cor wor HBor.out hcor hnor (HTq.out.below Bor)).mono ?_
      rintro e4 wsr ⟨Asr, csr, rfl, hcsr, hdsr, hbsr⟩
      have HDsr := Lib.hid hdsr
      have Bsr : Below wsq.heap.size wsq wsr := Bor.trans (hbsr.mono Bor.size)
      clear hdsr
      refine hK.out _ _ (range_row (HRq.out.below Bsr hltq)) (fun hHeld32 => ?_)
      clear hK
      (try simp only [Act.put, List.setIfInBounds_toArray, List.set_cons_zero, List.set_cons_succ])
      refine takeD (i := 5) (some 69) (.tuple #[.slice Asr SG.length csr, .int .i64 0]) rfl rfl (by kernel_rfl) (by kernel_rfl) (by kernel_rfl) (fun _ _ _ h => h) (Or.inl ⟨by rfl, fun _ _ => rfl⟩) hHeld32 ?_
      simp only [Act.put, List.setIfInBounds_toArray, List.set_cons_zero, List.set_cons_succ]
      refine takeD (i := 6) (some 75) (.slice Asr SG.length csr) rfl rfl (by kernel_rfl) (by kernel_rfl) (by kernel_rfl) (fun _ _ _ h => h) (Or.inl ⟨by rfl, fun _ _ => rfl⟩) hHeld32 ?_
      simp only [Act.put, List.setIfInBounds_toArray, List.set_cons_zero, List.set_cons_succ]
      refine takeD (i := 7) (some 76) (.int .i64 0) rfl rfl (by kernel_rfl) (by kernel_rfl) (by kernel_rfl) (fun _ _ _ h => h) (Or.inl ⟨by rfl, fun _ _ => rfl⟩) hHeld32 ?_
      simp only [Act.put, List.setIfInBounds_toArray, List.set_cons_zero, List.set_cons_succ]
      refine takeD (i := 8) (some 18) (.slice Asr SG.length csr) rfl rfl (by kernel_rfl) (by kernel_rfl) (by kernel_rfl) (fun _ _ _ h => h) (Or.inl ⟨by rfl, fun _ _ => rfl⟩) hHeld32 ?_
      simp only [Act.put, List.setIfInBounds_toArray, List.set_cons_zero, List.set_cons_succ]
      refine takeD (i := 9) (some 19) (.int .i64 0) rfl rfl (by kernel_rfl) (by kernel_rfl) (by kernel_rfl) (fun _ _ _ h => h) (Or.inl ⟨by rfl, fun _ _ => rfl⟩) hHeld32 ?_
      simp only [Act.put, List.setIfInBounds_toArray, List.set_cons_zero, List.set_cons_succ]
      (try simp only [Act.put, List.setIfInBounds_toArray])
      refine wpAnyH_done (by kernel_rfl) ?_ _
      refine NoPanic.normal ?_
      have hbr' := hbq'.trans (Bsr.mono hbq'.size)
      go_wp2_with (first
        | (go_at_call 12; refine (RSame_yes Asq Asr _ csq csr SG wsr (HDsq.out.below Bsr) HDsr.out (by have := HSL.out; omega)).mono ?_; rintro e9 w9 ⟨rfl, k9, rfl⟩; have hb9' := below_drewN hbr' k9)
        | (go_at_call 9; refine (awake_any _ (HT2.out.below hb9')).mono ?_; rintro e10 w10 ⟨rfl, hb10⟩; have hb10' := hb9'.trans (hb10.mono hb9'.size)))
      go_ret
      exact ⟨rfl, hb10'⟩
set_option maxRecDepth 100000 in
set_option maxHeartbeats 1000000 in
theorem walk (w : World) (s0 : List UInt8) (w0 : s0.length = 32) (a1 : Int) (_w1 : (Lit.int .i64 a1).wf = true) (a2 : Option Addr) (len2 cap2 : Nat) (l2 : List UInt8) (w2 : Bs w a2 len2 l2) (s2 : len2 ≤ cap2 ∧ cap2 ≤ 140737488351232) (a3 : Option Addr) (len3 cap3 : Nat) (l3 : List UInt8) (w3 : Bs w a3 len3 l3) (s3 : len3 ≤ cap3 ∧ cap3 ≤ 140737488351232) (hT : First w ∧ Tab 1 w ∧ Tab 2 w) :
    Calls Tryd.prog 8 #[.agg (bcells s0), .int .i64 a1, .slice a2 len2 cap2, .slice a3 len3 cap3] w fun e w' => e = .returned (.bool true) ∧ Below w.heap.size w w' := by
  have hb0 := (Below.refl w.heap.size w).alloc (Nat.le_refl _) (.cells (bcells s0) 23)
  have HT := Lib.hid hT.2.2
  by_cases h500 : len2 ≤ 500
  · by_cases h600 : len3 ≤ 500
    · cases hb : okB a1
      · have i0 : ¬ 500 < (len2 : Int) := by omega
        have i1 : ¬ 500 < (len3 : Int) := by omega
        have HRI := Lib.hid (fun w => Right_no a1 w (okB_no hb))
        clear w2 w3 hT w0 hb
        go_enter Tryd.func8, Tryd.ntmps8
        go_wp2_with (first
          | (go_at_call 20; refine (HRI.out _).mono ?_; rintro e5 w5 ⟨rfl, rfl⟩)
          | (go_at_call 9; refine (awake_any _ (HT.out.below hb0)).mono ?_; rintro e4 w4 ⟨rfl, hb4⟩))
        go_ret
        exact ⟨rfl, hb0.trans (hb4.mono hb0.size)⟩
      · obtain ⟨h1, h2⟩ := okB_yes hb
        obtain ⟨k, rfl⟩ := Int.eq_ofNat_of_zero_le (show 0 ≤ a1 by omega)
        exact walk_in w s0 w0 k (by omega) (by omega) a2 len2 cap2 l2 w2 s2.1 a3 len3 cap3 l3 w3 s3.1 h500 h600 hT
    · have i0 : ¬ 500 < (len2 : Int) := by omega
      have i1 : 500 < (len3 : Int) := by omega
      clear w2 w3 hT w0
      go_enter Tryd.func8, Tryd.ntmps8
      go_wp2_with (go_at_call 9; refine (awake_any _ (HT.out.below hb0)).mono ?_; rintro e4 w4 ⟨rfl, hb4⟩)
      go_ret
      exact ⟨rfl, hb0.trans (hb4.mono hb0.size)⟩
  · have i0 : 500 < (len2 : Int) := by omega
    clear w2 w3 hT w0
    go_enter Tryd.func8, Tryd.ntmps8
    go_wp2_with (go_at_call 9; refine (awake_any _ (HT.out.below hb0)).mono ?_; rintro e4 w4 ⟨rfl, hb4⟩)
    go_ret
    exact ⟨rfl, hb0.trans (hb4.mono hb0.size)⟩

set_option maxRecDepth 100000 in
theorem lifted (os : Os) (started : os.Started) (H : Type) (enc : TypeId × Value → H) :
    ReturnsInHanded {} Tryd.checked os 8 .any (fun w args => (Rows.otsBitsSpec.pre enc Tryd.prog Tryd.f8 Rows.otsBitsRow.domain false w args ∧ laidMetH Tryd.prog lay3 w) ∧ sizedMet enc Tryd.prog Tryd.f8 (OpenSpec.ofChange Rows.otsBitsSpec) false w args)
      (Rows.otsBitsSpec.post enc Tryd.prog Tryd.f8 false true false false) := by
  refine returnsInHanded_of_change_and (C := Tryd.checked) (X := fun w _ => laidMetH Tryd.prog lay3 w) (fun _ _ _ hh h => h.of_heap hh) own started (by kernel_rfl) Tryd.func8
    (ChangeSpec.witness_shaped (enc := enc) (C := Tryd.checked) (os := os) (X := fun w _ => laidMetH Tryd.prog lay3 w) false (World.laidAll Tryd.prog os lay3) #[.agg #[.int .u8 0, .int .u8 0, .int .u8 0, .int .u8 0, .int .u8 0, .int .u8 0, .int .u8 0, .int .u8 0, .int .u8 0, .int .u8 0, .int .u8 0, .int .u8 0, .int .u8 0, .int .u8 0, .int .u8 0, .int .u8 0, .int .u8 0, .int .u8 0, .int .u8 0, .int .u8 0, .int .u8 0, .int .u8 0, .int .u8 0, .int .u8 0, .int .u8 0, .int .u8 0, .int .u8 0, .int .u8 0, .int .u8 0, .int .u8 0, .int .u8 0, .int .u8 0], .int .i64 0, .slice none 0 0, .slice none 0 0] 8 rfl (World.shaped_of_ZipB (by kernel_rfl) (by kernel_rfl)) (by kernel_rfl) (by kernel_rfl) (by kernel_rfl) (met3 os _)) ?_
  intro W base args ds gs before hval0 hW hcnd hsz0 hL _
  have hval : ∀ (j : Nat) t v, Tryd.f8.params[j]? = some t → args[j]? = some v → Value.okWide Tryd.prog W .any base t v := hval0
  have hW' := hW
  obtain ⟨p, q, hA0, hV, rfl, hfz, hnd⟩ := hW
  have hA : DataW.TrodAll enc Tryd.prog W 0 (fun _ => true) true Tryd.f8.params.toList args.toList ds p := hA0
  have hsz : (DataW.weightsEach Tryd.prog (Tryd.f8.params.toList ++ Rows.otsBitsSpec.plain.varTypes Tryd.prog) (ds ++ gs)).all (· ≤ reachBytes) = true := hsz0
  rw [Tryd.params8] at hA hval hsz
  obtain ⟨v0, vs0, d0, ds0, p0, q0, hargs, rfl, rfl, h0, r0⟩ := trodAll_cons hA
  obtain ⟨v1, vs1, d1, ds1, p1, q1, rfl, rfl, rfl, h1, r1⟩ := trodAll_cons r0
  obtain ⟨v2, vs2, d2, ds2, p2, q2, rfl, rfl, rfl, h2, r2⟩ := trodAll_cons r1
  obtain ⟨v3, vs3, d3, ds3, p3, q3, rfl, rfl, rfl, h3, r3⟩ := trodAll_cons r2
  obtain ⟨rfl, rfl, rfl⟩ := trodAll_nil r3
  obtain rfl : args = #[v0, v1, v2, v3] := by cases args; simp_all
  obtain ⟨rfl, rfl⟩ := trodVars_none hV
  have k0 := h0
  have lt0 : ∀ x ∈ p0, x.block < W.heap.size := by obtain ⟨m, hm⟩ := k0; exact DataW.trod_lt m _ _ _ hm
  obtain ⟨s0, w0, rfl⟩ : ∃ s : List UInt8, s.length = 32 ∧ v0 = .agg (bcells s) := open_digest (hval 0 23 v0 rfl rfl) h0
  obtain ⟨a1, rfl, rfl, rfl, w1⟩ := open_int Tryd.underlying3 (hval 1 3 v1 rfl rfl) h1
  obtain ⟨a2, len2, cap2, rfl⟩ := okWide_slice Tryd.underlying34 (hval 2 34 v2 rfl rfl)
  have k2 := h2
  have lt2 : ∀ x ∈ p2, x.block < W.heap.size := by obtain ⟨m, hm⟩ := k2; exact DataW.trod_lt m _ _ _ hm
  obtain ⟨l2, w2, s2⟩ : ∃ l, Bs W a2 len2 l ∧ len2 ≤ cap2 ∧ cap2 ≤ 140737488351232 := by
    obtain ⟨fuel, hf⟩ := h2
    rcases open_ints Tryd.underlying34 Tryd.underlying5 (by kernel_rfl) hf with ⟨hcs, _⟩ | ⟨x, l, c, zs, hcs, _, hl, hm, hz, hx, hcell, hwz⟩
    · simp [Value.cells] at hcs
      obtain ⟨rfl, rfl, rfl⟩ := hcs
      exact ⟨[], Bs.nil _ _, by omega, by omega⟩
    · simp [Value.cells] at hcs
      obtain ⟨rfl, rfl, rfl⟩ := hcs
      simp only [Prod.mk.injEq] at hx
      obtain ⟨rfl, _⟩ := hx
      have hb := sized_slice hsz (j := 2) (t := 34) (e := 5) rfl rfl Tryd.underlying34
      rw [show Tryd.prog.bytesOf 5 = 1 from by kernel_rfl] at hb
      simp only [lits, List.length_map, List.length_take, List.length_drop, reachBytes] at hb
      have hz' : zs.length = cap2 := by simpa using hz
      exact ⟨_, Bs.of_ints hl hz' hcell hwz, hl, by omega⟩
  obtain ⟨a3, len3, cap3, rfl⟩ := okWide_slice Tryd.underlying34 (hval 3 34 v3 rfl rfl)
  have k3 := h3
  have lt3 : ∀ x ∈ p3, x.block < W.heap.size := by obtain ⟨m, hm⟩ := k3; exact DataW.trod_lt m _ _ _ hm
  obtain ⟨l3, w3, s3⟩ : ∃ l, Bs W a3 len3 l ∧ len3 ≤ cap3 ∧ cap3 ≤ 140737488351232 := by
    obtain ⟨fuel, hf⟩ := h3
    rcases open_ints Tryd.underlying34 Tryd.underlying5 (by kernel_rfl) hf with ⟨hcs, _⟩ | ⟨x, l, c, zs, hcs, _, hl, hm, hz, hx, hcell, hwz⟩
    · simp [Value.cells] at hcs
      obtain ⟨rfl, rfl, rfl⟩ := hcs
      exact ⟨[], Bs.nil _ _, by omega, by omega⟩
    · simp [Value.cells] at hcs
      obtain ⟨rfl, rfl, rfl⟩ := hcs
      simp only [Prod.mk.injEq] at hx
      obtain ⟨rfl, _⟩ := hx
      have hb := sized_slice hsz (j := 3) (t := 34) (e := 5) rfl rfl Tryd.underlying34
      rw [show Tryd.prog.bytesOf 5 = 1 from by kernel_rfl] at hb
      simp only [lits, List.length_map, List.length_take, List.length_drop, reachBytes] at hb
      have hz' : zs.length = cap3 := by simpa using hz
      exact ⟨_, Bs.of_ints hl hz' hcell hwz, hl, by omega⟩
  have hTab := of_lay3 hL
  clear hA0 hval0
  refine (walk W s0 w0 a1 w1 a2 len2 cap2 l2 w2 s2 a3 len3 cap3 l3 w3 s3 hTab).mono fun e W' ⟨he, bel⟩ => ?_
  subst he
  exact ⟨_, rfl, _, _, _, [], _, [], hW', trodAll_mk1 (shut_bool Tryd.underlying4 _), (trodAll_cons_mk (Below.trod laidOut (by kernel_rfl) (of_decide_eq_true (by kernel_rfl)) k0 bel lt0) (trodAll_cons_mk (shut_int Tryd.underlying3 w1) (trodAll_cons_mk (Below.trod laidOut (by kernel_rfl) (of_decide_eq_true (by kernel_rfl)) k2 bel lt2) (trodAll_cons_mk (Below.trod laidOut (by kernel_rfl) (of_decide_eq_true (by kernel_rfl)) k3 bel lt3) trodAll_mk0)))), rfl, bel.frame _, fun h => by cases h⟩
theorem over : Rows.otsBitsRow.holds Tryd.pinned (OpenSpec.ofChange Rows.otsBitsSpec) :=
  OpenClaim.holds_of_wide 8 Tryd.f8 rfl rfl rfl rfl rfl rfl rfl ⟨rfl, rfl, rfl, rfl, rfl⟩ rfl rfl rfl rfl rfl (by kernel_rfl) Tryd.func8 (by kernel_rfl)
    (of_decide_eq_true (by kernel_rfl)) (by unfold Func.isWrapper; first | (rw [if_pos (by decide +kernel)]; kernel_rfl) | (rw [if_neg (by decide +kernel)]; exact ⟨rfl, rfl⟩))
    (fun os started H enc _ => lifted os started H enc)
theorem otsBits_holds : Rows.OtsBitsCardSaid :=
  Claim7.holds_tied_plain_at .later [] [.data, .data, .data] true (true, "38853a3e69654356aeca0a1f5f06e005877108b1e9361b026282a30c4990b858") false
    over (fun _ h => by cases h) (by kernel_rfl) (fun _ h => by cases h) otsBits_row_tie rfl ⟨rfl, rfl⟩ (by kernel_rfl) rfl
    (fun f fn hf hfn => by
      obtain rfl : f = 8 := Option.some.inj ((show Tryd.prog.funcNamed "jurat/juratlaw05.OtsBits" = some 8 by kernel_rfl).symm.trans hf) |>.symm
      obtain rfl : fn = Tryd.f8 := (Option.some.inj (Tryd.func8.symm.trans hfn)).symm
      exact ⟨by kernel_rfl, fun j t ht => by
        rw [Tryd.params8] at ht
        have hm : t ∈ [23, 3, 34] := by simpa using Array.mem_of_getElem? ht
        have hall : ([23, 3, 34].all fun u => !Tryd.prog.wantsStandIn u) = true := by kernel_rfl
        exact (show Tryd.prog.wantsStandIn t = false by simpa using List.all_eq_true.1 hall t hm)⟩)
    (by kernel_rfl)
#print axioms otsBits_holds
end Go.Proofs.YtghihgmgadaoeaaDoor.otsBits
