/-
  OtsShows, whole, as the tied card (Rows.OtsShowsCardSaid): for every seed, number of bits and text of up to 500 bytes a signature shows of each bit a secret whose sum is public for that bit, and the public sum for the other bit; what is signed is verified, and another root isn't. Conditions: the tables sha.constants, juratref02.constants and juratref02.first read as their initialisers lay them (tied to the program's text).
-/
import Derived.Test.YtghihgmgadaoeaaDoorRows
import Derived.Test.YtghihgmgadaoeaaDoorCards
import Derived.Test.YtghihgmgadaoeaaDoorTie
import Derived.WalkKit
import Derived.ProofKit
import Derived.OpenShut
import Derived.ChangeMaps5
import Derived.ShutString
import Derived.ChangeOld
import Derived.Below
import Derived.SizedLaws
import Derived.SevenTiedAt
import Derived.Lay
import Derived.LaidLaws
import Derived.Test.YtghihgmgadaoeaaDoorAlive
import Derived.Test.YtghihgmgadaoeaaDoorRSame
import Derived.Test.YtghihgmgadaoeaaDoorOpens
import Derived.Test.YtghihgmgadaoeaaDoorExs
namespace Go.Proofs.YtghihgmgadaoeaaDoor.otsShows
open Go.ChangeShapes Go.WideShapes Go.ChangeAt Go.RowKit
open Go.ChangeMaps (open_string shut_string)
set_option linter.unusedVariables false
theorem own : ownKnob Tryd.prog.godebug = none := by kernel_rfl
theorem laidOut : laidOutB Tryd.prog = true := by kernel_rfl
set_option maxRecDepth 100000 in
set_option maxHeartbeats 4000000 in
theorem walk_in (w : World) (s0 : List UInt8) (w0 : s0.length = 32) (n : Nat) (h1 : 1 ≤ n) (h2 : n ≤ 256) (a2 : Option Addr) (len2 cap2 : Nat) (l2 : List UInt8) (w2 : Bs w a2 len2 l2) (s2 : len2 ≤ cap2) (h500 : len2 ≤ 500) (hT : First w ∧ Tab 1 w ∧ Tab 2 w) :
    Calls Tryd.prog 7 #[.agg (bcells s0), .int .i64 (n : Int), .slice a2 len2 cap2] w fun e w' => e = .returned (.bool true) ∧ Below w.heap.size w w' := by
  have hb0 := (Below.refl w.heap.size w).alloc (Nat.le_refl _) (.cells (bcells s0) 23)
  have HF := Lib.hid hT.1
  have HT1 := Lib.hid hT.2.1
  have HT2 := Lib.hid hT.2.2
  have i0 : ¬ 500 < (len2 : Int) := by omega
  have HRI := Lib.hid (fun w => Right_yes (n : Int) w (by omega) (by omega))
  have HKS := Lib.hid (show (bcells s0).size = 32 by rw [bcells_size, w0])
  have HP := Lib.hid (fun w hT => Public_ok s0 n w w0 h1 h2 hT)
  have HS2 := Lib.hid (fun w hB hF hT => RefSum_any a2 len2 cap2 l2 w hB s2 hF hT (by omega))
  have HL2 := Lib.hid (sumL_length l2)
  have HSG := Lib.hid (fun A m c w hB hc hn hT => Sign_ok s0 n A m c l2 w w0 h1 h2 hB hc hn hT)
  generalize sumL l2 = D at *
  have HDB := Lib.hid (fun w => DBytes_any D w HL2.out)
  have HGP := Lib.hid (fun m b hm hb => pubN_get s0 n m b hm hb)
  have HGS := Lib.hid (fun m hm => sigN_get s0 D n m hm)
  have hne1 : (((pubN s0 n).length : Int) != 2 * (n : Int)) = false := by rw [pubN_length]; simp
  have hne2 : (((sigN s0 D n).length : Int) != 2 * (n : Int)) = false := by rw [sigN_length]; simp
  have HLP : Hid ((pubN s0 n).length = 2 * n) := Lib.hid (pubN_length s0 n)
  have HLS : Hid ((sigN s0 D n).length = 2 * n) := Lib.hid (sigN_length s0 D n)
  generalize pubN s0 n = PB at *
  generalize sigN s0 D n = SG at *
  have rl : (s0.map bcell).length = 32 := by rw [List.length_map, w0]
  have rz : (Tryd.prog.info? 23).map (·.size) = some (s0.map bcell).length := by rw [rl]; exact Tryd.sizeD
  have ru := Tryd.under23
  have HB := Lib.hid w2
  have HLN := Lib.hid w2.1
  clear w2 hT w0 rl
  go_enter Tryd.func7, Tryd.ntmps7
  go_wp2_with (first
    | (go_at_call 20; refine (HRI.out _).mono ?_; rintro e5 w5 ⟨rfl, rfl⟩)
    | (with_reducible refine wpList_load_row Tryd.agg25 rfl (.tmp 3) rfl _ rfl 23 _ (Row.new w 23 (bcells s0)) HKS.out ?_)
    | (go_at_call 10; refine (HP.out _ (HT2.out.below hb0)).mono ?_; rintro e1 w1 ⟨A1, c1, rfl, hc1, hd1, hb1⟩; have HD1 := Lib.hid hd1; have hs1 := hb1.size; simp at hs1; have HR1 := Lib.hid ((Row.new w 23 (bcells s0)).below hb1 (by simp)); have hb1' := hb0.trans (hb1.mono (by simp)); have HB1 := Lib.hid (HB.out.below hb1'); have HTx := Lib.hid (HT2.out.below hb1'); have hlt1 : w.heap.size < w1.heap.size := (by omega); clear hd1))
  have Kq := Lib.hid (show w1.drew.rangeAt w.heap.size 0 (s0.map bcell) by exact range_row (HR1.out.below ((Below.refl _ _).drew) hlt1))
  refine wp_region_noPanic ?_
  refine wp_region_held_drew (S := fun w' => w'.rangeAt w.heap.size 0 (s0.map bcell)) (by kernel_rfl) Kq.out (fun hHeld => ?_)
  refine takeD (i := 0) (some 31) (.agg (s0.map bcell).toArray) rfl rfl (by kernel_rfl) (by kernel_rfl) (by kernel_rfl) (fun _ _ _ h => h) (yieldsIf_load_mid (by rfl) _ _ rfl _ _ rfl _ _ (fun _ h => h) ru rfl rz) hHeld ?_
  simp only [Act.put, List.setIfInBounds_toArray, List.set_cons_zero, List.set_cons_succ]
  refine takeD (i := 1) (some 32) (.int .i64 (n : Int)) rfl rfl (by kernel_rfl) (by kernel_rfl) (by kernel_rfl) (fun _ _ _ h => h) (Or.inl ⟨by rfl, fun _ _ => rfl⟩) hHeld ?_
  simp only [Act.put, List.setIfInBounds_toArray, List.set_cons_zero, List.set_cons_succ]
  refine takeD (i := 2) (some 33) (.slice a2 len2 cap2) rfl rfl (by kernel_rfl) (by kernel_rfl) (by kernel_rfl) (fun _ _ _ h => h) (Or.inl ⟨by rfl, fun _ _ => rfl⟩) hHeld ?_
  simp only [Act.put, List.setIfInBounds_toArray, List.set_cons_zero, List.set_cons_succ]
  have Dq : Below w1.heap.size w1 w1.drew := (Below.refl w1.heap.size w1).drew
  refine wpAnyH_ready (rs := [3]) (by kernel_rfl) (by decide) ?_
  refine AllReadyH.cons rfl (fun K' hK => ?_) AllReadyH.nil
  go_simp
  refine (own_any a2 len2 cap2 l2 w1.drew (HB1.out.below Dq) (by omega)).mono ?_
  rintro e3 woq ⟨Aoq, noq, coq, rfl, hBoq, hcoq, hboq, -⟩
  have HBoq := Lib.hid hBoq
  have hnoq : noq ≤ 1000000 := by rw [← hBoq.1, HLN.out]; omega
  have Boq : Below w1.heap.size w1 woq := Dq.trans (hboq.mono Dq.size)
  clear hBoq
  refine hK.out _ _ (range_row (HR1.out.below Boq hlt1)) (fun hHeld31 => ?_)
  clear hK
  refine wpAnyH_ready (rs := [4]) (by kernel_rfl) (by decide) ?_
  refine AllReadyH.cons rfl (fun K' hK => ?_) AllReadyH.nil
  go_simp
  refine (HSG.out Aoq noq coq woq HBoq.out hcoq hnoq (HTx.out.below Boq)).mono ?_
  rintro e4 wsq ⟨Asq, csq, rfl, hcsq, hdsq, hbsq⟩
  have HDsq := Lib.hid hdsq
  have Bsq : Below w1.heap.size w1 wsq := Boq.trans (hbsq.mono Boq.size)
  clear hdsq
  refine hK.out _ _ (range_row (HR1.out.below Bsq hlt1)) (fun hHeld32 => ?_)
  clear hK
  (try simp only [Act.put, List.setIfInBounds_toArray, List.set_cons_zero, List.set_cons_succ])
  refine takeD (i := 5) (some 30) (.tuple #[.slice Asq SG.length csq, .int .i64 0]) rfl rfl (by kernel_rfl) (by kernel_rfl) (by kernel_rfl) (fun _ _ _ h => h) (Or.inl ⟨by rfl, fun _ _ => rfl⟩) hHeld32 ?_
  simp only [Act.put, List.setIfInBounds_toArray, List.set_cons_zero, List.set_cons_succ]
  refine takeD (i := 6) (some 36) (.slice Asq SG.length csq) rfl rfl (by kernel_rfl) (by kernel_rfl) (by kernel_rfl) (fun _ _ _ h => h) (Or.inl ⟨by rfl, fun _ _ => rfl⟩) hHeld32 ?_
  simp only [Act.put, List.setIfInBounds_toArray, List.set_cons_zero, List.set_cons_succ]
  refine takeD (i := 7) (some 37) (.int .i64 0) rfl rfl (by kernel_rfl) (by kernel_rfl) (by kernel_rfl) (fun _ _ _ h => h) (Or.inl ⟨by rfl, fun _ _ => rfl⟩) hHeld32 ?_
  simp only [Act.put, List.setIfInBounds_toArray, List.set_cons_zero, List.set_cons_succ]
  refine takeD (i := 8) (some 9) (.slice Asq SG.length csq) rfl rfl (by kernel_rfl) (by kernel_rfl) (by kernel_rfl) (fun _ _ _ h => h) (Or.inl ⟨by rfl, fun _ _ => rfl⟩) hHeld32 ?_
  simp only [Act.put, List.setIfInBounds_toArray, List.set_cons_zero, List.set_cons_succ]
  refine takeD (i := 9) (some 10) (.int .i64 0) rfl rfl (by kernel_rfl) (by kernel_rfl) (by kernel_rfl) (fun _ _ _ h => h) (Or.inl ⟨by rfl, fun _ _ => rfl⟩) hHeld32 ?_
  simp only [Act.put, List.setIfInBounds_toArray, List.set_cons_zero, List.set_cons_succ]
  (try simp only [Act.put, List.setIfInBounds_toArray])
  refine wpAnyH_done (by kernel_rfl) ?_ _
  refine NoPanic.normal ?_
  have hbq' := hb1'.trans (Bsq.mono hb1'.size)
  go_wp2_with (first
    | (go_at_call 23; refine (HS2.out wsq (HB.out.below hbq') (HF.out.below hbq') (HT1.out.below hbq')).mono ?_; rintro e3 w3 ⟨rfl, hb3⟩; have hb3' := hbq'.trans (hb3.mono hbq'.size))
    | (go_at_call 22; refine (HDB.out w3).mono ?_; rintro e2 w4 ⟨A4, n4, c4, rfl, hB4, hc4, hb4, -⟩; have HB4 := Lib.hid hB4; have hn4 : n4 ≤ 32 := (by rw [← hB4.1, HL2.out]; exact Nat.le_refl _); have HN4 := Lib.hid (show n4 = 32 from hB4.1.symm.trans HL2.out); have hb4' := hb3'.trans (hb4.mono hb3'.size); have HDP := Lib.hid (((HD1.out.below Bsq).below hb3).below hb4); have HDG := Lib.hid ((HDsq.out.below hb3).below hb4); clear hB4))
  go_loopw [12] (fun i wr => ∃ m : Nat, m ≤ n ∧ i = .int .i64 (m : Int) ∧ Below w4.heap.size w4 wr) (fun i _ => n - (intOf i).toNat)
  case atStart => exact ⟨0, Nat.zero_le _, rfl, Below.refl _ _⟩
  case round =>
    obtain ⟨m, hm, rfl, hbel⟩ := hrel
    have hbelw := hb4'.trans (hbel.mono hb4'.size)
    by_cases hlt : m < n
    · have him : (m : Int) < (n : Int) := by omega
      have HK4 := Lib.hid (RefBit_ok A4 n4 c4 m D wr (HB4.out.below hbel) (by have := HN4.out; omega) (by omega))
      have hG := HGS.out m hlt
      obtain ⟨b, hb⟩ : ∃ b, bitN D m = b := ⟨_, rfl⟩
      have hb01 : b ≤ 1 := by have := bitN_01 D m; omega
      rw [hb] at HK4 hG
      have hP1 := HGP.out m b hlt (by omega)
      have hP2 := HGP.out m (1 - b) hlt (by omega)
      have HX1 := Lib.hid (secL_length s0 m b)
      have HSM := Lib.hid (fun A n c w hB hc hF hT hn => show Calls Tryd.prog 23 #[.slice A n c] w fun e w' => e = .returned (.agg (bcells (hidL s0 m b))) ∧ Below w.heap.size w w' from RefSum_any A n c (secL s0 m b) w hB hc hF hT hn)
      have HBX := Lib.hid (fun w => DBytes_any (secL s0 m b) w (secL_length s0 m b))
      have HY1 := Lib.hid (hidL_length s0 m b)
      have HY2 := Lib.hid (hidL_length s0 m (1 - b))
      generalize hidL s0 m (1 - b) = Y2 at *
      generalize hidL s0 m b = Y1 at *
      generalize secL s0 m b = X1 at *
      obtain ⟨bS, oS, hAS, _, hBS1⟩ := HDG.out.at hG.1
      obtain ⟨bS', oS', hAS', _, hBS2⟩ := HDG.out.at hG.2
      obtain ⟨bP, oP, hAP, _, hBP1⟩ := HDP.out.at hP1
      obtain ⟨bP', oP', hAP', _, hBP2⟩ := HDP.out.at hP2
      rw [hAS] at hAS'
      rw [hAP] at hAP'
      injection hAS' with hAS'
      injection hAS' with e1 e2
      injection hAP' with hAP'
      injection hAP' with e3 e4
      subst e1 e2 e3 e4
      subst hAS
      subst hAP
      obtain ⟨o1, ho1⟩ : ∃ o, oS + 32 * (2 * m) = o := ⟨_, rfl⟩
      obtain ⟨o2, ho2⟩ : ∃ o, oS + 32 * (2 * m + 1) = o := ⟨_, rfl⟩
      obtain ⟨o3, ho3⟩ : ∃ o, oP + 32 * (2 * m + b) = o := ⟨_, rfl⟩
      obtain ⟨o4, ho4⟩ : ∃ o, oP + 32 * (2 * m + (1 - b)) = o := ⟨_, rfl⟩
      rw [ho1] at hBS1
      rw [ho2] at hBS2
      rw [ho3] at hBP1
      rw [ho4] at hBP2
      have HO1 := Lib.hid ho1
      have HO2 := Lib.hid ho2
      have HO3 := Lib.hid ho3
      have HO4 := Lib.hid ho4
      have HS1 := Lib.hid (hBS1.below hbel)
      have HS3 := Lib.hid (hBS2.below hbel)
      have HQ1 := Lib.hid (hBP1.below hbel)
      have HQ2 := Lib.hid (hBP2.below hbel)
      have hk1 : 2 * m < SG.length := by rw [HLS.out]; omega
      have hk2 : 2 * m + 1 < SG.length := by rw [HLS.out]; omega
      have hk3 : 2 * m + b < PB.length := by rw [HLP.out]; omega
      have hk4 : 2 * m + (1 - b) < PB.length := by rw [HLP.out]; omega
      have HFr := Lib.hid (HF.out.below hbelw)
      have HTr := Lib.hid (HT1.out.below hbelw)
      clear hG hP1 hP2 hBS1 hBS2 hBP1 hBP2 ho1 ho2 ho3 ho4 hb
      have K1 := Lib.hid (show wr.drew.rangeAt bS o1 (X1.map bcell) ∧ wr.drew.rangeAt bS o2 (Y2.map bcell) ∧ wr.drew.rangeAt bP o3 (Y1.map bcell) ∧ wr.drew.rangeAt bP o4 (Y2.map bcell) from ⟨HS1.out.range, HS3.out.range, HQ1.out.range, HQ2.out.range⟩)
      go_wp2_with (go_at_call 24; refine HK4.out.mono ?_; rintro e8 w8 ⟨rfl, rfl⟩)
      refine wp_region_noPanic ?_
      refine wp_region_held_drew (S := fun w' => w'.rangeAt bS o1 (X1.map bcell) ∧ w'.rangeAt bS o2 (Y2.map bcell) ∧ w'.rangeAt bP o3 (Y1.map bcell) ∧ w'.rangeAt bP o4 (Y2.map bcell)) (by kernel_rfl) K1.out (fun hHeld => ?_)
      refine takeD (i := 0) (some 64) (.slice (some ⟨bS, oS, none⟩) SG.length csq) rfl rfl (by kernel_rfl) (by kernel_rfl) (by kernel_rfl) (fun _ _ _ h => h) (Or.inl ⟨by rfl, fun _ _ => rfl⟩) hHeld ?_
      simp only [Act.put, List.setIfInBounds_toArray, List.set_cons_zero, List.set_cons_succ]
      refine takeD (i := 1) (some 65) (.int .i64 (m : Int)) rfl rfl (by kernel_rfl) (by kernel_rfl) (by kernel_rfl) (fun _ _ _ h => h) (Or.inl ⟨by rfl, fun _ _ => rfl⟩) hHeld ?_
      simp only [Act.put, List.setIfInBounds_toArray, List.set_cons_zero, List.set_cons_succ]
      refine takeD (i := 2) (some 66) (.int .i64 (2 * (m : Int))) rfl rfl (by kernel_rfl) (by kernel_rfl) (by kernel_rfl) (fun _ _ _ h => h) (yields_mul rfl (.const (.int .i64 2)) (.tmp 65) rfl 2 (m : Int) _ rfl rfl rfl (by omega) (by omega)) hHeld ?_
      simp only [Act.put, List.setIfInBounds_toArray, List.set_cons_zero, List.set_cons_succ]
      refine takeD (i := 3) (some 67) (.pointer (some ⟨bS, o1, none⟩)) rfl rfl (by kernel_rfl) (by kernel_rfl) (by kernel_rfl) (fun _ _ _ h => h) (yields_indexO rfl (.tmp 64) (.tmp 66) rfl bS oS SG.length csq (2 * m) o1 _ rfl rfl (by omega) hk1 HO1.out) hHeld ?_
      simp only [Act.put, List.setIfInBounds_toArray, List.set_cons_zero, List.set_cons_succ]
      refine takeD (i := 4) (some 68) (.agg (bcells X1)) rfl rfl (by kernel_rfl) (by kernel_rfl) (by kernel_rfl) (fun _ _ _ h => h) (yields_loadD rfl (.tmp 67) rfl bS o1 X1 rfl (fun _ h => h.1) HX1.out) hHeld ?_
      simp only [Act.put, List.setIfInBounds_toArray, List.set_cons_zero, List.set_cons_succ]
      refine takeD (i := 7) (some 71) (.slice (some ⟨bP, oP, none⟩) PB.length c1) rfl rfl (by kernel_rfl) (by kernel_rfl) (by kernel_rfl) (fun _ _ _ h => h) (Or.inl ⟨by rfl, fun _ _ => rfl⟩) hHeld ?_
      simp only [Act.put, List.setIfInBounds_toArray, List.set_cons_zero, List.set_cons_succ]
      refine takeD (i := 8) (some 72) (.int .i64 (m : Int)) rfl rfl (by kernel_rfl) (by kernel_rfl) (by kernel_rfl) (fun _ _ _ h => h) (Or.inl ⟨by rfl, fun _ _ => rfl⟩) hHeld ?_
      simp only [Act.put, List.setIfInBounds_toArray, List.set_cons_zero, List.set_cons_succ]
      refine takeD (i := 9) (some 73) (.int .i64 (2 * (m : Int))) rfl rfl (by kernel_rfl) (by kernel_rfl) (by kernel_rfl) (fun _ _ _ h => h) (yields_mul rfl (.const (.int .i64 2)) (.tmp 72) rfl 2 (m : Int) _ rfl rfl rfl (by omega) (by omega)) hHeld ?_
      simp only [Act.put, List.setIfInBounds_toArray, List.set_cons_zero, List.set_cons_succ]
      refine takeD (i := 10) (some 74) (.int .i64 (b : Int)) rfl rfl (by kernel_rfl) (by kernel_rfl) (by kernel_rfl) (fun _ _ _ h => h) (Or.inl ⟨by rfl, fun _ _ => rfl⟩) hHeld ?_
      simp only [Act.put, List.setIfInBounds_toArray, List.set_cons_zero, List.set_cons_succ]
      refine takeD (i := 11) (some 75) (.int .i64 (2 * (m : Int) + (b : Int))) rfl rfl (by kernel_rfl) (by kernel_rfl) (by kernel_rfl) (fun _ _ _ h => h) (yields_add rfl (.tmp 73) (.tmp 74) rfl (2 * (m : Int)) (b : Int) _ rfl rfl rfl (by omega) (by omega)) hHeld ?_
      simp only [Act.put, List.setIfInBounds_toArray, List.set_cons_zero, List.set_cons_succ]
      refine takeD (i := 12) (some 76) (.pointer (some ⟨bP, o3, none⟩)) rfl rfl (by kernel_rfl) (by kernel_rfl) (by kernel_rfl) (fun _ _ _ h => h) (yields_indexO rfl (.tmp 71) (.tmp 75) rfl bP oP PB.length c1 (2 * m + b) o3 _ rfl rfl (by omega) hk3 HO3.out) hHeld ?_
      simp only [Act.put, List.setIfInBounds_toArray, List.set_cons_zero, List.set_cons_succ]
      refine takeD (i := 13) (some 77) (.agg (bcells Y1)) rfl rfl (by kernel_rfl) (by kernel_rfl) (by kernel_rfl) (fun _ _ _ h => h) (yields_loadD rfl (.tmp 76) rfl bP o3 Y1 rfl (fun _ h => h.2.2.1) HY1.out) hHeld ?_
      simp only [Act.put, List.setIfInBounds_toArray, List.set_cons_zero, List.set_cons_succ]
      have D0 : Below wr.heap.size wr wr.drew := (Below.refl wr.heap.size wr).drew
      refine wpAnyH_ready (rs := [5]) (by kernel_rfl) (by decide) ?_
      refine AllReadyH.cons rfl (fun K' hK => ?_) AllReadyH.nil
      go_simp
      refine (HBX.out wr.drew).mono ?_
      rintro e5 w5 ⟨A5, n5, c5, rfl, hB5, hc5, hb5, -⟩
      have hn5 : n5 ≤ 1000000 := by rw [← hB5.1, HX1.out]; omega
      have B5 : Below wr.heap.size wr w5 := D0.trans (hb5.mono D0.size)
      have HB5 := Lib.hid hB5
      clear hB5
      refine hK.out _ _ ⟨(HS1.out.below B5).range, (HS3.out.below B5).range, (HQ1.out.below B5).range, (HQ2.out.below B5).range⟩ (fun hHeld5 => ?_)
      clear hK
      refine wpAnyH_ready (rs := [6]) (by kernel_rfl) (by decide) ?_
      refine AllReadyH.cons rfl (fun K' hK => ?_) AllReadyH.nil
      go_simp
      refine (HSM.out A5 n5 c5 w5 HB5.out hc5 (HFr.out.below B5) (HTr.out.below B5) hn5).mono ?_
      rintro e6 w6 ⟨rfl, hb6⟩
      have B6 : Below wr.heap.size wr w6 := B5.trans (hb6.mono B5.size)
      refine hK.out _ _ ⟨(HS1.out.below B6).range, (HS3.out.below B6).range, (HQ1.out.below B6).range, (HQ2.out.below B6).range⟩ (fun hHeld6 => ?_)
      clear hK
      (try simp only [Act.put, List.setIfInBounds_toArray, List.set_cons_zero, List.set_cons_succ])
      refine takeD (i := 14) (some 78) (.bool false) rfl rfl (by kernel_rfl) (by kernel_rfl) (by kernel_rfl) (fun _ _ _ h => h) (yields_neqD rfl (.tmp 70) (.tmp 77) rfl Y1 rfl rfl HY1.out) hHeld6 ?_
      simp only [Act.put, List.setIfInBounds_toArray, List.set_cons_zero, List.set_cons_succ]
      refine takeD (i := 15) (some 79) (.bool false) rfl rfl (by kernel_rfl) (by kernel_rfl) (by kernel_rfl) (fun _ _ _ h => h) (Or.inl ⟨by rfl, fun _ _ => rfl⟩) hHeld6 ?_
      simp only [Act.put, List.setIfInBounds_toArray, List.set_cons_zero, List.set_cons_succ]
      refine takeD (i := 16) (some 80) (.slice (some ⟨bS, oS, none⟩) SG.length csq) rfl rfl (by kernel_rfl) (by kernel_rfl) (by kernel_rfl) (fun _ _ _ h => h) (Or.inl ⟨by rfl, fun _ _ => rfl⟩) hHeld6 ?_
      simp only [Act.put, List.setIfInBounds_toArray, List.set_cons_zero, List.set_cons_succ]
      refine takeD (i := 17) (some 81) (.int .i64 (m : Int)) rfl rfl (by kernel_rfl) (by kernel_rfl) (by kernel_rfl) (fun _ _ _ h => h) (Or.inl ⟨by rfl, fun _ _ => rfl⟩) hHeld6 ?_
      simp only [Act.put, List.setIfInBounds_toArray, List.set_cons_zero, List.set_cons_succ]
      refine takeD (i := 18) (some 82) (.int .i64 (2 * (m : Int))) rfl rfl (by kernel_rfl) (by kernel_rfl) (by kernel_rfl) (fun _ _ _ h => h) (yields_mulW (by rfl) (.const (.int .i64 2)) (.tmp 81) rfl 2 (m : Int) _ rfl rfl rfl (by omega) (by omega)) hHeld6 ?_
      simp only [Act.put, List.setIfInBounds_toArray, List.set_cons_zero, List.set_cons_succ]
      refine takeD (i := 19) (some 83) (.int .i64 (2 * (m : Int) + 1)) rfl rfl (by kernel_rfl) (by kernel_rfl) (by kernel_rfl) (fun _ _ _ h => h) (yields_addW (by rfl) (.tmp 82) (.const (.int .i64 1)) rfl (2 * (m : Int)) 1 _ rfl rfl rfl (by omega) (by omega)) hHeld6 ?_
      simp only [Act.put, List.setIfInBounds_toArray, List.set_cons_zero, List.set_cons_succ]
      refine takeD (i := 20) (some 84) (.pointer (some ⟨bS, o2, none⟩)) rfl rfl (by kernel_rfl) (by kernel_rfl) (by kernel_rfl) (fun _ _ _ h => h) (yields_indexW (by rfl) (.tmp 80) (.tmp 83) rfl bS oS SG.length csq (2 * m + 1) o2 _ rfl rfl (by omega) hk2 HO2.out) hHeld6 ?_
      simp only [Act.put, List.setIfInBounds_toArray, List.set_cons_zero, List.set_cons_succ]
      refine takeD (i := 21) (some 85) (.agg (bcells Y2)) rfl rfl (by kernel_rfl) (by kernel_rfl) (by kernel_rfl) (fun _ _ _ h => h) (yields_loadW (by rfl) (.tmp 84) rfl bS o2 Y2 rfl (fun _ h => h.2.1) HY2.out) hHeld6 ?_
      simp only [Act.put, List.setIfInBounds_toArray, List.set_cons_zero, List.set_cons_succ]
      refine takeD (i := 22) (some 86) (.slice (some ⟨bP, oP, none⟩) PB.length c1) rfl rfl (by kernel_rfl) (by kernel_rfl) (by kernel_rfl) (fun _ _ _ h => h) (Or.inl ⟨by rfl, fun _ _ => rfl⟩) hHeld6 ?_
      simp only [Act.put, List.setIfInBounds_toArray, List.set_cons_zero, List.set_cons_succ]
      refine takeD (i := 23) (some 87) (.int .i64 (m : Int)) rfl rfl (by kernel_rfl) (by kernel_rfl) (by kernel_rfl) (fun _ _ _ h => h) (Or.inl ⟨by rfl, fun _ _ => rfl⟩) hHeld6 ?_
      simp only [Act.put, List.setIfInBounds_toArray, List.set_cons_zero, List.set_cons_succ]
      refine takeD (i := 24) (some 88) (.int .i64 (2 * (m : Int))) rfl rfl (by kernel_rfl) (by kernel_rfl) (by kernel_rfl) (fun _ _ _ h => h) (yields_mulW (by rfl) (.const (.int .i64 2)) (.tmp 87) rfl 2 (m : Int) _ rfl rfl rfl (by omega) (by omega)) hHeld6 ?_
      simp only [Act.put, List.setIfInBounds_toArray, List.set_cons_zero, List.set_cons_succ]
      refine takeD (i := 25) (some 89) (.int .i64 (2 * (m : Int) + 1)) rfl rfl (by kernel_rfl) (by kernel_rfl) (by kernel_rfl) (fun _ _ _ h => h) (yields_addW (by rfl) (.tmp 88) (.const (.int .i64 1)) rfl (2 * (m : Int)) 1 _ rfl rfl rfl (by omega) (by omega)) hHeld6 ?_
      simp only [Act.put, List.setIfInBounds_toArray, List.set_cons_zero, List.set_cons_succ]
      refine takeD (i := 26) (some 90) (.int .i64 (b : Int)) rfl rfl (by kernel_rfl) (by kernel_rfl) (by kernel_rfl) (fun _ _ _ h => h) (Or.inl ⟨by rfl, fun _ _ => rfl⟩) hHeld6 ?_
      simp only [Act.put, List.setIfInBounds_toArray, List.set_cons_zero, List.set_cons_succ]
      refine takeD (i := 27) (some 91) (.int .i64 (2 * (m : Int) + 1 - (b : Int))) rfl rfl (by kernel_rfl) (by kernel_rfl) (by kernel_rfl) (fun _ _ _ h => h) (yields_subW (by rfl) (.tmp 89) (.tmp 90) rfl (2 * (m : Int) + 1) (b : Int) _ rfl rfl rfl (by omega) (by omega)) hHeld6 ?_
      simp only [Act.put, List.setIfInBounds_toArray, List.set_cons_zero, List.set_cons_succ]
      refine takeD (i := 28) (some 92) (.pointer (some ⟨bP, o4, none⟩)) rfl rfl (by kernel_rfl) (by kernel_rfl) (by kernel_rfl) (fun _ _ _ h => h) (yields_indexW (by rfl) (.tmp 86) (.tmp 91) rfl bP oP PB.length c1 (2 * m + (1 - b)) o4 _ rfl rfl (by omega) hk4 HO4.out) hHeld6 ?_
      simp only [Act.put, List.setIfInBounds_toArray, List.set_cons_zero, List.set_cons_succ]
      refine takeD (i := 29) (some 93) (.agg (bcells Y2)) rfl rfl (by kernel_rfl) (by kernel_rfl) (by kernel_rfl) (fun _ _ _ h => h) (yields_loadW (by rfl) (.tmp 92) rfl bP o4 Y2 rfl (fun _ h => h.2.2.2) HY2.out) hHeld6 ?_
      simp only [Act.put, List.setIfInBounds_toArray, List.set_cons_zero, List.set_cons_succ]
      refine takeD (i := 30) (some 94) (.bool false) rfl rfl (by kernel_rfl) (by kernel_rfl) (by kernel_rfl) (fun _ _ _ h => h) (yields_neqW (by rfl) (.tmp 85) (.tmp 93) rfl Y2 rfl rfl HY2.out) hHeld6 ?_
      simp only [Act.put, List.setIfInBounds_toArray, List.set_cons_zero, List.set_cons_succ]
      refine takeD (i := 31) (some 95) (.bool false) rfl rfl (by kernel_rfl) (by kernel_rfl) (by kernel_rfl) (fun _ _ _ h => h) (Or.inl ⟨by rfl, fun _ _ => rfl⟩) hHeld6 ?_
      simp only [Act.put, List.setIfInBounds_toArray, List.set_cons_zero, List.set_cons_succ]
      (try simp only [Act.put, List.setIfInBounds_toArray])
      refine wpAnyH_done (by kernel_rfl) ?_ _
      refine NoPanic.normal ?_
      go_wp2_with fail
      refine ⟨⟨m + 1, by omega, by go_num, hbel.trans (B6.mono hbel.size)⟩, by simp [intOf]; omega⟩
    · obtain rfl : n = m := by omega
      go_wp2_with (go_at_call 9; refine (awake_any _ (HT2.out.below hbelw)).mono ?_; rintro e9 w9 ⟨rfl, hb9⟩)
      go_ret
      exact ⟨rfl, hbelw.trans (hb9.mono hbelw.size)⟩
set_option maxRecDepth 100000 in
set_option maxHeartbeats 1000000 in
theorem walk (w : World) (s0 : List UInt8) (w0 : s0.length = 32) (a1 : Int) (_w1 : (Lit.int .i64 a1).wf = true) (a2 : Option Addr) (len2 cap2 : Nat) (l2 : List UInt8) (w2 : Bs w a2 len2 l2) (s2 : len2 ≤ cap2 ∧ cap2 ≤ 140737488351232) (hT : First w ∧ Tab 1 w ∧ Tab 2 w) :
    Calls Tryd.prog 7 #[.agg (bcells s0), .int .i64 a1, .slice a2 len2 cap2] w fun e w' => e = .returned (.bool true) ∧ Below w.heap.size w w' := by
  have hb0 := (Below.refl w.heap.size w).alloc (Nat.le_refl _) (.cells (bcells s0) 23)
  have HT := Lib.hid hT.2.2
  by_cases h500 : len2 ≤ 500
  · cases hb : okB a1
    · have i0 : ¬ 500 < (len2 : Int) := by omega
      have HRI := Lib.hid (fun w => Right_no a1 w (okB_no hb))
      clear w2 hT w0 hb
      go_enter Tryd.func7, Tryd.ntmps7
      go_wp2_with (first
        | (go_at_call 20; refine (HRI.out _).mono ?_; rintro e5 w5 ⟨rfl, rfl⟩)
        | (go_at_call 9; refine (awake_any _ (HT.out.below hb0)).mono ?_; rintro e4 w4 ⟨rfl, hb4⟩))
      go_ret
      exact ⟨rfl, hb0.trans (hb4.mono hb0.size)⟩
    · obtain ⟨h1, h2⟩ := okB_yes hb
      obtain ⟨k, rfl⟩ := Int.eq_ofNat_of_zero_le (show 0 ≤ a1 by omega)
      exact walk_in w s0 w0 k (by omega) (by omega) a2 len2 cap2 l2 w2 s2.1 h500 hT
  · have i0 : 500 < (len2 : Int) := by omega
    clear w2 hT w0
    go_enter Tryd.func7, Tryd.ntmps7
    go_wp2_with (go_at_call 9; refine (awake_any _ (HT.out.below hb0)).mono ?_; rintro e4 w4 ⟨rfl, hb4⟩)
    go_ret
    exact ⟨rfl, hb0.trans (hb4.mono hb0.size)⟩

set_option maxRecDepth 100000 in
theorem lifted (os : Os) (started : os.Started) (H : Type) (enc : TypeId × Value → H) :
    ReturnsInHanded {} Tryd.checked os 7 .any (fun w args => (Rows.otsShowsSpec.pre enc Tryd.prog Tryd.f7 Rows.otsShowsRow.domain false w args ∧ laidMetH Tryd.prog lay3 w) ∧ sizedMet enc Tryd.prog Tryd.f7 (OpenSpec.ofChange Rows.otsShowsSpec) false w args)
      (Rows.otsShowsSpec.post enc Tryd.prog Tryd.f7 false true false false) := by
  refine returnsInHanded_of_change_and (C := Tryd.checked) (X := fun w _ => laidMetH Tryd.prog lay3 w) (fun _ _ _ hh h => h.of_heap hh) own started (by kernel_rfl) Tryd.func7
    (ChangeSpec.witness_shaped (enc := enc) (C := Tryd.checked) (os := os) (X := fun w _ => laidMetH Tryd.prog lay3 w) false (World.laidAll Tryd.prog os lay3) #[.agg #[.int .u8 0, .int .u8 0, .int .u8 0, .int .u8 0, .int .u8 0, .int .u8 0, .int .u8 0, .int .u8 0, .int .u8 0, .int .u8 0, .int .u8 0, .int .u8 0, .int .u8 0, .int .u8 0, .int .u8 0, .int .u8 0, .int .u8 0, .int .u8 0, .int .u8 0, .int .u8 0, .int .u8 0, .int .u8 0, .int .u8 0, .int .u8 0, .int .u8 0, .int .u8 0, .int .u8 0, .int .u8 0, .int .u8 0, .int .u8 0, .int .u8 0, .int .u8 0], .int .i64 0, .slice none 0 0] 8 rfl (World.shaped_of_ZipB (by kernel_rfl) (by kernel_rfl)) (by kernel_rfl) (by kernel_rfl) (by kernel_rfl) (met3 os _)) ?_
  intro W base args ds gs before hval0 hW hcnd hsz0 hL _
  have hval : ∀ (j : Nat) t v, Tryd.f7.params[j]? = some t → args[j]? = some v → Value.okWide Tryd.prog W .any base t v := hval0
  have hW' := hW
  obtain ⟨p, q, hA0, hV, rfl, hfz, hnd⟩ := hW
  have hA : DataW.TrodAll enc Tryd.prog W 0 (fun _ => true) true Tryd.f7.params.toList args.toList ds p := hA0
  have hsz : (DataW.weightsEach Tryd.prog (Tryd.f7.params.toList ++ Rows.otsShowsSpec.plain.varTypes Tryd.prog) (ds ++ gs)).all (· ≤ reachBytes) = true := hsz0
  rw [Tryd.params7] at hA hval hsz
  obtain ⟨v0, vs0, d0, ds0, p0, q0, hargs, rfl, rfl, h0, r0⟩ := trodAll_cons hA
  obtain ⟨v1, vs1, d1, ds1, p1, q1, rfl, rfl, rfl, h1, r1⟩ := trodAll_cons r0
  obtain ⟨v2, vs2, d2, ds2, p2, q2, rfl, rfl, rfl, h2, r2⟩ := trodAll_cons r1
  obtain ⟨rfl, rfl, rfl⟩ := trodAll_nil r2
  obtain rfl : args = #[v0, v1, v2] := by cases args; simp_all
  obtain ⟨rfl, rfl⟩ := trodVars_none hV
  have k0 := h0
  have lt0 : ∀ x ∈ p0, x.block < W.heap.size := by obtain ⟨m, hm⟩ := k0; exact DataW.trod_lt m _ _ _ hm
  obtain ⟨s0, w0, rfl⟩ : ∃ s : List UInt8, s.length = 32 ∧ v0 = .agg (bcells s) := open_digest (hval 0 23 v0 rfl rfl) h0
  obtain ⟨a1, rfl, rfl, rfl, w1⟩ := open_int Tryd.underlying3 (hval 1 3 v1 rfl rfl) h1
  obtain ⟨a2, len2, cap2, rfl⟩ := okWide_slice Tryd.underlying34 (hval 2 34 v2 rfl rfl)
  have k2 := h2
  have lt2 : ∀ x ∈ p2, x.block < W.heap.size := by obtain ⟨m, hm⟩ := k2; exact DataW.trod_lt m _ _ _ hm
  obtain ⟨l2, w2, s2⟩ : ∃ l, Bs W a2 len2 l ∧ len2 ≤ cap2 ∧ cap2 ≤ 140737488351232 := by
    obtain ⟨fuel, hf⟩ := h2
    rcases open_ints Tryd.underlying34 Tryd.underlying5 (by kernel_rfl) hf with ⟨hcs, _⟩ | ⟨x, l, c, zs, hcs, _, hl, hm, hz, hx, hcell, hwz⟩
    · simp [Value.cells] at hcs
      obtain ⟨rfl, rfl, rfl⟩ := hcs
      exact ⟨[], Bs.nil _ _, by omega, by omega⟩
    · simp [Value.cells] at hcs
      obtain ⟨rfl, rfl, rfl⟩ := hcs
      simp only [Prod.mk.injEq] at hx
      obtain ⟨rfl, _⟩ := hx
      have hb := sized_slice hsz (j := 2) (t := 34) (e := 5) rfl rfl Tryd.underlying34
      rw [show Tryd.prog.bytesOf 5 = 1 from by kernel_rfl] at hb
      simp only [lits, List.length_map, List.length_take, List.length_drop, reachBytes] at hb
      have hz' : zs.length = cap2 := by simpa using hz
      exact ⟨_, Bs.of_ints hl hz' hcell hwz, hl, by omega⟩
  have hTab := of_lay3 hL
  clear hA0 hval0
  refine (walk W s0 w0 a1 w1 a2 len2 cap2 l2 w2 s2 hTab).mono fun e W' ⟨he, bel⟩ => ?_
  subst he
  exact ⟨_, rfl, _, _, _, [], _, [], hW', trodAll_mk1 (shut_bool Tryd.underlying4 _), (trodAll_cons_mk (Below.trod laidOut (by kernel_rfl) (of_decide_eq_true (by kernel_rfl)) k0 bel lt0) (trodAll_cons_mk (shut_int Tryd.underlying3 w1) (trodAll_cons_mk (Below.trod laidOut (by kernel_rfl) (of_decide_eq_true (by kernel_rfl)) k2 bel lt2) trodAll_mk0))), rfl, bel.frame _, fun h => by cases h⟩
theorem over : Rows.otsShowsRow.holds Tryd.pinned (OpenSpec.ofChange Rows.otsShowsSpec) :=
  OpenClaim.holds_of_wide 7 Tryd.f7 rfl rfl rfl rfl rfl rfl rfl ⟨rfl, rfl, rfl, rfl, rfl⟩ rfl rfl rfl rfl rfl (by kernel_rfl) Tryd.func7 (by kernel_rfl)
    (of_decide_eq_true (by kernel_rfl)) (by unfold Func.isWrapper; first | (rw [if_pos (by decide +kernel)]; kernel_rfl) | (rw [if_neg (by decide +kernel)]; exact ⟨rfl, rfl⟩))
    (fun os started H enc _ => lifted os started H enc)
theorem otsShows_holds : Rows.OtsShowsCardSaid :=
  Claim7.holds_tied_plain_at .later [] [.data, .data, .data] true (true, "38853a3e69654356aeca0a1f5f06e005877108b1e9361b026282a30c4990b858") false
    over (fun _ h => by cases h) (by kernel_rfl) (fun _ h => by cases h) otsShows_row_tie rfl ⟨rfl, rfl⟩ (by kernel_rfl) rfl
    (fun f fn hf hfn => by
      obtain rfl : f = 7 := Option.some.inj ((show Tryd.prog.funcNamed "jurat/juratlaw05.OtsShows" = some 7 by kernel_rfl).symm.trans hf) |>.symm
      obtain rfl : fn = Tryd.f7 := (Option.some.inj (Tryd.func7.symm.trans hfn)).symm
      exact ⟨by kernel_rfl, fun j t ht => by
        rw [Tryd.params7] at ht
        have hm : t ∈ [23, 3, 34] := by simpa using Array.mem_of_getElem? ht
        have hall : ([23, 3, 34].all fun u => !Tryd.prog.wantsStandIn u) = true := by kernel_rfl
        exact (show Tryd.prog.wantsStandIn t = false by simpa using List.all_eq_true.1 hall t hm)⟩)
    (by kernel_rfl)
#print axioms otsShows_holds
end Go.Proofs.YtghihgmgadaoeaaDoor.otsShows
