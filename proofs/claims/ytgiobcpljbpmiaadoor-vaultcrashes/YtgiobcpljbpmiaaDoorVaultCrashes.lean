/-
  VaultCrashes, whole, as the tied card (Rows.VaultCrashesCardSaid): for every list of calls (up to 40 are played, 500 bytes each), every fuse under them, whatever was kept by the crash behind them (up to 10 numbers): what is opened is what the calls that were answered had made, or that and the one under way; behind the failure of power the vault answers ErrDown and has nothing; and the document's example. Conditions: the table sha.constants reads as its initialiser lays it (tied to the program's text).
-/
import Derived.Test.YtgiobcpljbpmiaaDoorRows
import Derived.Test.YtgiobcpljbpmiaaDoorCards
import Derived.Test.YtgiobcpljbpmiaaDoorTie
import Derived.WalkKit
import Derived.ProofKit
import Derived.OpenShut
import Derived.ChangeMaps5
import Derived.ShutString
import Derived.ChangeOld
import Derived.Below
import Derived.SizedLaws
import Derived.SevenTiedAt
import Derived.Lay
import Derived.LaidLaws
import Derived.Test.YtgiobcpljbpmiaaDoorVltCc
namespace Go.Proofs.YtgiobcpljbpmiaaDoor.vaultCrashes
open Go.ChangeShapes Go.WideShapes Go.ChangeAt Go.RowKit
open Go.ChangeMaps (open_string shut_string)
set_option linter.unusedVariables false
theorem own : ownKnob Tryd.prog.godebug = none := by kernel_rfl
theorem laidOut : laidOutB Tryd.prog = true := by kernel_rfl
set_option maxRecDepth 100000 in
set_option maxHeartbeats 4000000 in
theorem walk_no (w : World) (a0 : Option Addr) (len0 cap0 : Nat) (L0 : List Cl) (w0 : Cls w a0 len0 L0) (a1 : Int) (a2 : Option Addr) (len2 cap2 : Nat) (h : longC L0 = true ∨ (longC L0 = false ∧ 10 < len2) ∨ (longC L0 = false ∧ len2 ≤ 10 ∧ a1 < 0)) (hT : Tab 2 w) :
    Calls Tryd.prog 4 #[.slice a0 len0 cap0, .int .i64 a1, .slice a2 len2 cap2] w fun e w' => e = .returned (.bool true) ∧ Below w.heap.size w w' := by
  have HT := Lib.hid hT
  have HLo := Lib.hid (Long_any a0 len0 cap0 L0 w w0)
  clear hT w0
  rcases h with h1 | ⟨h1, h2⟩ | ⟨h1, h2, h3⟩
  · rw [h1] at HLo
    clear h1
    go_enter Tryd.func4, Tryd.ntmps4
    go_wp2_with (first
      | (go_at_call 10; refine HLo.out.mono ?_; rintro e1 w1 ⟨rfl, rfl⟩)
      | (go_at_call 11; refine (awake_any w HT.out).mono ?_; rintro e9 w9 ⟨rfl, hb9⟩; have B9 := hb9; clear hb9))
    go_ret
    exact ⟨rfl, B9⟩
  · rw [h1] at HLo
    clear h1
    have i2 : (10 : Int) < (len2 : Int) := by omega
    go_enter Tryd.func4, Tryd.ntmps4
    go_wp2_with (first
      | (go_at_call 10; refine HLo.out.mono ?_; rintro e1 w1 ⟨rfl, rfl⟩)
      | (go_at_call 11; refine (awake_any w HT.out).mono ?_; rintro e9 w9 ⟨rfl, hb9⟩; have B9 := hb9; clear hb9))
    go_ret
    exact ⟨rfl, B9⟩
  · rw [h1] at HLo
    clear h1
    have i2 : ¬ (10 : Int) < (len2 : Int) := by omega
    go_enter Tryd.func4, Tryd.ntmps4
    go_wp2_with (first
      | (go_at_call 10; refine HLo.out.mono ?_; rintro e1 w1 ⟨rfl, rfl⟩)
      | (go_at_call 11; refine (awake_any w HT.out).mono ?_; rintro e9 w9 ⟨rfl, hb9⟩; have B9 := hb9; clear hb9))
    go_ret
    exact ⟨rfl, B9⟩
set_option maxRecDepth 100000 in
set_option maxHeartbeats 16000000 in
theorem walk_ok (w : World) (a0 : Option Addr) (len0 cap0 : Nat) (L0 : List Cl) (w0 : Cls w a0 len0 L0) (a1 : Int) (b1 : a1 < 9223372036854775808) (a2 : Option Addr) (len2 cap2 : Nat) (L2 : List Int) (w2' : Is w a2 len2 L2) (h : longC L0 = false ∧ len2 ≤ 10 ∧ 0 ≤ a1) (hT : Tab 2 w) :
    Calls Tryd.prog 4 #[.slice a0 len0 cap0, .int .i64 a1, .slice a2 len2 cap2] w fun e w' => e = .returned (.bool true) ∧ Below w.heap.size w w' := by
  obtain ⟨hq, h2, h1⟩ := h
  have HT := Lib.hid hT
  have HC := Lib.hid w0
  have HI2 := Lib.hid w2'
  have HLo := Lib.hid (Long_any a0 len0 cap0 L0 w w0)
  obtain ⟨hn40, hall⟩ := longC_no hq
  rw [w0.1] at hn40
  rw [hq] at HLo
  have HAll := Lib.hid hall
  have H1 := Lib.hid b1
  have i1 : ¬ a1 < 0 := by omega
  have i2 : ¬ (10 : Int) < (len2 : Int) := by omega
  clear hT w0 hq hall w2' b1
  go_enter Tryd.func4, Tryd.ntmps4
  go_wp2_with (first
    | (go_at_call 10; refine HLo.out.mono ?_; rintro e1 w1 ⟨rfl, rfl⟩)
    | (go_at_call 12; refine (VNew w HT.out).mono ?_; rintro e1 w1 ⟨g, P0, rfl, hP0, ht1, hb1⟩; have HT1 := Lib.hid ht1; have HP0 := Lib.hid hP0; have B1 := Lib.hid hb1; have T1 := Lib.hid (HT.out.below hb1); clear ht1 hP0 hb1)
    | (go_at_call 13; refine (VFirst w1 g P0 HT1.out T1.out).mono ?_; rintro e2 w2 ⟨v, rfl, ho2, P2, S2, hg2, hv2, hc2, hl2⟩; have V2 := Lib.hid hv2; have HP2 := Lib.hid (hg2.base HP0.out B1.out.size); have B2 := Lib.hid (B1.out.trans (ho2.below HP0.out B1.out.size)); have HC2 := Lib.hid hc2; clear hg2 hv2 hc2 hl2 ho2))
  have hX2 := (Below.refl w2.heap.size w2).alloc (Nat.le_refl _) (.cells cl0 35)
  have HR2 := Lib.hid (Row.new w2 35 cl0)
  obtain ⟨m0, hm0⟩ : ∃ m0, w2.heap.size = m0 := ⟨_, rfl⟩
  obtain ⟨w3, hw3⟩ : ∃ w3, w2.alloc (.cells cl0 35) = w3 := ⟨_, rfl⟩
  have HV3 := Lib.hid (V2.out.below hX2)
  have B3 := Lib.hid (B2.out.trans (hX2.mono B2.out.size))
  have HPm := Lib.hid (show ¬ P2 m0 from fun q => by have := V2.out.1 _ q; omega)
  have HmB := Lib.hid (show w.heap.size ≤ m0 by rw [← hm0]; exact B2.out.size)
  unfold cl0 at hw3
  rw [hm0] at HR2
  unfold cl0 at HR2 HV3 B3
  rw [hw3] at HR2 HV3 B3
  rw [hm0, hw3]
  clear hm0 hw3 hX2 V2 B2 HT1 HP0 B1 T1
  refine (VT.fuse v g a1 P2 Vs.new w3 HV3.out H1.out).mono ?_
  rintro e4 w4 ⟨rfl, hv4, ho4⟩
  have HV4 := Lib.hid hv4
  have HR4 := Lib.hid (show Row w4 m0 35 cl0 from HR2.out.off ho4 HPm.out)
  have B4 := Lib.hid (B3.out.trans (ho4.below HP2.out B3.out.size))
  have HC4 := Lib.hid (show ∀ i, (S2.fuseT a1).cont i = [] from HC2.out)
  clear hv4 ho4 HV3 HR2 B3 HC2
  go_wp2_with (first
    | (with_reducible refine wpList_load_row Tryd.agg35 rfl (.tmp 42) rfl m0 rfl 35 cl0 HR4.out rfl ?_)
    | ((with_reducible refine wpList_alloc0 35 zero35 rfl rfl ?_); intro u w5 hu hru hbu; have HRu := Lib.hid hru; have HU := Lib.hid hu; have HBu := Lib.hid hbu; clear hru hu hbu)
    | ((with_reducible refine wpList_store_row Tryd.agg35 rfl (.tmp 11) (.tmp 43) rfl u cl0 rfl rfl 35 cl0 HRu.out rfl rfl (mc_one _ _ _ _ _ _ _) ?_); intro w6 hr6 ho6; have HUp := Lib.hid (Up.start HV4.out HR4.out HPm.out HP2.out HmB.out HU.out HBu.out hr6 ho6 B4.out.size HC4.out); have B6 := Lib.hid (B4.out.trans ((HBu.out.trans (ho6.below HU.out HBu.out.size)).mono B4.out.size)); clear hr6 ho6))
  clear HV4 HR4 HPm HP2 HmB HU HBu HC4 HRu B4
  go_loopw [10, 12] (fun mx i wr => ∃ (k mb : Nat), k ≤ len0 ∧ mx = .pointer (some ⟨mb, 0, none⟩) ∧ i = .int .i64 (k : Int) ∧ (Hid (Up wr v g u mb w.heap.size k) ∨ Hid (Dn wr v g u mb)) ∧ Hid (Below w.heap.size w wr)) (fun _ i _ => len0 - (intOf i).toNat)
  case atStart => exact ⟨0, m0, Nat.zero_le _, rfl, rfl, .inl HUp, B6⟩
  case round =>
    obtain ⟨k, mb, hk, rfl, rfl, HUD, HBl⟩ := hrel
    clear HUp B6
    have HTr := Lib.hid (HT.out.below HBl.out)
    have HI2r := Lib.hid (HI2.out.below HBl.out)
    rcases HUD with HUp | HDn
    · obtain ⟨P, D, S, V, cs, u1, u2, u3, u4, u5, u6, u7, u8, u9, u10, u11⟩ := HUp.out
      have HV := Lib.hid u1
      have HM := Lib.hid u2
      have HPD := Lib.hid u3
      have HRu := Lib.hid u4
      have HCs := Lib.hid u5
      have HPu := Lib.hid u6
      have HDu := Lib.hid u7
      have HPB := Lib.hid u8
      have HuB := Lib.hid u9
      have HCk := Lib.hid u11
      have HTP := Lib.hid u1.tape
      have HD := Lib.hid (show S.down = false from u1.2.2.2.1)
      have HPl := Lib.hid u1.1
      have HRl := Lib.hid u1.small.2.2.2
      clear u1 u2 u3 u4 u5 u6 u7 u8 u9 u11
      by_cases hlt : k < len0
      · obtain ⟨x, b, off, T, mm, c1, I, p, d, hx, rfl, hb, hr, hBx, _, _⟩ := HC.out.get hlt
        obtain ⟨hx5, _⟩ := HAll.out x (List.mem_of_getElem? hx)
        obtain ⟨ki, hki⟩ : ∃ ki, x.kind = ki := ⟨_, rfl⟩
        rw [hki] at hr
        have HRr := Lib.hid (show wr.rangeAt b (off + 3 * k) (clC ki T mm c1 I p d).toList from fun j v hv => (World.cell?_of_block (a := ⟨b, off + 3 * k + j, none⟩) (HBl.out.block b hb)).trans (hr j v hv))
        have HB := Lib.hid hBx
        have HML := Lib.hid hBx.1
        have hmm : mm ≤ 500 := by rw [← hBx.1]; exact hx5
        have hTf : mm = 0 ∨ ∀ b off, T = some ⟨b, off, none⟩ → b < w.heap.size := (Nat.eq_zero_or_pos mm).imp id (fun hm0 b' off' e => by
          obtain ⟨b2, o2, x2, e2, hlt2, _⟩ := hBx.get (k := 0) (by omega)
          rw [e] at e2
          injection e2 with e2
          injection e2 with e2
          subst e2
          exact hlt2)
        have HTf := Lib.hid hTf
        clear hr hBx hx hx5 hki hb hTf
        by_cases hk0 : ki = 0
        · have i5 : (ki == 0) = true := by rw [hk0]; rfl
          have i6 : (ki != 0) = false := by rw [hk0]; rfl
          clear hk0
          go_wp2_with (first
            | (with_reducible refine wpList_indexK (by with_unfolding_all rfl) (.tmp 55) (.tmp 56) rfl b off len0 cap0 k _ _ rfl rfl rfl hlt rfl ?_)
            | (with_reducible refine wpList_loadK rfl (.tmp 57) rfl b (off + 3 * k) ki T mm c1 I p d rfl HRr.out ?_)
            | ((with_reducible refine wpList_alloc0 39 zero39 rfl rfl ?_); intro gc wa hgc hrc hbc; have HGc := Lib.hid hgc; have HRc := Lib.hid hrc; have HBc := Lib.hid hbc; clear hgc hrc hbc)
            | ((with_reducible refine wpList_store_row Tryd.agg39 rfl (.tmp 13) (.tmp 58) rfl gc (clC ki T mm c1 I p d) rfl rfl 39 cl0 HRc.out (clC_size _ _ _ _ _ _ _) cl0_size (clC_one _ _ _ _ _ _ _) ?_); intro wc hrc hoc; have Bc := Lib.hid (HBc.out.trans (hoc.below HGc.out HBc.out.size)); have HRk := Lib.hid hrc; have q0 : wc.cell? ⟨gc, 0, none⟩ = some (.int .i64 ki) := hrc.cell 0; clear hrc hoc)
            | (go_at_call 18; refine (TP.downs g P wr HTP.out).mono ?_; rintro e1 w1 ⟨rfl, rfl⟩; rw [HD.out]))
          clear q0
          have HVc := Lib.hid (HV.out.below Bc.out)
          have HMc := Lib.hid (HM.out.below Bc.out)
          have HRuc := Lib.hid (HRu.out.below Bc.out HRu.out.lt)
          obtain ⟨At, nt, ct, Ar, nr, cr, hrm, hot, hft, hnr, htx⟩ := HMc.out.cells
          have HOt := Lib.hid hot
          have HFt := Lib.hid hft
          have HNr := Lib.hid hnr
          have HTx := Lib.hid htx
          have HNr2 := Lib.hid (show nr ≤ 1048576 by rw [hnr]; exact HVc.out.small.2.2.2)
          have HDl := Lib.hid HMc.out.2.1
          have KP : Hid (∀ wq, Below wc.heap.size wc wq → Row wq mb 35 #[.int .i64 (V.gen : Int), .slice At nt ct, .slice Ar nr cr]) := Lib.hid (fun wq hb => hrm.below hb hrm.lt)
          clear hrm hot hft hnr htx
          have C0 : Below wc.heap.size wc wc.drew := (Below.refl wc.heap.size wc).drew
          refine wp_region_noPanic ?_
          refine wp_region_held_drew (S := fun w' => Row w' mb 35 #[.int .i64 (V.gen : Int), .slice At nt ct, .slice Ar nr cr]) (by kernel_rfl) (KP.out _ C0) (fun hHeld => ?_)
          refine takeD (i := 0) (some 67) (.pointer (some ⟨mb, 0, none⟩)) rfl rfl (by kernel_rfl) (by kernel_rfl) (by kernel_rfl) (fun _ _ _ h => h) (Or.inl ⟨by rfl, fun _ _ => rfl⟩) hHeld ?_
          simp only [Act.put, List.setIfInBounds_toArray, List.set_cons_zero, List.set_cons_succ]
          refine takeD (i := 1) (some 68) (.pointer (some ⟨mb, 0, none⟩)) rfl rfl (by kernel_rfl) (by kernel_rfl) (by kernel_rfl) (fun _ _ _ h => h) (yields_nil (by rfl) (.tmp 67) rfl _ rfl) hHeld ?_
          simp only [Act.put, List.setIfInBounds_toArray, List.set_cons_zero, List.set_cons_succ]
          refine takeD (i := 2) (some 69) (.pointer (some ⟨mb, 0, none⟩)) rfl rfl (by kernel_rfl) (by kernel_rfl) (by kernel_rfl) (fun _ _ _ h => h) (yields_fldM (by rfl) 35 (.tmp 68) 0 rfl (d := 0) (by decide) (mb) 0 _ rfl rfl) hHeld ?_
          simp only [Act.put, List.setIfInBounds_toArray, List.set_cons_zero, List.set_cons_succ]
          refine takeD (i := 3) (some 70) (.int .i64 (V.gen : Int)) rfl rfl (by kernel_rfl) (by kernel_rfl) (by kernel_rfl) (fun _ _ _ h => h) (yieldsC (by rfl) 3 (.tmp 69) rfl (by decide) (mb) (0) _ rfl (fun _ h => h.cell 0)) hHeld ?_
          simp only [Act.put, List.setIfInBounds_toArray, List.set_cons_zero, List.set_cons_succ]
          refine takeD (i := 4) (some 71) (.pointer (some ⟨mb, 0, none⟩)) rfl rfl (by kernel_rfl) (by kernel_rfl) (by kernel_rfl) (fun _ _ _ h => h) (Or.inl ⟨by rfl, fun _ _ => rfl⟩) hHeld ?_
          simp only [Act.put, List.setIfInBounds_toArray, List.set_cons_zero, List.set_cons_succ]
          refine takeD (i := 5) (some 72) (.pointer (some ⟨mb, 0, none⟩)) rfl rfl (by kernel_rfl) (by kernel_rfl) (by kernel_rfl) (fun _ _ _ h => h) (yields_nil (by rfl) (.tmp 71) rfl _ rfl) hHeld ?_
          simp only [Act.put, List.setIfInBounds_toArray, List.set_cons_zero, List.set_cons_succ]
          refine takeD (i := 6) (some 73) (.pointer (some ⟨mb, 1, none⟩)) rfl rfl (by kernel_rfl) (by kernel_rfl) (by kernel_rfl) (fun _ _ _ h => h) (yields_fldM (by rfl) 35 (.tmp 72) 1 rfl (d := 1) (by decide) (mb) 0 _ rfl rfl) hHeld ?_
          simp only [Act.put, List.setIfInBounds_toArray, List.set_cons_zero, List.set_cons_succ]
          refine takeD (i := 7) (some 74) (.slice At nt ct) rfl rfl (by kernel_rfl) (by kernel_rfl) (by kernel_rfl) (fun _ _ _ h => h) (yieldsC (by rfl) 32 (.tmp 73) rfl (by decide) (mb) (1) _ rfl (fun _ h => h.cell 1)) hHeld ?_
          simp only [Act.put, List.setIfInBounds_toArray, List.set_cons_zero, List.set_cons_succ]
          refine takeD (i := 9) (some 76) (.pointer (some ⟨mb, 0, none⟩)) rfl rfl (by kernel_rfl) (by kernel_rfl) (by kernel_rfl) (fun _ _ _ h => h) (Or.inl ⟨by rfl, fun _ _ => rfl⟩) hHeld ?_
          simp only [Act.put, List.setIfInBounds_toArray, List.set_cons_zero, List.set_cons_succ]
          refine takeD (i := 10) (some 77) (.pointer (some ⟨mb, 0, none⟩)) rfl rfl (by kernel_rfl) (by kernel_rfl) (by kernel_rfl) (fun _ _ _ h => h) (yields_nil (by rfl) (.tmp 76) rfl _ rfl) hHeld ?_
          simp only [Act.put, List.setIfInBounds_toArray, List.set_cons_zero, List.set_cons_succ]
          refine takeD (i := 11) (some 78) (.pointer (some ⟨mb, 2, none⟩)) rfl rfl (by kernel_rfl) (by kernel_rfl) (by kernel_rfl) (fun _ _ _ h => h) (yields_fldM (by rfl) 35 (.tmp 77) 2 rfl (d := 2) (by decide) (mb) 0 _ rfl rfl) hHeld ?_
          simp only [Act.put, List.setIfInBounds_toArray, List.set_cons_zero, List.set_cons_succ]
          refine takeD (i := 12) (some 79) (.slice Ar nr cr) rfl rfl (by kernel_rfl) (by kernel_rfl) (by kernel_rfl) (fun _ _ _ h => h) (yieldsC (by rfl) 33 (.tmp 78) rfl (by decide) (mb) (2) _ rfl (fun _ h => h.cell 2)) hHeld ?_
          simp only [Act.put, List.setIfInBounds_toArray, List.set_cons_zero, List.set_cons_succ]
          refine wpAnyH_ready (rs := [8]) (by kernel_rfl) (by decide) ?_
          refine AllReadyH.cons rfl (fun K' hK => ?_) AllReadyH.nil
          refine step_of rfl (wp_emptyT rfl ?_)
          intro g8 w8 hg8 ho8 hb8
          have C8 : Below wc.heap.size wc w8 := C0.trans hb8
          rw [← hg8] at ho8
          have hge : wc.heap.size ≤ g8 := by rw [hg8]; exact C0.size
          have HO8 := Lib.hid ho8
          have HGe := Lib.hid hge
          clear hg8 ho8 hb8 hge
          refine hK.out _ _ (KP.out _ C8) (fun hHeld1 => ?_)
          clear hK
          (try simp only [Act.put, List.setIfInBounds_toArray])
          refine wpAnyH_ready (rs := [13]) (by kernel_rfl) (by decide) ?_
          refine AllReadyH.cons rfl (fun K' hK => ?_) AllReadyH.nil
          refine step_of rfl (wp_appLL (.tmp 75) (.tmp 79) rfl g8 rfl HO8.out D Ar nr cr V.recs rfl (HTx.out.same (fun b q => C8.block b (HDl.out b q))) (by have := HNr2.out; omega) (fun q => by have := HDl.out g8 q; have := HGe.out; omega) ?_)
          intro A9 c9 w9 hT9 hb9 hw9
          have C9 : Below wc.heap.size wc w9 := C8.trans (hb9.mono HGe.out)
          have HT9 := Lib.hid (hT9.mono (fun b q => q.imp id (fun q => Nat.le_trans HGe.out q)))
          have HW9 := Lib.hid (fun b q => Nat.le_trans HGe.out (hw9 b q))
          clear hT9 hb9 hw9
          refine hK.out _ _ (KP.out _ C9) (fun hHeld2 => ?_)
          clear hK
          (try simp only [Act.put])
          refine takeD (i := 14) (some 81) (.agg #[.int .i64 (V.gen : Int), .slice At nt ct, .slice A9 nr c9]) rfl rfl (by kernel_rfl) (by kernel_rfl) (by kernel_rfl) (fun _ _ _ h => h) (yields_build35 (by rfl) _ _ _ rfl _ _ _ _ _ _ _ rfl rfl rfl) hHeld2 ?_
          simp only [Act.put]
          refine wpAnyH_ready (rs := [15]) (by kernel_rfl) (by decide) ?_
          refine AllReadyH.cons rfl (fun K' hK => ?_) AllReadyH.nil
          refine step_store_row Tryd.agg35 rfl (.tmp 11) (.tmp 81) rfl u _ rfl rfl 35 cs (HRuc.out.below C9 HRuc.out.lt) rfl HCs.out (mc_one _ _ _ _ _ _ _) ?_
          intro w10 hr10 ho10
          have HMid := Lib.hid (Mid.make HVc.out HMc.out HPD.out HRuc.out HPu.out HDu.out HOt.out HFt.out C9 HNr.out HT9.out HW9.out hr10 ho10)
          have HOx := Lib.hid (show Off (· = u) wc w10 from (Off.of_below C9 : Off (· = u) wc w9).trans ⟨ho10.os, ho10.tape, ho10.output, ho10.size, ho10.block⟩ (fun x q => .inl q))
          clear hr10
          refine hK.out _ _ ((KP.out _ C9).only ho10 (fun e => HDu.out (by rw [← e]; exact HMc.out.1))) (fun hHeld3 => ?_)
          clear hK
          clear ho10
          (try simp only [Act.put])
          refine wpAnyH_done (by kernel_rfl) ?_ _
          refine NoPanic.normal ?_
          have hgu : gc ≠ u := by have := HGc.out; have := HRu.out.lt; omega
          have HR10 := Lib.hid (show Row w10 gc 39 (clC ki T mm c1 I p d) from HRk.out.off HOx.out (fun e => hgu e))
          have HBw := Lib.hid ((HBl.out.trans (Bc.out.mono HBl.out.size)).trans (HOx.out.below (B := w.heap.size) (fun x q => by rw [show x = u from q]; exact HuB.out) (Nat.le_trans HBl.out.size Bc.out.size)))
          have d0 : w10.cell? ⟨gc, 0, none⟩ = some (.int .i64 ki) := HR10.out.cell 0
          have d1 : w10.cell? ⟨gc, 1, none⟩ = some (.slice T mm c1) := HR10.out.cell 1
          have HDu2 := Lib.hid (show ∀ b, (b = u ∨ ((D b ∨ wc.heap.size ≤ b) ∧ b < w10.heap.size ∧ b ≠ u)) → w.heap.size ≤ b from fun b q => by
            rcases q with rfl | ⟨q | q, _⟩
            · exact HuB.out
            · exact HPB.out b (.inr q)
            · have := HBl.out.size; have := Bc.out.size; omega)
          obtain ⟨Du, hDu⟩ : ∃ Du : Nat → Prop, (fun b => b = u ∨ ((D b ∨ wc.heap.size ≤ b) ∧ b < w10.heap.size ∧ b ≠ u)) = Du := ⟨_, rfl⟩
          obtain ⟨E1, hE1⟩ : ∃ E1, wc.heap.size = E1 := ⟨_, rfl⟩
          obtain ⟨E2, hE2⟩ : ∃ E2, w10.heap.size = E2 := ⟨_, rfl⟩
          have HDu3 := Lib.hid (show ∀ b, Du b → w.heap.size ≤ b from fun b q => HDu2.out b (by rw [← hDu] at q; exact q))
          have HMd : Hid (Mid w10 v g u mb P D Du S V E1 E2) := Lib.hid (by rw [← hDu, ← hE1, ← hE2]; exact HMid.out)
          have HwE := Lib.hid (show wr.heap.size ≤ w10.heap.size from Nat.le_trans Bc.out.size HOx.out.size)
          have HE1 := Lib.hid (show w.heap.size ≤ E1 by rw [← hE1]; exact Nat.le_trans HBl.out.size Bc.out.size)
          clear hDu hE1 hE2 HMid HDu2 HT9 HW9 HO8 HGe C8 C9 C0 KP HDl HTx HNr HNr2 HOt HFt HRuc HMc HVc
          go_wp2_with fail
          refine (own_any T mm c1 x.b w10 (HB.out.below HBw.out) (by omega)).mono ?_
          unfold S4NewSlice
          rw [HML.out]
          rintro e11 w11 ⟨A11, c11, rfl, hc11, hb11, ho11⟩
          have HM11 := Lib.hid (HMd.out.below hb11)
          have HO11 := Lib.hid ho11
          have HR11 := Lib.hid (HR10.out.below hb11 HR10.out.lt)
          have HB11 := Lib.hid (HBw.out.trans (hb11.mono HBw.out.size))
          have HwE1 := Lib.hid (Nat.le_trans HwE.out hb11.size)
          clear hc11 hb11 ho11 d0 d1
          go_wp2_with fail
          refine (VAddC v g mm c11 A11 x.b P V w11 HM11.out.vt (HT.out.below HB11.out) HO11.out.bs hmm (by omega) (by have := HCk.out; omega)).mono ?_
          rintro e12 w12 ⟨z, rfl, P2, S2, ho12, hg12, hr12⟩
          have HO12 := Lib.hid ho12
          have HG12 := Lib.hid hg12
          have HR12 := Lib.hid hr12
          have HM12 := Lib.hid (HM11.out.two ho12)
          have HC12 := Lib.hid (show Row w12 gc 39 (clC ki T mm c1 I p d) from HR11.out.off ho12 (fun q => by have := HM11.out.Pb gc q; have := HPl.out gc q; have := HGc.out; omega))
          have d1 : w12.cell? ⟨gc, 1, none⟩ = some (.slice T mm c1) := HC12.out.cell 1
          have HBx := Lib.hid ((HB.out.below HB11.out).off0 (F := P) (HTf.out.imp id (fun hT b off e q => by have := hT b off e; have := HPB.out b (.inl q); omega)) ho12)
          have HB12 := Lib.hid (HB11.out.trans (ho12.below (B := w.heap.size) (fun x q => HPB.out x (.inl q)) HB11.out.size))
          clear ho12 hg12 hr12
          go_wp2_with fail
          refine (MAddC u mb mm c1 E1 E2 T x.b D Du V w12 HM12.out HBx.out hmm HRl.out).mono ?_
          rintro e13 w13 ⟨rfl, ho13, Du2, hg13, hd13⟩
          have HO13 := Lib.hid ho13
          have HG13 := Lib.hid hg13
          have HD13 := Lib.hid hd13
          have HWr := Lib.hid (HM11.out.wr HG12.out)
          have HB13 := Lib.hid (HB12.out.trans (ho13.below (B := w.heap.size) (fun x q => by
            rcases q with q | q
            · rw [q]; exact HuB.out
            · have := HE1.out; omega) HB12.out.size))
          clear ho13 hg13 hd13 d1
          rcases HR12.out with ⟨rfl, hv, hcl⟩ | ⟨rfl, hv, ha⟩
          · have HVx := Lib.hid hv
            have HCl := Lib.hid hcl
            have HTx := Lib.hid (hv.tape.off HO13.out HWr.out)
            have HDx := Lib.hid (show S2.down = false from hv.2.2.2.1)
            obtain ⟨Ay, ny, cy, By, ky, dy, hry, hy1, hy2, hy3, hy4⟩ := HD13.out.cells
            clear hy1 hy2 hy3 hy4
            have HRy := Lib.hid hry
            have y0 : w13.cell? ⟨u, 0, none⟩ = some (.int .i64 ((V.add x.b).gen : Int)) := HRy.out.cell 0
            have y1 : w13.cell? ⟨u, 1, none⟩ = some (.slice Ay ny cy) := HRy.out.cell 1
            have y2 : w13.cell? ⟨u, 2, none⟩ = some (.slice By ky dy) := HRy.out.cell 2
            clear hry hv hcl
            go_wp2_with (go_at_call 18; refine (TP.downs g P2 w13 HTx.out).mono ?_; rintro e14 w14 ⟨rfl, rfl⟩; rw [HDx.out])
            go_roundw
            case rel =>
              refine ⟨k + 1, w13.heap.size, by omega, rfl, by go_num, .inl (Lib.hid ?_), Lib.hid (HB13.out.alloc HB13.out.size _)⟩
              exact Mid.up HM11.out HO12.out HG12.out HVx.out HO13.out HG13.out HD13.out HRy.out rfl HPB.out HDu3.out HB11.out.size HO12.out.size (by show V.gen ≤ k + 1; omega) (by have := HCl.out; have := HCk.out; omega)
            case measure => simp [intOf]; omega
          · have HVx := Lib.hid hv
            have HAx := Lib.hid ha
            have HTx := Lib.hid (hv.tape.off HO13.out HWr.out)
            have HDx := Lib.hid (show S2.down = true from hv.2.2.2.1)
            clear hv ha
            go_wp2_with (go_at_call 18; refine (TP.downs g P2 w13 HTx.out).mono ?_; rintro e14 w14 ⟨rfl, rfl⟩; rw [HDx.out])
            go_roundw
            case rel => exact ⟨k + 1, mb, by omega, rfl, by go_num, .inr (Lib.hid (Mid.down HM11.out HO12.out HG12.out HVx.out HAx.out HO13.out HD13.out (.inl ⟨x.b, rfl⟩))), HB13⟩
            case measure => simp [intOf]; omega
        · have i6 : (ki != 0) = true := by simpa using hk0
          by_cases hk1 : ki = 1
          · have i5 : (ki == 0) = false := by rw [hk1]; rfl
            have i7 : (ki != 1) = false := by rw [hk1]; rfl
            clear hk0 hk1
            go_wp2_with (first
              | (with_reducible refine wpList_indexK (by with_unfolding_all rfl) (.tmp 55) (.tmp 56) rfl b off len0 cap0 k _ _ rfl rfl rfl hlt rfl ?_)
              | (with_reducible refine wpList_loadK rfl (.tmp 57) rfl b (off + 3 * k) ki T mm c1 I p d rfl HRr.out ?_)
              | ((with_reducible refine wpList_alloc0 39 zero39 rfl rfl ?_); intro gc wa hgc hrc hbc; have HGc := Lib.hid hgc; have HRc := Lib.hid hrc; have HBc := Lib.hid hbc; clear hgc hrc hbc)
              | ((with_reducible refine wpList_store_row Tryd.agg39 rfl (.tmp 13) (.tmp 58) rfl gc (clC ki T mm c1 I p d) rfl rfl 39 cl0 HRc.out (clC_size _ _ _ _ _ _ _) cl0_size (clC_one _ _ _ _ _ _ _) ?_); intro wc hrc hoc; have Bc := Lib.hid (HBc.out.trans (hoc.below HGc.out HBc.out.size)); have HRk := Lib.hid hrc; have q0 : wc.cell? ⟨gc, 0, none⟩ = some (.int .i64 ki) := hrc.cell 0; clear hrc hoc)
              | (go_at_call 18; refine (TP.downs g P wr HTP.out).mono ?_; rintro e1 w1 ⟨rfl, rfl⟩; rw [HD.out]))
            clear q0
            have HVc := Lib.hid (HV.out.below Bc.out)
            have HMc := Lib.hid (HM.out.below Bc.out)
            have HRuc := Lib.hid (HRu.out.below Bc.out HRu.out.lt)
            obtain ⟨At, nt, ct, Ar, nr, cr, hrm, hot, hft, hnr, htx⟩ := HMc.out.cells
            have HOt := Lib.hid hot
            have HFt := Lib.hid hft
            have HNr := Lib.hid hnr
            have HTx := Lib.hid htx
            have HNr2 := Lib.hid (show nr ≤ 1048576 by rw [hnr]; exact HVc.out.small.2.2.2)
            have HDl := Lib.hid HMc.out.2.1
            have KP : Hid (∀ wq, Below wc.heap.size wc wq → Row wq mb 35 #[.int .i64 (V.gen : Int), .slice At nt ct, .slice Ar nr cr]) := Lib.hid (fun wq hb => hrm.below hb hrm.lt)
            clear hrm hot hft hnr htx
            have C0 : Below wc.heap.size wc wc.drew := (Below.refl wc.heap.size wc).drew
            refine wp_region_noPanic ?_
            refine wp_region_held_drew (S := fun w' => Row w' mb 35 #[.int .i64 (V.gen : Int), .slice At nt ct, .slice Ar nr cr]) (by kernel_rfl) (KP.out _ C0) (fun hHeld => ?_)
            refine takeD (i := 0) (some 67) (.pointer (some ⟨mb, 0, none⟩)) rfl rfl (by kernel_rfl) (by kernel_rfl) (by kernel_rfl) (fun _ _ _ h => h) (Or.inl ⟨by rfl, fun _ _ => rfl⟩) hHeld ?_
            simp only [Act.put, List.setIfInBounds_toArray, List.set_cons_zero, List.set_cons_succ]
            refine takeD (i := 1) (some 68) (.pointer (some ⟨mb, 0, none⟩)) rfl rfl (by kernel_rfl) (by kernel_rfl) (by kernel_rfl) (fun _ _ _ h => h) (yields_nil (by rfl) (.tmp 67) rfl _ rfl) hHeld ?_
            simp only [Act.put, List.setIfInBounds_toArray, List.set_cons_zero, List.set_cons_succ]
            refine takeD (i := 2) (some 69) (.pointer (some ⟨mb, 0, none⟩)) rfl rfl (by kernel_rfl) (by kernel_rfl) (by kernel_rfl) (fun _ _ _ h => h) (yields_fldM (by rfl) 35 (.tmp 68) 0 rfl (d := 0) (by decide) (mb) 0 _ rfl rfl) hHeld ?_
            simp only [Act.put, List.setIfInBounds_toArray, List.set_cons_zero, List.set_cons_succ]
            refine takeD (i := 3) (some 70) (.int .i64 (V.gen : Int)) rfl rfl (by kernel_rfl) (by kernel_rfl) (by kernel_rfl) (fun _ _ _ h => h) (yieldsC (by rfl) 3 (.tmp 69) rfl (by decide) (mb) (0) _ rfl (fun _ h => h.cell 0)) hHeld ?_
            simp only [Act.put, List.setIfInBounds_toArray, List.set_cons_zero, List.set_cons_succ]
            refine takeD (i := 4) (some 71) (.pointer (some ⟨mb, 0, none⟩)) rfl rfl (by kernel_rfl) (by kernel_rfl) (by kernel_rfl) (fun _ _ _ h => h) (Or.inl ⟨by rfl, fun _ _ => rfl⟩) hHeld ?_
            simp only [Act.put, List.setIfInBounds_toArray, List.set_cons_zero, List.set_cons_succ]
            refine takeD (i := 5) (some 72) (.pointer (some ⟨mb, 0, none⟩)) rfl rfl (by kernel_rfl) (by kernel_rfl) (by kernel_rfl) (fun _ _ _ h => h) (yields_nil (by rfl) (.tmp 71) rfl _ rfl) hHeld ?_
            simp only [Act.put, List.setIfInBounds_toArray, List.set_cons_zero, List.set_cons_succ]
            refine takeD (i := 6) (some 73) (.pointer (some ⟨mb, 1, none⟩)) rfl rfl (by kernel_rfl) (by kernel_rfl) (by kernel_rfl) (fun _ _ _ h => h) (yields_fldM (by rfl) 35 (.tmp 72) 1 rfl (d := 1) (by decide) (mb) 0 _ rfl rfl) hHeld ?_
            simp only [Act.put, List.setIfInBounds_toArray, List.set_cons_zero, List.set_cons_succ]
            refine takeD (i := 7) (some 74) (.slice At nt ct) rfl rfl (by kernel_rfl) (by kernel_rfl) (by kernel_rfl) (fun _ _ _ h => h) (yieldsC (by rfl) 32 (.tmp 73) rfl (by decide) (mb) (1) _ rfl (fun _ h => h.cell 1)) hHeld ?_
            simp only [Act.put, List.setIfInBounds_toArray, List.set_cons_zero, List.set_cons_succ]
            refine takeD (i := 9) (some 76) (.pointer (some ⟨mb, 0, none⟩)) rfl rfl (by kernel_rfl) (by kernel_rfl) (by kernel_rfl) (fun _ _ _ h => h) (Or.inl ⟨by rfl, fun _ _ => rfl⟩) hHeld ?_
            simp only [Act.put, List.setIfInBounds_toArray, List.set_cons_zero, List.set_cons_succ]
            refine takeD (i := 10) (some 77) (.pointer (some ⟨mb, 0, none⟩)) rfl rfl (by kernel_rfl) (by kernel_rfl) (by kernel_rfl) (fun _ _ _ h => h) (yields_nil (by rfl) (.tmp 76) rfl _ rfl) hHeld ?_
            simp only [Act.put, List.setIfInBounds_toArray, List.set_cons_zero, List.set_cons_succ]
            refine takeD (i := 11) (some 78) (.pointer (some ⟨mb, 2, none⟩)) rfl rfl (by kernel_rfl) (by kernel_rfl) (by kernel_rfl) (fun _ _ _ h => h) (yields_fldM (by rfl) 35 (.tmp 77) 2 rfl (d := 2) (by decide) (mb) 0 _ rfl rfl) hHeld ?_
            simp only [Act.put, List.setIfInBounds_toArray, List.set_cons_zero, List.set_cons_succ]
            refine takeD (i := 12) (some 79) (.slice Ar nr cr) rfl rfl (by kernel_rfl) (by kernel_rfl) (by kernel_rfl) (fun _ _ _ h => h) (yieldsC (by rfl) 33 (.tmp 78) rfl (by decide) (mb) (2) _ rfl (fun _ h => h.cell 2)) hHeld ?_
            simp only [Act.put, List.setIfInBounds_toArray, List.set_cons_zero, List.set_cons_succ]
            refine wpAnyH_ready (rs := [8]) (by kernel_rfl) (by decide) ?_
            refine AllReadyH.cons rfl (fun K' hK => ?_) AllReadyH.nil
            refine step_of rfl (wp_emptyT rfl ?_)
            intro g8 w8 hg8 ho8 hb8
            have C8 : Below wc.heap.size wc w8 := C0.trans hb8
            rw [← hg8] at ho8
            have hge : wc.heap.size ≤ g8 := by rw [hg8]; exact C0.size
            have HO8 := Lib.hid ho8
            have HGe := Lib.hid hge
            clear hg8 ho8 hb8 hge
            refine hK.out _ _ (KP.out _ C8) (fun hHeld1 => ?_)
            clear hK
            (try simp only [Act.put, List.setIfInBounds_toArray])
            refine wpAnyH_ready (rs := [13]) (by kernel_rfl) (by decide) ?_
            refine AllReadyH.cons rfl (fun K' hK => ?_) AllReadyH.nil
            refine step_of rfl (wp_appLL (.tmp 75) (.tmp 79) rfl g8 rfl HO8.out D Ar nr cr V.recs rfl (HTx.out.same (fun b q => C8.block b (HDl.out b q))) (by have := HNr2.out; omega) (fun q => by have := HDl.out g8 q; have := HGe.out; omega) ?_)
            intro A9 c9 w9 hT9 hb9 hw9
            have C9 : Below wc.heap.size wc w9 := C8.trans (hb9.mono HGe.out)
            have HT9 := Lib.hid (hT9.mono (fun b q => q.imp id (fun q => Nat.le_trans HGe.out q)))
            have HW9 := Lib.hid (fun b q => Nat.le_trans HGe.out (hw9 b q))
            clear hT9 hb9 hw9
            refine hK.out _ _ (KP.out _ C9) (fun hHeld2 => ?_)
            clear hK
            (try simp only [Act.put])
            refine takeD (i := 14) (some 81) (.agg #[.int .i64 (V.gen : Int), .slice At nt ct, .slice A9 nr c9]) rfl rfl (by kernel_rfl) (by kernel_rfl) (by kernel_rfl) (fun _ _ _ h => h) (yields_build35 (by rfl) _ _ _ rfl _ _ _ _ _ _ _ rfl rfl rfl) hHeld2 ?_
            simp only [Act.put]
            refine wpAnyH_ready (rs := [15]) (by kernel_rfl) (by decide) ?_
            refine AllReadyH.cons rfl (fun K' hK => ?_) AllReadyH.nil
            refine step_store_row Tryd.agg35 rfl (.tmp 11) (.tmp 81) rfl u _ rfl rfl 35 cs (HRuc.out.below C9 HRuc.out.lt) rfl HCs.out (mc_one _ _ _ _ _ _ _) ?_
            intro w10 hr10 ho10
            have HMid := Lib.hid (Mid.make HVc.out HMc.out HPD.out HRuc.out HPu.out HDu.out HOt.out HFt.out C9 HNr.out HT9.out HW9.out hr10 ho10)
            have HOx := Lib.hid (show Off (· = u) wc w10 from (Off.of_below C9 : Off (· = u) wc w9).trans ⟨ho10.os, ho10.tape, ho10.output, ho10.size, ho10.block⟩ (fun x q => .inl q))
            clear hr10
            refine hK.out _ _ ((KP.out _ C9).only ho10 (fun e => HDu.out (by rw [← e]; exact HMc.out.1))) (fun hHeld3 => ?_)
            clear hK
            clear ho10
            (try simp only [Act.put])
            refine wpAnyH_done (by kernel_rfl) ?_ _
            refine NoPanic.normal ?_
            have hgu : gc ≠ u := by have := HGc.out; have := HRu.out.lt; omega
            have HR10 := Lib.hid (show Row w10 gc 39 (clC ki T mm c1 I p d) from HRk.out.off HOx.out (fun e => hgu e))
            have HBw := Lib.hid ((HBl.out.trans (Bc.out.mono HBl.out.size)).trans (HOx.out.below (B := w.heap.size) (fun x q => by rw [show x = u from q]; exact HuB.out) (Nat.le_trans HBl.out.size Bc.out.size)))
            have d0 : w10.cell? ⟨gc, 0, none⟩ = some (.int .i64 ki) := HR10.out.cell 0
            have d1 : w10.cell? ⟨gc, 1, none⟩ = some (.slice T mm c1) := HR10.out.cell 1
            have HDu2 := Lib.hid (show ∀ b, (b = u ∨ ((D b ∨ wc.heap.size ≤ b) ∧ b < w10.heap.size ∧ b ≠ u)) → w.heap.size ≤ b from fun b q => by
              rcases q with rfl | ⟨q | q, _⟩
              · exact HuB.out
              · exact HPB.out b (.inr q)
              · have := HBl.out.size; have := Bc.out.size; omega)
            obtain ⟨Du, hDu⟩ : ∃ Du : Nat → Prop, (fun b => b = u ∨ ((D b ∨ wc.heap.size ≤ b) ∧ b < w10.heap.size ∧ b ≠ u)) = Du := ⟨_, rfl⟩
            obtain ⟨E1, hE1⟩ : ∃ E1, wc.heap.size = E1 := ⟨_, rfl⟩
            obtain ⟨E2, hE2⟩ : ∃ E2, w10.heap.size = E2 := ⟨_, rfl⟩
            have HDu3 := Lib.hid (show ∀ b, Du b → w.heap.size ≤ b from fun b q => HDu2.out b (by rw [← hDu] at q; exact q))
            have HMd : Hid (Mid w10 v g u mb P D Du S V E1 E2) := Lib.hid (by rw [← hDu, ← hE1, ← hE2]; exact HMid.out)
            have HwE := Lib.hid (show wr.heap.size ≤ w10.heap.size from Nat.le_trans Bc.out.size HOx.out.size)
            have HE1 := Lib.hid (show w.heap.size ≤ E1 by rw [← hE1]; exact Nat.le_trans HBl.out.size Bc.out.size)
            clear hDu hE1 hE2 HMid HDu2 HT9 HW9 HO8 HGe C8 C9 C0 KP HDl HTx HNr HNr2 HOt HFt HRuc HMc HVc
            go_wp2_with fail
            refine (own_any T mm c1 x.b w10 (HB.out.below HBw.out) (by omega)).mono ?_
            unfold S4NewSlice
            rw [HML.out]
            rintro e11 w11 ⟨A11, c11, rfl, hc11, hb11, ho11⟩
            have HM11 := Lib.hid (HMd.out.below hb11)
            have HO11 := Lib.hid ho11
            have HR11 := Lib.hid (HR10.out.below hb11 HR10.out.lt)
            have HB11 := Lib.hid (HBw.out.trans (hb11.mono HBw.out.size))
            have HwE1 := Lib.hid (Nat.le_trans HwE.out hb11.size)
            clear hc11 hb11 ho11 d0 d1
            go_wp2_with fail
            refine (VSaveC v g mm c11 A11 x.b P V w11 HM11.out.vt (HT.out.below HB11.out) HO11.out.bs hmm (by omega)).mono ?_
            rintro e12 w12 ⟨z, rfl, P2, S2, ho12, hg12, hr12⟩
            have HO12 := Lib.hid ho12
            have HG12 := Lib.hid hg12
            have HR12 := Lib.hid hr12
            have HM12 := Lib.hid (HM11.out.two ho12)
            have HC12 := Lib.hid (show Row w12 gc 39 (clC ki T mm c1 I p d) from HR11.out.off ho12 (fun q => by have := HM11.out.Pb gc q; have := HPl.out gc q; have := HGc.out; omega))
            have d1 : w12.cell? ⟨gc, 1, none⟩ = some (.slice T mm c1) := HC12.out.cell 1
            have HBx := Lib.hid ((HB.out.below HB11.out).off0 (F := P) (HTf.out.imp id (fun hT b off e q => by have := hT b off e; have := HPB.out b (.inl q); omega)) ho12)
            have HB12 := Lib.hid (HB11.out.trans (ho12.below (B := w.heap.size) (fun x q => HPB.out x (.inl q)) HB11.out.size))
            clear ho12 hg12 hr12
            go_wp2_with fail
            refine (MSaveC u mb mm c1 E1 E2 T x.b D Du V w12 HM12.out HBx.out hmm (by omega) (HTf.out.imp id (fun hT b off e q => by have := hT b off e; have := HuB.out; omega))).mono ?_
            rintro e13 w13 ⟨rfl, ho13, Du2, hg13, hd13⟩
            have HO13 := Lib.hid ho13
            have HG13 := Lib.hid hg13
            have HD13 := Lib.hid hd13
            have HWr := Lib.hid (HM11.out.wr HG12.out)
            have HB13 := Lib.hid (HB12.out.trans (ho13.below (B := w.heap.size) (fun x q => by
              rcases q with q | q
              · rw [q]; exact HuB.out
              · have := HE1.out; omega) HB12.out.size))
            clear ho13 hg13 hd13 d1
            rcases HR12.out with ⟨rfl, hv, hcl⟩ | ⟨rfl, hv, ha⟩
            · have HVx := Lib.hid hv
              have HCl := Lib.hid hcl
              have HTx := Lib.hid (hv.tape.off HO13.out HWr.out)
              have HDx := Lib.hid (show S2.down = false from hv.2.2.2.1)
              obtain ⟨Ay, ny, cy, By, ky, dy, hry, hy1, hy2, hy3, hy4⟩ := HD13.out.cells
              clear hy1 hy2 hy3 hy4
              have HRy := Lib.hid hry
              have y0 : w13.cell? ⟨u, 0, none⟩ = some (.int .i64 ((V.save x.b).gen : Int)) := HRy.out.cell 0
              have y1 : w13.cell? ⟨u, 1, none⟩ = some (.slice Ay ny cy) := HRy.out.cell 1
              have y2 : w13.cell? ⟨u, 2, none⟩ = some (.slice By ky dy) := HRy.out.cell 2
              clear hry hv hcl
              go_wp2_with (go_at_call 18; refine (TP.downs g P2 w13 HTx.out).mono ?_; rintro e14 w14 ⟨rfl, rfl⟩; rw [HDx.out])
              go_roundw
              case rel =>
                refine ⟨k + 1, w13.heap.size, by omega, rfl, by go_num, .inl (Lib.hid ?_), Lib.hid (HB13.out.alloc HB13.out.size _)⟩
                exact Mid.up HM11.out HO12.out HG12.out HVx.out HO13.out HG13.out HD13.out HRy.out rfl HPB.out HDu3.out HB11.out.size HO12.out.size (by show V.gen + 1 ≤ k + 1; omega) (by have := HCl.out; have := HCk.out; omega)
              case measure => simp [intOf]; omega
            · have HVx := Lib.hid hv
              have HAx := Lib.hid ha
              have HTx := Lib.hid (hv.tape.off HO13.out HWr.out)
              have HDx := Lib.hid (show S2.down = true from hv.2.2.2.1)
              clear hv ha
              go_wp2_with (go_at_call 18; refine (TP.downs g P2 w13 HTx.out).mono ?_; rintro e14 w14 ⟨rfl, rfl⟩; rw [HDx.out])
              go_roundw
              case rel => exact ⟨k + 1, mb, by omega, rfl, by go_num, .inr (Lib.hid (Mid.down HM11.out HO12.out HG12.out HVx.out HAx.out HO13.out HD13.out (.inr ⟨x.b, rfl⟩))), HB13⟩
              case measure => simp [intOf]; omega
          · have i7 : (ki != 1) = true := by simpa using hk1
            clear hk0 hk1
            go_wp2_with (first
              | (with_reducible refine wpList_indexK (by with_unfolding_all rfl) (.tmp 55) (.tmp 56) rfl b off len0 cap0 k _ _ rfl rfl rfl hlt rfl ?_)
              | (with_reducible refine wpList_loadK rfl (.tmp 57) rfl b (off + 3 * k) ki T mm c1 I p d rfl HRr.out ?_)
              | ((with_reducible refine wpList_alloc0 39 zero39 rfl rfl ?_); intro gc wa hgc hrc hbc; have HGc := Lib.hid hgc; have HRc := Lib.hid hrc; have HBc := Lib.hid hbc; clear hgc hrc hbc)
              | ((with_reducible refine wpList_store_row Tryd.agg39 rfl (.tmp 13) (.tmp 58) rfl gc (clC ki T mm c1 I p d) rfl rfl 39 cl0 HRc.out (clC_size _ _ _ _ _ _ _) cl0_size (clC_one _ _ _ _ _ _ _) ?_); intro wc hrc hoc; have Bc := Lib.hid (HBc.out.trans (hoc.below HGc.out HBc.out.size)); have HRk := Lib.hid hrc; have q0 : wc.cell? ⟨gc, 0, none⟩ = some (.int .i64 ki) := hrc.cell 0; clear hrc hoc)
              | (go_at_call 18; refine (TP.downs g P wr HTP.out).mono ?_; rintro e1 w1 ⟨rfl, rfl⟩; rw [HD.out]))
            go_roundw
            case rel => exact ⟨k + 1, mb, by omega, rfl, by go_num, .inl (Lib.hid ((HUp.out.below Bc.out).mono (by omega))), Lib.hid (HBl.out.trans (Bc.out.mono HBl.out.size))⟩
            case measure => simp [intOf]; omega
      · obtain rfl : k = len0 := by omega
        obtain ⟨n, hH⟩ : ∃ n, Has (S.crash L2).cont V n := ⟨_, Up.crash HV.out L2⟩
        have HH := Lib.hid hH
        have HOk := Lib.hid (show S.ok 0 from HV.out.2.2.1)
        clear hH
        go_wp2_with (first
          | (go_at_call 18; refine (TP.downs g P wr HTP.out).mono ?_; rintro e1 w1 ⟨rfl, rfl⟩; rw [HD.out])
          | ((with_reducible refine wpList_copyI rfl (.tmp 144) (.tmp 145) rfl rfl a2 len2 cap2 L2 rfl HI2r.out (by omega) ?_); intro A5 c5 w5 hI5 hb5; have HI5 := Lib.hid hI5; have B5 := Lib.hid hb5; clear hI5 hb5))
        refine (VCrash (S := S) g len2 c5 0 A5 L2 P w5 (HTP.out.below B5.out) HOk.out (by omega) HI5.out (HTr.out.below B5.out)).mono ?_
        rintro e6 w6 ⟨g6, P6, rfl, hP6, ht6, hb6⟩
        have HP6 := Lib.hid hP6
        have HT6 := Lib.hid ht6
        have B6 := Lib.hid (B5.out.trans (hb6.mono B5.out.size))
        clear hP6 ht6 hb6
        go_wp2_with fail
        refine (VOpenCr (S := S) g6 n 0 L2 P6 V w6 HT6.out HOk.out (HTr.out.below B6.out) HH.out).mono ?_
        rintro e7 w7 ⟨vc, rfl, ho7, P7, S7, hg7, hv7⟩
        have HV7 := Lib.hid hv7
        have B7 := Lib.hid (B6.out.trans (ho7.below (B := wr.heap.size) (fun x q => by have := HP6.out x q; have := B5.out.size; omega) B6.out.size))
        clear ho7 hg7 hv7
        go_wp2_with fail
        refine (VSame vc g6 mb P7 D V w7 HV7.out (HM.out.below B7.out)).mono ?_
        rintro e9 w9 ⟨rfl, hb9⟩
        have B9 := Lib.hid (B7.out.trans (hb9.mono B7.out.size))
        clear hb9
        go_wp2_with (go_at_call 11; refine (awake_any w9 (HTr.out.below B9.out)).mono ?_; rintro e10 w10 ⟨rfl, hb10⟩; have B10 := Lib.hid (B9.out.trans (hb10.mono B9.out.size)); clear hb10)
        go_ret
        exact ⟨rfl, HBl.out.trans (B10.out.mono HBl.out.size)⟩
    · obtain ⟨P, D, Du, S, V, W, u1, u2, u3, u4, u5⟩ := HDn.out
      obtain ⟨n, hH⟩ := u2 L2
      have HV := Lib.hid u1
      have HM := Lib.hid u3
      have HMu := Lib.hid u4
      have HW := Lib.hid u5
      have HTP := Lib.hid u1.tape
      have HD := Lib.hid (show S.down = true from u1.2.2.2.1)
      have HOk := Lib.hid (show S.ok 1000000 from u1.2.2.1)
      clear u1 u2 u3 u4 u5
      rcases hH with hH | hH
      · have HH := Lib.hid hH
        clear hH
        by_cases hlt : k < len0
        · go_wp2_with (first
            | (go_at_call 18; refine (TP.downs g P wr HTP.out).mono ?_; rintro e1 w1 ⟨rfl, rfl⟩; rw [HD.out])
            | (go_at_call 19; refine (VDAdd v g P none 0 0 wr HV.out).mono ?_; rintro e2 w2 ⟨rfl, rfl⟩)
            | (go_at_call 24; refine (VDGen v g P wr HV.out).mono ?_; rintro e3 w3 ⟨rfl, rfl⟩)
            | (go_at_call 25; refine (VDRecords v g P wr HV.out).mono ?_; rintro e4 w4 ⟨A4, c4, rfl, hb4⟩; have B4 := Lib.hid hb4; clear hb4)
            | ((with_reducible refine wpList_copyI rfl (.tmp 144) (.tmp 145) rfl rfl a2 len2 cap2 L2 rfl (HI2r.out.below B4.out) (by omega) ?_); intro A5 c5 w5 hI5 hb5; have HI5 := Lib.hid hI5; have B5 := Lib.hid (B4.out.trans (hb5.mono B4.out.size)); clear hI5 hb5))
          refine (VCrash (S := S) g len2 c5 1000000 A5 L2 P w5 (HTP.out.below B5.out) HOk.out (by omega) HI5.out (HTr.out.below B5.out)).mono ?_
          rintro e6 w6 ⟨g6, P6, rfl, hP6, ht6, hb6⟩
          have HP6 := Lib.hid hP6
          have HT6 := Lib.hid ht6
          have B6 := Lib.hid (B5.out.trans (hb6.mono B5.out.size))
          clear hP6 ht6 hb6
          go_wp2_with fail
          refine (VOpenCr (S := S) g6 n 1000000 L2 P6 V w6 HT6.out HOk.out (HTr.out.below B6.out) HH.out).mono ?_
          rintro e7 w7 ⟨vc, rfl, ho7, P7, S7, hg7, hv7⟩
          have HV7 := Lib.hid hv7
          have B7 := Lib.hid (B6.out.trans (ho7.below (B := wr.heap.size) (fun x q => by have := HP6.out x q; have := B5.out.size; omega) B6.out.size))
          clear ho7 hg7 hv7
          go_wp2_with fail
          refine (VSame vc g6 mb P7 D V w7 HV7.out (HM.out.below B7.out)).mono ?_
          rintro e9 w9 ⟨rfl, hb9⟩
          have B9 := Lib.hid (B7.out.trans (hb9.mono B7.out.size))
          clear hb9
          go_wp2_with (go_at_call 11; refine (awake_any w9 (HTr.out.below B9.out)).mono ?_; rintro e10 w10 ⟨rfl, hb10⟩; have B10 := Lib.hid (B9.out.trans (hb10.mono B9.out.size)); clear hb10)
          go_ret
          exact ⟨rfl, HBl.out.trans (B10.out.mono HBl.out.size)⟩
        · obtain rfl : k = len0 := by omega
          go_wp2_with (first
            | (go_at_call 18; refine (TP.downs g P wr HTP.out).mono ?_; rintro e1 w1 ⟨rfl, rfl⟩; rw [HD.out])
            | (go_at_call 19; refine (VDAdd v g P none 0 0 wr HV.out).mono ?_; rintro e2 w2 ⟨rfl, rfl⟩)
            | (go_at_call 24; refine (VDGen v g P wr HV.out).mono ?_; rintro e3 w3 ⟨rfl, rfl⟩)
            | (go_at_call 25; refine (VDRecords v g P wr HV.out).mono ?_; rintro e4 w4 ⟨A4, c4, rfl, hb4⟩; have B4 := Lib.hid hb4; clear hb4)
            | ((with_reducible refine wpList_copyI rfl (.tmp 144) (.tmp 145) rfl rfl a2 len2 cap2 L2 rfl (HI2r.out.below B4.out) (by omega) ?_); intro A5 c5 w5 hI5 hb5; have HI5 := Lib.hid hI5; have B5 := Lib.hid (B4.out.trans (hb5.mono B4.out.size)); clear hI5 hb5))
          refine (VCrash (S := S) g len2 c5 1000000 A5 L2 P w5 (HTP.out.below B5.out) HOk.out (by omega) HI5.out (HTr.out.below B5.out)).mono ?_
          rintro e6 w6 ⟨g6, P6, rfl, hP6, ht6, hb6⟩
          have HP6 := Lib.hid hP6
          have HT6 := Lib.hid ht6
          have B6 := Lib.hid (B5.out.trans (hb6.mono B5.out.size))
          clear hP6 ht6 hb6
          go_wp2_with fail
          refine (VOpenCr (S := S) g6 n 1000000 L2 P6 V w6 HT6.out HOk.out (HTr.out.below B6.out) HH.out).mono ?_
          rintro e7 w7 ⟨vc, rfl, ho7, P7, S7, hg7, hv7⟩
          have HV7 := Lib.hid hv7
          have B7 := Lib.hid (B6.out.trans (ho7.below (B := wr.heap.size) (fun x q => by have := HP6.out x q; have := B5.out.size; omega) B6.out.size))
          clear ho7 hg7 hv7
          go_wp2_with fail
          refine (VSame vc g6 mb P7 D V w7 HV7.out (HM.out.below B7.out)).mono ?_
          rintro e9 w9 ⟨rfl, hb9⟩
          have B9 := Lib.hid (B7.out.trans (hb9.mono B7.out.size))
          clear hb9
          go_wp2_with (go_at_call 11; refine (awake_any w9 (HTr.out.below B9.out)).mono ?_; rintro e10 w10 ⟨rfl, hb10⟩; have B10 := Lib.hid (B9.out.trans (hb10.mono B9.out.size)); clear hb10)
          go_ret
          exact ⟨rfl, HBl.out.trans (B10.out.mono HBl.out.size)⟩
      · have HH := Lib.hid hH
        clear hH
        by_cases hlt : k < len0
        · go_wp2_with (first
            | (go_at_call 18; refine (TP.downs g P wr HTP.out).mono ?_; rintro e1 w1 ⟨rfl, rfl⟩; rw [HD.out])
            | (go_at_call 19; refine (VDAdd v g P none 0 0 wr HV.out).mono ?_; rintro e2 w2 ⟨rfl, rfl⟩)
            | (go_at_call 24; refine (VDGen v g P wr HV.out).mono ?_; rintro e3 w3 ⟨rfl, rfl⟩)
            | (go_at_call 25; refine (VDRecords v g P wr HV.out).mono ?_; rintro e4 w4 ⟨A4, c4, rfl, hb4⟩; have B4 := Lib.hid hb4; clear hb4)
            | ((with_reducible refine wpList_copyI rfl (.tmp 144) (.tmp 145) rfl rfl a2 len2 cap2 L2 rfl (HI2r.out.below B4.out) (by omega) ?_); intro A5 c5 w5 hI5 hb5; have HI5 := Lib.hid hI5; have B5 := Lib.hid (B4.out.trans (hb5.mono B4.out.size)); clear hI5 hb5))
          refine (VCrash (S := S) g len2 c5 1000000 A5 L2 P w5 (HTP.out.below B5.out) HOk.out (by omega) HI5.out (HTr.out.below B5.out)).mono ?_
          rintro e6 w6 ⟨g6, P6, rfl, hP6, ht6, hb6⟩
          have HP6 := Lib.hid hP6
          have HT6 := Lib.hid ht6
          have B6 := Lib.hid (B5.out.trans (hb6.mono B5.out.size))
          clear hP6 ht6 hb6
          go_wp2_with fail
          refine (VOpenCr (S := S) g6 n 1000000 L2 P6 W w6 HT6.out HOk.out (HTr.out.below B6.out) HH.out).mono ?_
          rintro e7 w7 ⟨vc, rfl, ho7, P7, S7, hg7, hv7⟩
          have HV7 := Lib.hid hv7
          have B7 := Lib.hid (B6.out.trans (ho7.below (B := wr.heap.size) (fun x q => by have := HP6.out x q; have := B5.out.size; omega) B6.out.size))
          clear ho7 hg7 hv7
          go_wp2_with fail
          refine (VNoStep vc g6 mb P7 D W V w7 HV7.out (HM.out.below B7.out) HW.out).mono ?_
          rintro e8 w8 ⟨rfl, hb8⟩
          have HV8 := Lib.hid (HV7.out.below hb8)
          have B8 := Lib.hid (B7.out.trans (hb8.mono B7.out.size))
          clear hb8
          go_wp2_with (go_at_call 18; refine (TP.downs g P w8 (HTP.out.below B8.out)).mono ?_; rintro e1 w1 ⟨rfl, rfl⟩; rw [HD.out])
          refine (VSame vc g6 u P7 Du W w8 HV8.out (HMu.out.below B8.out)).mono ?_
          rintro e9 w9 ⟨rfl, hb9⟩
          have B9 := Lib.hid (B8.out.trans (hb9.mono B8.out.size))
          clear hb9
          go_wp2_with (go_at_call 11; refine (awake_any w9 (HTr.out.below B9.out)).mono ?_; rintro e10 w10 ⟨rfl, hb10⟩; have B10 := Lib.hid (B9.out.trans (hb10.mono B9.out.size)); clear hb10)
          go_ret
          exact ⟨rfl, HBl.out.trans (B10.out.mono HBl.out.size)⟩
        · obtain rfl : k = len0 := by omega
          go_wp2_with (first
            | (go_at_call 18; refine (TP.downs g P wr HTP.out).mono ?_; rintro e1 w1 ⟨rfl, rfl⟩; rw [HD.out])
            | (go_at_call 19; refine (VDAdd v g P none 0 0 wr HV.out).mono ?_; rintro e2 w2 ⟨rfl, rfl⟩)
            | (go_at_call 24; refine (VDGen v g P wr HV.out).mono ?_; rintro e3 w3 ⟨rfl, rfl⟩)
            | (go_at_call 25; refine (VDRecords v g P wr HV.out).mono ?_; rintro e4 w4 ⟨A4, c4, rfl, hb4⟩; have B4 := Lib.hid hb4; clear hb4)
            | ((with_reducible refine wpList_copyI rfl (.tmp 144) (.tmp 145) rfl rfl a2 len2 cap2 L2 rfl (HI2r.out.below B4.out) (by omega) ?_); intro A5 c5 w5 hI5 hb5; have HI5 := Lib.hid hI5; have B5 := Lib.hid (B4.out.trans (hb5.mono B4.out.size)); clear hI5 hb5))
          refine (VCrash (S := S) g len2 c5 1000000 A5 L2 P w5 (HTP.out.below B5.out) HOk.out (by omega) HI5.out (HTr.out.below B5.out)).mono ?_
          rintro e6 w6 ⟨g6, P6, rfl, hP6, ht6, hb6⟩
          have HP6 := Lib.hid hP6
          have HT6 := Lib.hid ht6
          have B6 := Lib.hid (B5.out.trans (hb6.mono B5.out.size))
          clear hP6 ht6 hb6
          go_wp2_with fail
          refine (VOpenCr (S := S) g6 n 1000000 L2 P6 W w6 HT6.out HOk.out (HTr.out.below B6.out) HH.out).mono ?_
          rintro e7 w7 ⟨vc, rfl, ho7, P7, S7, hg7, hv7⟩
          have HV7 := Lib.hid hv7
          have B7 := Lib.hid (B6.out.trans (ho7.below (B := wr.heap.size) (fun x q => by have := HP6.out x q; have := B5.out.size; omega) B6.out.size))
          clear ho7 hg7 hv7
          go_wp2_with fail
          refine (VNoStep vc g6 mb P7 D W V w7 HV7.out (HM.out.below B7.out) HW.out).mono ?_
          rintro e8 w8 ⟨rfl, hb8⟩
          have HV8 := Lib.hid (HV7.out.below hb8)
          have B8 := Lib.hid (B7.out.trans (hb8.mono B7.out.size))
          clear hb8
          go_wp2_with (go_at_call 18; refine (TP.downs g P w8 (HTP.out.below B8.out)).mono ?_; rintro e1 w1 ⟨rfl, rfl⟩; rw [HD.out])
          refine (VSame vc g6 u P7 Du W w8 HV8.out (HMu.out.below B8.out)).mono ?_
          rintro e9 w9 ⟨rfl, hb9⟩
          have B9 := Lib.hid (B8.out.trans (hb9.mono B8.out.size))
          clear hb9
          go_wp2_with (go_at_call 11; refine (awake_any w9 (HTr.out.below B9.out)).mono ?_; rintro e10 w10 ⟨rfl, hb10⟩; have B10 := Lib.hid (B9.out.trans (hb10.mono B9.out.size)); clear hb10)
          go_ret
          exact ⟨rfl, HBl.out.trans (B10.out.mono HBl.out.size)⟩
theorem walk (w : World) (a0 : Option Addr) (len0 cap0 : Nat) (L0 : List Cl) (w0 : Cls w a0 len0 L0) (a1 : Int) (w1 : (Lit.int .i64 a1).wf = true) (a2 : Option Addr) (len2 cap2 : Nat) (L2 : List Int) (w2 : Is w a2 len2 L2) (hT : Tab 2 w) :
    Calls Tryd.prog 4 #[.slice a0 len0 cap0, .int .i64 a1, .slice a2 len2 cap2] w fun e w' => e = .returned (.bool true) ∧ Below w.heap.size w w' := by
  cases hq : longC L0 with
  | true => exact walk_no w a0 len0 cap0 L0 w0 a1 a2 len2 cap2 (.inl hq) hT
  | false =>
    by_cases h2 : 10 < len2
    · exact walk_no w a0 len0 cap0 L0 w0 a1 a2 len2 cap2 (.inr (.inl ⟨hq, h2⟩)) hT
    by_cases h1 : a1 < 0
    · exact walk_no w a0 len0 cap0 L0 w0 a1 a2 len2 cap2 (.inr (.inr ⟨hq, by omega, h1⟩)) hT
    exact walk_ok w a0 len0 cap0 L0 w0 a1 (by have := bounds_i64 w1; omega) a2 len2 cap2 L2 w2 ⟨hq, by omega, by omega⟩ hT

set_option maxRecDepth 100000 in
theorem lifted (os : Os) (started : os.Started) (H : Type) (enc : TypeId × Value → H) :
    ReturnsInHanded {} Tryd.checked os 4 .any (fun w args => (Rows.vaultCrashesSpec.pre enc Tryd.prog Tryd.f4 Rows.vaultCrashesRow.domain false w args ∧ laidMetH Tryd.prog lay1 w) ∧ sizedMet enc Tryd.prog Tryd.f4 (OpenSpec.ofChange Rows.vaultCrashesSpec) false w args)
      (Rows.vaultCrashesSpec.post enc Tryd.prog Tryd.f4 false true false false) := by
  refine returnsInHanded_of_change_and (C := Tryd.checked) (X := fun w _ => laidMetH Tryd.prog lay1 w) (fun _ _ _ hh h => h.of_heap hh) own started (by kernel_rfl) Tryd.func4
    (ChangeSpec.witness_shaped (enc := enc) (C := Tryd.checked) (os := os) (X := fun w _ => laidMetH Tryd.prog lay1 w) false (World.laidAll Tryd.prog os lay1) #[.slice none 0 0, .int .i64 0, .slice none 0 0] 8 rfl (World.shaped_of_ZipB (by kernel_rfl) (by kernel_rfl)) (by kernel_rfl) (by kernel_rfl) (by kernel_rfl) (met1 os _)) ?_
  intro W base args ds gs before hval0 hW hcnd hsz0 hL _
  have hval : ∀ (j : Nat) t v, Tryd.f4.params[j]? = some t → args[j]? = some v → Value.okWide Tryd.prog W .any base t v := hval0
  have hW' := hW
  obtain ⟨p, q, hA0, hV, rfl, hfz, hnd⟩ := hW
  have hA : DataW.TrodAll enc Tryd.prog W 0 (fun _ => true) true Tryd.f4.params.toList args.toList ds p := hA0
  have hsz : (DataW.weightsEach Tryd.prog (Tryd.f4.params.toList ++ Rows.vaultCrashesSpec.plain.varTypes Tryd.prog) (ds ++ gs)).all (· ≤ reachBytes) = true := hsz0
  rw [Tryd.params4] at hA hval hsz
  obtain ⟨v0, vs0, d0, ds0, p0, q0, hargs, rfl, rfl, h0, r0⟩ := trodAll_cons hA
  obtain ⟨v1, vs1, d1, ds1, p1, q1, rfl, rfl, rfl, h1, r1⟩ := trodAll_cons r0
  obtain ⟨v2, vs2, d2, ds2, p2, q2, rfl, rfl, rfl, h2, r2⟩ := trodAll_cons r1
  obtain ⟨rfl, rfl, rfl⟩ := trodAll_nil r2
  obtain rfl : args = #[v0, v1, v2] := by cases args; simp_all
  obtain ⟨rfl, rfl⟩ := trodVars_none hV
  have k0 := h0
  have lt0 : ∀ x ∈ p0, x.block < W.heap.size := by obtain ⟨m, hm⟩ := k0; exact DataW.trod_lt m _ _ _ hm
  obtain ⟨a0, len0, cap0, L0, rfl, w0⟩ := open_cls (hval 0 22 v0 rfl rfl) h0
  obtain ⟨a1, rfl, rfl, rfl, w1⟩ := open_int Tryd.underlying3 (hval 1 3 v1 rfl rfl) h1
  have k2 := h2
  have lt2 : ∀ x ∈ p2, x.block < W.heap.size := by obtain ⟨m, hm⟩ := k2; exact DataW.trod_lt m _ _ _ hm
  obtain ⟨a2, len2, cap2, L2, rfl, w2⟩ := open_is (hval 2 37 v2 rfl rfl) h2
  have hTab := of_lay1 hL
  clear hA0 hval0
  refine (walk W a0 len0 cap0 L0 w0 a1 w1 a2 len2 cap2 L2 w2 hTab).mono fun e W' ⟨he, bel⟩ => ?_
  subst he
  exact ⟨_, rfl, _, _, _, [], _, [], hW', trodAll_mk1 (shut_bool Tryd.underlying4 _), (trodAll_cons_mk (Below.trod laidOut (by kernel_rfl) (of_decide_eq_true (by kernel_rfl)) k0 bel lt0) (trodAll_cons_mk (shut_int Tryd.underlying3 w1) (trodAll_cons_mk (Below.trod laidOut (by kernel_rfl) (of_decide_eq_true (by kernel_rfl)) k2 bel lt2) trodAll_mk0))), rfl, bel.frame _, fun h => by cases h⟩
theorem over : Rows.vaultCrashesRow.holds Tryd.pinned (OpenSpec.ofChange Rows.vaultCrashesSpec) :=
  OpenClaim.holds_of_wide 4 Tryd.f4 rfl rfl rfl rfl rfl rfl rfl ⟨rfl, rfl, rfl, rfl, rfl⟩ rfl rfl rfl rfl rfl (by kernel_rfl) Tryd.func4 (by kernel_rfl)
    (of_decide_eq_true (by kernel_rfl)) (by unfold Func.isWrapper; first | (rw [if_pos (by decide +kernel)]; kernel_rfl) | (rw [if_neg (by decide +kernel)]; exact ⟨rfl, rfl⟩))
    (fun os started H enc _ => lifted os started H enc)
theorem vaultCrashes_holds : Rows.VaultCrashesCardSaid :=
  Claim7.holds_tied_plain_at .later [] [.data] true (true, "3918f1ddf02261ad0a93f38998c4f98da4da0b9053f84aceed042060bea0f41d") false
    over (fun _ h => by cases h) (by kernel_rfl) (fun _ h => by cases h) vaultCrashes_row_tie rfl ⟨rfl, rfl⟩ (by kernel_rfl) rfl
    (fun f fn hf hfn => by
      obtain rfl : f = 4 := Option.some.inj ((show Tryd.prog.funcNamed "jurat/juratlaw12.VaultCrashes" = some 4 by kernel_rfl).symm.trans hf) |>.symm
      obtain rfl : fn = Tryd.f4 := (Option.some.inj (Tryd.func4.symm.trans hfn)).symm
      exact ⟨by kernel_rfl, fun j t ht => by
        rw [Tryd.params4] at ht
        have hm : t ∈ [22, 3, 37] := by simpa using Array.mem_of_getElem? ht
        have hall : ([22, 3, 37].all fun u => !Tryd.prog.wantsStandIn u) = true := by kernel_rfl
        exact (show Tryd.prog.wantsStandIn t = false by simpa using List.all_eq_true.1 hall t hm)⟩)
    (by kernel_rfl)
#print axioms vaultCrashes_holds
end Go.Proofs.YtgiobcpljbpmiaaDoor.vaultCrashes
