/-
  VaultTwice, whole, as the tied card (Rows.VaultTwiceCardSaid): for every list of calls (up to 40 are played, 500 bytes each), every fuse under them, whatever was kept by the crash behind them (up to 10 numbers), every fuse under the Open behind it, and whatever was kept by the next crash: where the power goes while the vault is opened, Open answers ErrDown and no vault, and behind the next crash the vault is opened as it would have been at once; and the document's example. Conditions: the table sha.constants reads as its initialiser lays it (tied to the program's text).
-/
import Derived.Test.YtgiobcpljbpmiaaDoorRows
import Derived.Test.YtgiobcpljbpmiaaDoorCards
import Derived.Test.YtgiobcpljbpmiaaDoorTie
import Derived.WalkKit
import Derived.ProofKit
import Derived.OpenShut
import Derived.ChangeMaps5
import Derived.ShutString
import Derived.ChangeOld
import Derived.Below
import Derived.SizedLaws
import Derived.SevenTiedAt
import Derived.Lay
import Derived.LaidLaws
import Derived.Test.YtgiobcpljbpmiaaDoorVltX
namespace Go.Proofs.YtgiobcpljbpmiaaDoor.vaultTwice
open Go.ChangeShapes Go.WideShapes Go.ChangeAt Go.RowKit
open Go.ChangeMaps (open_string shut_string)
set_option linter.unusedVariables false
theorem own : ownKnob Tryd.prog.godebug = none := by kernel_rfl
theorem laidOut : laidOutB Tryd.prog = true := by kernel_rfl
set_option maxRecDepth 100000 in
set_option maxHeartbeats 4000000 in
theorem walk_no (w : World) (a0 : Option Addr) (len0 cap0 : Nat) (L0 : List Cl) (w0 : Cls w a0 len0 L0) (a1 : Int) (a2 : Option Addr) (len2 cap2 : Nat) (a3 : Int) (a4 : Option Addr) (len4 cap4 : Nat) (h : longC L0 = true ∨ (longC L0 = false ∧ 10 < len2) ∨ (longC L0 = false ∧ len2 ≤ 10 ∧ 10 < len4) ∨ (longC L0 = false ∧ len2 ≤ 10 ∧ len4 ≤ 10 ∧ a1 < 0) ∨ (longC L0 = false ∧ len2 ≤ 10 ∧ len4 ≤ 10 ∧ 0 ≤ a1 ∧ a3 < 0)) (hT : Tab 2 w) :
    Calls Tryd.prog 5 #[.slice a0 len0 cap0, .int .i64 a1, .slice a2 len2 cap2, .int .i64 a3, .slice a4 len4 cap4] w fun e w' => e = .returned (.bool true) ∧ Below w.heap.size w w' := by
  have HT := Lib.hid hT
  have HLo := Lib.hid (Long_any a0 len0 cap0 L0 w w0)
  clear hT w0
  rcases h with h1 | ⟨h1, h2⟩ | ⟨h1, h2, h3⟩ | ⟨h1, h2, h3, h4⟩ | ⟨h1, h2, h3, h4, h5⟩
  · rw [h1] at HLo
    clear h1
    go_enter Tryd.func5, Tryd.ntmps5
    go_wp2_with (first
      | (go_at_call 10; refine HLo.out.mono ?_; rintro e1 w1 ⟨rfl, rfl⟩)
      | (go_at_call 11; refine (awake_any w HT.out).mono ?_; rintro e9 w9 ⟨rfl, hb9⟩; have B9 := hb9; clear hb9))
    go_ret
    exact ⟨rfl, B9⟩
  · rw [h1] at HLo
    clear h1
    have i2 : (10 : Int) < (len2 : Int) := by omega
    go_enter Tryd.func5, Tryd.ntmps5
    go_wp2_with (first
      | (go_at_call 10; refine HLo.out.mono ?_; rintro e1 w1 ⟨rfl, rfl⟩)
      | (go_at_call 11; refine (awake_any w HT.out).mono ?_; rintro e9 w9 ⟨rfl, hb9⟩; have B9 := hb9; clear hb9))
    go_ret
    exact ⟨rfl, B9⟩
  · rw [h1] at HLo
    clear h1
    have i2 : ¬ (10 : Int) < (len2 : Int) := by omega
    have i4 : (10 : Int) < (len4 : Int) := by omega
    go_enter Tryd.func5, Tryd.ntmps5
    go_wp2_with (first
      | (go_at_call 10; refine HLo.out.mono ?_; rintro e1 w1 ⟨rfl, rfl⟩)
      | (go_at_call 11; refine (awake_any w HT.out).mono ?_; rintro e9 w9 ⟨rfl, hb9⟩; have B9 := hb9; clear hb9))
    go_ret
    exact ⟨rfl, B9⟩
  · rw [h1] at HLo
    clear h1
    have i2 : ¬ (10 : Int) < (len2 : Int) := by omega
    have i4 : ¬ (10 : Int) < (len4 : Int) := by omega
    go_enter Tryd.func5, Tryd.ntmps5
    go_wp2_with (first
      | (go_at_call 10; refine HLo.out.mono ?_; rintro e1 w1 ⟨rfl, rfl⟩)
      | (go_at_call 11; refine (awake_any w HT.out).mono ?_; rintro e9 w9 ⟨rfl, hb9⟩; have B9 := hb9; clear hb9))
    go_ret
    exact ⟨rfl, B9⟩
  · rw [h1] at HLo
    clear h1
    have i2 : ¬ (10 : Int) < (len2 : Int) := by omega
    have i4 : ¬ (10 : Int) < (len4 : Int) := by omega
    have i1 : ¬ a1 < 0 := by omega
    go_enter Tryd.func5, Tryd.ntmps5
    go_wp2_with (first
      | (go_at_call 10; refine HLo.out.mono ?_; rintro e1 w1 ⟨rfl, rfl⟩)
      | (go_at_call 11; refine (awake_any w HT.out).mono ?_; rintro e9 w9 ⟨rfl, hb9⟩; have B9 := hb9; clear hb9))
    go_ret
    exact ⟨rfl, B9⟩
set_option maxRecDepth 100000 in
set_option maxHeartbeats 8000000 in
theorem walk_ok (w : World) (a0 : Option Addr) (len0 cap0 : Nat) (L0 : List Cl) (w0 : Cls w a0 len0 L0) (a1 : Int) (b1 : a1 < 9223372036854775808) (a2 : Option Addr) (len2 cap2 : Nat) (L2 : List Int) (w2' : Is w a2 len2 L2) (a3 : Int) (b3 : a3 < 9223372036854775808) (a4 : Option Addr) (len4 cap4 : Nat) (L4 : List Int) (w4' : Is w a4 len4 L4) (h : longC L0 = false ∧ len2 ≤ 10 ∧ len4 ≤ 10 ∧ 0 ≤ a1 ∧ 0 ≤ a3) (hT : Tab 2 w) :
    Calls Tryd.prog 5 #[.slice a0 len0 cap0, .int .i64 a1, .slice a2 len2 cap2, .int .i64 a3, .slice a4 len4 cap4] w fun e w' => e = .returned (.bool true) ∧ Below w.heap.size w w' := by
  obtain ⟨hq, h2, h4, h1, h3⟩ := h
  have HT := Lib.hid hT
  have HC := Lib.hid w0
  have HI2 := Lib.hid w2'
  have HI4 := Lib.hid w4'
  have HLo := Lib.hid (Long_any a0 len0 cap0 L0 w w0)
  obtain ⟨hn40, hall⟩ := longC_no hq
  rw [w0.1] at hn40
  rw [hq] at HLo
  have HAll := Lib.hid hall
  have H1 := Lib.hid b1
  have H3 := Lib.hid b3
  have i1 : ¬ a1 < 0 := by omega
  have i2 : ¬ (10 : Int) < (len2 : Int) := by omega
  have i3 : ¬ a3 < 0 := by omega
  have i4 : ¬ (10 : Int) < (len4 : Int) := by omega
  clear hT w0 hq hall w2' w4' b1 b3
  go_enter Tryd.func5, Tryd.ntmps5
  go_wp2_with (first
    | (go_at_call 10; refine HLo.out.mono ?_; rintro e1 w1 ⟨rfl, rfl⟩)
    | (go_at_call 12; refine (VNew w HT.out).mono ?_; rintro e1 w1 ⟨g, P0, rfl, hP0, ht1, hb1⟩; have HT1 := Lib.hid ht1; have HP0 := Lib.hid hP0; have B1 := hb1; have T1 := Lib.hid (HT.out.below hb1); clear ht1 hP0 hb1)
    | (go_at_call 13; refine (VFirst w1 g P0 HT1.out T1.out).mono ?_; rintro e2 w2 ⟨v, rfl, ho2, P2, S2, hg2, hv2, hc2, hl2⟩; have V2 := Lib.hid hv2; have HP2 := Lib.hid (hg2.base HP0.out B1.size); have B2 : Below w.heap.size w w2 := B1.trans (ho2.below HP0.out B1.size); clear hg2 hv2 hc2 hl2 ho2)
    | (go_at_call 17; refine (VT.fuse v g a1 P2 Vs.new w2 V2.out H1.out).mono ?_; rintro e3 w3 ⟨rfl, hv3, ho3⟩; have HS3 := Lib.hid (show St w3 v g P2 (S2.fuseT a1) 0 from .inl ⟨_, hv3, Nat.le_refl _⟩); have B3 := Lib.hid (B2.trans (ho3.below HP2.out B2.size)); clear hv3 ho3))
  clear V2 B2 HT1 HP0 B1 T1
  go_loopw [14] (fun i wr => ∃ (k : Nat) (P : Nat → Prop) (S : Tp), k ≤ len0 ∧ i = .int .i64 (k : Int) ∧ Hid (St wr v g P S k) ∧ Hid (∀ b, P b → w.heap.size ≤ b) ∧ Hid (Below w.heap.size w wr)) (fun i _ => len0 - (intOf i).toNat)
  case atStart => exact ⟨0, P2, _, Nat.zero_le _, rfl, HS3, HP2, B3⟩
  case round =>
    obtain ⟨k, P, S, hk, rfl, HSt, HPb, HBl⟩ := hrel
    clear HS3 HP2 B3
    by_cases hlt : k < len0
    · obtain ⟨x, b, off, T, mm, c1, I, p, d, hx, rfl, hb, hr, hBx, _, _⟩ := HC.out.get hlt
      obtain ⟨hx5, _⟩ := HAll.out x (List.mem_of_getElem? hx)
      have HTr := Lib.hid (HT.out.below HBl.out)
      have hrr : ∀ wq : World, wq.heap[b]? = w.heap[b]? → wq.rangeAt b (off + 3 * k) (clC x.kind T mm c1 I p d).toList := fun wq hq j v hv => (World.cell?_of_block (a := ⟨b, off + 3 * k + j, none⟩) hq).trans (hr j v hv)
      have HRr := Lib.hid hrr
      have hq0 := HBl.out.block b hb
      have c0 : wr.cell? ⟨b, off + 3 * k, none⟩ = some (.int .i64 x.kind) := hrr wr hq0 0 _ rfl
      have c1' : wr.cell? ⟨b, off + 3 * k + 1, none⟩ = some (.slice T mm c1) := hrr wr hq0 1 _ rfl
      have hmm : mm ≤ 500 := by rw [← hBx.1]; exact hx5
      have HOw := Lib.hid (own_any T mm c1 x.b wr (hBx.below HBl.out) (by omega))
      unfold S4NewSlice at HOw
      rw [hBx.1] at HOw
      have HBlt := Lib.hid hb
      have HnP := Lib.hid (show ¬ P b from fun q => by have := HPb.out b q; omega)
      obtain ⟨ki, hki⟩ : ∃ ki, x.kind = ki := ⟨_, rfl⟩
      rw [hki] at c0 HRr
      clear hr hBx hx hrr hx5 hki hq0
      by_cases hk0 : ki = 0
      · have i5 : (ki == 0) = true := by rw [hk0]; rfl
        have i6 : (ki == 1) = false := by rw [hk0]; rfl
        clear hk0
        go_wp2_with (first
          | (with_reducible refine wpList_indexK (by with_unfolding_all rfl) (.tmp 59) (.tmp 60) rfl b off len0 cap0 k _ _ rfl rfl rfl hlt rfl ?_)
          | (with_reducible refine wpList_indexK (by with_unfolding_all rfl) (.tmp 66) (.tmp 67) rfl b off len0 cap0 k _ _ rfl rfl rfl hlt rfl ?_)
          | (with_reducible refine wpList_indexK (by with_unfolding_all rfl) (.tmp 73) (.tmp 74) rfl b off len0 cap0 k _ _ rfl rfl rfl hlt rfl ?_)
          | (go_at_call 20; refine HOw.out.mono ?_; rintro e3 w3 ⟨A3, c3, rfl, hc3, hb3, ho3⟩; have HB3 := Lib.hid hb3; have HO3 := Lib.hid ho3; clear hc3 hb3 ho3)
          | (go_at_call 19; refine (VAddSt v g mm c3 k A3 x.b P w3 (HSt.out.below HB3.out) (HTr.out.below HB3.out) HO3.out.bs (by omega) (by omega)).mono ?_; rintro e4 w4 ⟨z4, rfl, ho4, P4, S4, hg4, hs4⟩; have HO4 := Lib.hid ho4; have HG4 := Lib.hid hg4; have HS4 := Lib.hid hs4; have hq4 := (ho4.block b (Nat.lt_of_lt_of_le HBlt.out (Nat.le_trans HBl.out.size HB3.out.size)) HnP.out).trans ((HB3.out.block b (Nat.lt_of_lt_of_le HBlt.out HBl.out.size)).trans (HBl.out.block b HBlt.out)); have d0 : w4.cell? ⟨b, off + 3 * k, none⟩ = some (.int .i64 ki) := HRr.out w4 hq4 0 _ rfl; clear ho4 hg4 hs4 hq4))
        go_roundw
        case rel =>
          have hs3 := HB3.out.size
          have hsw := HBl.out.size
          exact ⟨k + 1, P4, S4, by omega, by go_num, Lib.hid (HS4.out.mono (by omega)), Lib.hid (HG4.out.base HPb.out (by omega)), Lib.hid (HBl.out.trans ((HB3.out.mono hsw).trans (HO4.out.below HPb.out (by omega))))⟩
        case measure => simp [intOf]; omega
      · have i5 : (ki == 0) = false := by simpa using hk0
        by_cases hk1 : ki = 1
        · have i6 : (ki == 1) = true := by rw [hk1]; rfl
          clear hk0 hk1
          go_wp2_with (first
            | (with_reducible refine wpList_indexK (by with_unfolding_all rfl) (.tmp 59) (.tmp 60) rfl b off len0 cap0 k _ _ rfl rfl rfl hlt rfl ?_)
            | (with_reducible refine wpList_indexK (by with_unfolding_all rfl) (.tmp 80) (.tmp 81) rfl b off len0 cap0 k _ _ rfl rfl rfl hlt rfl ?_)
            | (with_reducible refine wpList_indexK (by with_unfolding_all rfl) (.tmp 73) (.tmp 74) rfl b off len0 cap0 k _ _ rfl rfl rfl hlt rfl ?_)
            | (go_at_call 20; refine HOw.out.mono ?_; rintro e3 w3 ⟨A3, c3, rfl, hc3, hb3, ho3⟩; have HB3 := Lib.hid hb3; have HO3 := Lib.hid ho3; clear hc3 hb3 ho3)
            | (go_at_call 22; refine (VSaveSt v g mm c3 k A3 x.b P w3 (HSt.out.below HB3.out) (HTr.out.below HB3.out) HO3.out.bs (by omega) (by omega)).mono ?_; rintro e4 w4 ⟨z4, rfl, ho4, P4, S4, hg4, hs4⟩; have HO4 := Lib.hid ho4; have HG4 := Lib.hid hg4; have HS4 := Lib.hid hs4; have hq4 := (ho4.block b (Nat.lt_of_lt_of_le HBlt.out (Nat.le_trans HBl.out.size HB3.out.size)) HnP.out).trans ((HB3.out.block b (Nat.lt_of_lt_of_le HBlt.out HBl.out.size)).trans (HBl.out.block b HBlt.out)); have d0 : w4.cell? ⟨b, off + 3 * k, none⟩ = some (.int .i64 ki) := HRr.out w4 hq4 0 _ rfl; clear ho4 hg4 hs4 hq4))
          go_roundw
          case rel =>
            have hs3 := HB3.out.size
            have hsw := HBl.out.size
            exact ⟨k + 1, P4, S4, by omega, by go_num, HS4, Lib.hid (HG4.out.base HPb.out (by omega)), Lib.hid (HBl.out.trans ((HB3.out.mono hsw).trans (HO4.out.below HPb.out (by omega))))⟩
          case measure => simp [intOf]; omega
        · have i6 : (ki == 1) = false := by simpa using hk1
          clear hk0 hk1
          go_wp2_with (first
            | (with_reducible refine wpList_indexK (by with_unfolding_all rfl) (.tmp 59) (.tmp 60) rfl b off len0 cap0 k _ _ rfl rfl rfl hlt rfl ?_)
            | (with_reducible refine wpList_indexK (by with_unfolding_all rfl) (.tmp 73) (.tmp 74) rfl b off len0 cap0 k _ _ rfl rfl rfl hlt rfl ?_))
          go_roundw
          case rel => exact ⟨k + 1, P, S, by omega, by go_num, Lib.hid (HSt.out.mono (by omega)), HPb, HBl⟩
          case measure => simp [intOf]; omega
    · obtain rfl : k = len0 := by omega
      obtain ⟨hTP, hok, hcr⟩ := HSt.out.tape
      obtain ⟨V, n, hH⟩ := hcr L2
      have HTP := Lib.hid hTP
      have HOk := Lib.hid hok
      have HH := Lib.hid hH
      have HTr := Lib.hid (HT.out.below HBl.out)
      have HI2r := Lib.hid (HI2.out.below HBl.out)
      have HI4r := Lib.hid (HI4.out.below HBl.out)
      clear HSt hTP hok hcr hH
      obtain ⟨S4, hS4⟩ : ∃ S4, (S.crash L2).fuseT a3 = S4 := ⟨_, rfl⟩
      have HS4 := Lib.hid hS4
      have HH4 := Lib.hid (show Has S4.cont V n by rw [← hS4]; exact HH.out)
      have HO4 := Lib.hid (show S4.ok 0 by rw [← hS4]; exact crash_ok L2 0 HOk.out)
      have HD4 := Lib.hid (show S4.down = false by rw [← hS4]; rfl)
      clear hS4
      by_cases hz : (S4.mendV n).2 = 0
      · have HZr := Lib.hid hz
        clear hz
        go_wp2_with ((with_reducible refine wpList_copyI rfl (.tmp 88) (.tmp 89) rfl rfl a2 len2 cap2 L2 rfl HI2r.out (by omega) ?_); intro A5 c5 w5 hI5 hb5; have HI5 := Lib.hid hI5; have B5 := Lib.hid hb5; clear hI5 hb5)
        refine (VCrash (S := S) g len2 c5 1000000 A5 L2 P w5 (HTP.out.below B5.out) HOk.out (by omega) HI5.out (HTr.out.below B5.out)).mono ?_
        rintro e6 w6 ⟨g6, P6, rfl, hP6, ht6, hb6⟩
        have HP6 := Lib.hid hP6
        have HT6 := Lib.hid ht6
        have B6 := Lib.hid (B5.out.trans (hb6.mono B5.out.size))
        clear hP6 ht6 hb6
        go_wp2_with ((with_reducible refine wpList_copyI rfl (.tmp 93) (.tmp 94) rfl rfl a2 len2 cap2 L2 rfl (HI2r.out.below B6.out) (by omega) ?_); intro A7 c7 w7 hI7 hb7; have HI7 := Lib.hid hI7; have B7 := Lib.hid (B6.out.trans (hb7.mono B6.out.size)); have B67 := Lib.hid hb7; clear hI7 hb7)
        refine (VCrash (S := S) g len2 c7 1000000 A7 L2 P w7 (HTP.out.below B7.out) HOk.out (by omega) HI7.out (HTr.out.below B7.out)).mono ?_
        rintro e7 w8 ⟨g7, P7, rfl, hP7, ht7, hb7⟩
        have HP7 := Lib.hid hP7
        have HT7 := Lib.hid ht7
        have B8 := Lib.hid (B7.out.trans (hb7.mono B7.out.size))
        have HT68 := Lib.hid ((HT6.out.below B67.out).below hb7)
        have hs67 := B67.out.size
        have hs78 := hb7.size
        clear hP7 ht7 hb7
        go_wp2_with fail
        refine (VOpenCr (S := S) g6 n 1000000 L2 P6 V w8 HT68.out HOk.out (HTr.out.below B8.out) HH.out).mono ?_
        rintro e9 w9 ⟨va, rfl, ho9, P9, S9, hg9, hv9⟩
        have hs6r := B5.out.size
        have HV9 := Lib.hid hv9
        have HG9 := Lib.hid hg9
        have HO9 := Lib.hid ho9
        have B9 := Lib.hid (B8.out.trans (ho9.below (B := wr.heap.size) (fun x q => by have := HP6.out x q; omega) B8.out.size))
        have HT79 := Lib.hid (HT7.out.off ho9 (fun b q q2 => by have := HT6.out.1 b q2; have := HP7.out b q; omega))
        have hap : ∀ b, P9 b → ¬ P7 b := fun b q q2 => by
          rcases hg9 b q with q | q
          · have := HT6.out.1 b q; have := HP7.out b q2; omega
          · have := HT7.out.1 b q2; omega
        have HAp := Lib.hid hap
        clear hv9 hg9 ho9 hap
        go_wp2_with fail
        refine (TP.fuse (S := S.crash L2) g7 a3 P7 w9 HT79.out H3.out).mono ?_
        rintro e10 w10 ⟨rfl, ht10, ho10⟩
        rw [HS4.out] at ht10
        have HT10 := Lib.hid ht10
        have HV10 := Lib.hid (HV9.out.off ho10 (fun b q q2 => HAp.out b q q2))
        have B10 := Lib.hid (B9.out.trans (ho10.below (B := wr.heap.size) (fun x q => by have := HP7.out x q; have := B7.out.size; omega) B9.out.size))
        clear ht10 ho10
        go_wp2_with fail
        refine (VOpenOk (S := S4) g7 n P7 V w10 HT10.out HO4.out HD4.out (HTr.out.below B10.out) HH4.out HZr.out).mono ?_
        rintro e11 w11 ⟨vb, rfl, ho11, P11, S11, hg11, ht11, hok11, hdn11, haf11⟩
        obtain ⟨n12, hn12⟩ := haf11 L4
        have HN12 := Lib.hid hn12
        have HT11 := Lib.hid ht11
        have HK11 := Lib.hid hok11
        have HD11 := Lib.hid hdn11
        have HV11 := Lib.hid (HV10.out.off ho11 (fun b q q2 => HAp.out b q q2))
        have B11 := Lib.hid (B10.out.trans (ho11.below (B := wr.heap.size) (fun x q => by have := HP7.out x q; have := B7.out.size; omega) B10.out.size))
        clear ho11 hg11 ht11 hok11 hdn11 haf11 hn12
        go_wp2_with (first
          | (go_at_call 18; refine (TP.downs g7 P11 w11 HT11.out).mono ?_; rintro e12 w12 ⟨rfl, rfl⟩; rw [HD11.out])
          | ((with_reducible refine wpList_copyI rfl (.tmp 133) (.tmp 134) rfl rfl a4 len4 cap4 L4 rfl (HI4r.out.below B11.out) (by omega) ?_); intro A13 c13 w13 hI13 hb13; have HI13 := Lib.hid hI13; have B13 := Lib.hid (B11.out.trans (hb13.mono B11.out.size)); have B113 := Lib.hid hb13; clear hI13 hb13))
        refine (VCrash (S := S11) g7 len4 c13 1 A13 L4 P11 w13 (HT11.out.below B113.out) HK11.out (by omega) HI13.out (HTr.out.below B13.out)).mono ?_
        rintro e14 w14 ⟨g14, P14, rfl, hP14, ht14, hb14⟩
        have HP14 := Lib.hid hP14
        have HT14 := Lib.hid ht14
        have B14 := Lib.hid (B13.out.trans (hb14.mono B13.out.size))
        have HV14 := Lib.hid ((HV11.out.below B113.out).below hb14)
        have HL14 := Lib.hid (HV11.out.below B113.out).1
        clear hP14 ht14 hb14
        go_wp2_with fail
        refine (VOpenCr (S := S11) g14 n12 1 L4 P14 V w14 HT14.out HK11.out (HTr.out.below B14.out) HN12.out).mono ?_
        rintro e15 w15 ⟨vc, rfl, ho15, P15, S15, hg15, hv15⟩
        have HV15 := Lib.hid hv15
        have B15 := Lib.hid (B14.out.trans (ho15.below (B := wr.heap.size) (fun x q => by have := HP14.out x q; have := B13.out.size; omega) B14.out.size))
        have HVa := Lib.hid (HV14.out.off ho15 (fun b q q2 => by have := HP14.out b q2; have := HL14.out b q; omega))
        clear ho15 hg15 hv15
        obtain ⟨nt, hnt⟩ : ∃ nt, V.text.length = nt := ⟨_, rfl⟩
        obtain ⟨nl, hnl⟩ : ∃ nl, V.recs.length = nl := ⟨_, rfl⟩
        have HSm := Lib.hid HV15.out.small.1
        have hnt1 : nt ≤ 1000000 := by rw [← hnt]; exact HSm.out.1
        have hnl1 : nl ≤ 1000000000 := by rw [← hnl]; exact HSm.out.2.1
        have HNt := Lib.hid hnt
        have HNl := Lib.hid hnl
        clear hnt hnl
        go_wp2_with (first
          | (go_at_call 24; have tk1 := Lib.hid True.intro; refine (VGen vc g14 P15 V w15 HV15.out).mono ?_; rintro e16 w16 ⟨rfl, rfl⟩)
          | (go_at_call 24; refine (VGen va g6 P9 V w15 HVa.out).mono ?_; rintro e17 w17 ⟨rfl, rfl⟩))
        refine (VTextN vc g14 nt P15 V V.text w15 HV15.out rfl HNt.out).mono ?_
        rintro e18 w18 ⟨A18, c18, rfl, hc18, hb18, ho18⟩
        have HO18 := Lib.hid ho18
        have B18 := Lib.hid (B15.out.trans (hb18.mono B15.out.size))
        have HVa18 := Lib.hid (HVa.out.below hb18)
        have HVc18 := Lib.hid (HV15.out.below hb18)
        clear hc18 hb18 ho18
        go_wp2_with fail
        refine (VTextN va g6 nt P9 V V.text w18 HVa18.out rfl HNt.out).mono ?_
        rintro e19 w19 ⟨A19, c19, rfl, hc19, hb19, ho19⟩
        have HO19 := Lib.hid ho19
        have HO189 := Lib.hid (HO18.out.below hb19)
        have B19 := Lib.hid (B18.out.trans (hb19.mono B18.out.size))
        have HVa19 := Lib.hid (HVa18.out.below hb19)
        have HVc19 := Lib.hid (HVc18.out.below hb19)
        clear hc19 hb19 ho19
        go_wp2_with (go_at_call 26; refine (Same_yes A18 A19 nt c18 c19 V.text w19 HO189.out.bs HO19.out.bs (by omega)).mono ?_; rintro e20 w20 ⟨rfl, k20, hw20⟩; have hq20 := below_drewN (Below.refl w19.heap.size w19) k20; rw [← hw20] at hq20; have B20 := Lib.hid (B19.out.trans (hq20.mono B19.out.size)); have HVa20 := Lib.hid (HVa19.out.below hq20); have HVc20 := Lib.hid (HVc19.out.below hq20); clear hq20 hw20)
        refine (VRecordsN vc g14 nl P15 V V.recs w20 HVc20.out rfl HNl.out).mono ?_
        rintro e21 w21 ⟨A21, c21, rfl, hc21, ho21, hb21⟩
        have HO21 := Lib.hid ho21
        have B21 := Lib.hid (B20.out.trans (hb21.mono B20.out.size))
        have HVa21 := Lib.hid (HVa20.out.below hb21)
        clear hc21 hb21 ho21
        go_wp2_with fail
        refine (VRecordsN va g6 nl P9 V V.recs w21 HVa21.out rfl HNl.out).mono ?_
        rintro e22 w22 ⟨A22, c22, rfl, hc22, ho22, hb22⟩
        have HO22 := Lib.hid ho22
        have HO212 := Lib.hid (HO21.out.below hb22)
        have B22 := Lib.hid (B21.out.trans (hb22.mono B21.out.size))
        clear hc22 hb22 ho22
        go_wp2_with (first
          | (go_at_call 28; refine (LSame_yes A21 A22 nl c21 c22 V.recs w22 HO212.out.bss HO22.out.bss (by omega) HSm.out.2.2).mono ?_; rintro e23 w23 ⟨rfl, k23, hw23⟩; have hq23 := below_drewN (Below.refl w22.heap.size w22) k23; rw [← hw23] at hq23; have B23 := Lib.hid (B22.out.trans (hq23.mono B22.out.size)); clear hq23 hw23)
          | (go_at_call 11; refine (awake_any w23 (HTr.out.below B23.out)).mono ?_; rintro e24 w24 ⟨rfl, hb24⟩; have B24 := Lib.hid (B23.out.trans (hb24.mono B23.out.size)); clear hb24))
        go_ret
        exact ⟨rfl, HBl.out.trans (B24.out.mono HBl.out.size)⟩
      · have HZr := Lib.hid hz
        clear hz
        go_wp2_with ((with_reducible refine wpList_copyI rfl (.tmp 88) (.tmp 89) rfl rfl a2 len2 cap2 L2 rfl HI2r.out (by omega) ?_); intro A5 c5 w5 hI5 hb5; have HI5 := Lib.hid hI5; have B5 := Lib.hid hb5; clear hI5 hb5)
        refine (VCrash (S := S) g len2 c5 1000000 A5 L2 P w5 (HTP.out.below B5.out) HOk.out (by omega) HI5.out (HTr.out.below B5.out)).mono ?_
        rintro e6 w6 ⟨g6, P6, rfl, hP6, ht6, hb6⟩
        have HP6 := Lib.hid hP6
        have HT6 := Lib.hid ht6
        have B6 := Lib.hid (B5.out.trans (hb6.mono B5.out.size))
        clear hP6 ht6 hb6
        go_wp2_with ((with_reducible refine wpList_copyI rfl (.tmp 93) (.tmp 94) rfl rfl a2 len2 cap2 L2 rfl (HI2r.out.below B6.out) (by omega) ?_); intro A7 c7 w7 hI7 hb7; have HI7 := Lib.hid hI7; have B7 := Lib.hid (B6.out.trans (hb7.mono B6.out.size)); have B67 := Lib.hid hb7; clear hI7 hb7)
        refine (VCrash (S := S) g len2 c7 1000000 A7 L2 P w7 (HTP.out.below B7.out) HOk.out (by omega) HI7.out (HTr.out.below B7.out)).mono ?_
        rintro e7 w8 ⟨g7, P7, rfl, hP7, ht7, hb7⟩
        have HP7 := Lib.hid hP7
        have HT7 := Lib.hid ht7
        have B8 := Lib.hid (B7.out.trans (hb7.mono B7.out.size))
        have HT68 := Lib.hid ((HT6.out.below B67.out).below hb7)
        have hs67 := B67.out.size
        have hs78 := hb7.size
        clear hP7 ht7 hb7
        go_wp2_with fail
        refine (VOpenCr (S := S) g6 n 1000000 L2 P6 V w8 HT68.out HOk.out (HTr.out.below B8.out) HH.out).mono ?_
        rintro e9 w9 ⟨va, rfl, ho9, P9, S9, hg9, hv9⟩
        have hs6r := B5.out.size
        have HV9 := Lib.hid hv9
        have HG9 := Lib.hid hg9
        have HO9 := Lib.hid ho9
        have B9 := Lib.hid (B8.out.trans (ho9.below (B := wr.heap.size) (fun x q => by have := HP6.out x q; omega) B8.out.size))
        have HT79 := Lib.hid (HT7.out.off ho9 (fun b q q2 => by have := HT6.out.1 b q2; have := HP7.out b q; omega))
        have hap : ∀ b, P9 b → ¬ P7 b := fun b q q2 => by
          rcases hg9 b q with q | q
          · have := HT6.out.1 b q; have := HP7.out b q2; omega
          · have := HT7.out.1 b q2; omega
        have HAp := Lib.hid hap
        clear hv9 hg9 ho9 hap
        go_wp2_with fail
        refine (TP.fuse (S := S.crash L2) g7 a3 P7 w9 HT79.out H3.out).mono ?_
        rintro e10 w10 ⟨rfl, ht10, ho10⟩
        rw [HS4.out] at ht10
        have HT10 := Lib.hid ht10
        have HV10 := Lib.hid (HV9.out.off ho10 (fun b q q2 => HAp.out b q q2))
        have B10 := Lib.hid (B9.out.trans (ho10.below (B := wr.heap.size) (fun x q => by have := HP7.out x q; have := B7.out.size; omega) B9.out.size))
        clear ht10 ho10
        go_wp2_with fail
        refine (VOpenDown (S := S4) g7 n P7 V w10 HT10.out HO4.out HD4.out (HTr.out.below B10.out) HH4.out HZr.out).mono ?_
        rintro e11 w11 ⟨rfl, ho11, P11, S11, hg11, ht11, hok11, hdn11, haf11⟩
        obtain ⟨n12, hn12⟩ := haf11 L4
        have HN12 := Lib.hid hn12
        have HT11 := Lib.hid ht11
        have HK11 := Lib.hid hok11
        have HD11 := Lib.hid hdn11
        have HV11 := Lib.hid (HV10.out.off ho11 (fun b q q2 => HAp.out b q q2))
        have B11 := Lib.hid (B10.out.trans (ho11.below (B := wr.heap.size) (fun x q => by have := HP7.out x q; have := B7.out.size; omega) B10.out.size))
        clear ho11 hg11 ht11 hok11 hdn11 haf11 hn12
        go_wp2_with (first
          | (go_at_call 18; refine (TP.downs g7 P11 w11 HT11.out).mono ?_; rintro e12 w12 ⟨rfl, rfl⟩; rw [HD11.out])
          | ((with_reducible refine wpList_copyI rfl (.tmp 133) (.tmp 134) rfl rfl a4 len4 cap4 L4 rfl (HI4r.out.below B11.out) (by omega) ?_); intro A13 c13 w13 hI13 hb13; have HI13 := Lib.hid hI13; have B13 := Lib.hid (B11.out.trans (hb13.mono B11.out.size)); have B113 := Lib.hid hb13; clear hI13 hb13))
        refine (VCrash (S := S11) g7 len4 c13 1 A13 L4 P11 w13 (HT11.out.below B113.out) HK11.out (by omega) HI13.out (HTr.out.below B13.out)).mono ?_
        rintro e14 w14 ⟨g14, P14, rfl, hP14, ht14, hb14⟩
        have HP14 := Lib.hid hP14
        have HT14 := Lib.hid ht14
        have B14 := Lib.hid (B13.out.trans (hb14.mono B13.out.size))
        have HV14 := Lib.hid ((HV11.out.below B113.out).below hb14)
        have HL14 := Lib.hid (HV11.out.below B113.out).1
        clear hP14 ht14 hb14
        go_wp2_with fail
        refine (VOpenCr (S := S11) g14 n12 1 L4 P14 V w14 HT14.out HK11.out (HTr.out.below B14.out) HN12.out).mono ?_
        rintro e15 w15 ⟨vc, rfl, ho15, P15, S15, hg15, hv15⟩
        have HV15 := Lib.hid hv15
        have B15 := Lib.hid (B14.out.trans (ho15.below (B := wr.heap.size) (fun x q => by have := HP14.out x q; have := B13.out.size; omega) B14.out.size))
        have HVa := Lib.hid (HV14.out.off ho15 (fun b q q2 => by have := HP14.out b q2; have := HL14.out b q; omega))
        clear ho15 hg15 hv15
        obtain ⟨nt, hnt⟩ : ∃ nt, V.text.length = nt := ⟨_, rfl⟩
        obtain ⟨nl, hnl⟩ : ∃ nl, V.recs.length = nl := ⟨_, rfl⟩
        have HSm := Lib.hid HV15.out.small.1
        have hnt1 : nt ≤ 1000000 := by rw [← hnt]; exact HSm.out.1
        have hnl1 : nl ≤ 1000000000 := by rw [← hnl]; exact HSm.out.2.1
        have HNt := Lib.hid hnt
        have HNl := Lib.hid hnl
        clear hnt hnl
        go_wp2_with (first
          | (go_at_call 24; have tk1 := Lib.hid True.intro; refine (VGen vc g14 P15 V w15 HV15.out).mono ?_; rintro e16 w16 ⟨rfl, rfl⟩)
          | (go_at_call 24; refine (VGen va g6 P9 V w15 HVa.out).mono ?_; rintro e17 w17 ⟨rfl, rfl⟩))
        refine (VTextN vc g14 nt P15 V V.text w15 HV15.out rfl HNt.out).mono ?_
        rintro e18 w18 ⟨A18, c18, rfl, hc18, hb18, ho18⟩
        have HO18 := Lib.hid ho18
        have B18 := Lib.hid (B15.out.trans (hb18.mono B15.out.size))
        have HVa18 := Lib.hid (HVa.out.below hb18)
        have HVc18 := Lib.hid (HV15.out.below hb18)
        clear hc18 hb18 ho18
        go_wp2_with fail
        refine (VTextN va g6 nt P9 V V.text w18 HVa18.out rfl HNt.out).mono ?_
        rintro e19 w19 ⟨A19, c19, rfl, hc19, hb19, ho19⟩
        have HO19 := Lib.hid ho19
        have HO189 := Lib.hid (HO18.out.below hb19)
        have B19 := Lib.hid (B18.out.trans (hb19.mono B18.out.size))
        have HVa19 := Lib.hid (HVa18.out.below hb19)
        have HVc19 := Lib.hid (HVc18.out.below hb19)
        clear hc19 hb19 ho19
        go_wp2_with (go_at_call 26; refine (Same_yes A18 A19 nt c18 c19 V.text w19 HO189.out.bs HO19.out.bs (by omega)).mono ?_; rintro e20 w20 ⟨rfl, k20, hw20⟩; have hq20 := below_drewN (Below.refl w19.heap.size w19) k20; rw [← hw20] at hq20; have B20 := Lib.hid (B19.out.trans (hq20.mono B19.out.size)); have HVa20 := Lib.hid (HVa19.out.below hq20); have HVc20 := Lib.hid (HVc19.out.below hq20); clear hq20 hw20)
        refine (VRecordsN vc g14 nl P15 V V.recs w20 HVc20.out rfl HNl.out).mono ?_
        rintro e21 w21 ⟨A21, c21, rfl, hc21, ho21, hb21⟩
        have HO21 := Lib.hid ho21
        have B21 := Lib.hid (B20.out.trans (hb21.mono B20.out.size))
        have HVa21 := Lib.hid (HVa20.out.below hb21)
        clear hc21 hb21 ho21
        go_wp2_with fail
        refine (VRecordsN va g6 nl P9 V V.recs w21 HVa21.out rfl HNl.out).mono ?_
        rintro e22 w22 ⟨A22, c22, rfl, hc22, ho22, hb22⟩
        have HO22 := Lib.hid ho22
        have HO212 := Lib.hid (HO21.out.below hb22)
        have B22 := Lib.hid (B21.out.trans (hb22.mono B21.out.size))
        clear hc22 hb22 ho22
        go_wp2_with (first
          | (go_at_call 28; refine (LSame_yes A21 A22 nl c21 c22 V.recs w22 HO212.out.bss HO22.out.bss (by omega) HSm.out.2.2).mono ?_; rintro e23 w23 ⟨rfl, k23, hw23⟩; have hq23 := below_drewN (Below.refl w22.heap.size w22) k23; rw [← hw23] at hq23; have B23 := Lib.hid (B22.out.trans (hq23.mono B22.out.size)); clear hq23 hw23)
          | (go_at_call 11; refine (awake_any w23 (HTr.out.below B23.out)).mono ?_; rintro e24 w24 ⟨rfl, hb24⟩; have B24 := Lib.hid (B23.out.trans (hb24.mono B23.out.size)); clear hb24))
        go_ret
        exact ⟨rfl, HBl.out.trans (B24.out.mono HBl.out.size)⟩
theorem walk (w : World) (a0 : Option Addr) (len0 cap0 : Nat) (L0 : List Cl) (w0 : Cls w a0 len0 L0) (a1 : Int) (w1 : (Lit.int .i64 a1).wf = true) (a2 : Option Addr) (len2 cap2 : Nat) (L2 : List Int) (w2 : Is w a2 len2 L2) (a3 : Int) (w3 : (Lit.int .i64 a3).wf = true) (a4 : Option Addr) (len4 cap4 : Nat) (L4 : List Int) (w4 : Is w a4 len4 L4) (hT : Tab 2 w) :
    Calls Tryd.prog 5 #[.slice a0 len0 cap0, .int .i64 a1, .slice a2 len2 cap2, .int .i64 a3, .slice a4 len4 cap4] w fun e w' => e = .returned (.bool true) ∧ Below w.heap.size w w' := by
  cases hq : longC L0 with
  | true => exact walk_no w a0 len0 cap0 L0 w0 a1 a2 len2 cap2 a3 a4 len4 cap4 (.inl hq) hT
  | false =>
    by_cases h2 : 10 < len2
    · exact walk_no w a0 len0 cap0 L0 w0 a1 a2 len2 cap2 a3 a4 len4 cap4 (.inr (.inl ⟨hq, h2⟩)) hT
    by_cases h4 : 10 < len4
    · exact walk_no w a0 len0 cap0 L0 w0 a1 a2 len2 cap2 a3 a4 len4 cap4 (.inr (.inr (.inl ⟨hq, by omega, h4⟩))) hT
    by_cases h1 : a1 < 0
    · exact walk_no w a0 len0 cap0 L0 w0 a1 a2 len2 cap2 a3 a4 len4 cap4 (.inr (.inr (.inr (.inl ⟨hq, by omega, by omega, h1⟩)))) hT
    by_cases h3 : a3 < 0
    · exact walk_no w a0 len0 cap0 L0 w0 a1 a2 len2 cap2 a3 a4 len4 cap4 (.inr (.inr (.inr (.inr ⟨hq, by omega, by omega, by omega, h3⟩)))) hT
    exact walk_ok w a0 len0 cap0 L0 w0 a1 (by have := bounds_i64 w1; omega) a2 len2 cap2 L2 w2 a3 (by have := bounds_i64 w3; omega) a4 len4 cap4 L4 w4 ⟨hq, by omega, by omega, by omega, by omega⟩ hT

set_option maxRecDepth 100000 in
theorem lifted (os : Os) (started : os.Started) (H : Type) (enc : TypeId × Value → H) :
    ReturnsInHanded {} Tryd.checked os 5 .any (fun w args => (Rows.vaultTwiceSpec.pre enc Tryd.prog Tryd.f5 Rows.vaultTwiceRow.domain false w args ∧ laidMetH Tryd.prog lay1 w) ∧ sizedMet enc Tryd.prog Tryd.f5 (OpenSpec.ofChange Rows.vaultTwiceSpec) false w args)
      (Rows.vaultTwiceSpec.post enc Tryd.prog Tryd.f5 false true false false) := by
  refine returnsInHanded_of_change_and (C := Tryd.checked) (X := fun w _ => laidMetH Tryd.prog lay1 w) (fun _ _ _ hh h => h.of_heap hh) own started (by kernel_rfl) Tryd.func5
    (ChangeSpec.witness_shaped (enc := enc) (C := Tryd.checked) (os := os) (X := fun w _ => laidMetH Tryd.prog lay1 w) false (World.laidAll Tryd.prog os lay1) #[.slice none 0 0, .int .i64 0, .slice none 0 0, .int .i64 0, .slice none 0 0] 8 rfl (World.shaped_of_ZipB (by kernel_rfl) (by kernel_rfl)) (by kernel_rfl) (by kernel_rfl) (by kernel_rfl) (met1 os _)) ?_
  intro W base args ds gs before hval0 hW hcnd hsz0 hL _
  have hval : ∀ (j : Nat) t v, Tryd.f5.params[j]? = some t → args[j]? = some v → Value.okWide Tryd.prog W .any base t v := hval0
  have hW' := hW
  obtain ⟨p, q, hA0, hV, rfl, hfz, hnd⟩ := hW
  have hA : DataW.TrodAll enc Tryd.prog W 0 (fun _ => true) true Tryd.f5.params.toList args.toList ds p := hA0
  have hsz : (DataW.weightsEach Tryd.prog (Tryd.f5.params.toList ++ Rows.vaultTwiceSpec.plain.varTypes Tryd.prog) (ds ++ gs)).all (· ≤ reachBytes) = true := hsz0
  rw [Tryd.params5] at hA hval hsz
  obtain ⟨v0, vs0, d0, ds0, p0, q0, hargs, rfl, rfl, h0, r0⟩ := trodAll_cons hA
  obtain ⟨v1, vs1, d1, ds1, p1, q1, rfl, rfl, rfl, h1, r1⟩ := trodAll_cons r0
  obtain ⟨v2, vs2, d2, ds2, p2, q2, rfl, rfl, rfl, h2, r2⟩ := trodAll_cons r1
  obtain ⟨v3, vs3, d3, ds3, p3, q3, rfl, rfl, rfl, h3, r3⟩ := trodAll_cons r2
  obtain ⟨v4, vs4, d4, ds4, p4, q4, rfl, rfl, rfl, h4, r4⟩ := trodAll_cons r3
  obtain ⟨rfl, rfl, rfl⟩ := trodAll_nil r4
  obtain rfl : args = #[v0, v1, v2, v3, v4] := by cases args; simp_all
  obtain ⟨rfl, rfl⟩ := trodVars_none hV
  have k0 := h0
  have lt0 : ∀ x ∈ p0, x.block < W.heap.size := by obtain ⟨m, hm⟩ := k0; exact DataW.trod_lt m _ _ _ hm
  obtain ⟨a0, len0, cap0, L0, rfl, w0⟩ := open_cls (hval 0 22 v0 rfl rfl) h0
  obtain ⟨a1, rfl, rfl, rfl, w1⟩ := open_int Tryd.underlying3 (hval 1 3 v1 rfl rfl) h1
  have k2 := h2
  have lt2 : ∀ x ∈ p2, x.block < W.heap.size := by obtain ⟨m, hm⟩ := k2; exact DataW.trod_lt m _ _ _ hm
  obtain ⟨a2, len2, cap2, L2, rfl, w2⟩ := open_is (hval 2 37 v2 rfl rfl) h2
  obtain ⟨a3, rfl, rfl, rfl, w3⟩ := open_int Tryd.underlying3 (hval 3 3 v3 rfl rfl) h3
  have k4 := h4
  have lt4 : ∀ x ∈ p4, x.block < W.heap.size := by obtain ⟨m, hm⟩ := k4; exact DataW.trod_lt m _ _ _ hm
  obtain ⟨a4, len4, cap4, L4, rfl, w4⟩ := open_is (hval 4 37 v4 rfl rfl) h4
  have hTab := of_lay1 hL
  clear hA0 hval0
  refine (walk W a0 len0 cap0 L0 w0 a1 w1 a2 len2 cap2 L2 w2 a3 w3 a4 len4 cap4 L4 w4 hTab).mono fun e W' ⟨he, bel⟩ => ?_
  subst he
  exact ⟨_, rfl, _, _, _, [], _, [], hW', trodAll_mk1 (shut_bool Tryd.underlying4 _), (trodAll_cons_mk (Below.trod laidOut (by kernel_rfl) (of_decide_eq_true (by kernel_rfl)) k0 bel lt0) (trodAll_cons_mk (shut_int Tryd.underlying3 w1) (trodAll_cons_mk (Below.trod laidOut (by kernel_rfl) (of_decide_eq_true (by kernel_rfl)) k2 bel lt2) (trodAll_cons_mk (shut_int Tryd.underlying3 w3) (trodAll_cons_mk (Below.trod laidOut (by kernel_rfl) (of_decide_eq_true (by kernel_rfl)) k4 bel lt4) trodAll_mk0))))), rfl, bel.frame _, fun h => by cases h⟩
theorem over : Rows.vaultTwiceRow.holds Tryd.pinned (OpenSpec.ofChange Rows.vaultTwiceSpec) :=
  OpenClaim.holds_of_wide 5 Tryd.f5 rfl rfl rfl rfl rfl rfl rfl ⟨rfl, rfl, rfl, rfl, rfl⟩ rfl rfl rfl rfl rfl (by kernel_rfl) Tryd.func5 (by kernel_rfl)
    (of_decide_eq_true (by kernel_rfl)) (by unfold Func.isWrapper; first | (rw [if_pos (by decide +kernel)]; kernel_rfl) | (rw [if_neg (by decide +kernel)]; exact ⟨rfl, rfl⟩))
    (fun os started H enc _ => lifted os started H enc)
theorem vaultTwice_holds : Rows.VaultTwiceCardSaid :=
  Claim7.holds_tied_plain_at .later [] [.data] true (true, "3918f1ddf02261ad0a93f38998c4f98da4da0b9053f84aceed042060bea0f41d") false
    over (fun _ h => by cases h) (by kernel_rfl) (fun _ h => by cases h) vaultTwice_row_tie rfl ⟨rfl, rfl⟩ (by kernel_rfl) rfl
    (fun f fn hf hfn => by
      obtain rfl : f = 5 := Option.some.inj ((show Tryd.prog.funcNamed "jurat/juratlaw12.VaultTwice" = some 5 by kernel_rfl).symm.trans hf) |>.symm
      obtain rfl : fn = Tryd.f5 := (Option.some.inj (Tryd.func5.symm.trans hfn)).symm
      exact ⟨by kernel_rfl, fun j t ht => by
        rw [Tryd.params5] at ht
        have hm : t ∈ [22, 3, 37, 3, 37] := by simpa using Array.mem_of_getElem? ht
        have hall : ([22, 3, 37, 3, 37].all fun u => !Tryd.prog.wantsStandIn u) = true := by kernel_rfl
        exact (show Tryd.prog.wantsStandIn t = false by simpa using List.all_eq_true.1 hall t hm)⟩)
    (by kernel_rfl)
#print axioms vaultTwice_holds
end Go.Proofs.YtgiobcpljbpmiaaDoor.vaultTwice
