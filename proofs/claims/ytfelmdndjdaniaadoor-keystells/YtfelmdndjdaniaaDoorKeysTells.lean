/-
  KeysTells, whole, as the tied card (Rows.KeysTellsCardSaid): for every public key, number of bits, height, text and signature (up to 24 bits and height 3, or what may not be; texts of up to 200 bytes; up to 100 digests and 20 of the path) keys.Verify of copies says what the document's own Verify says; and a key of one index signs once. Conditions: the tables sha.constants, juratref02.constants and juratref02.first read as their initialisers lay them (tied to the program's text).
-/
import Derived.Test.YtfelmdndjdaniaaDoorRows
import Derived.Test.YtfelmdndjdaniaaDoorCards
import Derived.Test.YtfelmdndjdaniaaDoorTie
import Derived.WalkKit
import Derived.ProofKit
import Derived.OpenShut
import Derived.ChangeMaps5
import Derived.ShutString
import Derived.ChangeOld
import Derived.Below
import Derived.SizedLaws
import Derived.SevenTiedAt
import Derived.Lay
import Derived.LaidLaws
import Derived.Test.YtfelmdndjdaniaaDoorKeyO
namespace Go.Proofs.YtfelmdndjdaniaaDoor.keysTells
open Go.ChangeShapes Go.WideShapes Go.ChangeAt Go.RowKit
open Go.ChangeMaps (open_string shut_string)
set_option linter.unusedVariables false
theorem own : ownKnob Tryd.prog.godebug = none := by kernel_rfl
theorem laidOut : laidOutB Tryd.prog = true := by kernel_rfl
set_option maxRecDepth 100000 in
set_option maxHeartbeats 1000000 in
theorem walk_no (w : World) (s0 : List UInt8) (a1 a2 : Int) (a3 : Option Addr) (len3 cap3 : Nat) (i4 : Int) (x4 : Option Addr) (m4 c4 : Nat) (y4 : Option Addr) (n4 d4 : Nat) (h : greatB a1 a2 = true ∨ 200 < len3 ∨ 100 < m4 ∨ 20 < n4) (hT : Tab 1 w) :
    Calls Tryd.prog 6 #[.agg (bcells s0), .int .i64 a1, .int .i64 a2, .slice a3 len3 cap3, .agg (sigC i4 x4 m4 c4 y4 n4 d4)] w fun e w' => e = .returned (.bool true) ∧ Below w.heap.size w w' := by
  obtain ⟨wq, hwq⟩ : ∃ wq, (w.alloc (.cells (bcells s0) 23)).alloc (.cells (sigC i4 x4 m4 c4 y4 n4 d4) 44) = wq := ⟨_, rfl⟩
  have hb0 : Below w.heap.size w wq := by rw [← hwq]; exact ((Below.refl w.heap.size w).alloc (Nat.le_refl _) _).alloc (by simp) _
  have hrs : Row wq (w.heap.size + 1) 44 (sigC i4 x4 m4 c4 y4 n4 d4) := by rw [← hwq]; exact Row.new1 w _ 44 _
  have k1 : wq.cell? ⟨w.heap.size + 1, 1, none⟩ = some (.slice x4 m4 c4) := hrs.cell 1
  have k2 : wq.cell? ⟨w.heap.size + 1, 2, none⟩ = some (.slice y4 n4 d4) := hrs.cell 2
  clear hrs
  have HG := Lib.hid (fun w => great_any a1 a2 w)
  have HT := Lib.hid hT
  clear hT
  cases hg : greatB a1 a2
  · rw [hg] at HG
    by_cases h3 : 200 < len3
    · have i3 : 200 < (len3 : Int) := by omega
      clear h hg h3
      go_enter Tryd.func6, Tryd.ntmps6
      go_wp2_with (first
        | (go_at_call 11; refine (HG.out _).mono ?_; rintro e1 w1 ⟨rfl, rfl⟩)
        | (go_at_call 12; refine (kawake_any _ (HT.out.below hb0)).mono ?_; rintro e2 w2 ⟨rfl, hb2⟩))
      go_ret
      exact ⟨rfl, hb0.trans (hb2.mono hb0.size)⟩
    · have i3 : ¬ 200 < (len3 : Int) := by omega
      by_cases hm : 100 < m4
      · have im : 100 < (m4 : Int) := by omega
        clear h hg h3 hm
        go_enter Tryd.func6, Tryd.ntmps6
        go_wp2_with (first
          | (go_at_call 11; refine (HG.out _).mono ?_; rintro e1 w1 ⟨rfl, rfl⟩)
          | (go_at_call 12; refine (kawake_any _ (HT.out.below hb0)).mono ?_; rintro e2 w2 ⟨rfl, hb2⟩))
        go_ret
        exact ⟨rfl, hb0.trans (hb2.mono hb0.size)⟩
      · have im : ¬ 100 < (m4 : Int) := by omega
        have iq : 20 < (n4 : Int) := by
          rcases h with h | h | h | h
          · rw [hg] at h; cases h
          · exact absurd h h3
          · exact absurd h hm
          · omega
        clear h hg h3 hm
        go_enter Tryd.func6, Tryd.ntmps6
        go_wp2_with (first
          | (go_at_call 11; refine (HG.out _).mono ?_; rintro e1 w1 ⟨rfl, rfl⟩)
          | (go_at_call 12; refine (kawake_any _ (HT.out.below hb0)).mono ?_; rintro e2 w2 ⟨rfl, hb2⟩))
        go_ret
        exact ⟨rfl, hb0.trans (hb2.mono hb0.size)⟩
  · rw [hg] at HG
    clear h hg
    go_enter Tryd.func6, Tryd.ntmps6
    go_wp2_with (first
      | (go_at_call 11; refine (HG.out _).mono ?_; rintro e1 w1 ⟨rfl, rfl⟩)
      | (go_at_call 12; refine (kawake_any _ (HT.out.below hb0)).mono ?_; rintro e2 w2 ⟨rfl, hb2⟩))
    go_ret
    exact ⟨rfl, hb0.trans (hb2.mono hb0.size)⟩
set_option maxRecDepth 100000 in
set_option maxHeartbeats 4000000 in
theorem walk_ok (w : World) (s0 : List UInt8) (w0 : s0.length = 32) (a1 a2 : Int) (a3 : Option Addr) (len3 cap3 : Nat) (l3 : List UInt8) (w3 : Bs w a3 len3 l3) (s3 : len3 ≤ cap3) (h3 : len3 ≤ 200) (i4 : Int) (hi4 : i4 < 9223372036854775808) (x4 : Option Addr) (m4 c4 : Nat) (O : List (List UInt8)) (hO : Ds w x4 m4 O) (hm : m4 ≤ 100) (y4 : Option Addr) (n4 d4 : Nat) (P : List (List UInt8)) (hP : Ds w y4 n4 P) (hn : n4 ≤ 20) (hg : greatB a1 a2 = false) (hT : First w ∧ Tab 2 w ∧ Tab 1 w) :
    Calls Tryd.prog 6 #[.agg (bcells s0), .int .i64 a1, .int .i64 a2, .slice a3 len3 cap3, .agg (sigC i4 x4 m4 c4 y4 n4 d4)] w fun e w' => e = .returned (.bool true) ∧ Below w.heap.size w w' := by
  obtain ⟨wq, hwq⟩ : ∃ wq, (w.alloc (.cells (bcells s0) 23)).alloc (.cells (sigC i4 x4 m4 c4 y4 n4 d4) 44) = wq := ⟨_, rfl⟩
  have hb0 : Below w.heap.size w wq := by rw [← hwq]; exact ((Below.refl w.heap.size w).alloc (Nat.le_refl _) _).alloc (by simp) _
  have hs0 : w.heap.size + 1 < wq.heap.size := by rw [← hwq]; simp
  have hrd : Row wq w.heap.size 23 (bcells s0) := by rw [← hwq]; exact (Row.new w 23 _).alloc _
  have hrs : Row wq (w.heap.size + 1) 44 (sigC i4 x4 m4 c4 y4 n4 d4) := by rw [← hwq]; exact Row.new1 w _ 44 _
  have k1 : wq.cell? ⟨w.heap.size + 1, 1, none⟩ = some (.slice x4 m4 c4) := hrs.cell 1
  have k2 : wq.cell? ⟨w.heap.size + 1, 2, none⟩ = some (.slice y4 n4 d4) := hrs.cell 2
  have HRD := Lib.hid hrd
  have HRS := Lib.hid hrs
  have HSL := Lib.hid w0
  have HGr := Lib.hid (fun w => show Calls Tryd.prog 11 #[.int .i64 a1, .int .i64 a2] w fun e w' => e = .returned (.bool false) ∧ w = w' by have q := great_any a1 a2 w; rw [hg] at q; exact q)
  have HF := Lib.hid (hT.1.below hb0)
  have HT2 := Lib.hid (hT.2.1.below hb0)
  have HT := Lib.hid (hT.2.2.below hb0)
  have HB := Lib.hid (w3.below hb0)
  have HO := Lib.hid (hO.below hb0)
  have HP := Lib.hid (hP.below hb0)
  have HL3 := Lib.hid w3.1
  have i3 : ¬ 200 < (len3 : Int) := by omega
  have im : ¬ 100 < (m4 : Int) := by omega
  have iq : ¬ 20 < (n4 : Int) := by omega
  have HV := Lib.hid (fun A A1 A2 nt ct n1 c1 n2 c2 w hB hc hn hO hP hT => kVerify_any s0 a1 a2 i4 A A1 A2 nt ct n1 c1 n2 c2 l3 O P w w0 hB hc hn hO hP hT)
  have HVR := Lib.hid (fun A A1 A2 nt ct n1 c1 n2 c2 w hB hc hn hO hP hF hT => kRefVerify_any s0 a1 a2 i4 A A1 A2 nt ct n1 c1 n2 c2 l3 O P w w0 hi4 hB hc hn hO hP hF hT)
  generalize verK s0 a1 a2 (sumL l3) i4 O P = V at *
  clear hrd hrs hO hP w3 hT hg w0 hi4
  go_enter Tryd.func6, Tryd.ntmps6
  go_wp2_with (go_at_call 11; refine (HGr.out _).mono ?_; rintro e1 w1 ⟨rfl, rfl⟩)
  have B0 : Below wq.heap.size wq wq.drew := (Below.refl wq.heap.size wq).drew
  have K0 := Lib.hid (HRD.out.below B0 (by omega))
  have K1 := Lib.hid (HRS.out.below B0 hs0)
  refine wp_region_noPanic ?_
  refine wp_region_held_drew (S := fun w' => Row w' (w.heap.size) 23 (bcells s0) ∧ Row w' (w.heap.size + 1) 44 (sigC i4 x4 m4 c4 y4 n4 d4)) (by kernel_rfl) ⟨K0.out, K1.out⟩ (fun hHeld => ?_)
  refine takeD (i := 0) (some 32) (.agg (bcells s0)) rfl rfl (by kernel_rfl) (by kernel_rfl) (by kernel_rfl) (fun _ _ _ h => h) (yields_loadW (by rfl) (.tmp 5) rfl (w.heap.size) (0) s0 rfl (fun _ h => range_row h.1) HSL.out) hHeld ?_
  simp only [Act.put, List.setIfInBounds_toArray, List.set_cons_zero, List.set_cons_succ]
  refine takeD (i := 1) (some 33) (.int .i64 a1) rfl rfl (by kernel_rfl) (by kernel_rfl) (by kernel_rfl) (fun _ _ _ h => h) (Or.inl ⟨by rfl, fun _ _ => rfl⟩) hHeld ?_
  simp only [Act.put, List.setIfInBounds_toArray, List.set_cons_zero, List.set_cons_succ]
  refine takeD (i := 2) (some 34) (.int .i64 a2) rfl rfl (by kernel_rfl) (by kernel_rfl) (by kernel_rfl) (fun _ _ _ h => h) (Or.inl ⟨by rfl, fun _ _ => rfl⟩) hHeld ?_
  simp only [Act.put, List.setIfInBounds_toArray, List.set_cons_zero, List.set_cons_succ]
  refine takeD (i := 3) (some 35) (.slice a3 len3 cap3) rfl rfl (by kernel_rfl) (by kernel_rfl) (by kernel_rfl) (fun _ _ _ h => h) (Or.inl ⟨by rfl, fun _ _ => rfl⟩) hHeld ?_
  simp only [Act.put, List.setIfInBounds_toArray, List.set_cons_zero, List.set_cons_succ]
  refine takeD (i := 5) (some 37) (.agg (sigC i4 x4 m4 c4 y4 n4 d4)) rfl rfl (by kernel_rfl) (by kernel_rfl) (by kernel_rfl) (fun _ _ _ h => h) (yields_loadS (by rfl) (.tmp 9) rfl (w.heap.size + 1) rfl _ _ _ _ _ _ _ (fun _ h => h.2)) hHeld ?_
  simp only [Act.put, List.setIfInBounds_toArray, List.set_cons_zero, List.set_cons_succ]
  refine takeD (i := 8) (some 40) (.agg (bcells s0)) rfl rfl (by kernel_rfl) (by kernel_rfl) (by kernel_rfl) (fun _ _ _ h => h) (yields_loadW (by rfl) (.tmp 5) rfl (w.heap.size) (0) s0 rfl (fun _ h => range_row h.1) HSL.out) hHeld ?_
  simp only [Act.put, List.setIfInBounds_toArray, List.set_cons_zero, List.set_cons_succ]
  refine takeD (i := 9) (some 41) (.int .i64 a1) rfl rfl (by kernel_rfl) (by kernel_rfl) (by kernel_rfl) (fun _ _ _ h => h) (Or.inl ⟨by rfl, fun _ _ => rfl⟩) hHeld ?_
  simp only [Act.put, List.setIfInBounds_toArray, List.set_cons_zero, List.set_cons_succ]
  refine takeD (i := 10) (some 42) (.int .i64 a2) rfl rfl (by kernel_rfl) (by kernel_rfl) (by kernel_rfl) (fun _ _ _ h => h) (Or.inl ⟨by rfl, fun _ _ => rfl⟩) hHeld ?_
  simp only [Act.put, List.setIfInBounds_toArray, List.set_cons_zero, List.set_cons_succ]
  refine takeD (i := 11) (some 43) (.slice a3 len3 cap3) rfl rfl (by kernel_rfl) (by kernel_rfl) (by kernel_rfl) (fun _ _ _ h => h) (Or.inl ⟨by rfl, fun _ _ => rfl⟩) hHeld ?_
  simp only [Act.put, List.setIfInBounds_toArray, List.set_cons_zero, List.set_cons_succ]
  refine takeD (i := 12) (some 44) (.agg (sigC i4 x4 m4 c4 y4 n4 d4)) rfl rfl (by kernel_rfl) (by kernel_rfl) (by kernel_rfl) (fun _ _ _ h => h) (yields_loadS (by rfl) (.tmp 9) rfl (w.heap.size + 1) rfl _ _ _ _ _ _ _ (fun _ h => h.2)) hHeld ?_
  simp only [Act.put, List.setIfInBounds_toArray, List.set_cons_zero, List.set_cons_succ]
  refine wpAnyH_ready (rs := [4]) (by kernel_rfl) (by decide) ?_
  refine AllReadyH.cons rfl (fun K' hK => ?_) AllReadyH.nil
  go_simp
  refine (kown_any a3 len3 cap3 l3 wq.drew (HB.out.below B0) (by omega)).mono ?_
  rintro e3 w3 ⟨A3, n3, c3, rfl, hB3, hc3, hb3, -⟩
  obtain rfl : len3 = n3 := HL3.out.symm.trans hB3.1
  have HB3 := Lib.hid hB3
  clear hB3
  have B3 : Below wq.heap.size wq w3 := B0.trans (hb3.mono B0.size)
  refine hK.out _ _ ⟨HRD.out.below B3 (by omega), HRS.out.below B3 hs0⟩ (fun hHeld1 => ?_)
  clear hK
  (try simp only [Act.put, List.setIfInBounds_toArray, List.set_cons_zero, List.set_cons_succ])
  refine wpAnyH_ready (rs := [6]) (by kernel_rfl) (by decide) ?_
  refine AllReadyH.cons rfl (fun K' hK => ?_) AllReadyH.nil
  go_simp
  refine (kCopy_any i4 x4 y4 m4 c4 n4 d4 O P w3 (HO.out.below B3) (HP.out.below B3) (by omega) (by omega)).mono ?_
  rintro e5 w5 ⟨A5, c5, A6, c6, rfl, hd5, hd6, hb5⟩
  have HD5 := Lib.hid hd5
  have HD6 := Lib.hid hd6
  clear hd5 hd6
  have B5 : Below wq.heap.size wq w5 := B3.trans (hb5.mono B3.size)
  refine hK.out _ _ ⟨HRD.out.below B5 (by omega), HRS.out.below B5 hs0⟩ (fun hHeld2 => ?_)
  clear hK
  (try simp only [Act.put, List.setIfInBounds_toArray, List.set_cons_zero, List.set_cons_succ])
  refine wpAnyH_ready (rs := [7]) (by kernel_rfl) (by decide) ?_
  refine AllReadyH.cons rfl (fun K' hK => ?_) AllReadyH.nil
  go_simp
  refine (HV.out A3 A5 A6 len3 c3 m4 c5 n4 c6 w5 (HB3.out.below hb5) hc3 (by omega) HD5.out HD6.out (HT.out.below B5)).mono ?_
  rintro e7 w7 ⟨rfl, hb7⟩
  have B7 : Below wq.heap.size wq w7 := B5.trans (hb7.mono B5.size)
  refine hK.out _ _ ⟨HRD.out.below B7 (by omega), HRS.out.below B7 hs0⟩ (fun hHeld3 => ?_)
  clear hK
  (try simp only [Act.put, List.setIfInBounds_toArray, List.set_cons_zero, List.set_cons_succ])
  refine wpAnyH_ready (rs := [13]) (by kernel_rfl) (by decide) ?_
  refine AllReadyH.cons rfl (fun K' hK => ?_) AllReadyH.nil
  go_simp
  refine (HVR.out a3 x4 y4 len3 cap3 m4 c4 n4 d4 w7 (HB.out.below B7) s3 (by omega) (HO.out.below B7) (HP.out.below B7) (HF.out.below B7) (HT2.out.below B7)).mono ?_
  rintro e8 w8 ⟨rfl, hb8⟩
  have B8 : Below wq.heap.size wq w8 := B7.trans (hb8.mono B7.size)
  refine hK.out _ _ ⟨HRD.out.below B8 (by omega), HRS.out.below B8 hs0⟩ (fun hHeld4 => ?_)
  clear hK
  (try simp only [Act.put, List.setIfInBounds_toArray, List.set_cons_zero, List.set_cons_succ])
  refine takeD (i := 14) (some 46) (.bool true) rfl rfl (by kernel_rfl) (by kernel_rfl) (by kernel_rfl) (fun _ _ _ h => h) (yields_eqB rfl (.tmp 39) (.tmp 45) rfl V rfl rfl) hHeld4 ?_
  simp only [Act.put, List.setIfInBounds_toArray, List.set_cons_zero, List.set_cons_succ]
  refine takeD (i := 15) (some 47) (.bool true) rfl rfl (by kernel_rfl) (by kernel_rfl) (by kernel_rfl) (fun _ _ _ h => h) (Or.inl ⟨by rfl, fun _ _ => rfl⟩) hHeld4 ?_
  simp only [Act.put, List.setIfInBounds_toArray, List.set_cons_zero, List.set_cons_succ]
  refine wpAnyH_ready (rs := [16]) (by kernel_rfl) (by decide) ?_
  refine AllReadyH.cons rfl (fun K' hK => ?_) AllReadyH.nil
  go_simp
  refine (kawake_any w8 (HT.out.below B8)).mono ?_
  rintro e9 w9 ⟨rfl, hb9⟩
  have B9 : Below wq.heap.size wq w9 := B8.trans (hb9.mono B8.size)
  refine hK.out _ _ ⟨HRD.out.below B9 (by omega), HRS.out.below B9 hs0⟩ (fun hHeld5 => ?_)
  clear hK
  (try simp only [Act.put, List.setIfInBounds_toArray, List.set_cons_zero, List.set_cons_succ])
  refine takeD (i := 17) (some 49) (.bool true) rfl rfl (by kernel_rfl) (by kernel_rfl) (by kernel_rfl) (fun _ _ _ h => h) (Or.inl ⟨by rfl, fun _ _ => rfl⟩) hHeld5 ?_
  simp only [Act.put, List.setIfInBounds_toArray, List.set_cons_zero, List.set_cons_succ]
  refine takeD (i := 18) (some 10) (.bool true) rfl rfl (by kernel_rfl) (by kernel_rfl) (by kernel_rfl) (fun _ _ _ h => h) (Or.inl ⟨by rfl, fun _ _ => rfl⟩) hHeld5 ?_
  simp only [Act.put, List.setIfInBounds_toArray, List.set_cons_zero, List.set_cons_succ]
  (try simp only [Act.put, List.setIfInBounds_toArray])
  refine wpAnyH_done (by kernel_rfl) ?_ _
  refine NoPanic.normal ?_
  go_wp2_with fail
  go_ret
  exact ⟨rfl, hb0.trans (B9.mono hb0.size)⟩
theorem walk (w : World) (s0 : List UInt8) (w0 : s0.length = 32) (a1 : Int) (_w1 : (Lit.int .i64 a1).wf = true) (a2 : Int) (_w2 : (Lit.int .i64 a2).wf = true) (a3 : Option Addr) (len3 cap3 : Nat) (l3 : List UInt8) (w3 : Bs w a3 len3 l3) (s3 : len3 ≤ cap3 ∧ cap3 ≤ 140737488351232) (i4 : Int) (hi4 : -9223372036854775808 ≤ i4 ∧ i4 < 9223372036854775808) (x4 : Option Addr) (m4 c4 : Nat) (O : List (List UInt8)) (hO : Ds w x4 m4 O ∧ m4 ≤ c4) (y4 : Option Addr) (n4 d4 : Nat) (P : List (List UInt8)) (hP : Ds w y4 n4 P ∧ n4 ≤ d4) (hT : First w ∧ Tab 2 w ∧ Tab 1 w) :
    Calls Tryd.prog 6 #[.agg (bcells s0), .int .i64 a1, .int .i64 a2, .slice a3 len3 cap3, .agg (sigC i4 x4 m4 c4 y4 n4 d4)] w fun e w' => e = .returned (.bool true) ∧ Below w.heap.size w w' := by
  cases hg : greatB a1 a2
  · by_cases h3 : 200 < len3
    · exact walk_no w s0 a1 a2 a3 len3 cap3 i4 x4 m4 c4 y4 n4 d4 (.inr (.inl h3)) hT.2.2
    · by_cases hm : 100 < m4
      · exact walk_no w s0 a1 a2 a3 len3 cap3 i4 x4 m4 c4 y4 n4 d4 (.inr (.inr (.inl hm))) hT.2.2
      · by_cases hn : 20 < n4
        · exact walk_no w s0 a1 a2 a3 len3 cap3 i4 x4 m4 c4 y4 n4 d4 (.inr (.inr (.inr hn))) hT.2.2
        · exact walk_ok w s0 w0 a1 a2 a3 len3 cap3 l3 w3 s3.1 (by omega) i4 hi4.2 x4 m4 c4 O hO.1 (by omega) y4 n4 d4 P hP.1 (by omega) hg hT
  · exact walk_no w s0 a1 a2 a3 len3 cap3 i4 x4 m4 c4 y4 n4 d4 (.inl hg) hT.2.2

set_option maxRecDepth 100000 in
theorem lifted (os : Os) (started : os.Started) (H : Type) (enc : TypeId × Value → H) :
    ReturnsInHanded {} Tryd.checked os 6 .any (fun w args => (Rows.keysTellsSpec.pre enc Tryd.prog Tryd.f6 Rows.keysTellsRow.domain false w args ∧ laidMetH Tryd.prog lay3 w) ∧ sizedMet enc Tryd.prog Tryd.f6 (OpenSpec.ofChange Rows.keysTellsSpec) false w args)
      (Rows.keysTellsSpec.post enc Tryd.prog Tryd.f6 false true false false) := by
  refine returnsInHanded_of_change_and (C := Tryd.checked) (X := fun w _ => laidMetH Tryd.prog lay3 w) (fun _ _ _ hh h => h.of_heap hh) own started (by kernel_rfl) Tryd.func6
    (ChangeSpec.witness_shaped (enc := enc) (C := Tryd.checked) (os := os) (X := fun w _ => laidMetH Tryd.prog lay3 w) false (World.laidAll Tryd.prog os lay3) #[.agg #[.int .u8 0, .int .u8 0, .int .u8 0, .int .u8 0, .int .u8 0, .int .u8 0, .int .u8 0, .int .u8 0, .int .u8 0, .int .u8 0, .int .u8 0, .int .u8 0, .int .u8 0, .int .u8 0, .int .u8 0, .int .u8 0, .int .u8 0, .int .u8 0, .int .u8 0, .int .u8 0, .int .u8 0, .int .u8 0, .int .u8 0, .int .u8 0, .int .u8 0, .int .u8 0, .int .u8 0, .int .u8 0, .int .u8 0, .int .u8 0, .int .u8 0, .int .u8 0], .int .i64 0, .int .i64 0, .slice none 0 0, .agg #[.int .i64 0, .slice none 0 0, .slice none 0 0]] 8 rfl (World.shaped_of_ZipB (by kernel_rfl) (by kernel_rfl)) (by kernel_rfl) (by kernel_rfl) (by kernel_rfl) (met3 os _)) ?_
  intro W base args ds gs before hval0 hW hcnd hsz0 hL _
  have hval : ∀ (j : Nat) t v, Tryd.f6.params[j]? = some t → args[j]? = some v → Value.okWide Tryd.prog W .any base t v := hval0
  have hW' := hW
  obtain ⟨p, q, hA0, hV, rfl, hfz, hnd⟩ := hW
  have hA : DataW.TrodAll enc Tryd.prog W 0 (fun _ => true) true Tryd.f6.params.toList args.toList ds p := hA0
  have hsz : (DataW.weightsEach Tryd.prog (Tryd.f6.params.toList ++ Rows.keysTellsSpec.plain.varTypes Tryd.prog) (ds ++ gs)).all (· ≤ reachBytes) = true := hsz0
  rw [Tryd.params6] at hA hval hsz
  obtain ⟨v0, vs0, d0, ds0, p0, q0, hargs, rfl, rfl, h0, r0⟩ := trodAll_cons hA
  obtain ⟨v1, vs1, d1, ds1, p1, q1, rfl, rfl, rfl, h1, r1⟩ := trodAll_cons r0
  obtain ⟨v2, vs2, d2, ds2, p2, q2, rfl, rfl, rfl, h2, r2⟩ := trodAll_cons r1
  obtain ⟨v3, vs3, d3, ds3, p3, q3, rfl, rfl, rfl, h3, r3⟩ := trodAll_cons r2
  obtain ⟨v4, vs4, d4, ds4, p4, q4, rfl, rfl, rfl, h4, r4⟩ := trodAll_cons r3
  obtain ⟨rfl, rfl, rfl⟩ := trodAll_nil r4
  obtain rfl : args = #[v0, v1, v2, v3, v4] := by cases args; simp_all
  obtain ⟨rfl, rfl⟩ := trodVars_none hV
  have k0 := h0
  have lt0 : ∀ x ∈ p0, x.block < W.heap.size := by obtain ⟨m, hm⟩ := k0; exact DataW.trod_lt m _ _ _ hm
  obtain ⟨s0, w0, rfl⟩ : ∃ s : List UInt8, s.length = 32 ∧ v0 = .agg (bcells s) := open_digest (hval 0 23 v0 rfl rfl) h0
  obtain ⟨a1, rfl, rfl, rfl, w1⟩ := open_int Tryd.underlying3 (hval 1 3 v1 rfl rfl) h1
  obtain ⟨a2, rfl, rfl, rfl, w2⟩ := open_int Tryd.underlying3 (hval 2 3 v2 rfl rfl) h2
  obtain ⟨a3, len3, cap3, rfl⟩ := okWide_slice Tryd.underlying37 (hval 3 37 v3 rfl rfl)
  have k3 := h3
  have lt3 : ∀ x ∈ p3, x.block < W.heap.size := by obtain ⟨m, hm⟩ := k3; exact DataW.trod_lt m _ _ _ hm
  obtain ⟨l3, w3, s3⟩ : ∃ l, Bs W a3 len3 l ∧ len3 ≤ cap3 ∧ cap3 ≤ 140737488351232 := by
    obtain ⟨fuel, hf⟩ := h3
    rcases open_ints Tryd.underlying37 Tryd.underlying5 (by kernel_rfl) hf with ⟨hcs, _⟩ | ⟨x, l, c, zs, hcs, _, hl, hm, hz, hx, hcell, hwz⟩
    · simp [Value.cells] at hcs
      obtain ⟨rfl, rfl, rfl⟩ := hcs
      exact ⟨[], Bs.nil _ _, by omega, by omega⟩
    · simp [Value.cells] at hcs
      obtain ⟨rfl, rfl, rfl⟩ := hcs
      simp only [Prod.mk.injEq] at hx
      obtain ⟨rfl, _⟩ := hx
      have hb := sized_slice hsz (j := 3) (t := 37) (e := 5) rfl rfl Tryd.underlying37
      rw [show Tryd.prog.bytesOf 5 = 1 from by kernel_rfl] at hb
      simp only [lits, List.length_map, List.length_take, List.length_drop, reachBytes] at hb
      have hz' : zs.length = cap3 := by simpa using hz
      exact ⟨_, Bs.of_ints hl hz' hcell hwz, hl, by omega⟩
  have k4 := h4
  have lt4 : ∀ x ∈ p4, x.block < W.heap.size := by obtain ⟨m, hm⟩ := k4; exact DataW.trod_lt m _ _ _ hm
  obtain ⟨i4, x4, m4, c4, O4, y4, n4, e4, P4, rfl, hi4, hO4, hP4⟩ := open_sig (hval 4 44 v4 rfl rfl) h4
  have hTab := of_lay3 hL
  clear hA0 hval0
  refine (walk W s0 w0 a1 w1 a2 w2 a3 len3 cap3 l3 w3 s3 i4 hi4 x4 m4 c4 O4 hO4 y4 n4 e4 P4 hP4 hTab).mono fun e W' ⟨he, bel⟩ => ?_
  subst he
  exact ⟨_, rfl, _, _, _, [], _, [], hW', trodAll_mk1 (shut_bool Tryd.underlying4 _), (trodAll_cons_mk (Below.trod laidOut (by kernel_rfl) (of_decide_eq_true (by kernel_rfl)) k0 bel lt0) (trodAll_cons_mk (shut_int Tryd.underlying3 w1) (trodAll_cons_mk (shut_int Tryd.underlying3 w2) (trodAll_cons_mk (Below.trod laidOut (by kernel_rfl) (of_decide_eq_true (by kernel_rfl)) k3 bel lt3) (trodAll_cons_mk (Below.trod laidOut (by kernel_rfl) (of_decide_eq_true (by kernel_rfl)) k4 bel lt4) trodAll_mk0))))), rfl, bel.frame _, fun h => by cases h⟩
theorem over : Rows.keysTellsRow.holds Tryd.pinned (OpenSpec.ofChange Rows.keysTellsSpec) :=
  OpenClaim.holds_of_wide 6 Tryd.f6 rfl rfl rfl rfl rfl rfl rfl ⟨rfl, rfl, rfl, rfl, rfl⟩ rfl rfl rfl rfl rfl (by kernel_rfl) Tryd.func6 (by kernel_rfl)
    (of_decide_eq_true (by kernel_rfl)) (by unfold Func.isWrapper; first | (rw [if_pos (by decide +kernel)]; kernel_rfl) | (rw [if_neg (by decide +kernel)]; exact ⟨rfl, rfl⟩))
    (fun os started H enc _ => lifted os started H enc)
theorem keysTells_holds : Rows.KeysTellsCardSaid :=
  Claim7.holds_tied_plain_at .later [] [.data, .data, .data] true (true, "d3f0664aba75a8af102b5f214e5048e24f7f5bc8fe66a510793bef99d59ac9fb") false
    over (fun _ h => by cases h) (by kernel_rfl) (fun _ h => by cases h) keysTells_row_tie rfl ⟨rfl, rfl⟩ (by kernel_rfl) rfl
    (fun f fn hf hfn => by
      obtain rfl : f = 6 := Option.some.inj ((show Tryd.prog.funcNamed "jurat/juratlaw07.KeysTells" = some 6 by kernel_rfl).symm.trans hf) |>.symm
      obtain rfl : fn = Tryd.f6 := (Option.some.inj (Tryd.func6.symm.trans hfn)).symm
      exact ⟨by kernel_rfl, fun j t ht => by
        rw [Tryd.params6] at ht
        have hm : t ∈ [23, 3, 37, 44] := by simpa using Array.mem_of_getElem? ht
        have hall : ([23, 3, 37, 44].all fun u => !Tryd.prog.wantsStandIn u) = true := by kernel_rfl
        exact (show Tryd.prog.wantsStandIn t = false by simpa using List.all_eq_true.1 hall t hm)⟩)
    (by kernel_rfl)
#print axioms keysTells_holds
end Go.Proofs.YtfelmdndjdaniaaDoor.keysTells
