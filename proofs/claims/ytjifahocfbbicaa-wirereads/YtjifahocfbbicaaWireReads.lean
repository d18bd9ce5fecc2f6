/-
  WireReads, whole (Rows.WireReadsSaid): whatever is asked of whatever bytes, in whatever order, a reader answers as the document says, and stands where it says. No conditions.
  The frame is the shell of the proof by program (proof-skeleton); the walk is mine.
-/
import Derived.Test.YtjifahocfbbicaaRows
import Derived.WalkKit
import Derived.ProofKit
import Derived.OpenShut
import Derived.ShutString
import Derived.ChangeOld
import Derived.Below
import Derived.SizedLaws
import Derived.Test.YtjifahocfbbicaaPairs
namespace Go.Proofs.Ytjifahocfbbicaa.wireReads
open Go.ChangeShapes Go.WideShapes Go.ChangeAt Go.RowKit
set_option linter.unusedVariables false
theorem own : ownKnob Try.prog.godebug = none := by kernel_rfl
theorem laidOut : laidOutB Try.prog = true := by kernel_rfl
theorem left_any (g b : Nat) (E : Int) (l : List UInt8) (n : Nat) (hn : l.length = n) (w : World) (h : Rdr w 61 g b E l) : Calls Try.prog 36 #[.pointer (some ⟨g, 0, none⟩)] w fun e w' => e = .returned (.int .i64 (n : Int)) ∧ w = w' := by
  subst hn; exact Left_any g b E l w h
theorem ref_parts {w : World} {g b : Nat} {E : Int} {l : List UInt8} (h : Rdr w 38 g b E l) : ∃ A c, w.cell? ⟨g, 0, none⟩ = some (.slice A l.length c) ∧ w.cell? ⟨g, 1, none⟩ = some (.int .i64 E) := by
  obtain ⟨A, n, c, h1, h2, _⟩ := h
  obtain rfl := h2.1
  exact ⟨A, c, h1.cell 0, h1.cell 1⟩
theorem own_keep {w w' : World} {base g : Nat} {A : Option Addr} {n c : Nat} {l : List UInt8} (h : Own w base 5 (.slice A n c) n l) (ho : Only g w w') (hg : g < base) : Bs w' A n l := (own_only h ho hg).bs
theorem ownL_keep {w w' : World} {base g : Nat} {A : Option Addr} {n c : Nat} {L : List (List UInt8)} (h : OwnL w base (.slice A n c) n L) (ho : Only g w w') (hg : g < base) : Bss w' A n L := (OwnL.only h ho hg).bss
set_option maxRecDepth 100000 in
set_option maxHeartbeats 8000000 in
theorem walk (w : World) (a0 : Option Addr) (len0 cap0 : Nat) (l : List UInt8) (w0 : Bs w a0 len0 l) (s0 : len0 ≤ cap0 ∧ cap0 ≤ 140737488351232) (a1 : Option Addr) (len1 cap1 : Nat) (zs : List Int) (w1 : Is w a1 len1 zs) (a2 : Option Addr) (len2 cap2 : Nat) (ms : List Int) (w2 : Is w a2 len2 ms) :
    Calls Try.prog 4 #[.slice a0 len0 cap0, .slice a1 len1 cap1, .slice a2 len2 cap2] w fun e w' => e = .returned (.bool true) ∧ Below w.heap.size w w' := by
  have HB := Lib.hid w0
  have HZ := Lib.hid w1
  have HM := Lib.hid w2
  have hlen := w0.1
  clear w0 w1 w2
  by_cases e0 : 2000 < len0
  · clear hlen
    go_enter Try.func4, Try.ntmps4
    go_wp2_with (go_at_call 11; refine (awake_any _).mono ?_; rintro e w3 ⟨rfl, hb3⟩)
    go_ret
    exact ⟨rfl, hb3⟩
  by_cases e1 : 40 < len1
  · clear hlen
    go_enter Try.func4, Try.ntmps4
    go_wp2_with (go_at_call 11; refine (awake_any _).mono ?_; rintro e w3 ⟨rfl, hb3⟩)
    go_ret
    exact ⟨rfl, hb3⟩
  by_cases e2 : len2 < len1
  · clear hlen
    go_enter Try.func4, Try.ntmps4
    go_wp2_with (go_at_call 11; refine (awake_any _).mono ?_; rintro e w3 ⟨rfl, hb3⟩)
    go_ret
    exact ⟨rfl, hb3⟩
  have HOW := Lib.hid (own_any a0 len0 cap0 l w HB.out (by omega))
  have HRD := Lib.hid (fun A c w h => Read_any A len0 c l w h (by omega))
  unfold NewSlice at HOW
  rw [hlen] at HOW
  have HLn := Lib.hid hlen
  have hl2 : l.length ≤ 2000 := by omega
  have HL2 := Lib.hid hl2
  clear hlen hl2
  go_enter Try.func4, Try.ntmps4
  go_wp2_with (first
    | (go_at_call 14; refine HOW.out.mono ?_; rintro e w3 ⟨A3, c3, rfl, hc3, p3, ho3⟩)
    | (go_at_call 21; refine (HRD.out _ _ _ ho3.bs).mono ?_; rintro e w4 ⟨g1, b1, rfl, hg1, hb1, hr4, hb4⟩; have p4 := p3.trans (hb4.mono p3.size); have H4 := Lib.hid hr4; clear hr4))
  have hg1w : w.heap.size ≤ g1 := Nat.le_trans p3.size hg1
  have hg14 : g1 < w4.heap.size := H4.out.lt
  have hgs4 := p4.size
  have hb5 : Below w4.heap.size w4 (w4.alloc (.cells #[.slice a0 len0 cap0, .int .i64 0] 38)) := (Below.refl _ _).alloc (Nat.le_refl _) _
  obtain ⟨B1, B2, hB1g, hB1G, hB2g, hR1, hR2⟩ : ∃ B1 B2, B1 ≠ g1 ∧ B1 ≠ w4.heap.size ∧ B2 ≠ g1 ∧ Rdr (w4.alloc (.cells #[.slice a0 len0 cap0, .int .i64 0] 38)) 61 g1 B1 0 l ∧ Rdr (w4.alloc (.cells #[.slice a0 len0 cap0, .int .i64 0] 38)) 38 w4.heap.size B2 0 l := by
    have hrow := Row.new w4 38 #[.slice a0 len0 cap0, .int .i64 0]
    have hbs := (HB.out.below p4).below hb5
    by_cases hl : l = []
    · exact ⟨w4.heap.size + 1, w4.heap.size + 1, by omega, by omega, by omega, (H4.out.below hb5).any hl _ (by omega), ⟨a0, len0, cap0, hrow, hbs, s0.1, .inl (by rw [← HLn.out, hl]; rfl), by omega⟩⟩
    · have hlt := H4.out.blt hl
      have hn0 : 0 < len0 := by
        rcases Nat.eq_zero_or_pos len0 with h | h
        · exact absurd (HB.out.empty h) hl
        · exact h
      obtain ⟨bk, off, x, hA, hbk, _⟩ := HB.out.get hn0
      exact ⟨b1, bk, H4.out.ne, by omega, by omega, H4.out.below hb5, ⟨a0, len0, cap0, hrow, hbs, s0.1, .inr ⟨off, hA⟩, by omega⟩⟩
  have p5 := p4.trans (hb5.mono p4.size)
  generalize w4.alloc (.cells #[.slice a0 len0 cap0, .int .i64 0] 38) = w5 at *
  obtain ⟨g2, hg2⟩ : ∃ g2, w4.heap.size = g2 := ⟨_, rfl⟩
  rw [hg2] at hR2 hB1G hg14 hgs4 ⊢
  have HR1 := Lib.hid hR1
  have HR2 := Lib.hid hR2
  clear hR1 hR2 hb5 H4 hg2
  go_loopw [9] (fun i wr => ∃ (k : Nat) (E : Int) (q : List UInt8), k ≤ len1 ∧ i = .int .i64 k ∧ Below w.heap.size w wr ∧ q.length ≤ 2000 ∧ Rdr wr 61 g1 B1 E q ∧ Rdr wr 38 g2 B2 E q) (fun i _ => len1 - (intOf i).toNat)
  case atStart => exact ⟨0, 0, l, Nat.zero_le _, rfl, p5, HL2.out, HR1.out, HR2.out⟩
  case round =>
    obtain ⟨k, E, q, hk, rfl, pk, hq, hr1, hr2⟩ := hrel
    have hsk := pk.size
    have K1 := Lib.hid hr1
    have K2 := Lib.hid hr2
    clear hr1 hr2
    by_cases hlt : k < len1
    · obtain ⟨bz, oz, z, rfl, hbz, hz, hcz, hz1, hz2⟩ := HZ.out.get hlt
      obtain ⟨bm, om, mz, rfl, hbm, hmz, hcm, hm1, hm2⟩ := HM.out.get (k := k) (by omega)
      have hcz' : wr.cell? ⟨bz, oz + k, none⟩ = some (.int .i64 z) := (pk.cell (p := ⟨bz, oz + k, none⟩) hbz).trans hcz
      have hcm' : wr.cell? ⟨bm, om + k, none⟩ = some (.int .i64 mz) := (pk.cell (p := ⟨bm, om + k, none⟩) hbm).trans hcm
      have HCM := Lib.hid hcm
      have hi : (k : Int) < (len1 : Int) := by omega
      have hi2 : (k : Int) < (len2 : Int) := by omega
      clear hz hmz hcz hcm
      have hg2k : g2 < wr.drew.heap.size := K2.out.lt
      have hg2k' : g2 < wr.heap.size := K2.out.lt
      by_cases h0 : z = 0
      · subst h0
        obtain ⟨M, hM⟩ : ∃ M, IntKind.u64.wrap mz = M := ⟨_, rfl⟩
        have hMb : 0 ≤ M ∧ M < 18446744073709551616 := by rw [← hM, IntKind.wrap_u64]; omega
        obtain ⟨V, E2, q2, hq2, P1, P2⟩ := num_pair g1 B1 g2 B2 E q M hq hMb.1 hMb.2
        have hVV : ((V : Int) == (V : Int)) = true := by simp
        have HP1 := Lib.hid P1
        have HP2 := Lib.hid P2
        clear P1 P2
        have K0 : wr.drew.cell? ⟨bm, om + k, none⟩ = some (.int .i64 mz) := hcm'
        go_wp2
        go_region_held3 (fun w' => w'.cell? ⟨bm, om + k, none⟩ = some (.int .i64 mz)) (first | (with_reducible exact K0) | (with_reducible exact C7) | (with_reducible exact C6))
          (first
            | (go_at_call 22; (refine (HP1.out wr.drew K1.out).mono ?_; rintro e6 w6 ⟨rfl, hr6, ho6⟩; have p6 : Below w.heap.size w w6 := pk.drew.trans (ho6.below hg1w hsk); have J6 := Lib.hid hr6; have R6 := Lib.hid ((show Rdr wr.drew 38 g2 B2 E q from K2.out).only ho6 (by omega) hB2g); have C6 : w6.cell? ⟨bm, om + k, none⟩ = some (.int .i64 mz) := (p6.cell (p := ⟨bm, om + k, none⟩) hbm).trans HCM.out; clear hr6))
            | (go_at_call 23; (refine (HP2.out w6 R6.out).mono ?_; rintro e7 w7 ⟨rfl, hr7, ho7⟩; have p7 : Below w.heap.size w w7 := p6.trans (ho7.below hgs4 p6.size); have R7 := Lib.hid hr7; have J7 := Lib.hid (J6.out.only ho7 (by omega) hB1G); have C7 : w7.cell? ⟨bm, om + k, none⟩ = some (.int .i64 mz) := (p7.cell (p := ⟨bm, om + k, none⟩) hbm).trans HCM.out; clear hr7)))
        all_goals
          obtain ⟨AR, cR, x0, x1⟩ := ref_parts R7.out
          have J1 := Lib.hid (J7.out)
          have J2 := Lib.hid (R7.out)
          obtain ⟨qn, hqn⟩ : ∃ qn, q2.length = qn := ⟨_, rfl⟩
          rw [hqn] at x0
          have HQN := Lib.hid hqn
          have hne1 : ((qn : Int) != (qn : Int)) = false := by simp
          have hne2 : (E2 != E2) = false := by simp
          clear hqn
          go_wp2
          go_big_quiet (first | (go_at_call 35; exact quiet_same (Err_rdr g1 B1 E2 q2 _ (J1.out.drewN _))) | (go_at_call 36; exact quiet_same (left_any g1 B1 E2 q2 qn HQN.out _ (J1.out.drewN _))))
          go_wp2
          go_roundw
          case rel => exact ⟨k + 1, E2, q2, by omega, by go_num, below_drewN p7 _, hq2, J1.out.drewN _, J2.out.drewN _⟩
          case measure => simp [intOf]; omega
      have y0 : (z == 0) = false := by simp [h0]
      by_cases h1 : z = 1
      · subst h1
        obtain ⟨tn, T, E2, q2, htn, hq2, P1, P2⟩ := text_pair g1 B1 g2 B2 E q mz hq hm1 hm2
        have HP1 := Lib.hid P1
        have HP2 := Lib.hid P2
        clear P1 P2
        have K0 : wr.drew.cell? ⟨bm, om + k, none⟩ = some (.int .i64 mz) := hcm'
        go_wp2
        go_region_held3 (fun w' => w'.cell? ⟨bm, om + k, none⟩ = some (.int .i64 mz)) (first | (with_reducible exact K0) | (with_reducible exact C8) | (with_reducible exact C7) | (with_reducible exact C6))
          (first
            | (go_at_call 24; (refine (HP1.out wr.drew K1.out).mono ?_; rintro e6 w6 ⟨A6, c6, rfl, ht6, hr6, ho6⟩; have p6 : Below w.heap.size w w6 := pk.drew.trans (ho6.below hg1w hsk); have J6 := Lib.hid hr6; have R6 := Lib.hid ((show Rdr wr.drew 38 g2 B2 E q from K2.out).only ho6 (by omega) hB2g); have C6 : w6.cell? ⟨bm, om + k, none⟩ = some (.int .i64 mz) := (p6.cell (p := ⟨bm, om + k, none⟩) hbm).trans HCM.out; clear hr6))
            | (go_at_call 25; (refine (HP2.out w6 R6.out).mono ?_; rintro e7 w7 ⟨A7, c7, rfl, ht7, hr7, ho7⟩; have p7 : Below w.heap.size w w7 := p6.trans (ho7.below hgs4 p6.size); have R7 := Lib.hid hr7; have J7 := Lib.hid (J6.out.only ho7 (by omega) hB1G); have C7 : w7.cell? ⟨bm, om + k, none⟩ = some (.int .i64 mz) := (p7.cell (p := ⟨bm, om + k, none⟩) hbm).trans HCM.out; have S6 := Lib.hid (own_keep ht6 ho7 (Nat.le_trans hg2k (Nat.le_refl _))); clear hr7))
            | (go_at_call 12; (refine (Same_yes A6 A7 tn c6 c7 T w7 S6.out ht7.bs (by omega)).mono ?_; rintro e8 w8 ⟨rfl, m8, hw8⟩; have C8 : w8.cell? ⟨bm, om + k, none⟩ = some (.int .i64 mz) := (by rw [hw8]; exact C7); have p8 : Below w.heap.size w w8 := (by rw [hw8]; exact below_drewN p7 m8); have J8 : Hid (Rdr w8 61 g1 B1 E2 q2) := Lib.hid (by rw [hw8]; exact J7.out.drewN m8); have R8 : Hid (Rdr w8 38 g2 B2 E2 q2) := Lib.hid (by rw [hw8]; exact R7.out.drewN m8); clear hw8)))
        all_goals
          obtain ⟨AR, cR, x0, x1⟩ := ref_parts R8.out
          have J1 := Lib.hid (J8.out)
          have J2 := Lib.hid (R8.out)
          obtain ⟨qn, hqn⟩ : ∃ qn, q2.length = qn := ⟨_, rfl⟩
          rw [hqn] at x0
          have HQN := Lib.hid hqn
          have hne1 : ((qn : Int) != (qn : Int)) = false := by simp
          have hne2 : (E2 != E2) = false := by simp
          clear hqn
          go_wp2
          go_big_quiet (first | (go_at_call 35; exact quiet_same (Err_rdr g1 B1 E2 q2 _ (J1.out.drewN _))) | (go_at_call 36; exact quiet_same (left_any g1 B1 E2 q2 qn HQN.out _ (J1.out.drewN _))))
          go_wp2
          go_roundw
          case rel => exact ⟨k + 1, E2, q2, by omega, by go_num, below_drewN p8 _, hq2, J1.out.drewN _, J2.out.drewN _⟩
          case measure => simp [intOf]; omega
      have y1 : (z == 1) = false := by simp [h1]
      by_cases h2 : z = 2
      · subst h2
        obtain ⟨tn, T, E2, q2, htn, hTT, hq2, P1, P2⟩ := list_pair g1 B1 g2 B2 E q mz hq hm1 hm2
        have HTT := Lib.hid hTT
        clear hTT
        have HP1 := Lib.hid P1
        have HP2 := Lib.hid P2
        clear P1 P2
        have K0 : wr.drew.cell? ⟨bm, om + k, none⟩ = some (.int .i64 mz) := hcm'
        go_wp2
        go_region_held3 (fun w' => w'.cell? ⟨bm, om + k, none⟩ = some (.int .i64 mz)) (first | (with_reducible exact K0) | (with_reducible exact C8) | (with_reducible exact C7) | (with_reducible exact C6))
          (first
            | (go_at_call 27; (refine (HP1.out wr.drew K1.out).mono ?_; rintro e6 w6 ⟨A6, c6, rfl, ht6, hr6, ho6⟩; have p6 : Below w.heap.size w w6 := pk.drew.trans (ho6.below hg1w hsk); have J6 := Lib.hid hr6; have R6 := Lib.hid ((show Rdr wr.drew 38 g2 B2 E q from K2.out).only ho6 (by omega) hB2g); have C6 : w6.cell? ⟨bm, om + k, none⟩ = some (.int .i64 mz) := (p6.cell (p := ⟨bm, om + k, none⟩) hbm).trans HCM.out; clear hr6))
            | (go_at_call 28; (refine (HP2.out w6 R6.out).mono ?_; rintro e7 w7 ⟨A7, c7, rfl, ht7, hr7, ho7⟩; have p7 : Below w.heap.size w w7 := p6.trans (ho7.below hgs4 p6.size); have R7 := Lib.hid hr7; have J7 := Lib.hid (J6.out.only ho7 (by omega) hB1G); have C7 : w7.cell? ⟨bm, om + k, none⟩ = some (.int .i64 mz) := (p7.cell (p := ⟨bm, om + k, none⟩) hbm).trans HCM.out; have S6 := Lib.hid (ownL_keep ht6 ho7 (Nat.le_trans hg2k (Nat.le_refl _))); clear hr7))
            | (go_at_call 26; (refine (LSame_yes A6 A7 tn c6 c7 T w7 S6.out ht7.bss (by omega) HTT.out).mono ?_; rintro e8 w8 ⟨rfl, m8, hw8⟩; have C8 : w8.cell? ⟨bm, om + k, none⟩ = some (.int .i64 mz) := (by rw [hw8]; exact C7); have p8 : Below w.heap.size w w8 := (by rw [hw8]; exact below_drewN p7 m8); have J8 : Hid (Rdr w8 61 g1 B1 E2 q2) := Lib.hid (by rw [hw8]; exact J7.out.drewN m8); have R8 : Hid (Rdr w8 38 g2 B2 E2 q2) := Lib.hid (by rw [hw8]; exact R7.out.drewN m8); clear hw8)))
        all_goals
          obtain ⟨AR, cR, x0, x1⟩ := ref_parts R8.out
          have J1 := Lib.hid (J8.out)
          have J2 := Lib.hid (R8.out)
          obtain ⟨qn, hqn⟩ : ∃ qn, q2.length = qn := ⟨_, rfl⟩
          rw [hqn] at x0
          have HQN := Lib.hid hqn
          have hne1 : ((qn : Int) != (qn : Int)) = false := by simp
          have hne2 : (E2 != E2) = false := by simp
          clear hqn
          go_wp2
          go_big_quiet (first | (go_at_call 35; exact quiet_same (Err_rdr g1 B1 E2 q2 _ (J1.out.drewN _))) | (go_at_call 36; exact quiet_same (left_any g1 B1 E2 q2 qn HQN.out _ (J1.out.drewN _))))
          go_wp2
          go_roundw
          case rel => exact ⟨k + 1, E2, q2, by omega, by go_num, below_drewN p8 _, hq2, J1.out.drewN _, J2.out.drewN _⟩
          case measure => simp [intOf]; omega
      have y2 : (z == 2) = false := by simp [h2]
      by_cases h3 : z = 3
      · subst h3
        obtain ⟨V, E2, q2, hq2, P1, P2⟩ := byte_pair g1 B1 g2 B2 E q hq
        have hVV : ((V : Int) == (V : Int)) = true := by simp
        have HP1 := Lib.hid P1
        have HP2 := Lib.hid P2
        clear P1 P2
        go_wp2_with (first
          | (go_at_call 29; (refine (HP1.out wr K1.out).mono ?_; rintro e6 w6 ⟨rfl, hr6, ho6⟩; have p6 : Below w.heap.size w w6 := pk.trans (ho6.below hg1w hsk); have J6 := Lib.hid hr6; have R6 := Lib.hid ((show Rdr wr 38 g2 B2 E q from K2.out).only ho6 (by omega) hB2g); have C6 : w6.cell? ⟨bm, om + k, none⟩ = some (.int .i64 mz) := (p6.cell (p := ⟨bm, om + k, none⟩) hbm).trans HCM.out; clear hr6))
          | (go_at_call 30; (refine (HP2.out w6 R6.out).mono ?_; rintro e7 w7 ⟨rfl, hr7, ho7⟩; have p7 : Below w.heap.size w w7 := p6.trans (ho7.below hgs4 p6.size); have R7 := Lib.hid hr7; have J7 := Lib.hid (J6.out.only ho7 (by omega) hB1G); have C7 : w7.cell? ⟨bm, om + k, none⟩ = some (.int .i64 mz) := (p7.cell (p := ⟨bm, om + k, none⟩) hbm).trans HCM.out; clear hr7)))
        obtain ⟨AR, cR, x0, x1⟩ := ref_parts R7.out
        have J1 := Lib.hid (J7.out)
        have J2 := Lib.hid (R7.out)
        obtain ⟨qn, hqn⟩ : ∃ qn, q2.length = qn := ⟨_, rfl⟩
        rw [hqn] at x0
        have HQN := Lib.hid hqn
        have hne1 : ((qn : Int) != (qn : Int)) = false := by simp
        have hne2 : (E2 != E2) = false := by simp
        clear hqn
        go_big_quiet (first | (go_at_call 35; exact quiet_same (Err_rdr g1 B1 E2 q2 _ (J1.out.drewN _))) | (go_at_call 36; exact quiet_same (left_any g1 B1 E2 q2 qn HQN.out _ (J1.out.drewN _))))
        go_wp2
        go_roundw
        case rel => exact ⟨k + 1, E2, q2, by omega, by go_num, below_drewN p7 _, hq2, J1.out.drewN _, J2.out.drewN _⟩
        case measure => simp [intOf]; omega
      have y3 : (z == 3) = false := by simp [h3]
      by_cases h4 : z = 4
      · subst h4
        obtain ⟨D, E2, q2, hq2, hDD, P1, P2⟩ := digest_pair g1 B1 g2 B2 E q hq
        have HP1 := Lib.hid P1
        have HP2 := Lib.hid P2
        clear P1 P2
        go_wp2_with (first
          | (go_at_call 31; (refine (HP1.out wr K1.out).mono ?_; rintro e6 w6 ⟨rfl, hr6, ho6⟩; have p6 : Below w.heap.size w w6 := pk.trans (ho6.below hg1w hsk); have J6 := Lib.hid hr6; have R6 := Lib.hid ((show Rdr wr 38 g2 B2 E q from K2.out).only ho6 (by omega) hB2g); have C6 : w6.cell? ⟨bm, om + k, none⟩ = some (.int .i64 mz) := (p6.cell (p := ⟨bm, om + k, none⟩) hbm).trans HCM.out; clear hr6))
          | (go_at_call 32; (refine (HP2.out w6 R6.out).mono ?_; rintro e7 w7 ⟨rfl, hr7, ho7⟩; have p7 : Below w.heap.size w w7 := p6.trans (ho7.below hgs4 p6.size); have R7 := Lib.hid hr7; have J7 := Lib.hid (J6.out.only ho7 (by omega) hB1G); have C7 : w7.cell? ⟨bm, om + k, none⟩ = some (.int .i64 mz) := (p7.cell (p := ⟨bm, om + k, none⟩) hbm).trans HCM.out; clear hr7)))
        obtain ⟨AR, cR, x0, x1⟩ := ref_parts R7.out
        have J1 := Lib.hid (J7.out)
        have J2 := Lib.hid (R7.out)
        obtain ⟨qn, hqn⟩ : ∃ qn, q2.length = qn := ⟨_, rfl⟩
        rw [hqn] at x0
        have HQN := Lib.hid hqn
        have hne1 : ((qn : Int) != (qn : Int)) = false := by simp
        have hne2 : (E2 != E2) = false := by simp
        clear hqn
        go_big_quiet (first | (go_at_call 35; exact quiet_same (Err_rdr g1 B1 E2 q2 _ (J1.out.drewN _))) | (go_at_call 36; exact quiet_same (left_any g1 B1 E2 q2 qn HQN.out _ (J1.out.drewN _))))
        go_wp2
        go_roundw
        case rel => exact ⟨k + 1, E2, q2, by omega, by go_num, below_drewN p7 _, hq2, J1.out.drewN _, J2.out.drewN _⟩
        case measure => simp [intOf]; omega
      have y4 : (z == 4) = false := by simp [h4]
      obtain ⟨E2, P1, P2⟩ := end_pair g1 B1 g2 B2 E q
      obtain ⟨q2, hqq⟩ : ∃ q2, q2 = q := ⟨_, rfl⟩
      subst hqq
      have hq2 := hq
      have hEE : (E2 == E2) = true := by simp
      have HP1 := Lib.hid P1
      have HP2 := Lib.hid P2
      clear P1 P2
      go_wp2_with (first
        | (go_at_call 33; (refine (HP1.out wr K1.out).mono ?_; rintro e6 w6 ⟨rfl, hr6, ho6⟩; have p6 : Below w.heap.size w w6 := pk.trans (ho6.below hg1w hsk); have J6 := Lib.hid hr6; have R6 := Lib.hid ((show Rdr wr 38 g2 B2 E q2 from K2.out).only ho6 (by omega) hB2g); have C6 : w6.cell? ⟨bm, om + k, none⟩ = some (.int .i64 mz) := (p6.cell (p := ⟨bm, om + k, none⟩) hbm).trans HCM.out; clear hr6))
        | (go_at_call 34; (refine (HP2.out w6 R6.out).mono ?_; rintro e7 w7 ⟨rfl, hr7, ho7⟩; have p7 : Below w.heap.size w w7 := p6.trans (ho7.below hgs4 p6.size); have R7 := Lib.hid hr7; have J7 := Lib.hid (J6.out.only ho7 (by omega) hB1G); have C7 : w7.cell? ⟨bm, om + k, none⟩ = some (.int .i64 mz) := (p7.cell (p := ⟨bm, om + k, none⟩) hbm).trans HCM.out; clear hr7)))
      obtain ⟨AR, cR, x0, x1⟩ := ref_parts R7.out
      have J1 := Lib.hid (J7.out)
      have J2 := Lib.hid (R7.out)
      obtain ⟨qn, hqn⟩ : ∃ qn, q2.length = qn := ⟨_, rfl⟩
      rw [hqn] at x0
      have HQN := Lib.hid hqn
      have hne1 : ((qn : Int) != (qn : Int)) = false := by simp
      have hne2 : (E2 != E2) = false := by simp
      clear hqn
      go_big_quiet (first | (go_at_call 35; exact quiet_same (Err_rdr g1 B1 E2 q2 _ (J1.out.drewN _))) | (go_at_call 36; exact quiet_same (left_any g1 B1 E2 q2 qn HQN.out _ (J1.out.drewN _))))
      go_wp2
      go_roundw
      case rel => exact ⟨k + 1, E2, q2, by omega, by go_num, below_drewN p7 _, hq2, J1.out.drewN _, J2.out.drewN _⟩
      case measure => simp [intOf]; omega
    · go_wp2_with (go_at_call 11; refine (awake_any _).mono ?_; rintro e w3 ⟨rfl, hb3⟩)
      go_ret
      exact ⟨rfl, pk.trans (hb3.mono pk.size)⟩

set_option maxRecDepth 100000 in
theorem lifted (os : Os) (started : os.Started) (H : Type) (enc : TypeId × Value → H) :
    ReturnsInHanded {} Try.checked os 4 .any (Rows.wireReadsSpec.pre6 enc Try.prog Try.f4 Rows.wireReadsRow.domain false) (Rows.wireReadsSpec.post enc Try.prog Try.f4 false true false false) := by
  refine returnsInHanded_of_change_sized (C := Try.checked) own started (by kernel_rfl) Try.func4
    (ChangeSpec.witness6 (enc := enc) (C := Try.checked) false ⟨#[], #[.slice none 0 0, .slice none 0 0, .slice none 0 0], []⟩ 8 (by kernel_rfl) (by kernel_rfl) (by kernel_rfl) (by kernel_rfl)) ?_
  intro W base args ds gs before hval0 hW hcnd hsz0 _
  have hval : ∀ (j : Nat) t v, Try.f4.params[j]? = some t → args[j]? = some v → Value.okWide Try.prog W .any base t v := hval0
  have hW' := hW
  obtain ⟨p, q, hA0, hV, rfl, hfz, hnd⟩ := hW
  have hA : DataW.TrodAll enc Try.prog W 0 (fun _ => true) true Try.f4.params.toList args.toList ds p := hA0
  have hsz : (DataW.weightsEach Try.prog (Try.f4.params.toList ++ Rows.wireReadsSpec.plain.varTypes Try.prog) (ds ++ gs)).all (· ≤ reachBytes) = true := hsz0
  rw [Try.params4] at hA hval hsz
  obtain ⟨v0, vs0, d0, ds0, p0, q0, hargs, rfl, rfl, h0, r0⟩ := trodAll_cons hA
  obtain ⟨v1, vs1, d1, ds1, p1, q1, rfl, rfl, rfl, h1, r1⟩ := trodAll_cons r0
  obtain ⟨v2, vs2, d2, ds2, p2, q2, rfl, rfl, rfl, h2, r2⟩ := trodAll_cons r1
  obtain ⟨rfl, rfl, rfl⟩ := trodAll_nil r2
  obtain rfl : args = #[v0, v1, v2] := by cases args; simp_all
  obtain ⟨rfl, rfl⟩ := trodVars_none hV
  have k0 := h0
  have lt0 : ∀ x ∈ p0, x.block < W.heap.size := by obtain ⟨m, hm⟩ := k0; exact DataW.trod_lt m _ _ _ hm
  obtain ⟨a0, len0, cap0, rfl⟩ := okWide_slice Try.underlying27 (hval 0 27 v0 rfl rfl)
  obtain ⟨l0, w0, s0⟩ : ∃ l, Bs W a0 len0 l ∧ len0 ≤ cap0 ∧ cap0 ≤ 140737488351232 := by
    obtain ⟨fuel, hf⟩ := h0
    rcases open_ints Try.underlying27 Try.underlying5 (by kernel_rfl) hf with ⟨hcs, _⟩ | ⟨x, l, c, zs, hcs, _, hl, hm, hz, hx, hcell, hwz⟩
    · simp [Value.cells] at hcs
      obtain ⟨rfl, rfl, rfl⟩ := hcs
      exact ⟨[], Bs.nil _ _, by omega, by omega⟩
    · simp [Value.cells] at hcs
      obtain ⟨rfl, rfl, rfl⟩ := hcs
      simp only [Prod.mk.injEq] at hx
      obtain ⟨rfl, _⟩ := hx
      have hb := sized_slice hsz (j := 0) (t := 27) (e := 5) rfl rfl Try.underlying27
      rw [show Try.prog.bytesOf 5 = 1 from by kernel_rfl] at hb
      simp only [lits, List.length_map, List.length_take, List.length_drop, reachBytes] at hb
      have hz' : zs.length = cap0 := by simpa using hz
      exact ⟨_, Bs.of_ints hl hz' hcell hwz, hl, by omega⟩
  have k1 := h1
  have lt1 : ∀ x ∈ p1, x.block < W.heap.size := by obtain ⟨m, hm⟩ := k1; exact DataW.trod_lt m _ _ _ hm
  obtain ⟨a1, len1, cap1, l1, rfl, w1⟩ := open_is (hval 1 33 v1 rfl rfl) h1
  have k2 := h2
  have lt2 : ∀ x ∈ p2, x.block < W.heap.size := by obtain ⟨m, hm⟩ := k2; exact DataW.trod_lt m _ _ _ hm
  obtain ⟨a2, len2, cap2, l2, rfl, w2⟩ := open_is (hval 2 33 v2 rfl rfl) h2
  clear hA0 hval0
  refine (walk W a0 len0 cap0 l0 w0 s0 a1 len1 cap1 l1 w1 a2 len2 cap2 l2 w2).mono fun e W' ⟨he, bel⟩ => ?_
  subst he
  exact ⟨_, rfl, _, _, _, [], _, [], hW', trodAll_mk1 (shut_bool Try.underlying4 _), (trodAll_cons_mk (Below.trod laidOut (by kernel_rfl) (of_decide_eq_true (by kernel_rfl)) k0 bel lt0) (trodAll_cons_mk (Below.trod laidOut (by kernel_rfl) (of_decide_eq_true (by kernel_rfl)) k1 bel lt1) (trodAll_cons_mk (Below.trod laidOut (by kernel_rfl) (of_decide_eq_true (by kernel_rfl)) k2 bel lt2) trodAll_mk0))), rfl, bel.frame _, fun h => by cases h⟩
theorem over : Rows.wireReadsRow.holds Try.pinned (OpenSpec.ofChange Rows.wireReadsSpec) :=
  OpenClaim.holds_of_wide 4 Try.f4 rfl rfl rfl rfl rfl rfl rfl ⟨rfl, rfl, rfl, rfl, rfl⟩ rfl rfl rfl rfl rfl (by kernel_rfl) Try.func4 (by kernel_rfl)
    (of_decide_eq_true (by kernel_rfl)) (by unfold Func.isWrapper; first | (rw [if_pos (by decide +kernel)]; kernel_rfl) | (rw [if_neg (by decide +kernel)]; exact ⟨rfl, rfl⟩))
    (fun os started H enc _ => lifted os started H enc)
theorem wireReads_holds : Rows.WireReadsSaid := over
#print axioms wireReads_holds
end Go.Proofs.Ytjifahocfbbicaa.wireReads
