/-
  TapeEnds, whole (Rows.TapeEndsSaid): behind any calls a crash with all steps kept leaves what a file had, one with none what was sure; in either nothing is open; and the document's example. No conditions.
  The frame is the shell of the proof by program (proof-skeleton); the walk is mine.
-/
import Derived.Test.YtpnllbadalcnaaaRows
import Derived.WalkKit
import Derived.ProofKit
import Derived.OpenShut
import Derived.ShutString
import Derived.ChangeOld
import Derived.Below
import Derived.SizedLaws
import Derived.Test.YtpnllbadalcnaaaLawA
namespace Go.Proofs.Ytpnllbadalcnaaa.tapeEnds
open Go.ChangeShapes Go.WideShapes Go.ChangeAt Go.RowKit
set_option linter.unusedVariables false
theorem own : ownKnob Try.prog.godebug = none := by kernel_rfl
theorem laidOut : laidOutB Try.prog = true := by kernel_rfl
set_option maxRecDepth 100000 in
set_option maxHeartbeats 8000000 in
theorem walk (w : World) (a0 : Option Addr) (len0 cap0 : Nat) (l0 : List Cl) (w0 : Cls w a0 len0 l0) (a1 : Int) (_w1 : (Lit.int .i64 a1).wf = true) :
    Calls Try.prog 5 #[.slice a0 len0 cap0, .int .i64 a1] w fun e w' => e = .returned (.bool true) ∧ Below w.heap.size w w' := by
  clear _w1
  have HC := Lib.hid w0
  by_cases hl : longC l0 = true
  · have HLo := Lib.hid (fun w h => long_is a0 len0 cap0 l0 true w h hl)
    clear w0 hl
    go_enter Try.func5, Try.ntmps5
    go_wp2_with (first
      | (go_at_call 10; refine (HLo.out _ HC.out).mono ?_; rintro e1 w1 ⟨rfl, rfl⟩)
      | (go_at_call 11; refine (awake_any _).mono ?_; rintro e2 w2 ⟨rfl, hb2⟩))
    go_ret
    exact ⟨rfl, hb2⟩
  have hl' : longC l0 = false := by simpa using hl
  have HLo := Lib.hid (fun w h => long_is a0 len0 cap0 l0 false w h hl')
  by_cases hz : isF a1
  · obtain ⟨i, rfl, hi, _⟩ := isF_nat hz
    have HI := Lib.hid (fun w => is_yes hz w)
    obtain ⟨hl60, hlb⟩ := longC_no hl'
    have hb5 : ∀ x ∈ l0, x.b.length ≤ 500 := fun x hx => (hlb x hx).1
    have hlen := w0.1
    have HP := Lib.hid (fun w h => played_any a0 len0 cap0 l0 w h hb5 (by omega))
    obtain ⟨S, hS⟩ : ∃ S, playT Tp.new l0 = S := ⟨_, rfl⟩
    have okS : S.ok 30060 := by rw [← hS]; exact (playT_all hb5).mono (by omega)
    have frS : S.free := by rw [← hS]; exact playT_free l0 _ free_new
    have szS : S.sz 30000 := by rw [← hS]; exact (playT_sz l0 Tp.new 0 hb5 free_new sz_new).mono (by omega)
    rw [hS] at HP
    obtain ⟨N, hN⟩ : ∃ N, (S.f i).now = N := ⟨_, rfl⟩
    obtain ⟨n, hn⟩ : ∃ n, N.length = n := ⟨_, rfl⟩
    obtain ⟨Z, hZ⟩ : ∃ Z, (S.f i).sure = Z := ⟨_, rfl⟩
    obtain ⟨z, hz1⟩ : ∃ z, Z.length = z := ⟨_, rfl⟩
    obtain ⟨M, hM⟩ : ∃ M, (S.f i).opn.length = M := ⟨_, rfl⟩
    have hnb : n ≤ 30000 := by have := szS.now i; rw [hN, hn] at this; exact this
    have hzb : z ≤ 30000 := by have := szS i; rw [hZ, hz1] at this; omega
    have hMb : M ≤ 30060 := by have := (okS i).2; omega
    have HR1 := Lib.hid (fun g F w h => read_N (S := S) g 30060 i n F N w h okS (by omega) frS hi hN hn)
    obtain ⟨X1, hX1⟩ : ∃ X1, S.crash [1099511627776, 1099511627776, 1099511627776, 1099511627776] = X1 := ⟨_, rfl⟩
    have okX1 : X1.ok 0 := by rw [← hX1]; exact crash_ok _ 0 okS
    have frX1 : X1.free := by rw [← hX1]; exact free_crash _ _
    have nX1 : (X1.f i).now = N := by rw [← hX1, crash_now, keepN_great hi (by rw [hM]; omega), after_all]; exact hN
    have HC1 := Lib.hid (fun g F w A c h hI => show Calls Try.prog 14 #[.pointer (some ⟨g, 0, none⟩), .slice A 4 c] w (Left w X1) from by
      have q := Crash_any (S := S) g 30060 4 c A [1099511627776, 1099511627776, 1099511627776, 1099511627776] F w h okS (by omega) hI
      rw [hX1] at q; exact q)
    have HR2 := Lib.hid (fun g F w h => read_N (S := X1) g 0 i n F N w h okX1 (by omega) frX1 hi nX1 hn)
    obtain ⟨X2, hX2⟩ : ∃ X2, S.crash [] = X2 := ⟨_, rfl⟩
    have okX2 : X2.ok 0 := by rw [← hX2]; exact crash_ok _ 0 okS
    have frX2 : X2.free := by rw [← hX2]; exact free_crash _ _
    have fX2 : X2.f i = ⟨Z, []⟩ := by rw [← hX2, crash_f, show keepN [] i (S.f i).opn.length = 0 from rfl, after_0, hZ]
    have HC2 := Lib.hid (fun g F w h => show Calls Try.prog 14 #[.pointer (some ⟨g, 0, none⟩), .slice none 0 0] w (Left w X2) from by
      have q := Crash_any (S := S) g 30060 0 0 none [] F w h okS (by omega) (Is.nil _ _)
      rw [hX2] at q; exact q)
    have HR3 := Lib.hid (fun g F w h => read_N (S := X2) g 0 i z F Z w h okX2 (by omega) frX2 hi (by rw [fX2]; rfl) hz1)
    obtain ⟨X3, hX3⟩ : ∃ X3, (X2.append i [1]).1 = X3 := ⟨_, rfl⟩
    obtain ⟨k1, k2, k3, _⟩ := append_free (S := X2) (i := i) (l := [1]) frX2 hi (by rw [fX2]; show Z.length + 1 ≤ _; omega)
    have okX3 : X3.ok 1 := by rw [← hX3]; exact append_ok (K := 0) i [1] okX2
    rw [hX3] at k2 k3
    rw [fX2] at k3
    have HA := Lib.hid (fun g F w A c h hB hA => show Calls Try.prog 23 #[.pointer (some ⟨g, 0, none⟩), .int .i64 (i : Int), .slice A 1 c] w (fun e w' => e = .returned (.int .i64 0) ∧ Grow w g F X3 w') from by
      have q := App_any (S := X2) g 0 1 c i A [1] F w h okX2 (by omega) hB hA
      unfold Did at q
      rw [k1, hX3] at q; exact q)
    have HO := Lib.hid (fun g F w h => show Calls Try.prog 26 #[.pointer (some ⟨g, 0, none⟩), .int .i64 (i : Int)] w (fun e w' => e = .returned (.int .i64 1) ∧ w = w') from by
      have q := Open_any (S := X3) g i F w h
      rw [open_in hi, k3] at q; exact q)
    obtain ⟨X4, hX4⟩ : ∃ X4, X3.crash [-1, -1, -1, -1] = X4 := ⟨_, rfl⟩
    have okX4 : X4.ok 0 := by rw [← hX4]; exact crash_ok _ 0 okX3
    have frX4 : X4.free := by rw [← hX4]; exact free_crash _ _
    have nX4 : (X4.f i).now = Z := by rw [← hX4, crash_now, keepN_small hi (by omega), after_0, k3]
    have HC4 := Lib.hid (fun g F w A c h hI => show Calls Try.prog 14 #[.pointer (some ⟨g, 0, none⟩), .slice A 4 c] w (Left w X4) from by
      have q := Crash_any (S := X3) g 1 4 c A [-1, -1, -1, -1] F w h okX3 (by omega) hI
      rw [hX4] at q; exact q)
    have HR4 := Lib.hid (fun g F w h => read_N (S := X4) g 0 i z F Z w h okX4 (by omega) frX4 hi nX4 hz1)
    have HOS := Lib.hid (fun g F w h => show Calls Try.prog 26 #[.pointer (some ⟨g, 0, none⟩), .int .i64 (i : Int)] w (fun e w' => e = .returned (.int .i64 (M : Int)) ∧ w = w') from by
      have q := Open_any (S := S) g i F w h
      rw [open_in hi, hM] at q; exact q)
    by_cases hM0 : 0 < M
    · have hMI : (0 : Int) < (M : Int) := by omega
      clear w0 hl hl' hz hl60 hlb hb5 hlen hS okS frS szS hN hn hZ hz1 hM hX1 okX1 frX1 nX1 hX2 okX2 frX2 fX2 hX3 k1 k2 k3 okX3 hX4 okX4 frX4 nX4 hM0 hMb
      go_enter Try.func5, Try.ntmps5
      go_wp2_with (first
        | (go_at_call 10; refine (HLo.out _ HC.out).mono ?_; rintro e0 w0 ⟨rfl, rfl⟩)
        | (go_at_call 19; refine (HI.out _).mono ?_; rintro e0 w0 ⟨rfl, rfl⟩)
        | (go_at_call 20; refine (HP.out _ HC.out).mono ?_; rintro e1 w1 ⟨g, F, rfl, ht1, hf1, hb1⟩; have HT1 := Lib.hid ht1; clear ht1 hf1)
        | (go_at_call 22; have hz := HT10; clear hz; refine (HR4.out g10 F10 w10 HT10.out).mono ?_; rintro e11 w11 ⟨A11, c11, rfl, hB11, hc11, _, hb11⟩; have HB11 := Lib.hid hB11; have k1 := k1.trans (hb11.mono k1.size); have k2 := k2.trans (hb11.mono k2.size); have k5 := k5.trans (hb11.mono k5.size); have k8 := k8.trans (hb11.mono k8.size); clear hB11)
        | (go_at_call 22; have hz := HT6; clear hz; refine (HR3.out g6 F6 w6 HT6.out).mono ?_; rintro e7 w7 ⟨A7, c7, rfl, hB7, hc7, hf7, hb7⟩; have HB7 := Lib.hid hB7; have HN7 := Lib.hid (fun b off (e : A7 = some ⟨b, off, none⟩) (q : Foot g6 F6 b) => show False from by have := hf7 b off e; have := HT6.out.foot q; omega); have HT7 := Lib.hid (HT6.out.below hb7); have k1 := k1.trans (hb7.mono k1.size); have k2 := k2.trans (hb7.mono k2.size); have k5 := k5.trans (hb7.mono k5.size); clear hB7 hf7)
        | (go_at_call 22; have hz := HT4; clear hz; refine (HR2.out g4 F4 w4 HT4.out).mono ?_; rintro e5 w5 ⟨A5, c5, rfl, hB5, hc5, _, hb5⟩; have HB5 := Lib.hid hB5; have k1 := k1.trans (hb5.mono k1.size); have k2 := k2.trans (hb5.mono k2.size); have s15 := k1.size; have s25 := k2.size; clear hB5)
        | (go_at_call 22; refine (HR1.out g F w1 HT1.out).mono ?_; rintro e2 w2 ⟨A2, c2, rfl, hB2, hc2, _, hb2⟩; have HB2 := Lib.hid hB2; have k1 := hb2; have HT2 := Lib.hid (HT1.out.below hb2); clear hB2)
        | (go_at_call 14; have hz := HT8; clear hz; refine (HC4.out g6 F8 (w8.alloc (.cells #[.int .i64 (-1), .int .i64 (-1), .int .i64 (-1), .int .i64 (-1)] 3)) _ 4 (HT8.out.below ((Below.refl _ _).alloc (Nat.le_refl _) _)) (litI4 w8 (-1) (by decide) (by decide))).mono ?_; rintro e10 w10 ⟨g10, F10, rfl, ht10, hf10, hb10⟩; have HT10 := Lib.hid ht10; have j10 := ((Below.refl w8.heap.size w8).alloc (Nat.le_refl _) (.cells #[.int .i64 (-1), .int .i64 (-1), .int .i64 (-1), .int .i64 (-1)] 3)).trans (hb10.mono (by simp)); have k1 := k1.trans (j10.mono k1.size); have k2 := k2.trans (j10.mono k2.size); have k5 := k5.trans (j10.mono k5.size); have k8 := j10; clear ht10 hf10)
        | (go_at_call 14; have hz := HB5; clear hz; refine (HC2.out g F w5 (HT2.out.below (Below.mono k2 (Nat.le_refl _)))).mono ?_; rintro e6 w6 ⟨g6, F6, rfl, ht6, hf6, hb6⟩; have HT6 := Lib.hid ht6; have HF6 := Lib.hid hf6; have k1 := k1.trans (hb6.mono k1.size); have k2 := k2.trans (hb6.mono k2.size); have k5 := hb6; clear ht6 hf6)
        | (go_at_call 14; refine (HC1.out g F (w2.alloc (.cells #[.int .i64 1099511627776, .int .i64 1099511627776, .int .i64 1099511627776, .int .i64 1099511627776] 3)) _ 4 (HT2.out.below ((Below.refl _ _).alloc (Nat.le_refl _) _)) (litI4 w2 1099511627776 (by decide) (by decide))).mono ?_; rintro e4 w4 ⟨g4, F4, rfl, ht4, hf4, hb4⟩; have HT4 := Lib.hid ht4; have j4 := ((Below.refl w2.heap.size w2).alloc (Nat.le_refl _) (.cells #[.int .i64 1099511627776, .int .i64 1099511627776, .int .i64 1099511627776, .int .i64 1099511627776] 3)).trans (hb4.mono (by simp)); have k1 := k1.trans (j4.mono k1.size); have k2 := j4; clear ht4 hf4)
        | (go_at_call 23; refine (HA.out g6 F6 (w7.alloc (.cells #[.int .u8 1] 5)) _ 1 (HT7.out.below ((Below.refl _ _).alloc (Nat.le_refl _) _)) (lit1B w7 1) (lit_foot HT7.out (Nat.le_refl _))).mono ?_; rintro e8 w8 ⟨rfl, ⟨F8, hF8, ht8⟩, ho8⟩; have HT8 := Lib.hid ht8; have j8 : Below w7.heap.size w7 (w7.alloc (.cells #[.int .u8 1] 5)) := (Below.refl w7.heap.size w7).alloc (Nat.le_refl _) (.cells #[.int .u8 1] 5); have HB8 := Lib.hid ((HB7.out.below j8).off (fun b off e q => HN7.out b off e q) ho8); have t8 := j8.size; have k1 := (k1.trans (j8.mono k1.size)).trans (ho8.below (fun b q => Nat.le_trans s15 (HF6.out b q)) (Nat.le_trans k1.size t8)); have k2 := (k2.trans (j8.mono k2.size)).trans (ho8.below (fun b q => Nat.le_trans s25 (HF6.out b q)) (Nat.le_trans k2.size t8)); have k5 := (k5.trans (j8.mono k5.size)).trans (ho8.below (fun b q => HF6.out b q) (Nat.le_trans k5.size t8)); clear ht8 hF8)
        | (go_at_call 26; have hz := HB11; clear hz; refine (HOS.out g F _ ((HT2.out.below k2).drewN _)).mono ?_; rintro e12 w12 ⟨rfl, rfl⟩)
        | (go_at_call 26; refine (HO.out g6 F8 w8 HT8.out).mono ?_; rintro e9 w9 ⟨rfl, rfl⟩)
        | (go_at_call 25; have hz := m14; clear hz; refine (Same_yes A2 A7 n c2 c7 N _ ((HB2.out.below k2).drewN _) ((HB8.out.below k8).drewN _) (by omega)).mono ?_; rintro e15 w15 ⟨rfl, m15, rfl⟩)
        | (go_at_call 25; have hz := m13; clear hz; refine (Same_yes A7 A11 z c7 c11 Z _ ((HB8.out.below k8).drewN _) (HB11.out.drewN _) (by omega)).mono ?_; rintro e14 w14 ⟨rfl, m14, rfl⟩)
        | (go_at_call 25; refine (Same_yes A2 A5 n c2 c5 N w11 (HB2.out.below k2) (HB5.out.below k5) (by omega)).mono ?_; rintro e13 w13 ⟨rfl, m13, rfl⟩)
        | (go_at_call 11; refine (awake_any _).mono ?_; rintro e16 w16 ⟨rfl, hb16⟩))
      go_ret
      exact ⟨rfl, (hb1.trans (k1.mono hb1.size)).trans (Below.mono (show Below w11.heap.size w11 w16 from (below_drewN (Below.refl _ _) _).trans hb16) (hb1.trans (k1.mono hb1.size)).size)⟩
    · obtain rfl : M = 0 := by omega
      have hop : (S.f i).opn = [] := List.eq_nil_of_length_eq_zero hM
      obtain rfl : N = Z := by rw [← hN, ← hZ]; unfold Fl.now; rw [hop]; rfl
      obtain rfl : n = z := by rw [← hn, ← hz1]
      clear w0 hl hl' hz hl60 hlb hb5 hlen hS okS frS szS hN hn hZ hz1 hM hX1 okX1 frX1 nX1 hX2 okX2 frX2 fX2 hX3 k1 k2 k3 okX3 hX4 okX4 frX4 nX4 hM0 hMb hop
      go_enter Try.func5, Try.ntmps5
      go_wp2_with (first
        | (go_at_call 10; refine (HLo.out _ HC.out).mono ?_; rintro e0 w0 ⟨rfl, rfl⟩)
        | (go_at_call 19; refine (HI.out _).mono ?_; rintro e0 w0 ⟨rfl, rfl⟩)
        | (go_at_call 20; refine (HP.out _ HC.out).mono ?_; rintro e1 w1 ⟨g, F, rfl, ht1, hf1, hb1⟩; have HT1 := Lib.hid ht1; clear ht1 hf1)
        | (go_at_call 22; have hz := HT10; clear hz; refine (HR4.out g10 F10 w10 HT10.out).mono ?_; rintro e11 w11 ⟨A11, c11, rfl, hB11, hc11, _, hb11⟩; have HB11 := Lib.hid hB11; have k1 := k1.trans (hb11.mono k1.size); have k2 := k2.trans (hb11.mono k2.size); have k5 := k5.trans (hb11.mono k5.size); have k8 := k8.trans (hb11.mono k8.size); clear hB11)
        | (go_at_call 22; have hz := HT6; clear hz; refine (HR3.out g6 F6 w6 HT6.out).mono ?_; rintro e7 w7 ⟨A7, c7, rfl, hB7, hc7, hf7, hb7⟩; have HB7 := Lib.hid hB7; have HN7 := Lib.hid (fun b off (e : A7 = some ⟨b, off, none⟩) (q : Foot g6 F6 b) => show False from by have := hf7 b off e; have := HT6.out.foot q; omega); have HT7 := Lib.hid (HT6.out.below hb7); have k1 := k1.trans (hb7.mono k1.size); have k2 := k2.trans (hb7.mono k2.size); have k5 := k5.trans (hb7.mono k5.size); clear hB7 hf7)
        | (go_at_call 22; have hz := HT4; clear hz; refine (HR2.out g4 F4 w4 HT4.out).mono ?_; rintro e5 w5 ⟨A5, c5, rfl, hB5, hc5, _, hb5⟩; have HB5 := Lib.hid hB5; have k1 := k1.trans (hb5.mono k1.size); have k2 := k2.trans (hb5.mono k2.size); have s15 := k1.size; have s25 := k2.size; clear hB5)
        | (go_at_call 22; refine (HR1.out g F w1 HT1.out).mono ?_; rintro e2 w2 ⟨A2, c2, rfl, hB2, hc2, _, hb2⟩; have HB2 := Lib.hid hB2; have k1 := hb2; have HT2 := Lib.hid (HT1.out.below hb2); clear hB2)
        | (go_at_call 14; have hz := HT8; clear hz; refine (HC4.out g6 F8 (w8.alloc (.cells #[.int .i64 (-1), .int .i64 (-1), .int .i64 (-1), .int .i64 (-1)] 3)) _ 4 (HT8.out.below ((Below.refl _ _).alloc (Nat.le_refl _) _)) (litI4 w8 (-1) (by decide) (by decide))).mono ?_; rintro e10 w10 ⟨g10, F10, rfl, ht10, hf10, hb10⟩; have HT10 := Lib.hid ht10; have j10 := ((Below.refl w8.heap.size w8).alloc (Nat.le_refl _) (.cells #[.int .i64 (-1), .int .i64 (-1), .int .i64 (-1), .int .i64 (-1)] 3)).trans (hb10.mono (by simp)); have k1 := k1.trans (j10.mono k1.size); have k2 := k2.trans (j10.mono k2.size); have k5 := k5.trans (j10.mono k5.size); have k8 := j10; clear ht10 hf10)
        | (go_at_call 14; have hz := HB5; clear hz; refine (HC2.out g F w5 (HT2.out.below (Below.mono k2 (Nat.le_refl _)))).mono ?_; rintro e6 w6 ⟨g6, F6, rfl, ht6, hf6, hb6⟩; have HT6 := Lib.hid ht6; have HF6 := Lib.hid hf6; have k1 := k1.trans (hb6.mono k1.size); have k2 := k2.trans (hb6.mono k2.size); have k5 := hb6; clear ht6 hf6)
        | (go_at_call 14; refine (HC1.out g F (w2.alloc (.cells #[.int .i64 1099511627776, .int .i64 1099511627776, .int .i64 1099511627776, .int .i64 1099511627776] 3)) _ 4 (HT2.out.below ((Below.refl _ _).alloc (Nat.le_refl _) _)) (litI4 w2 1099511627776 (by decide) (by decide))).mono ?_; rintro e4 w4 ⟨g4, F4, rfl, ht4, hf4, hb4⟩; have HT4 := Lib.hid ht4; have j4 := ((Below.refl w2.heap.size w2).alloc (Nat.le_refl _) (.cells #[.int .i64 1099511627776, .int .i64 1099511627776, .int .i64 1099511627776, .int .i64 1099511627776] 3)).trans (hb4.mono (by simp)); have k1 := k1.trans (j4.mono k1.size); have k2 := j4; clear ht4 hf4)
        | (go_at_call 23; refine (HA.out g6 F6 (w7.alloc (.cells #[.int .u8 1] 5)) _ 1 (HT7.out.below ((Below.refl _ _).alloc (Nat.le_refl _) _)) (lit1B w7 1) (lit_foot HT7.out (Nat.le_refl _))).mono ?_; rintro e8 w8 ⟨rfl, ⟨F8, hF8, ht8⟩, ho8⟩; have HT8 := Lib.hid ht8; have j8 : Below w7.heap.size w7 (w7.alloc (.cells #[.int .u8 1] 5)) := (Below.refl w7.heap.size w7).alloc (Nat.le_refl _) (.cells #[.int .u8 1] 5); have HB8 := Lib.hid ((HB7.out.below j8).off (fun b off e q => HN7.out b off e q) ho8); have t8 := j8.size; have k1 := (k1.trans (j8.mono k1.size)).trans (ho8.below (fun b q => Nat.le_trans s15 (HF6.out b q)) (Nat.le_trans k1.size t8)); have k2 := (k2.trans (j8.mono k2.size)).trans (ho8.below (fun b q => Nat.le_trans s25 (HF6.out b q)) (Nat.le_trans k2.size t8)); have k5 := (k5.trans (j8.mono k5.size)).trans (ho8.below (fun b q => HF6.out b q) (Nat.le_trans k5.size t8)); clear ht8 hF8)
        | (go_at_call 26; have hz := HB11; clear hz; refine (HOS.out g F _ ((HT2.out.below k2).drewN _)).mono ?_; rintro e12 w12 ⟨rfl, rfl⟩)
        | (go_at_call 26; refine (HO.out g6 F8 w8 HT8.out).mono ?_; rintro e9 w9 ⟨rfl, rfl⟩)
        | (go_at_call 25; have hz := m14; clear hz; refine (Same_yes A2 A7 n c2 c7 N _ ((HB2.out.below k2).drewN _) ((HB8.out.below k8).drewN _) (by omega)).mono ?_; rintro e15 w15 ⟨rfl, m15, rfl⟩)
        | (go_at_call 25; have hz := m13; clear hz; refine (Same_yes A7 A11 n c7 c11 N _ ((HB8.out.below k8).drewN _) (HB11.out.drewN _) (by omega)).mono ?_; rintro e14 w14 ⟨rfl, m14, rfl⟩)
        | (go_at_call 25; refine (Same_yes A2 A5 n c2 c5 N w11 (HB2.out.below k2) (HB5.out.below k5) (by omega)).mono ?_; rintro e13 w13 ⟨rfl, m13, rfl⟩)
        | (go_at_call 11; refine (awake_any _).mono ?_; rintro e16 w16 ⟨rfl, hb16⟩))
      go_ret
      exact ⟨rfl, (hb1.trans (k1.mono hb1.size)).trans (Below.mono (show Below w11.heap.size w11 w16 from (below_drewN (Below.refl _ _) _).trans hb16) (hb1.trans (k1.mono hb1.size)).size)⟩
  · have HI := Lib.hid (fun w => is_no hz w)
    clear w0 hl hl' hz
    go_enter Try.func5, Try.ntmps5
    go_wp2_with (first
      | (go_at_call 10; refine (HLo.out _ HC.out).mono ?_; rintro e1 w1 ⟨rfl, rfl⟩)
      | (go_at_call 19; refine (HI.out _).mono ?_; rintro e1 w1 ⟨rfl, rfl⟩)
      | (go_at_call 11; refine (awake_any _).mono ?_; rintro e2 w2 ⟨rfl, hb2⟩))
    go_ret
    exact ⟨rfl, hb2⟩

set_option maxRecDepth 100000 in
theorem lifted (os : Os) (started : os.Started) (H : Type) (enc : TypeId × Value → H) :
    ReturnsInHanded {} Try.checked os 5 .any (Rows.tapeEndsSpec.pre6 enc Try.prog Try.f5 Rows.tapeEndsRow.domain false) (Rows.tapeEndsSpec.post enc Try.prog Try.f5 false true false false) := by
  refine returnsInHanded_of_change_sized (C := Try.checked) own started (by kernel_rfl) Try.func5
    (ChangeSpec.witness6 (enc := enc) (C := Try.checked) false ⟨#[], #[.slice none 0 0, .int .i64 0], []⟩ 8 (by kernel_rfl) (by kernel_rfl) (by kernel_rfl) (by kernel_rfl)) ?_
  intro W base args ds gs before hval0 hW hcnd hsz0 _
  have hval : ∀ (j : Nat) t v, Try.f5.params[j]? = some t → args[j]? = some v → Value.okWide Try.prog W .any base t v := hval0
  have hW' := hW
  obtain ⟨p, q, hA0, hV, rfl, hfz, hnd⟩ := hW
  have hA : DataW.TrodAll enc Try.prog W 0 (fun _ => true) true Try.f5.params.toList args.toList ds p := hA0
  have hsz : (DataW.weightsEach Try.prog (Try.f5.params.toList ++ Rows.tapeEndsSpec.plain.varTypes Try.prog) (ds ++ gs)).all (· ≤ reachBytes) = true := hsz0
  rw [Try.params5] at hA hval hsz
  obtain ⟨v0, vs0, d0, ds0, p0, q0, hargs, rfl, rfl, h0, r0⟩ := trodAll_cons hA
  obtain ⟨v1, vs1, d1, ds1, p1, q1, rfl, rfl, rfl, h1, r1⟩ := trodAll_cons r0
  obtain ⟨rfl, rfl, rfl⟩ := trodAll_nil r1
  obtain rfl : args = #[v0, v1] := by cases args; simp_all
  obtain ⟨rfl, rfl⟩ := trodVars_none hV
  have k0 := h0
  have lt0 : ∀ x ∈ p0, x.block < W.heap.size := by obtain ⟨m, hm⟩ := k0; exact DataW.trod_lt m _ _ _ hm
  obtain ⟨a0, len0, cap0, l0, rfl, w0⟩ := open_cls (hval 0 22 v0 rfl rfl) h0
  obtain ⟨a1, rfl, rfl, rfl, w1⟩ := open_int Try.underlying3 (hval 1 3 v1 rfl rfl) h1
  clear hA0 hval0
  refine (walk W a0 len0 cap0 l0 w0 a1 w1).mono fun e W' ⟨he, bel⟩ => ?_
  subst he
  exact ⟨_, rfl, _, _, _, [], _, [], hW', trodAll_mk1 (shut_bool Try.underlying4 _), (trodAll_cons_mk (Below.trod laidOut (by kernel_rfl) (of_decide_eq_true (by kernel_rfl)) k0 bel lt0) (trodAll_cons_mk (shut_int Try.underlying3 w1) trodAll_mk0)), rfl, bel.frame _, fun h => by cases h⟩
theorem over : Rows.tapeEndsRow.holds Try.pinned (OpenSpec.ofChange Rows.tapeEndsSpec) :=
  OpenClaim.holds_of_wide 5 Try.f5 rfl rfl rfl rfl rfl rfl rfl ⟨rfl, rfl, rfl, rfl, rfl⟩ rfl rfl rfl rfl rfl (by kernel_rfl) Try.func5 (by kernel_rfl)
    (of_decide_eq_true (by kernel_rfl)) (by unfold Func.isWrapper; first | (rw [if_pos (by decide +kernel)]; kernel_rfl) | (rw [if_neg (by decide +kernel)]; exact ⟨rfl, rfl⟩))
    (fun os started H enc _ => lifted os started H enc)
theorem tapeEnds_holds : Rows.TapeEndsSaid := over
#print axioms tapeEnds_holds
end Go.Proofs.Ytpnllbadalcnaaa.tapeEnds
