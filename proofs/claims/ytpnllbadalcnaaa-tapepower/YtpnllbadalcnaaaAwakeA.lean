/-
  The document's example: ab, synced, cd, a crash with one step kept: abc.
-/
import Derived.Test.YtpnllbadalcnaaaTapF
namespace Go.Proofs.Ytpnllbadalcnaaa
open Go.RowKit
theorem lit2 (w : World) (x y : UInt8) : Bs (w.alloc (.cells #[.int .u8 (x.toNat : Int), .int .u8 (y.toNat : Int)] 5)) (some ⟨w.heap.size, 0, none⟩) 2 [x, y] :=
  litB w _ 2 [x, y] rfl rfl (by omega) (by
    intro j u hj
    rcases j with _ | _ | j
    · simp at hj; subst hj; rfl
    · simp at hj; subst hj; rfl
    · simp at hj)
theorem lit3 (w : World) (x y z : UInt8) : Bs (w.alloc (.cells #[.int .u8 (x.toNat : Int), .int .u8 (y.toNat : Int), .int .u8 (z.toNat : Int)] 5)) (some ⟨w.heap.size, 0, none⟩) 3 [x, y, z] :=
  litB w _ 3 [x, y, z] rfl rfl (by omega) (by
    intro j u hj
    rcases j with _ | _ | _ | j
    · simp at hj; subst hj; rfl
    · simp at hj; subst hj; rfl
    · simp at hj; subst hj; rfl
    · simp at hj)
theorem litI1 (w : World) (z : Int) (h1 : -9223372036854775808 ≤ z) (h2 : z < 9223372036854775808) : Is (w.alloc (.cells #[.int .i64 z] 3)) (some ⟨w.heap.size, 0, none⟩) 1 [z] :=
  litI w _ 1 [z] rfl (by
    intro j u hj
    rcases j with _ | j
    · simp at hj; subst hj; exact ⟨rfl, h1, h2⟩
    · simp at hj)
set_option maxRecDepth 100000 in
set_option maxHeartbeats 4000000 in
theorem awake_any (w : World) : Calls Try.prog 11 #[] w fun e w' => e = .returned (.bool true) ∧ Below w.heap.size w w' := by
  obtain ⟨S1, hS1⟩ : ∃ S1, (Tp.new.append 0 [97, 98]).1 = S1 := ⟨_, rfl⟩
  have ok1 : S1.ok 2 := by rw [← hS1]; exact append_ok (K := 0) 0 [97, 98] (ok_new 0)
  obtain ⟨S2, hS2⟩ : ∃ S2, (S1.syncT 0).1 = S2 := ⟨_, rfl⟩
  have ok2 : S2.ok 2 := by rw [← hS2]; exact sync_ok 0 ok1
  obtain ⟨S3, hS3⟩ : ∃ S3, (S2.append 0 [99, 100]).1 = S3 := ⟨_, rfl⟩
  have ok3 : S3.ok 4 := by rw [← hS3]; exact append_ok (K := 2) 0 [99, 100] ok2
  obtain ⟨S4, hS4⟩ : ∃ S4, S3.crash [1] = S4 := ⟨_, rfl⟩
  have ok4 : S4.ok 0 := by rw [← hS4]; exact crash_ok [1] 0 ok3
  have HA1 := Lib.hid (fun g F w A c (h : Tap w g F Tp.new) (hB : Bs w A 2 [97, 98]) hA => show Calls Try.prog 23 #[.pointer (some ⟨g, 0, none⟩), .int .i64 0, .slice A 2 c] w (fun e w' => e = .returned (.int .i64 0) ∧ Grow w g F S1 w') from by
    have q := App_any g 0 2 c 0 A [97, 98] F w h (ok_new 0) (by omega) hB hA
    unfold Did at q
    rw [show (Tp.new.append 0 [97, 98]).2 = 0 by decide +kernel, hS1] at q
    exact q)
  have HA2 := Lib.hid (fun g F w (h : Tap w g F S1) => show Calls Try.prog 21 #[.pointer (some ⟨g, 0, none⟩), .int .i64 0] w (fun e w' => e = .returned (.int .i64 0) ∧ Grow w g F S2 w') from by
    have q := Sync_any g 2 0 F w h ok1 (by omega)
    unfold Did at q
    rw [show (S1.syncT 0).2 = 0 by rw [← hS1]; decide +kernel, hS2] at q
    exact q)
  have HA3 := Lib.hid (fun g F w A c (h : Tap w g F S2) (hB : Bs w A 2 [99, 100]) hA => show Calls Try.prog 23 #[.pointer (some ⟨g, 0, none⟩), .int .i64 0, .slice A 2 c] w (fun e w' => e = .returned (.int .i64 0) ∧ Grow w g F S3 w') from by
    have q := App_any g 2 2 c 0 A [99, 100] F w h ok2 (by omega) hB hA
    unfold Did at q
    rw [show (S2.append 0 [99, 100]).2 = 0 by rw [← hS2, ← hS1]; decide +kernel, hS3] at q
    exact q)
  have HA4 := Lib.hid (fun g F w (h : Tap w g F S3) => show Calls Try.prog 26 #[.pointer (some ⟨g, 0, none⟩), .int .i64 0] w (fun e w' => e = .returned (.int .i64 2) ∧ w = w') from by
    have q := Open_any g 0 F w h
    rw [show S3.openN 0 = 2 by rw [← hS3, ← hS2, ← hS1]; decide +kernel] at q
    exact q)
  have HA5 := Lib.hid (fun g F w A c (h : Tap w g F S3) (hI : Is w A 1 [1]) => show Calls Try.prog 14 #[.pointer (some ⟨g, 0, none⟩), .slice A 1 c] w (Left w S4) from by
    have q := Crash_any g 4 1 c A [1] F w h ok3 (by omega) hI
    rw [hS4] at q
    exact q)
  have HA6 := Lib.hid (fun g F w (h : Tap w g F S4) => show Calls Try.prog 22 #[.pointer (some ⟨g, 0, none⟩), .int .i64 0] w (Got w [97, 98, 99] 0) from by
    have q := Read_any g 0 0 F w h ok4 (by omega)
    rw [show S4.readL 0 = [97, 98, 99] by rw [← hS4, ← hS3, ← hS2, ← hS1]; decide +kernel, show S4.readE 0 = 0 by rw [← hS4, ← hS3, ← hS2, ← hS1]; decide +kernel] at q
    exact q)
  clear ok1 ok2 ok3 ok4 hS1 hS2 hS3 hS4
  go_enter Try.func11, Try.ntmps11
  go_wp2_with (first
    | (go_at_call 12; refine (New_any _).mono ?_; rintro e1 w1 ⟨g, rfl, hg, ht1, hb1⟩; have HT1 := Lib.hid ht1; have hs1 := hb1.size; clear ht1)
    | (go_at_call 23; have hz := HT3; clear hz; refine (HA3.out g F3 (w3.alloc (.cells #[.int .u8 99, .int .u8 100] 5)) _ 2 (HT3.out.below ((Below.refl _ _).alloc (Nat.le_refl _) _)) (lit2 w3 99 100) (lit_foot HT3.out (Nat.le_refl _))).mono ?_; rintro e4 w4 ⟨rfl, ⟨F4, hF4, ht4⟩, ho4⟩; have HT4 := Lib.hid ht4; have HF4 := Lib.hid (fun b (q : Foot g F4 b) => show w.heap.size ≤ b from (hF4.foot b q).elim (HF3.out b) (fun q2 => Nat.le_trans (b3.alloc b3.size (.cells #[.int .u8 99, .int .u8 100] 5)).size q2)); have b4 := (b3.alloc b3.size (.cells #[.int .u8 99, .int .u8 100] 5)).trans (ho4.below HF3.out (b3.alloc b3.size (.cells #[.int .u8 99, .int .u8 100] 5)).size); clear ht4 hF4 ho4)
    | (go_at_call 23; refine (HA1.out g _ (w1.alloc (.cells #[.int .u8 97, .int .u8 98] 5)) _ 2 (HT1.out.below ((Below.refl _ _).alloc (Nat.le_refl _) _)) (lit2 w1 97 98) (lit_foot HT1.out (Nat.le_refl _))).mono ?_; rintro e2 w2 ⟨rfl, ⟨F2, hF2, ht2⟩, ho2⟩; have HT2 := Lib.hid ht2; have HF1 := Lib.hid (fun b (q : Foot g (fun _ _ => False) b) => show w.heap.size ≤ b from q.elim (fun q2 => by rw [q2]; exact hg) (fun ⟨_, q2⟩ => q2.elim)); have HF2 := Lib.hid (fun b (q : Foot g F2 b) => show w.heap.size ≤ b from (hF2.foot b q).elim (HF1.out b) (fun q2 => Nat.le_trans (hb1.alloc hb1.size (.cells #[.int .u8 97, .int .u8 98] 5)).size q2)); have b2 := (hb1.alloc hb1.size (.cells #[.int .u8 97, .int .u8 98] 5)).trans (ho2.below HF1.out (hb1.alloc hb1.size (.cells #[.int .u8 97, .int .u8 98] 5)).size); clear ht2 hF2 ho2)
    | (go_at_call 21; refine (HA2.out g F2 w2 HT2.out).mono ?_; rintro e3 w3 ⟨rfl, ⟨F3, hF3, ht3⟩, ho3⟩; have HT3 := Lib.hid ht3; have HF3 := Lib.hid (fun b (q : Foot g F3 b) => show w.heap.size ≤ b from (hF3.foot b q).elim (HF2.out b) (fun q2 => Nat.le_trans b2.size q2)); have b3 := b2.trans (ho3.below HF2.out b2.size); clear ht3 hF3 ho3)
    | (go_at_call 26; refine (HA4.out g F4 w4 HT4.out).mono ?_; rintro e5 w5 ⟨rfl, rfl⟩)
    | (go_at_call 14; refine (HA5.out g F4 (w4.alloc (.cells #[.int .i64 1] 3)) _ 1 (HT4.out.below ((Below.refl _ _).alloc (Nat.le_refl _) _)) (litI1 w4 1 (by decide) (by decide))).mono ?_; rintro e6 w6 ⟨g6, F6, rfl, ht6, hf6, hb6⟩; have HT6 := Lib.hid ht6; have b6 := (b4.alloc b4.size (.cells #[.int .i64 1] 3)).trans (hb6.mono (b4.alloc b4.size (.cells #[.int .i64 1] 3)).size); clear ht6 hf6)
    | (go_at_call 22; refine (HA6.out g6 F6 w6 HT6.out).mono ?_; rintro e7 w7 ⟨A7, n7, c7, rfl, ho7, hb7⟩; have hn7 := ho7.length; obtain rfl : n7 = 3 := (by simpa using hn7.symm); have HO7 := Lib.hid ho7.bs; have b7 := b6.trans (hb7.mono b6.size); clear ho7)
    | (go_at_call 25; refine (Same_yes A7 _ 3 c7 3 [97, 98, 99] (w7.alloc (.cells #[.int .u8 97, .int .u8 98, .int .u8 99] 5)) (HO7.out.below ((Below.refl _ _).alloc (Nat.le_refl _) _)) (lit3 w7 97 98 99) (by omega)).mono ?_; rintro e8 w8 ⟨rfl, m8, rfl⟩))
  go_ret
  exact ⟨rfl, below_drewN (b7.alloc b7.size _) _⟩
end Go.Proofs.Ytpnllbadalcnaaa
