/-
  KeysThere, whole, as the tied card (Rows.KeysThereCardSaid): for every signature, number of bits up to 24 and height up to 3, where the signature has two digests a bit, as many of the path as the height says, and an index that there is, keys.Decode of keys.Encode of a copy is the signature, with OK; and a key of one index signs once. Conditions: the table sha.constants reads as its initialiser lays it (tied to the program's text).
-/
import Derived.Test.YtfelmdndjdaniaaDoorRows
import Derived.Test.YtfelmdndjdaniaaDoorCards
import Derived.Test.YtfelmdndjdaniaaDoorTie
import Derived.WalkKit
import Derived.ProofKit
import Derived.OpenShut
import Derived.ChangeMaps5
import Derived.ShutString
import Derived.ChangeOld
import Derived.Below
import Derived.SizedLaws
import Derived.SevenTiedAt
import Derived.Lay
import Derived.LaidLaws
import Derived.Test.YtfelmdndjdaniaaDoorKeyR
namespace Go.Proofs.YtfelmdndjdaniaaDoor.keysThere
open Go.ChangeShapes Go.WideShapes Go.ChangeAt Go.RowKit
open Go.ChangeMaps (open_string shut_string)
set_option linter.unusedVariables false
theorem own : ownKnob Tryd.prog.godebug = none := by kernel_rfl
theorem laidOut : laidOutB Tryd.prog = true := by kernel_rfl
theorem low_of {N k : Nat} (h : N < k) : ¬ (k : Int) ≤ (N : Int) := by omega
theorem back_ok (N : Nat) (O P : List (List UInt8)) (b h m n : Nat) (h1 : 1 ≤ b) (h2 : b ≤ 256) (h3 : h ≤ 6) {v : World} {x y : Option Addr} (hO : Ds v x m O) (hP : Ds v y n P) (hm : m = 2 * b) (hn : n = h) (hN : N < 2 ^ h) (A : Option Addr) (c : Nat) (w : World)
    (hB : Bs w A (encL (N : Int) O P).length (encL (N : Int) O P)) (hw : 1 < w.heap.size) :
    Calls Tryd.prog 28 #[.slice A (encL (N : Int) O P).length c, .int .i64 (b : Int), .int .i64 (h : Int)] w fun e w' =>
      ∃ A1 c1 A2 c2, e = .returned (.tuple #[.agg (sigC (N : Int) A1 m c1 A2 n c2), .int .i64 0]) ∧ Ds w' A1 m O ∧ Ds w' A2 n P ∧ Below w.heap.size w w' := by
  have hl : (encL (N : Int) O P).length ≤ 1000000 := by
    rw [encL_length _ hO.2.1 hP.2.1, hO.1, hP.1, Int.toNat_natCast]
    have h5 := wide8 (N := N) (Nat.lt_of_lt_of_le hN (Nat.le_trans (pow_le6 h3) (by decide)))
    clear hN
    omega
  have q := kDecode_ok A (encL (N : Int) O P).length c (encL (N : Int) O P) b h w h1 h2 h3 hB hl hw
  rw [decR_back hO.2.1 hP.2.1 (by rw [hO.1, hm]) (by rw [hP.1, hn]) hN h3] at q
  refine q.mono ?_
  rintro e w' ⟨A1, n1, c1, A2, n2, c2, rfl, q1, q2, q3⟩
  obtain rfl : n1 = m := q1.1.symm.trans hO.1
  obtain rfl : n2 = n := q2.1.symm.trans hP.1
  exact ⟨A1, c1, A2, c2, rfl, q1, q2, q3⟩
theorem enc_ok (N : Nat) (O P : List (List UInt8)) (b h m n : Nat) (h2 : b ≤ 256) (h3 : h ≤ 6) (hm : m = 2 * b) (hn : n = h) (hN : N < 2 ^ h) (A B : Option Addr) (c d : Nat) (w : World) (hA : Ds w A m O) (hB : Ds w B n P) :
    Calls Tryd.prog 31 #[.agg (sigC (N : Int) A m c B n d)] w fun e w' => ∃ X c, e = .returned (.slice X (encL (N : Int) O P).length c) ∧ Below w.heap.size w w' ∧ Bs w' X (encL (N : Int) O P).length (encL (N : Int) O P) := by
  have h5 : N < 9223372036854775808 := Nat.lt_of_lt_of_le hN (Nat.le_trans (pow_le6 h3) (by decide))
  clear hN
  refine (kEnc_any (N : Int) (by omega) A B m c n d O P w hA hB (by omega) (by omega)).mono ?_
  rintro e w' ⟨X, c, rfl, _, q2, q3⟩
  exact ⟨X, c, rfl, q2, q3.bs⟩
set_option maxRecDepth 100000 in
set_option maxHeartbeats 2000000 in
theorem no_great (w : World) (x : Option Addr) (m c : Nat) (y : Option Addr) (n d : Nat) (i a b : Int) (hg : greatB a b = true) (hT : Tab 1 w) :
    Calls Tryd.prog 9 #[.agg (sigC i x m c y n d), .int .i64 a, .int .i64 b] w fun e w' => e = .returned (.bool true) ∧ Below w.heap.size w w' := by
  obtain ⟨wq, hwq⟩ : ∃ wq, w.alloc (.cells (sigC i x m c y n d) 44) = wq := ⟨_, rfl⟩
  have hb0 : Below w.heap.size w wq := by rw [← hwq]; exact (Below.refl w.heap.size w).alloc (Nat.le_refl _) _
  have hs0 : w.heap.size < wq.heap.size := by rw [← hwq]; simp
  have hrs : Row wq w.heap.size 44 (sigC i x m c y n d) := by rw [← hwq]; exact Row.new w 44 _
  have k0 : wq.cell? ⟨w.heap.size, 0, none⟩ = some (.int .i64 i) := hrs.cell 0
  have k1 : wq.cell? ⟨w.heap.size, 1, none⟩ = some (.slice x m c) := hrs.cell 1
  have k2 : wq.cell? ⟨w.heap.size, 2, none⟩ = some (.slice y n d) := hrs.cell 2
  have HRS := Lib.hid hrs
  have HT := Lib.hid hT
  clear hrs hT
  have HG := Lib.hid (fun w => show Calls Tryd.prog 11 #[.int .i64 a, .int .i64 b] w fun e w' => e = .returned (.bool true) ∧ w = w' by have q := great_any a b w; rw [hg] at q; exact q)
  clear hg
  go_enter Tryd.func9, Tryd.ntmps9
  go_wp2_with fail
  go_quiet (first | (go_at_call 11; exact quiet_same (HG.out _)))
  go_wp2_with (go_at_call 12; refine (kawake_any _ (HT.out.below (below_drewN hb0 _))).mono ?_; rintro e2 w2 ⟨rfl, hb2⟩)
  go_ret
  exact ⟨rfl, (below_drewN hb0 _).trans (hb2.mono (by simp; omega))⟩
set_option maxRecDepth 100000 in
set_option maxHeartbeats 2000000 in
theorem no_right (w : World) (x : Option Addr) (m c : Nat) (y : Option Addr) (n d : Nat) (i a b : Int) (hg : greatB a b = false) (hr : okK a b = false) (hT : Tab 1 w) :
    Calls Tryd.prog 9 #[.agg (sigC i x m c y n d), .int .i64 a, .int .i64 b] w fun e w' => e = .returned (.bool true) ∧ Below w.heap.size w w' := by
  obtain ⟨wq, hwq⟩ : ∃ wq, w.alloc (.cells (sigC i x m c y n d) 44) = wq := ⟨_, rfl⟩
  have hb0 : Below w.heap.size w wq := by rw [← hwq]; exact (Below.refl w.heap.size w).alloc (Nat.le_refl _) _
  have hs0 : w.heap.size < wq.heap.size := by rw [← hwq]; simp
  have hrs : Row wq w.heap.size 44 (sigC i x m c y n d) := by rw [← hwq]; exact Row.new w 44 _
  have k0 : wq.cell? ⟨w.heap.size, 0, none⟩ = some (.int .i64 i) := hrs.cell 0
  have k1 : wq.cell? ⟨w.heap.size, 1, none⟩ = some (.slice x m c) := hrs.cell 1
  have k2 : wq.cell? ⟨w.heap.size, 2, none⟩ = some (.slice y n d) := hrs.cell 2
  have HRS := Lib.hid hrs
  have HT := Lib.hid hT
  clear hrs hT
  have HG := Lib.hid (fun w => show Calls Tryd.prog 11 #[.int .i64 a, .int .i64 b] w fun e w' => e = .returned (.bool false) ∧ w = w' by have q := great_any a b w; rw [hg] at q; exact q)
  have HR := Lib.hid (fun w => show Calls Tryd.prog 14 #[.int .i64 a, .int .i64 b] w fun e w' => e = .returned (.bool false) ∧ w = w' by have q := kRight_any a b w; rw [hr] at q; exact q)
  clear hg hr
  go_enter Tryd.func9, Tryd.ntmps9
  go_wp2_with fail
  go_quiet (first | (go_at_call 11; exact quiet_same (HG.out _)) | (go_at_call 14; exact quiet_same (HR.out _)))
  go_wp2_with (go_at_call 12; refine (kawake_any _ (HT.out.below (below_drewN hb0 _))).mono ?_; rintro e2 w2 ⟨rfl, hb2⟩)
  go_ret
  exact ⟨rfl, (below_drewN hb0 _).trans (hb2.mono (by simp; omega))⟩
set_option maxRecDepth 100000 in
set_option maxHeartbeats 2000000 in
theorem no_ots (w : World) (x : Option Addr) (m c : Nat) (y : Option Addr) (n d : Nat) (i : Int) (b h : Nat) (h1 : 1 ≤ b) (h2 : b ≤ 256) (h3 : h ≤ 6) (hg : greatB (b : Int) (h : Int) = false) (hm : m ≠ 2 * b) (hT : Tab 1 w) :
    Calls Tryd.prog 9 #[.agg (sigC i x m c y n d), .int .i64 (b : Int), .int .i64 (h : Int)] w fun e w' => e = .returned (.bool true) ∧ Below w.heap.size w w' := by
  obtain ⟨wq, hwq⟩ : ∃ wq, w.alloc (.cells (sigC i x m c y n d) 44) = wq := ⟨_, rfl⟩
  have hb0 : Below w.heap.size w wq := by rw [← hwq]; exact (Below.refl w.heap.size w).alloc (Nat.le_refl _) _
  have hs0 : w.heap.size < wq.heap.size := by rw [← hwq]; simp
  have hrs : Row wq w.heap.size 44 (sigC i x m c y n d) := by rw [← hwq]; exact Row.new w 44 _
  have k0 : wq.cell? ⟨w.heap.size, 0, none⟩ = some (.int .i64 i) := hrs.cell 0
  have k1 : wq.cell? ⟨w.heap.size, 1, none⟩ = some (.slice x m c) := hrs.cell 1
  have k2 : wq.cell? ⟨w.heap.size, 2, none⟩ = some (.slice y n d) := hrs.cell 2
  have HRS := Lib.hid hrs
  have HT := Lib.hid hT
  clear hrs hT
  have HG := Lib.hid (fun w => show Calls Tryd.prog 11 #[.int .i64 (b : Int), .int .i64 (h : Int)] w fun e w' => e = .returned (.bool false) ∧ w = w' by have q := great_any b h w; rw [hg] at q; exact q)
  have HR := Lib.hid (fun w => show Calls Tryd.prog 14 #[.int .i64 (b : Int), .int .i64 (h : Int)] w fun e w' => e = .returned (.bool true) ∧ w = w' by have q := kRight_any b h w; rw [okK_of h1 h2 h3] at q; exact q)
  have q1 : ((m : Int) != 2 * (b : Int)) = true := by simp; omega
  clear hg hm h3
  go_enter Tryd.func9, Tryd.ntmps9
  go_wp2_with fail
  go_quiet (first | (go_at_call 11; exact quiet_same (HG.out _)) | (go_at_call 14; exact quiet_same (HR.out _)))
  go_wp2_with (go_at_call 12; refine (kawake_any _ (HT.out.below (below_drewN hb0 _))).mono ?_; rintro e2 w2 ⟨rfl, hb2⟩)
  go_ret
  exact ⟨rfl, (below_drewN hb0 _).trans (hb2.mono (by simp; omega))⟩
set_option maxRecDepth 100000 in
set_option maxHeartbeats 2000000 in
theorem no_path (w : World) (x : Option Addr) (m c : Nat) (y : Option Addr) (n d : Nat) (i : Int) (b h : Nat) (h1 : 1 ≤ b) (h2 : b ≤ 256) (h3 : h ≤ 6) (hg : greatB (b : Int) (h : Int) = false) (hm : m = 2 * b) (hn : n ≠ h) (hT : Tab 1 w) :
    Calls Tryd.prog 9 #[.agg (sigC i x m c y n d), .int .i64 (b : Int), .int .i64 (h : Int)] w fun e w' => e = .returned (.bool true) ∧ Below w.heap.size w w' := by
  obtain ⟨wq, hwq⟩ : ∃ wq, w.alloc (.cells (sigC i x m c y n d) 44) = wq := ⟨_, rfl⟩
  have hb0 : Below w.heap.size w wq := by rw [← hwq]; exact (Below.refl w.heap.size w).alloc (Nat.le_refl _) _
  have hs0 : w.heap.size < wq.heap.size := by rw [← hwq]; simp
  have hrs : Row wq w.heap.size 44 (sigC i x m c y n d) := by rw [← hwq]; exact Row.new w 44 _
  have k0 : wq.cell? ⟨w.heap.size, 0, none⟩ = some (.int .i64 i) := hrs.cell 0
  have k1 : wq.cell? ⟨w.heap.size, 1, none⟩ = some (.slice x m c) := hrs.cell 1
  have k2 : wq.cell? ⟨w.heap.size, 2, none⟩ = some (.slice y n d) := hrs.cell 2
  have HRS := Lib.hid hrs
  have HT := Lib.hid hT
  clear hrs hT
  have HG := Lib.hid (fun w => show Calls Tryd.prog 11 #[.int .i64 (b : Int), .int .i64 (h : Int)] w fun e w' => e = .returned (.bool false) ∧ w = w' by have q := great_any b h w; rw [hg] at q; exact q)
  have HR := Lib.hid (fun w => show Calls Tryd.prog 14 #[.int .i64 (b : Int), .int .i64 (h : Int)] w fun e w' => e = .returned (.bool true) ∧ w = w' by have q := kRight_any b h w; rw [okK_of h1 h2 h3] at q; exact q)
  have q1 : ((m : Int) != 2 * (b : Int)) = false := by simp; omega
  have q2 : ((n : Int) != (h : Int)) = true := by simp; omega
  clear hg hm hn h3
  go_enter Tryd.func9, Tryd.ntmps9
  go_wp2_with fail
  go_quiet (first | (go_at_call 11; exact quiet_same (HG.out _)) | (go_at_call 14; exact quiet_same (HR.out _)))
  go_wp2_with (go_at_call 12; refine (kawake_any _ (HT.out.below (below_drewN hb0 _))).mono ?_; rintro e2 w2 ⟨rfl, hb2⟩)
  go_ret
  exact ⟨rfl, (below_drewN hb0 _).trans (hb2.mono (by simp; omega))⟩
set_option maxRecDepth 100000 in
set_option maxHeartbeats 2000000 in
theorem no_low (w : World) (x : Option Addr) (m c : Nat) (y : Option Addr) (n d : Nat) (i : Int) (b h : Nat) (h1 : 1 ≤ b) (h2 : b ≤ 256) (h3 : h ≤ 6) (hg : greatB (b : Int) (h : Int) = false) (hm : m = 2 * b) (hn : n = h) (hi : i < 0) (hT : Tab 1 w) :
    Calls Tryd.prog 9 #[.agg (sigC i x m c y n d), .int .i64 (b : Int), .int .i64 (h : Int)] w fun e w' => e = .returned (.bool true) ∧ Below w.heap.size w w' := by
  obtain ⟨wq, hwq⟩ : ∃ wq, w.alloc (.cells (sigC i x m c y n d) 44) = wq := ⟨_, rfl⟩
  have hb0 : Below w.heap.size w wq := by rw [← hwq]; exact (Below.refl w.heap.size w).alloc (Nat.le_refl _) _
  have hs0 : w.heap.size < wq.heap.size := by rw [← hwq]; simp
  have hrs : Row wq w.heap.size 44 (sigC i x m c y n d) := by rw [← hwq]; exact Row.new w 44 _
  have k0 : wq.cell? ⟨w.heap.size, 0, none⟩ = some (.int .i64 i) := hrs.cell 0
  have k1 : wq.cell? ⟨w.heap.size, 1, none⟩ = some (.slice x m c) := hrs.cell 1
  have k2 : wq.cell? ⟨w.heap.size, 2, none⟩ = some (.slice y n d) := hrs.cell 2
  have HRS := Lib.hid hrs
  have HT := Lib.hid hT
  clear hrs hT
  have HG := Lib.hid (fun w => show Calls Tryd.prog 11 #[.int .i64 (b : Int), .int .i64 (h : Int)] w fun e w' => e = .returned (.bool false) ∧ w = w' by have q := great_any b h w; rw [hg] at q; exact q)
  have HR := Lib.hid (fun w => show Calls Tryd.prog 14 #[.int .i64 (b : Int), .int .i64 (h : Int)] w fun e w' => e = .returned (.bool true) ∧ w = w' by have q := kRight_any b h w; rw [okK_of h1 h2 h3] at q; exact q)
  have q1 : ((m : Int) != 2 * (b : Int)) = false := by simp; omega
  have q2 : ((n : Int) != (h : Int)) = false := by simp; omega
  clear hg hm hn h3
  go_enter Tryd.func9, Tryd.ntmps9
  go_wp2_with fail
  go_quiet (first | (go_at_call 11; exact quiet_same (HG.out _)) | (go_at_call 14; exact quiet_same (HR.out _)))
  go_wp2_with (go_at_call 12; refine (kawake_any _ (HT.out.below (below_drewN hb0 _))).mono ?_; rintro e2 w2 ⟨rfl, hb2⟩)
  go_ret
  exact ⟨rfl, (below_drewN hb0 _).trans (hb2.mono (by simp; omega))⟩
set_option maxRecDepth 100000 in
set_option maxHeartbeats 2000000 in
theorem no_high (w : World) (x : Option Addr) (m c : Nat) (y : Option Addr) (n d : Nat) (i : Int) (b h : Nat) (h1 : 1 ≤ b) (h2 : b ≤ 256) (h3 : h ≤ 6) (hg : greatB (b : Int) (h : Int) = false) (hm : m = 2 * b) (hn : n = h) (hi : ¬ i < 0) (hi2 : ((2 ^ h : Nat) : Int) ≤ i) (hT : Tab 1 w) :
    Calls Tryd.prog 9 #[.agg (sigC i x m c y n d), .int .i64 (b : Int), .int .i64 (h : Int)] w fun e w' => e = .returned (.bool true) ∧ Below w.heap.size w w' := by
  obtain ⟨wq, hwq⟩ : ∃ wq, w.alloc (.cells (sigC i x m c y n d) 44) = wq := ⟨_, rfl⟩
  have hb0 : Below w.heap.size w wq := by rw [← hwq]; exact (Below.refl w.heap.size w).alloc (Nat.le_refl _) _
  have hs0 : w.heap.size < wq.heap.size := by rw [← hwq]; simp
  have hrs : Row wq w.heap.size 44 (sigC i x m c y n d) := by rw [← hwq]; exact Row.new w 44 _
  have k0 : wq.cell? ⟨w.heap.size, 0, none⟩ = some (.int .i64 i) := hrs.cell 0
  have k1 : wq.cell? ⟨w.heap.size, 1, none⟩ = some (.slice x m c) := hrs.cell 1
  have k2 : wq.cell? ⟨w.heap.size, 2, none⟩ = some (.slice y n d) := hrs.cell 2
  have HRS := Lib.hid hrs
  have HT := Lib.hid hT
  clear hrs hT
  have HG := Lib.hid (fun w => show Calls Tryd.prog 11 #[.int .i64 (b : Int), .int .i64 (h : Int)] w fun e w' => e = .returned (.bool false) ∧ w = w' by have q := great_any b h w; rw [hg] at q; exact q)
  have HR := Lib.hid (fun w => show Calls Tryd.prog 14 #[.int .i64 (b : Int), .int .i64 (h : Int)] w fun e w' => e = .returned (.bool true) ∧ w = w' by have q := kRight_any b h w; rw [okK_of h1 h2 h3] at q; exact q)
  have q1 : ((m : Int) != 2 * (b : Int)) = false := by simp; omega
  have q2 : ((n : Int) != (h : Int)) = false := by simp; omega
  have hp6 := pow_le6 h3
  have hw1 : IntKind.i64.wrap ((2 : Int) ^ h) = ((2 ^ h : Nat) : Int) := by
    rw [show (2 : Int) ^ h = ((2 ^ h : Nat) : Int) by simp]
    generalize 2 ^ h = z at hp6 ⊢
    exact wrap_small _ (by omega) (by omega)
  have hw2 : IntKind.i64.wrap ((2 : Int) ^ min h 64) = ((2 ^ h : Nat) : Int) := by rw [Nat.min_eq_left (by omega)]; exact hw1
  have hw3 := wrap_pow (n := h) (by omega)
  have hmul : IntKind.i64.wrap (2 * (b : Int)) = 2 * (b : Int) := wrap_small _ (by omega) (by omega)
  generalize 2 ^ h = nn at *
  clear hg hm hn
  go_enter Tryd.func9, Tryd.ntmps9
  go_wp2_with fail
  go_quiet (first | (go_at_call 11; exact quiet_same (HG.out _)) | (go_at_call 14; exact quiet_same (HR.out _)))
  go_wp2_with (go_at_call 12; refine (kawake_any _ (HT.out.below (below_drewN hb0 _))).mono ?_; rintro e2 w2 ⟨rfl, hb2⟩)
  go_ret
  exact ⟨rfl, (below_drewN hb0 _).trans (hb2.mono (by simp; omega))⟩
set_option maxRecDepth 100000 in
set_option maxHeartbeats 4000000 in
theorem walk_ok (w : World) (x : Option Addr) (m c : Nat) (y : Option Addr) (n d : Nat) (N : Nat) (O P : List (List UInt8)) (b h : Nat) (h1 : 1 ≤ b) (h2 : b ≤ 256) (h3 : h ≤ 6) (hg : greatB (b : Int) (h : Int) = false) (hO : Ds w x m O) (hP : Ds w y n P) (hm : m = 2 * b) (hn : n = h) (hN : N < 2 ^ h) (hT : Tab 1 w) :
    Calls Tryd.prog 9 #[.agg (sigC (N : Int) x m c y n d), .int .i64 (b : Int), .int .i64 (h : Int)] w fun e w' => e = .returned (.bool true) ∧ Below w.heap.size w w' := by
  have hT1 := hT.1
  have hi1 : ¬ ((2 ^ h : Nat) : Int) ≤ (N : Int) := low_of hN
  have hi3 : decide (2 ^ h ≤ N) = false := decide_eq_false (Nat.not_le.2 hN)
  have hi4 : decide ((N : Int) < 0) = false := decide_eq_false (Int.not_lt.2 (Int.natCast_nonneg N))
  have HDc := Lib.hid (fun A c w hB hw => back_ok N O P b h m n h1 h2 h3 hO hP hm hn hN A c w hB hw)
  have HEn := Lib.hid (fun A B c d w hA hB => enc_ok N O P b h m n h2 h3 hm hn hN A B c d w hA hB)
  have hmb : m ≤ 1000 := by omega
  have hnb : n ≤ 1000 := by omega
  have HOk := Lib.hid hO
  have HPk := Lib.hid hP
  obtain ⟨wq, hwq⟩ : ∃ wq, w.alloc (.cells (sigC (N : Int) x m c y n d) 44) = wq := ⟨_, rfl⟩
  have hb0 : Below w.heap.size w wq := by rw [← hwq]; exact (Below.refl w.heap.size w).alloc (Nat.le_refl _) _
  have hs0 : w.heap.size < wq.heap.size := by rw [← hwq]; simp
  have hrs : Row wq w.heap.size 44 (sigC (N : Int) x m c y n d) := by rw [← hwq]; exact Row.new w 44 _
  have k0 : wq.cell? ⟨w.heap.size, 0, none⟩ = some (.int .i64 (N : Int)) := hrs.cell 0
  have k1 : wq.cell? ⟨w.heap.size, 1, none⟩ = some (.slice x m c) := hrs.cell 1
  have k2 : wq.cell? ⟨w.heap.size, 2, none⟩ = some (.slice y n d) := hrs.cell 2
  have HRS := Lib.hid hrs
  have HT := Lib.hid hT
  clear hrs hT
  have HOq := Lib.hid (HOk.out.below hb0)
  have HPq := Lib.hid (HPk.out.below hb0)
  have HG := Lib.hid (fun w => show Calls Tryd.prog 11 #[.int .i64 (b : Int), .int .i64 (h : Int)] w fun e w' => e = .returned (.bool false) ∧ w = w' by have q := great_any b h w; rw [hg] at q; exact q)
  have HR := Lib.hid (fun w => show Calls Tryd.prog 14 #[.int .i64 (b : Int), .int .i64 (h : Int)] w fun e w' => e = .returned (.bool true) ∧ w = w' by have q := kRight_any b h w; rw [okK_of h1 h2 h3] at q; exact q)
  have q1 : ((m : Int) != 2 * (b : Int)) = false := by simp; omega
  have q2 : ((n : Int) != (h : Int)) = false := by simp; omega
  have hi0 : ¬ (N : Int) < 0 := by omega
  have hp6 := pow_le6 h3
  have hw1 : IntKind.i64.wrap ((2 : Int) ^ h) = ((2 ^ h : Nat) : Int) := by
    rw [show (2 : Int) ^ h = ((2 ^ h : Nat) : Int) by simp]
    generalize 2 ^ h = z at hp6 ⊢
    exact wrap_small _ (by omega) (by omega)
  have hw2 : IntKind.i64.wrap ((2 : Int) ^ min h 64) = ((2 ^ h : Nat) : Int) := by rw [Nat.min_eq_left (by omega)]; exact hw1
  have hw3 := wrap_pow (n := h) (by omega)
  have hmul : IntKind.i64.wrap (2 * (b : Int)) = 2 * (b : Int) := wrap_small _ (by omega) (by omega)
  generalize encL (N : Int) O P = EL at *
  generalize 2 ^ h = nn at *
  clear hg hm hn hO hP h1
  go_enter Tryd.func9, Tryd.ntmps9
  go_wp2_with fail
  go_quiet (first | (go_at_call 11; exact quiet_same (HG.out _)) | (go_at_call 14; exact quiet_same (HR.out _)))
  go_wp2_with (first
    | (with_reducible refine wpList_load_row Tryd.aggSig rfl (.tmp 3) rfl _ rfl 44 _ (HRS.out.drewN _) (sigC_size _ _ _ _ _ _ _) ?_)
    | (go_at_call 26; refine (kCopy_any (N : Int) x y m c n d O P _ (HOq.out.drewN _) (HPq.out.drewN _) (by omega) (by omega)).mono ?_; rintro e1 w1 ⟨A1, c1, B1, d1, rfl, hd1, hd2, hb1⟩; have HA1 := Lib.hid hd1; have HB1 := Lib.hid hd2; have b1 := (below_drewN (Below.refl wq.heap.size wq) _).trans (hb1.mono (by simp)); clear hd1 hd2)
    | (go_at_call 31; refine (HEn.out A1 B1 c1 d1 w1 HA1.out HB1.out).mono ?_; rintro e2 w2 ⟨A2, c2, rfl, hb2, hB2⟩; have HB2 := Lib.hid hB2; have b2 := b1.trans (hb2.mono b1.size); clear hB2)
    | (go_at_call 28; refine (HDc.out A2 c2 w2 HB2.out (by have := b2.size; omega)).mono ?_; rintro e3 w3 ⟨A3, c3, B3, d3, rfl, hd3, hd4, hb3⟩; have HA3 := Lib.hid hd3; have HB3 := Lib.hid hd4; have b3 := b2.trans (hb3.mono b2.size); clear hd3 hd4)
    | (with_reducible refine wpList_store_row Tryd.aggSig rfl (.tmp 7) (.tmp 53) rfl _ (sigC (N : Int) A3 m c3 B3 n d3) rfl rfl 44 sig0 (Row.new w3 44 sig0) (sigC_size _ _ _ _ _ _ _) (sigC_size _ _ _ _ _ _ _) (sigC_one _ _ _ _ _ _ _) ?_; intro w4 hr4 ho4; have HR4 := Lib.hid hr4; have b4' : Below w3.heap.size w3 w4 := ((Below.refl _ _).alloc (Nat.le_refl _) _).trans (ho4.below (Nat.le_refl _) (by simp)); have b4 := b3.trans (b4'.mono b3.size); have HS4 := Lib.hid (HRS.out.below b4 hs0); clear hr4)
    | (with_reducible refine wpList_loadSG (by with_unfolding_all rfl) (.tmp 7) rfl _ rfl (N : Int) A3 m c3 B3 n d3 HR4.out ?_)
    | (with_reducible refine wpList_loadSG (by with_unfolding_all rfl) (.tmp 3) rfl _ rfl (N : Int) x m c y n d HS4.out ?_)
    | (go_at_call 24; refine (kSame_yes (N : Int) A3 x B3 y m c3 c n d3 d O P w4 (HA3.out.below b4') (HOq.out.below b4) (HB3.out.below b4') (HPq.out.below b4) (by omega) (by omega)).mono ?_; rintro e5 w5 ⟨rfl, hb5⟩; have b5 := b4.trans (hb5.mono b4.size); have bw5 := hb0.trans (b5.mono hb0.size))
    | (go_at_call 12; refine (kawake_any w5 (HT.out.below bw5)).mono ?_; rintro e6 w6 ⟨rfl, hb6⟩))
  go_ret
  exact ⟨rfl, bw5.trans (hb6.mono bw5.size)⟩
theorem walk (w : World) (i : Int) (hi : -9223372036854775808 ≤ i ∧ i < 9223372036854775808) (x : Option Addr) (m c : Nat) (O : List (List UInt8)) (hO : Ds w x m O ∧ m ≤ c) (y : Option Addr) (n d : Nat) (P : List (List UInt8)) (hP : Ds w y n P ∧ n ≤ d) (a1 : Int) (_w1 : (Lit.int .i64 a1).wf = true) (a2 : Int) (_w2 : (Lit.int .i64 a2).wf = true) (hT : Tab 1 w) :
    Calls Tryd.prog 9 #[.agg (sigC i x m c y n d), .int .i64 a1, .int .i64 a2] w fun e w' => e = .returned (.bool true) ∧ Below w.heap.size w w' := by
  cases hg : greatB a1 a2
  · cases hr : okK a1 a2
    · exact no_right w x m c y n d i a1 a2 hg hr hT
    · obtain ⟨b, h, rfl, rfl, h1, h2, h3⟩ := okK_yes hr
      by_cases hm : m = 2 * b
      · by_cases hn : n = h
        · by_cases h0 : i < 0
          · exact no_low w x m c y n d i b h h1 h2 h3 hg hm hn h0 hT
          · by_cases hN : ((2 ^ h : Nat) : Int) ≤ i
            · exact no_high w x m c y n d i b h h1 h2 h3 hg hm hn h0 hN hT
            · obtain ⟨N, rfl⟩ := Int.eq_ofNat_of_zero_le (show 0 ≤ i by omega)
              exact walk_ok w x m c y n d N O P b h h1 h2 h3 hg hO.1 hP.1 hm hn (by omega) hT
        · exact no_path w x m c y n d i b h h1 h2 h3 hg hm hn hT
      · exact no_ots w x m c y n d i b h h1 h2 h3 hg hm hT
  · exact no_great w x m c y n d i a1 a2 hg hT

set_option maxRecDepth 100000 in
theorem lifted (os : Os) (started : os.Started) (H : Type) (enc : TypeId × Value → H) :
    ReturnsInHanded {} Tryd.checked os 9 .any (fun w args => (Rows.keysThereSpec.pre enc Tryd.prog Tryd.f9 Rows.keysThereRow.domain false w args ∧ laidMetH Tryd.prog lay1 w) ∧ sizedMet enc Tryd.prog Tryd.f9 (OpenSpec.ofChange Rows.keysThereSpec) false w args)
      (Rows.keysThereSpec.post enc Tryd.prog Tryd.f9 false true false false) := by
  refine returnsInHanded_of_change_and (C := Tryd.checked) (X := fun w _ => laidMetH Tryd.prog lay1 w) (fun _ _ _ hh h => h.of_heap hh) own started (by kernel_rfl) Tryd.func9
    (ChangeSpec.witness_shaped (enc := enc) (C := Tryd.checked) (os := os) (X := fun w _ => laidMetH Tryd.prog lay1 w) false (World.laidAll Tryd.prog os lay1) #[.agg #[.int .i64 0, .slice none 0 0, .slice none 0 0], .int .i64 0, .int .i64 0] 8 rfl (World.shaped_of_ZipB (by kernel_rfl) (by kernel_rfl)) (by kernel_rfl) (by kernel_rfl) (by kernel_rfl) (met1 os _)) ?_
  intro W base args ds gs before hval0 hW hcnd hsz0 hL _
  have hval : ∀ (j : Nat) t v, Tryd.f9.params[j]? = some t → args[j]? = some v → Value.okWide Tryd.prog W .any base t v := hval0
  have hW' := hW
  obtain ⟨p, q, hA0, hV, rfl, hfz, hnd⟩ := hW
  have hA : DataW.TrodAll enc Tryd.prog W 0 (fun _ => true) true Tryd.f9.params.toList args.toList ds p := hA0
  have hsz : (DataW.weightsEach Tryd.prog (Tryd.f9.params.toList ++ Rows.keysThereSpec.plain.varTypes Tryd.prog) (ds ++ gs)).all (· ≤ reachBytes) = true := hsz0
  rw [Tryd.params9] at hA hval hsz
  obtain ⟨v0, vs0, d0, ds0, p0, q0, hargs, rfl, rfl, h0, r0⟩ := trodAll_cons hA
  obtain ⟨v1, vs1, d1, ds1, p1, q1, rfl, rfl, rfl, h1, r1⟩ := trodAll_cons r0
  obtain ⟨v2, vs2, d2, ds2, p2, q2, rfl, rfl, rfl, h2, r2⟩ := trodAll_cons r1
  obtain ⟨rfl, rfl, rfl⟩ := trodAll_nil r2
  obtain rfl : args = #[v0, v1, v2] := by cases args; simp_all
  obtain ⟨rfl, rfl⟩ := trodVars_none hV
  have k0 := h0
  have lt0 : ∀ x ∈ p0, x.block < W.heap.size := by obtain ⟨m, hm⟩ := k0; exact DataW.trod_lt m _ _ _ hm
  obtain ⟨i0, x0, m0, c0, O0, y0, n0, e0, P0, rfl, hi0, hO0, hP0⟩ := open_sig (hval 0 44 v0 rfl rfl) h0
  obtain ⟨a1, rfl, rfl, rfl, w1⟩ := open_int Tryd.underlying3 (hval 1 3 v1 rfl rfl) h1
  obtain ⟨a2, rfl, rfl, rfl, w2⟩ := open_int Tryd.underlying3 (hval 2 3 v2 rfl rfl) h2
  have hTab := of_lay1 hL
  clear hA0 hval0
  refine (walk W i0 hi0 x0 m0 c0 O0 hO0 y0 n0 e0 P0 hP0 a1 w1 a2 w2 hTab).mono fun e W' ⟨he, bel⟩ => ?_
  subst he
  exact ⟨_, rfl, _, _, _, [], _, [], hW', trodAll_mk1 (shut_bool Tryd.underlying4 _), (trodAll_cons_mk (Below.trod laidOut (by kernel_rfl) (of_decide_eq_true (by kernel_rfl)) k0 bel lt0) (trodAll_cons_mk (shut_int Tryd.underlying3 w1) (trodAll_cons_mk (shut_int Tryd.underlying3 w2) trodAll_mk0))), rfl, bel.frame _, fun h => by cases h⟩
theorem over : Rows.keysThereRow.holds Tryd.pinned (OpenSpec.ofChange Rows.keysThereSpec) :=
  OpenClaim.holds_of_wide 9 Tryd.f9 rfl rfl rfl rfl rfl rfl rfl ⟨rfl, rfl, rfl, rfl, rfl⟩ rfl rfl rfl rfl rfl (by kernel_rfl) Tryd.func9 (by kernel_rfl)
    (of_decide_eq_true (by kernel_rfl)) (by unfold Func.isWrapper; first | (rw [if_pos (by decide +kernel)]; kernel_rfl) | (rw [if_neg (by decide +kernel)]; exact ⟨rfl, rfl⟩))
    (fun os started H enc _ => lifted os started H enc)
theorem keysThere_holds : Rows.KeysThereCardSaid :=
  Claim7.holds_tied_plain_at .later [] [.data] true (true, "d3f0664aba75a8af102b5f214e5048e24f7f5bc8fe66a510793bef99d59ac9fb") false
    over (fun _ h => by cases h) (by kernel_rfl) (fun _ h => by cases h) keysThere_row_tie rfl ⟨rfl, rfl⟩ (by kernel_rfl) rfl
    (fun f fn hf hfn => by
      obtain rfl : f = 9 := Option.some.inj ((show Tryd.prog.funcNamed "jurat/juratlaw07.KeysThere" = some 9 by kernel_rfl).symm.trans hf) |>.symm
      obtain rfl : fn = Tryd.f9 := (Option.some.inj (Tryd.func9.symm.trans hfn)).symm
      exact ⟨by kernel_rfl, fun j t ht => by
        rw [Tryd.params9] at ht
        have hm : t ∈ [44, 3] := by simpa using Array.mem_of_getElem? ht
        have hall : ([44, 3].all fun u => !Tryd.prog.wantsStandIn u) = true := by kernel_rfl
        exact (show Tryd.prog.wantsStandIn t = false by simpa using List.all_eq_true.1 hall t hm)⟩)
    (by kernel_rfl)
#print axioms keysThere_holds
end Go.Proofs.YtfelmdndjdaniaaDoor.keysThere
