/-
  What ots.mayBe, secret, hidden, bitOf and the document's own Right, secret, sum and bit answer.
-/
import Derived.Test.YtghihgmgadaoeaaDoorDig
namespace Go.Proofs.YtghihgmgadaoeaaDoor
open Go.RowKit
set_option maxHeartbeats 400000 in
theorem mayBe_yes (n : Int) (w : World) (h1 : 1 ≤ n) (h2 : n ≤ 256) : Calls Tryd.prog 25 #[.int .i64 n] w fun e w' => e = .returned (.bool true) ∧ w = w' := by
  go_enter Tryd.func25, Tryd.ntmps25
  go_wp2
  go_ret
  exact ⟨rfl, rfl⟩
set_option maxHeartbeats 400000 in
theorem mayBe_no (n : Int) (w : World) (h : n < 1 ∨ 256 < n) : Calls Tryd.prog 25 #[.int .i64 n] w fun e w' => e = .returned (.bool false) ∧ w = w' := by
  by_cases h1 : 1 ≤ n
  · have h2 : ¬ n ≤ 256 := by omega
    clear h
    go_enter Tryd.func25, Tryd.ntmps25
    go_wp2
    go_ret
    exact ⟨rfl, rfl⟩
  · clear h
    go_enter Tryd.func25, Tryd.ntmps25
    go_wp2
    go_ret
    exact ⟨rfl, rfl⟩
set_option maxHeartbeats 400000 in
theorem Right_yes (n : Int) (w : World) (h1 : 1 ≤ n) (h2 : n ≤ 256) : Calls Tryd.prog 20 #[.int .i64 n] w fun e w' => e = .returned (.bool true) ∧ w = w' := by
  go_enter Tryd.func20, Tryd.ntmps20
  go_wp2
  go_ret
  exact ⟨rfl, rfl⟩
set_option maxHeartbeats 400000 in
theorem Right_no (n : Int) (w : World) (h : n < 1 ∨ 256 < n) : Calls Tryd.prog 20 #[.int .i64 n] w fun e w' => e = .returned (.bool false) ∧ w = w' := by
  by_cases h1 : 1 ≤ n
  · have h2 : ¬ n ≤ 256 := by omega
    clear h
    go_enter Tryd.func20, Tryd.ntmps20
    go_wp2
    go_ret
    exact ⟨rfl, rfl⟩
  · clear h
    go_enter Tryd.func20, Tryd.ntmps20
    go_wp2
    go_ret
    exact ⟨rfl, rfl⟩
set_option maxRecDepth 100000 in
set_option maxHeartbeats 1000000 in
theorem secret_any (s : List UInt8) (i b : Nat) (I B : Int) (w : World) (hs : s.length = 32) (hI : I = i) (hB : B = b) (hi : i ≤ 256) (hb : b ≤ 1) (hT : Tab 2 w) :
    Calls Tryd.prog 34 #[.agg (bcells s), .int .i64 I, .int .i64 B] w fun e w' => e = .returned (.agg (bcells (secL s i b))) ∧ Below w.heap.size w w' := by
  subst hI hB
  have HC := Lib.hid (fun w hT => show Calls Tryd.prog 45 #[.agg (bcells s), .string ⟨#[111, 116, 115]⟩, .int .i64 (2 * (i : Int) + (b : Int))] w fun e w' => e = .returned (.agg (bcells (secL s i b))) ∧ Below w.heap.size w w' by
    have h := Seed_any s otsA ((2 * i + b : Nat) : Int) w hs (by decide) hT
    rw [show ((2 * i + b : Nat) : Int) = 2 * (i : Int) + (b : Int) by omega] at h
    unfold secL
    rw [show ((2 * i + b : Nat) : Int) = 2 * (i : Int) + (b : Int) by omega]
    exact h)
  have HS := Lib.hid (show (bcells (secL s i b)).size = 32 by rw [bcells_size, secL_length])
  have HKS := Lib.hid (show (bcells s).size = 32 by rw [bcells_size, hs])
  have h2 := hT.1
  have hb0 := ((Below.refl w.heap.size w).alloc (Nat.le_refl _) (.cells (bcells s) 23)).alloc (by simp) (.cells lit32 23)
  have HT0 := Lib.hid (hT.below hb0)
  have HZR := Lib.hid (Row.new1 w (.cells (bcells s) 23) 23 lit32)
  generalize secL s i b = R at *
  clear hT
  go_enter Tryd.func34, Tryd.ntmps34
  go_wp2_with (first
    | (with_reducible refine wpList_load_row Tryd.agg25 rfl (.tmp 3) rfl _ rfl 23 _ ((Row.new w 23 (bcells s)).alloc _) HKS.out ?_)
    | (go_at_call 45; refine (HC.out _ HT0.out).mono ?_; rintro e1 w1 ⟨rfl, hb1⟩; have hs1 := hb1.size; have HZ1 := Lib.hid (HZR.out.below hb1 (by simp)))
    | (with_reducible refine wpList_store_row Tryd.agg25 rfl (.tmp 6) (.tmp 12) rfl _ _ rfl rfl 23 lit32 HZ1.out HS.out lit32_size (bcells_one _) ?_; intro w9 hr9 ho9; have HR9 := Lib.hid hr9; clear hr9))
  refine bodyPost_ret (results_row1 Tryd.agg25 Tryd.results34 rfl HR9.out HS.out) rfl ⟨rfl, ?_⟩
  have b1 := hb0.trans (hb1.mono (by simp; omega))
  exact b1.trans (ho9.below (by omega) b1.size)
set_option maxRecDepth 100000 in
set_option maxHeartbeats 1000000 in
theorem hidden_any (s : List UInt8) (i b : Nat) (I B : Int) (w : World) (hs : s.length = 32) (hI : I = i) (hB : B = b) (hi : i ≤ 256) (hb : b ≤ 1) (hT : Tab 2 w) :
    Calls Tryd.prog 26 #[.agg (bcells s), .int .i64 I, .int .i64 B] w fun e w' => e = .returned (.agg (bcells (hidL s i b))) ∧ Below w.heap.size w w' := by
  have HC := Lib.hid (fun w hT => secret_any s i b I B w hs hI hB hi hb hT)
  have HS := Lib.hid (show (bcells (secL s i b)).size = 32 by rw [bcells_size, secL_length])
  have HL := Lib.hid (secL_length s i b)
  have HH := Lib.hid (show (bcells (hidL s i b)).size = 32 by rw [bcells_size, hidL_length])
  have HM := Lib.hid (fun g w hB hT => Sum_any (some ⟨g, 0, none⟩) 32 32 (secL s i b) w hB (Nat.le_refl _) hT (by omega))
  have HKS := Lib.hid (show (bcells s).size = 32 by rw [bcells_size, hs])
  have h2 := hT.1
  have hcut := run_cut_all (P := Tryd.prog) Tryd.under23 Tryd.size5
  have hb0 := ((Below.refl w.heap.size w).alloc (Nat.le_refl _) (.cells (bcells s) 23)).alloc (by simp) (.cells lit32 23)
  have HT0 := Lib.hid (hT.below hb0)
  have HZR := Lib.hid (Row.new1 w (.cells (bcells s) 23) 23 lit32)
  unfold hidL at HH ⊢
  generalize secL s i b = R at *
  generalize sumL R = D at *
  clear hT hI hB
  go_enter Tryd.func26, Tryd.ntmps26
  go_wp2_with (first
    | (with_reducible refine wpList_load_row Tryd.agg25 rfl (.tmp 3) rfl _ rfl 23 _ ((Row.new w 23 (bcells s)).alloc _) HKS.out ?_)
    | (go_at_call 34; refine (HC.out _ HT0.out).mono ?_; rintro e1 w1 ⟨rfl, hb1⟩; have hs1 := hb1.size; have HZ1 := Lib.hid (HZR.out.below hb1 (by simp)); have HT1 := Lib.hid (HT0.out.below hb1); simp at hs1)
    | (with_reducible refine wpList_store_row Tryd.agg25 rfl (.tmp 7) (.tmp 11) rfl _ _ rfl rfl 23 lit32 (Row.new w1 23 lit32) HS.out lit32_size (bcells_one _) ?_; intro w2 hr2 ho2; have HR2 := Lib.hid (hr2.bsB HL.out); have hs2 := ho2.size; simp at hs2; have HZ2 := Lib.hid ((HZ1.out.alloc _).only ho2 (by omega)); have HT2 := Lib.hid ((HT1.out.below ((Below.refl _ _).alloc (Nat.le_refl _) _)).only ho2 (by omega)); clear hr2)
    | (go_at_call 32; refine (HM.out _ _ HR2.out HT2.out).mono ?_; rintro e3 w3 ⟨rfl, hb3⟩; have HZ3 := Lib.hid (HZ2.out.below hb3 (by omega)); have hs3 := hb3.size)
    | (with_reducible refine wpList_store_row Tryd.agg25 rfl (.tmp 6) (.tmp 13) rfl _ _ rfl rfl 23 lit32 HZ3.out HH.out lit32_size (bcells_one _) ?_; intro w9 hr9 ho9; have HR9 := Lib.hid hr9; clear hr9))
  refine bodyPost_ret (results_row1 Tryd.agg25 Tryd.results26 rfl HR9.out HH.out) rfl ⟨rfl, ?_⟩
  have b1 := hb0.trans (hb1.mono (by simp; omega))
  have b2 := (b1.alloc b1.size (.cells lit32 23)).trans (ho2.below (B := w.heap.size) (by omega) (by simp; omega))
  have b3 := b2.trans (hb3.mono b2.size)
  exact b3.trans (ho9.below (by omega) b3.size)
set_option maxRecDepth 100000 in
set_option maxHeartbeats 1000000 in
theorem bitOf_any (d : List UInt8) (i : Nat) (I : Int) (w : World) (hd : d.length = 32) (hI : I = i) (hi : i < 256) :
    Calls Tryd.prog 33 #[.agg (bcells d), .int .i64 I] w fun e w' => e = .returned (.int .i64 (bitN d i : Int)) ∧ Below w.heap.size w w' := by
  subst hI
  have HB := Lib.hid (fun g w hB => Bit_ok (some ⟨g, 0, none⟩) 32 32 i d w hB (by omega) (by omega))
  have hcut := run_cut_all (P := Tryd.prog) Tryd.under23 Tryd.size5 w.heap.size 0
  have HR := Lib.hid ((Row.new w 23 (bcells d)).bsB hd)
  generalize bitN d i = b at *
  clear hd
  go_enter Tryd.func33, Tryd.ntmps33
  go_wp2_with (go_at_call 44; refine (HB.out _ _ HR.out).mono ?_; rintro e1 w1 ⟨rfl, rfl⟩)
  go_ret
  exact ⟨rfl, (Below.refl _ _).alloc (Nat.le_refl _) _⟩
set_option maxRecDepth 100000 in
set_option maxHeartbeats 1000000 in
theorem RefSecret_any (s : List UInt8) (i b : Nat) (I B : Int) (w : World) (hs : s.length = 32) (hI : I = i) (hB : B = b) (hi : i ≤ 256) (hb : b ≤ 1) (hF : First w) (hT : Tab 1 w) :
    Calls Tryd.prog 28 #[.agg (bcells s), .int .i64 I, .int .i64 B] w fun e w' => e = .returned (.agg (bcells (secL s i b))) ∧ Below w.heap.size w w' := by
  subst hI hB
  have HC := Lib.hid (fun w hF hT => show Calls Tryd.prog 38 #[.agg (bcells s), .string ⟨#[111, 116, 115]⟩, .int .i64 (2 * (i : Int) + (b : Int))] w fun e w' => e = .returned (.agg (bcells (secL s i b))) ∧ Below w.heap.size w w' by
    have h := RefSeed_any s otsA ((2 * i + b : Nat) : Int) w hs (by decide) hF hT
    rw [show ((2 * i + b : Nat) : Int) = 2 * (i : Int) + (b : Int) by omega] at h
    unfold secL
    rw [show ((2 * i + b : Nat) : Int) = 2 * (i : Int) + (b : Int) by omega]
    exact h)
  have HS := Lib.hid (show (bcells (secL s i b)).size = 32 by rw [bcells_size, secL_length])
  have HKS := Lib.hid (show (bcells s).size = 32 by rw [bcells_size, hs])
  have hb0 := ((Below.refl w.heap.size w).alloc (Nat.le_refl _) (.cells (bcells s) 23)).alloc (by simp) (.cells lit32 23)
  have HT0 := Lib.hid (hT.below hb0)
  have HF0 := Lib.hid (hF.below hb0)
  have HZR := Lib.hid (Row.new1 w (.cells (bcells s) 23) 23 lit32)
  generalize secL s i b = R at *
  clear hT hF
  go_enter Tryd.func28, Tryd.ntmps28
  go_wp2_with (first
    | (with_reducible refine wpList_load_row Tryd.agg25 rfl (.tmp 3) rfl _ rfl 23 _ ((Row.new w 23 (bcells s)).alloc _) HKS.out ?_)
    | (go_at_call 38; refine (HC.out _ HF0.out HT0.out).mono ?_; rintro e1 w1 ⟨rfl, hb1⟩; have hs1 := hb1.size; have HZ1 := Lib.hid (HZR.out.below hb1 (by simp)))
    | (with_reducible refine wpList_store_row Tryd.agg25 rfl (.tmp 6) (.tmp 12) rfl _ _ rfl rfl 23 lit32 HZ1.out HS.out lit32_size (bcells_one _) ?_; intro w9 hr9 ho9; have HR9 := Lib.hid hr9; clear hr9))
  refine bodyPost_ret (results_row1 Tryd.agg25 Tryd.results28 rfl HR9.out HS.out) rfl ⟨rfl, ?_⟩
  have b1 := hb0.trans (hb1.mono (by simp; omega))
  exact b1.trans (ho9.below (by omega) b1.size)
set_option maxRecDepth 100000 in
set_option maxHeartbeats 1000000 in
theorem RefDSum_any (d : List UInt8) (w : World) (hd : d.length = 32) (hF : First w) (hT : Tab 1 w) :
    Calls Tryd.prog 27 #[.agg (bcells d)] w fun e w' => e = .returned (.agg (bcells (sumL d))) ∧ Below w.heap.size w w' := by
  have HC := Lib.hid (fun w => DBytes_any d w hd)
  have HS := Lib.hid (show (bcells (sumL d)).size = 32 by rw [bcells_size, sumL_length])
  have HKS := Lib.hid (show (bcells d).size = 32 by rw [bcells_size, hd])
  have HM := Lib.hid (fun A n c w hB hc hF hT hn => RefSum_any A n c d w hB hc hF hT hn)
  have hb0 := ((Below.refl w.heap.size w).alloc (Nat.le_refl _) (.cells (bcells d) 23)).alloc (by simp) (.cells lit32 23)
  have HT0 := Lib.hid (hT.below hb0)
  have HF0 := Lib.hid (hF.below hb0)
  have HD := Lib.hid hd
  have HZR := Lib.hid (Row.new1 w (.cells (bcells d) 23) 23 lit32)
  generalize sumL d = R at *
  clear hT hF hd
  go_enter Tryd.func27, Tryd.ntmps27
  go_wp2_with (first
    | (with_reducible refine wpList_load_row Tryd.agg25 rfl (.tmp 1) rfl _ rfl 23 _ ((Row.new w 23 (bcells d)).alloc _) HKS.out ?_)
    | (go_at_call 22; refine (HC.out _).mono ?_; rintro e1 w1 ⟨A1, n1, c1, rfl, hB1, hc1, hb1, -⟩; have hs1 := hb1.size; simp at hs1; have hn1 := hB1.1; rw [HD.out] at hn1; have HB1 := Lib.hid hB1; have HZ1 := Lib.hid (HZR.out.below hb1 (by simp)); clear hB1)
    | (go_at_call 23; refine (HM.out A1 n1 c1 w1 HB1.out hc1 (HF0.out.below hb1) (HT0.out.below hb1) (by omega)).mono ?_; rintro e2 w2 ⟨rfl, hb2⟩; have hs2 := hb2.size; have HZ2 := Lib.hid (HZ1.out.below hb2 (by omega)))
    | (with_reducible refine wpList_store_row Tryd.agg25 rfl (.tmp 2) (.tmp 5) rfl _ _ rfl rfl 23 lit32 HZ2.out HS.out lit32_size (bcells_one _) ?_; intro w9 hr9 ho9; have HR9 := Lib.hid hr9; clear hr9))
  refine bodyPost_ret (results_row1 Tryd.agg25 Tryd.results27 rfl HR9.out HS.out) rfl ⟨rfl, ?_⟩
  have b1 := hb0.trans (hb1.mono (by simp; omega))
  have b2 := b1.trans (hb2.mono b1.size)
  exact b2.trans (ho9.below (by omega) b2.size)
set_option maxRecDepth 100000 in
set_option maxHeartbeats 1000000 in
theorem RefBitT_any (A : Option Addr) (n c : Nat) (l : List UInt8) (i : Nat) (I : Int) (w : World) (hB : Bs w A n l) (hnc : n ≤ c) (hI : I = i) (hi : i < 256) (hF : First w) (hT : Tab 1 w) (hn : n ≤ 1000000) :
    Calls Tryd.prog 35 #[.slice A n c, .int .i64 I] w fun e w' => e = .returned (.int .i64 (bitN (sumL l) i : Int)) ∧ Below w.heap.size w w' := by
  subst hI
  have HM := Lib.hid (RefSum_any A n c l w hB hnc hF hT hn)
  have HL := Lib.hid (sumL_length l)
  have HD := Lib.hid (fun w => DBytes_any (sumL l) w (sumL_length l))
  have HK := Lib.hid (fun A n c w hB hk hn => RefBit_ok A n c i (sumL l) w hB hk hn)
  generalize sumL l = D at *
  generalize bitN D i = b at *
  clear hT hF hB
  go_enter Tryd.func35, Tryd.ntmps35
  go_wp2_with (first
    | (go_at_call 23; refine HM.out.mono ?_; rintro e1 w1 ⟨rfl, hb1⟩)
    | (go_at_call 22; refine (HD.out _).mono ?_; rintro e2 w2 ⟨A2, n2, c2, rfl, hB2, hc2, hb2, -⟩; have HB2 := Lib.hid hB2; have hn2 := hB2.1; rw [HL.out] at hn2; clear hB2)
    | (go_at_call 24; refine (HK.out A2 n2 c2 w2 HB2.out (by omega) (by omega)).mono ?_; rintro e3 w3 ⟨rfl, rfl⟩))
  go_ret
  exact ⟨rfl, hb1.trans (hb2.mono hb1.size)⟩
end Go.Proofs.YtghihgmgadaoeaaDoor
