/-
  Once1: ported texts, joined.
-/
import Derived.Test.YtfelmdndjdaniaaDoorDigA
namespace Go.Proofs.YtfelmdndjdaniaaDoor
section
open Go.RowKit
set_option maxHeartbeats 400000 in
theorem mayBe_yes (n : Int) (w : World) (h1 : 1 ≤ n) (h2 : n ≤ 256) : Calls Tryd.prog 74 #[.int .i64 n] w fun e w' => e = .returned (.bool true) ∧ w = w' := by
  go_enter Tryd.func74, Tryd.ntmps74
  go_wp2
  go_ret
  exact ⟨rfl, rfl⟩
set_option maxHeartbeats 400000 in
theorem mayBe_no (n : Int) (w : World) (h : n < 1 ∨ 256 < n) : Calls Tryd.prog 74 #[.int .i64 n] w fun e w' => e = .returned (.bool false) ∧ w = w' := by
  by_cases h1 : 1 ≤ n
  · have h2 : ¬ n ≤ 256 := by omega
    clear h
    go_enter Tryd.func74, Tryd.ntmps74
    go_wp2
    go_ret
    exact ⟨rfl, rfl⟩
  · clear h
    go_enter Tryd.func74, Tryd.ntmps74
    go_wp2
    go_ret
    exact ⟨rfl, rfl⟩
set_option maxHeartbeats 400000 in
theorem Right_yes (n : Int) (w : World) (h1 : 1 ≤ n) (h2 : n ≤ 256) : Calls Tryd.prog 37 #[.int .i64 n] w fun e w' => e = .returned (.bool true) ∧ w = w' := by
  go_enter Tryd.func37, Tryd.ntmps37
  go_wp2
  go_ret
  exact ⟨rfl, rfl⟩
set_option maxHeartbeats 400000 in
theorem Right_no (n : Int) (w : World) (h : n < 1 ∨ 256 < n) : Calls Tryd.prog 37 #[.int .i64 n] w fun e w' => e = .returned (.bool false) ∧ w = w' := by
  by_cases h1 : 1 ≤ n
  · have h2 : ¬ n ≤ 256 := by omega
    clear h
    go_enter Tryd.func37, Tryd.ntmps37
    go_wp2
    go_ret
    exact ⟨rfl, rfl⟩
  · clear h
    go_enter Tryd.func37, Tryd.ntmps37
    go_wp2
    go_ret
    exact ⟨rfl, rfl⟩
set_option maxRecDepth 100000 in
set_option maxHeartbeats 1000000 in
theorem secret_any (s : List UInt8) (i b : Nat) (I B : Int) (w : World) (hs : s.length = 32) (hI : I = i) (hB : B = b) (hi : i ≤ 256) (hb : b ≤ 1) (hT : Tab 1 w) :
    Calls Tryd.prog 77 #[.agg (bcells s), .int .i64 I, .int .i64 B] w fun e w' => e = .returned (.agg (bcells (secL s i b))) ∧ Below w.heap.size w w' := by
  subst hI hB
  have HC := Lib.hid (fun w hT => show Calls Tryd.prog 35 #[.agg (bcells s), .string ⟨#[111, 116, 115]⟩, .int .i64 (2 * (i : Int) + (b : Int))] w fun e w' => e = .returned (.agg (bcells (secL s i b))) ∧ Below w.heap.size w w' by
    have h := Seed_any s otsA ((2 * i + b : Nat) : Int) w hs (by decide) hT
    rw [show ((2 * i + b : Nat) : Int) = 2 * (i : Int) + (b : Int) by omega] at h
    unfold secL
    rw [show ((2 * i + b : Nat) : Int) = 2 * (i : Int) + (b : Int) by omega]
    exact h)
  have HS := Lib.hid (show (bcells (secL s i b)).size = 32 by rw [bcells_size, secL_length])
  have HKS := Lib.hid (show (bcells s).size = 32 by rw [bcells_size, hs])
  have h2 := hT.1
  have hb0 := ((Below.refl w.heap.size w).alloc (Nat.le_refl _) (.cells (bcells s) 23)).alloc (by simp) (.cells lit32 23)
  have HT0 := Lib.hid (hT.below hb0)
  have HZR := Lib.hid (Row.new1 w (.cells (bcells s) 23) 23 lit32)
  generalize secL s i b = R at *
  clear hT
  go_enter Tryd.func77, Tryd.ntmps77
  go_wp2_with (first
    | (with_reducible refine wpList_load_row Tryd.agg25 rfl (.tmp 3) rfl _ rfl 23 _ ((Row.new w 23 (bcells s)).alloc _) HKS.out ?_)
    | (go_at_call 35; refine (HC.out _ HT0.out).mono ?_; rintro e1 w1 ⟨rfl, hb1⟩; have hs1 := hb1.size; have HZ1 := Lib.hid (HZR.out.below hb1 (by simp)))
    | (with_reducible refine wpList_store_row Tryd.agg25 rfl (.tmp 6) (.tmp 12) rfl _ _ rfl rfl 23 lit32 HZ1.out HS.out lit32_size (bcells_one _) ?_; intro w9 hr9 ho9; have HR9 := Lib.hid hr9; clear hr9))
  refine bodyPost_ret (results_row1 Tryd.agg25 Tryd.results77 rfl HR9.out HS.out) rfl ⟨rfl, ?_⟩
  have b1 := hb0.trans (hb1.mono (by simp; omega))
  exact b1.trans (ho9.below (by omega) b1.size)
set_option maxRecDepth 100000 in
set_option maxHeartbeats 1000000 in
theorem hidden_any (s : List UInt8) (i b : Nat) (I B : Int) (w : World) (hs : s.length = 32) (hI : I = i) (hB : B = b) (hi : i ≤ 256) (hb : b ≤ 1) (hT : Tab 1 w) :
    Calls Tryd.prog 78 #[.agg (bcells s), .int .i64 I, .int .i64 B] w fun e w' => e = .returned (.agg (bcells (hidL s i b))) ∧ Below w.heap.size w w' := by
  have HC := Lib.hid (fun w hT => secret_any s i b I B w hs hI hB hi hb hT)
  have HS := Lib.hid (show (bcells (secL s i b)).size = 32 by rw [bcells_size, secL_length])
  have HL := Lib.hid (secL_length s i b)
  have HH := Lib.hid (show (bcells (hidL s i b)).size = 32 by rw [bcells_size, hidL_length])
  have HM := Lib.hid (fun g w hB hT => Sum_any (some ⟨g, 0, none⟩) 32 32 (secL s i b) w hB (Nat.le_refl _) hT (by omega))
  have HKS := Lib.hid (show (bcells s).size = 32 by rw [bcells_size, hs])
  have h2 := hT.1
  have hcut := run_cut_all (P := Tryd.prog) Tryd.under23 Tryd.size5
  have hb0 := ((Below.refl w.heap.size w).alloc (Nat.le_refl _) (.cells (bcells s) 23)).alloc (by simp) (.cells lit32 23)
  have HT0 := Lib.hid (hT.below hb0)
  have HZR := Lib.hid (Row.new1 w (.cells (bcells s) 23) 23 lit32)
  unfold hidL at HH ⊢
  generalize secL s i b = R at *
  generalize sumL R = D at *
  clear hT hI hB
  go_enter Tryd.func78, Tryd.ntmps78
  go_wp2_with (first
    | (with_reducible refine wpList_load_row Tryd.agg25 rfl (.tmp 3) rfl _ rfl 23 _ ((Row.new w 23 (bcells s)).alloc _) HKS.out ?_)
    | (go_at_call 77; refine (HC.out _ HT0.out).mono ?_; rintro e1 w1 ⟨rfl, hb1⟩; have hs1 := hb1.size; have HZ1 := Lib.hid (HZR.out.below hb1 (by simp)); have HT1 := Lib.hid (HT0.out.below hb1); simp at hs1)
    | (with_reducible refine wpList_store_row Tryd.agg25 rfl (.tmp 7) (.tmp 11) rfl _ _ rfl rfl 23 lit32 (Row.new w1 23 lit32) HS.out lit32_size (bcells_one _) ?_; intro w2 hr2 ho2; have HR2 := Lib.hid (hr2.bsB HL.out); have hs2 := ho2.size; simp at hs2; have HZ2 := Lib.hid ((HZ1.out.alloc _).only ho2 (by omega)); have HT2 := Lib.hid ((HT1.out.below ((Below.refl _ _).alloc (Nat.le_refl _) _)).only ho2 (by omega)); clear hr2)
    | (go_at_call 75; refine (HM.out _ _ HR2.out HT2.out).mono ?_; rintro e3 w3 ⟨rfl, hb3⟩; have HZ3 := Lib.hid (HZ2.out.below hb3 (by omega)); have hs3 := hb3.size)
    | (with_reducible refine wpList_store_row Tryd.agg25 rfl (.tmp 6) (.tmp 13) rfl _ _ rfl rfl 23 lit32 HZ3.out HH.out lit32_size (bcells_one _) ?_; intro w9 hr9 ho9; have HR9 := Lib.hid hr9; clear hr9))
  refine bodyPost_ret (results_row1 Tryd.agg25 Tryd.results78 rfl HR9.out HH.out) rfl ⟨rfl, ?_⟩
  have b1 := hb0.trans (hb1.mono (by simp; omega))
  have b2 := (b1.alloc b1.size (.cells lit32 23)).trans (ho2.below (B := w.heap.size) (by omega) (by simp; omega))
  have b3 := b2.trans (hb3.mono b2.size)
  exact b3.trans (ho9.below (by omega) b3.size)
set_option maxRecDepth 100000 in
set_option maxHeartbeats 1000000 in
theorem bitOf_any (d : List UInt8) (i : Nat) (I : Int) (w : World) (hd : d.length = 32) (hI : I = i) (hi : i < 256) :
    Calls Tryd.prog 76 #[.agg (bcells d), .int .i64 I] w fun e w' => e = .returned (.int .i64 (bitN d i : Int)) ∧ Below w.heap.size w w' := by
  subst hI
  have HB := Lib.hid (fun g w hB => Bit_ok (some ⟨g, 0, none⟩) 32 32 i d w hB (by omega) (by omega))
  have hcut := run_cut_all (P := Tryd.prog) Tryd.under23 Tryd.size5 w.heap.size 0
  have HR := Lib.hid ((Row.new w 23 (bcells d)).bsB hd)
  generalize bitN d i = b at *
  clear hd
  go_enter Tryd.func76, Tryd.ntmps76
  go_wp2_with (go_at_call 100; refine (HB.out _ _ HR.out).mono ?_; rintro e1 w1 ⟨rfl, rfl⟩)
  go_ret
  exact ⟨rfl, (Below.refl _ _).alloc (Nat.le_refl _) _⟩
set_option maxRecDepth 100000 in
set_option maxHeartbeats 1000000 in
theorem RefSecret_any (s : List UInt8) (i b : Nat) (I B : Int) (w : World) (hs : s.length = 32) (hI : I = i) (hB : B = b) (hi : i ≤ 256) (hb : b ≤ 1) (hF : First w) (hT : Tab 2 w) :
    Calls Tryd.prog 80 #[.agg (bcells s), .int .i64 I, .int .i64 B] w fun e w' => e = .returned (.agg (bcells (secL s i b))) ∧ Below w.heap.size w w' := by
  subst hI hB
  have HC := Lib.hid (fun w hF hT => show Calls Tryd.prog 44 #[.agg (bcells s), .string ⟨#[111, 116, 115]⟩, .int .i64 (2 * (i : Int) + (b : Int))] w fun e w' => e = .returned (.agg (bcells (secL s i b))) ∧ Below w.heap.size w w' by
    have h := RefSeed_any s otsA ((2 * i + b : Nat) : Int) w hs (by decide) hF hT
    rw [show ((2 * i + b : Nat) : Int) = 2 * (i : Int) + (b : Int) by omega] at h
    unfold secL
    rw [show ((2 * i + b : Nat) : Int) = 2 * (i : Int) + (b : Int) by omega]
    exact h)
  have HS := Lib.hid (show (bcells (secL s i b)).size = 32 by rw [bcells_size, secL_length])
  have HKS := Lib.hid (show (bcells s).size = 32 by rw [bcells_size, hs])
  have hb0 := ((Below.refl w.heap.size w).alloc (Nat.le_refl _) (.cells (bcells s) 23)).alloc (by simp) (.cells lit32 23)
  have HT0 := Lib.hid (hT.below hb0)
  have HF0 := Lib.hid (hF.below hb0)
  have HZR := Lib.hid (Row.new1 w (.cells (bcells s) 23) 23 lit32)
  generalize secL s i b = R at *
  clear hT hF
  go_enter Tryd.func80, Tryd.ntmps80
  go_wp2_with (first
    | (with_reducible refine wpList_load_row Tryd.agg25 rfl (.tmp 3) rfl _ rfl 23 _ ((Row.new w 23 (bcells s)).alloc _) HKS.out ?_)
    | (go_at_call 44; refine (HC.out _ HF0.out HT0.out).mono ?_; rintro e1 w1 ⟨rfl, hb1⟩; have hs1 := hb1.size; have HZ1 := Lib.hid (HZR.out.below hb1 (by simp)))
    | (with_reducible refine wpList_store_row Tryd.agg25 rfl (.tmp 6) (.tmp 12) rfl _ _ rfl rfl 23 lit32 HZ1.out HS.out lit32_size (bcells_one _) ?_; intro w9 hr9 ho9; have HR9 := Lib.hid hr9; clear hr9))
  refine bodyPost_ret (results_row1 Tryd.agg25 Tryd.results80 rfl HR9.out HS.out) rfl ⟨rfl, ?_⟩
  have b1 := hb0.trans (hb1.mono (by simp; omega))
  exact b1.trans (ho9.below (by omega) b1.size)
set_option maxRecDepth 100000 in
set_option maxHeartbeats 1000000 in
theorem RefDSum_any (d : List UInt8) (w : World) (hd : d.length = 32) (hF : First w) (hT : Tab 2 w) :
    Calls Tryd.prog 81 #[.agg (bcells d)] w fun e w' => e = .returned (.agg (bcells (sumL d))) ∧ Below w.heap.size w w' := by
  have HC := Lib.hid (fun w => DBytes_any d w hd)
  have HS := Lib.hid (show (bcells (sumL d)).size = 32 by rw [bcells_size, sumL_length])
  have HKS := Lib.hid (show (bcells d).size = 32 by rw [bcells_size, hd])
  have HM := Lib.hid (fun A n c w hB hc hF hT hn => RefSum_any A n c d w hB hc hF hT hn)
  have hb0 := ((Below.refl w.heap.size w).alloc (Nat.le_refl _) (.cells (bcells d) 23)).alloc (by simp) (.cells lit32 23)
  have HT0 := Lib.hid (hT.below hb0)
  have HF0 := Lib.hid (hF.below hb0)
  have HD := Lib.hid hd
  have HZR := Lib.hid (Row.new1 w (.cells (bcells d) 23) 23 lit32)
  generalize sumL d = R at *
  clear hT hF hd
  go_enter Tryd.func81, Tryd.ntmps81
  go_wp2_with (first
    | (with_reducible refine wpList_load_row Tryd.agg25 rfl (.tmp 1) rfl _ rfl 23 _ ((Row.new w 23 (bcells d)).alloc _) HKS.out ?_)
    | (go_at_call 60; refine (HC.out _).mono ?_; rintro e1 w1 ⟨A1, n1, c1, rfl, hB1, hc1, hb1, -⟩; have hs1 := hb1.size; simp at hs1; have hn1 := hB1.1; rw [HD.out] at hn1; have HB1 := Lib.hid hB1; have HZ1 := Lib.hid (HZR.out.below hb1 (by simp)); clear hB1)
    | (go_at_call 99; refine (HM.out A1 n1 c1 w1 HB1.out hc1 (HF0.out.below hb1) (HT0.out.below hb1) (by omega)).mono ?_; rintro e2 w2 ⟨rfl, hb2⟩; have hs2 := hb2.size; have HZ2 := Lib.hid (HZ1.out.below hb2 (by omega)))
    | (with_reducible refine wpList_store_row Tryd.agg25 rfl (.tmp 2) (.tmp 5) rfl _ _ rfl rfl 23 lit32 HZ2.out HS.out lit32_size (bcells_one _) ?_; intro w9 hr9 ho9; have HR9 := Lib.hid hr9; clear hr9))
  refine bodyPost_ret (results_row1 Tryd.agg25 Tryd.results81 rfl HR9.out HS.out) rfl ⟨rfl, ?_⟩
  have b1 := hb0.trans (hb1.mono (by simp; omega))
  have b2 := b1.trans (hb2.mono b1.size)
  exact b2.trans (ho9.below (by omega) b2.size)
set_option maxRecDepth 100000 in
set_option maxHeartbeats 1000000 in
theorem RefBitT_any (A : Option Addr) (n c : Nat) (l : List UInt8) (i : Nat) (I : Int) (w : World) (hB : Bs w A n l) (hnc : n ≤ c) (hI : I = i) (hi : i < 256) (hF : First w) (hT : Tab 2 w) (hn : n ≤ 1000000) :
    Calls Tryd.prog 79 #[.slice A n c, .int .i64 I] w fun e w' => e = .returned (.int .i64 (bitN (sumL l) i : Int)) ∧ Below w.heap.size w w' := by
  subst hI
  have HM := Lib.hid (RefSum_any A n c l w hB hnc hF hT hn)
  have HL := Lib.hid (sumL_length l)
  have HD := Lib.hid (fun w => DBytes_any (sumL l) w (sumL_length l))
  have HK := Lib.hid (fun A n c w hB hk hn => RefBit_ok A n c i (sumL l) w hB hk hn)
  generalize sumL l = D at *
  generalize bitN D i = b at *
  clear hT hF hB
  go_enter Tryd.func79, Tryd.ntmps79
  go_wp2_with (first
    | (go_at_call 99; refine HM.out.mono ?_; rintro e1 w1 ⟨rfl, hb1⟩)
    | (go_at_call 60; refine (HD.out _).mono ?_; rintro e2 w2 ⟨A2, n2, c2, rfl, hB2, hc2, hb2, -⟩; have HB2 := Lib.hid hB2; have hn2 := hB2.1; rw [HL.out] at hn2; clear hB2)
    | (go_at_call 101; refine (HK.out A2 n2 c2 w2 HB2.out (by omega) (by omega)).mono ?_; rintro e3 w3 ⟨rfl, rfl⟩))
  go_ret
  exact ⟨rfl, hb1.trans (hb2.mono hb1.size)⟩
end
section
open Go.RowKit
set_option maxHeartbeats 400000 in
theorem Public_no (s : List UInt8) (n : Int) (w : World) (h : n < 1 ∨ 256 < n) : Calls Tryd.prog 65 #[.agg (bcells s), .int .i64 n] w (NewD w [] 1) := by
  have HM := Lib.hid (fun w => mayBe_no n w h)
  clear h
  go_enter Tryd.func65, Tryd.ntmps65
  go_wp2_with (go_at_call 74; refine (HM.out _).mono ?_; rintro e1 w1 ⟨rfl, rfl⟩)
  go_ret2
  exact ⟨none, 0, rfl, Nat.le_refl _, Ds.nil _ _, (Below.refl _ _).alloc (Nat.le_refl _) _⟩
set_option maxHeartbeats 400000 in
theorem RefPublic_no (s : List UInt8) (n : Int) (w : World) (h : n < 1 ∨ 256 < n) : Calls Tryd.prog 72 #[.agg (bcells s), .int .i64 n] w (NewD w [] 1) := by
  have HM := Lib.hid (fun w => Right_no n w h)
  clear h
  go_enter Tryd.func72, Tryd.ntmps72
  go_wp2_with (go_at_call 37; refine (HM.out _).mono ?_; rintro e1 w1 ⟨rfl, rfl⟩)
  go_ret2
  exact ⟨none, 0, rfl, Nat.le_refl _, Ds.nil _ _, (Below.refl _ _).alloc (Nat.le_refl _) _⟩
set_option maxRecDepth 100000 in
set_option maxHeartbeats 2000000 in
theorem Public_ok (s : List UInt8) (n : Nat) (w : World) (hs : s.length = 32) (h1 : 1 ≤ n) (h2 : n ≤ 256) (hT : Tab 1 w) : Calls Tryd.prog 65 #[.agg (bcells s), .int .i64 (n : Int)] w (NewD w (pubN s n) 0) := by
  have HMB := Lib.hid (fun w => mayBe_yes (n : Int) w (by omega) (by omega))
  have hmk := run_madeD 0 (2 * n) 0 (2 * (n : Int)) rfl (by omega) (by omega) (by omega)
  have HT := Lib.hid hT
  have hT2 := hT.1
  have rl : (s.map bcell).length = 32 := by rw [List.length_map, hs]
  have rz : (Tryd.prog.info? 23).map (·.size) = some (s.map bcell).length := by rw [rl]; exact Tryd.sizeD
  have ru := Tryd.under23
  have HS := Lib.hid hs
  clear hT hs rl
  go_enter Tryd.func65, Tryd.ntmps65
  go_wp2_with (go_at_call 74; refine (HMB.out _).mono ?_; rintro e1 w1 ⟨rfl, rfl⟩)
  go_loopw [6, 15] (fun p i wr => ∃ (m : Nat) (A1 : Option Addr) (c1 : Nat), m ≤ n ∧ i = .int .i64 (m : Int) ∧ p = .slice A1 (2 * m) c1 ∧ Below w.heap.size w wr ∧ Row wr w.heap.size 23 (bcells s) ∧ OwnD wr (w.heap.size + 1) (.slice A1 (2 * m) c1) (2 * m) (pubN s m)) (fun _ i _ => n - (intOf i).toNat)
  case atStart => exact ⟨0, _, 2 * n, Nat.zero_le _, rfl, rfl, ((Below.refl _ _).alloc (Nat.le_refl _) _).alloc (by simp) _, (Row.new _ _ _).alloc _, by have h := OwnD.made (w.alloc (.cells (bcells s) 23)) (w.heap.size + 1) (2 * n) (bcells (List.replicate (2 * n * 32) 0)) (by simp) (by omega) (by rw [bcells_size, List.length_replicate]); simp at h; exact h⟩
  case round =>
    obtain ⟨m, A1, c1, hm, rfl, rfl, hbel, hrow, hown⟩ := hrel
    have hbs := hbel.size
    have hlts := hrow.lt
    have HRS := Lib.hid hrow
    have HO := Lib.hid hown
    clear hrow hown
    by_cases hlt : m < n
    · have him : (m : Int) < (n : Int) := by omega
      have HP := Lib.hid (show pubN s (m + 1) = pubN s m ++ [hidL s m 0, hidL s m 1] from rfl)
      have HD0 := Lib.hid (hidL_length s m 0)
      have HD1 := Lib.hid (hidL_length s m 1)
      have HH0 := Lib.hid (fun w hT => hidden_any s m 0 (m : Int) 0 w HS.out rfl rfl (by omega) (by omega) hT)
      have HH1 := Lib.hid (fun w hT => hidden_any s m 1 (m : Int) 1 w HS.out rfl rfl (by omega) (by omega) hT)
      have HTr := Lib.hid (HT.out.below hbel)
      generalize hidL s m 0 = D0 at *
      generalize hidL s m 1 = D1 at *
      go_wp2_with fail
      have K0 := Lib.hid (show wr.drew.rangeAt w.heap.size 0 (s.map bcell) by exact range_row (HRS.out.below ((Below.refl _ _).drew) hlts))
      refine wp_region_noPanic ?_
      refine wp_region_held_drew (S := fun w' => w'.rangeAt w.heap.size 0 (s.map bcell)) (by kernel_rfl) K0.out (fun hHeld => ?_)
      refine takeD (i := 0) (some 18) (.slice A1 (2 * m) c1) rfl rfl (by kernel_rfl) (by kernel_rfl) (by kernel_rfl) (fun _ _ _ h => h) (Or.inl ⟨by rfl, fun _ _ => rfl⟩) hHeld ?_
      simp only [Act.put, List.setIfInBounds_toArray, List.set_cons_zero, List.set_cons_succ]
      refine takeD (i := 1) (some 19) (.agg (s.map bcell).toArray) rfl rfl (by kernel_rfl) (by kernel_rfl) (by kernel_rfl) (fun _ _ _ h => h) (yieldsIf_load_mid (by rfl) _ _ rfl _ _ rfl _ _ (fun _ h => h) ru rfl rz) hHeld ?_
      simp only [Act.put, List.setIfInBounds_toArray, List.set_cons_zero, List.set_cons_succ]
      refine takeD (i := 2) (some 20) (.int .i64 (m : Int)) rfl rfl (by kernel_rfl) (by kernel_rfl) (by kernel_rfl) (fun _ _ _ h => h) (Or.inl ⟨by rfl, fun _ _ => rfl⟩) hHeld ?_
      simp only [Act.put, List.setIfInBounds_toArray, List.set_cons_zero, List.set_cons_succ]
      refine takeD (i := 4) (some 22) (.agg (s.map bcell).toArray) rfl rfl (by kernel_rfl) (by kernel_rfl) (by kernel_rfl) (fun _ _ _ h => h) (yieldsIf_load_mid (by rfl) _ _ rfl _ _ rfl _ _ (fun _ h => h) ru rfl rz) hHeld ?_
      simp only [Act.put, List.setIfInBounds_toArray, List.set_cons_zero, List.set_cons_succ]
      refine takeD (i := 5) (some 23) (.int .i64 (m : Int)) rfl rfl (by kernel_rfl) (by kernel_rfl) (by kernel_rfl) (fun _ _ _ h => h) (Or.inl ⟨by rfl, fun _ _ => rfl⟩) hHeld ?_
      simp only [Act.put, List.setIfInBounds_toArray, List.set_cons_zero, List.set_cons_succ]
      have B0 : Below wr.heap.size wr wr.drew := (Below.refl wr.heap.size wr).drew
      refine wpAnyH_ready (rs := [3]) (by kernel_rfl) (by decide) ?_
      refine AllReadyH.cons rfl (fun K' hK => ?_) AllReadyH.nil
      go_simp
      refine (HH0.out wr.drew (HTr.out.below B0)).mono ?_
      rintro e3 w3 ⟨rfl, hb3⟩
      have B3 : Below wr.heap.size wr w3 := B0.trans (hb3.mono B0.size)
      refine hK.out _ _ (range_row (HRS.out.below B3 hlts)) (fun hHeld3 => ?_)
      clear hK
      refine wpAnyH_ready (rs := [6]) (by kernel_rfl) (by decide) ?_
      refine AllReadyH.cons rfl (fun K' hK => ?_) AllReadyH.nil
      go_simp
      refine (HH1.out w3 (HTr.out.below B3)).mono ?_
      rintro e4 w4 ⟨rfl, hb4⟩
      have B4 : Below wr.heap.size wr w4 := B3.trans (hb4.mono B3.size)
      refine hK.out _ _ (range_row (HRS.out.below B4 hlts)) (fun hHeld4 => ?_)
      clear hK
      refine wpAnyH_ready (rs := [7]) (by kernel_rfl) (by decide) ?_
      refine AllReadyH.cons rfl (fun K' hK => ?_) AllReadyH.nil
      refine step_of rfl (wp_buildD (.tmp 21) (.tmp 24) rfl D0 D1 rfl rfl HD0.out HD1.out ?_)
      have B5 : Below wr.heap.size wr (w4.alloc (.cells (bcells (D0 ++ D1)) 23)) := B4.alloc B4.size _
      refine hK.out _ _ (range_row (HRS.out.below B5 hlts)) (fun hHeld5 => ?_)
      clear hK
      refine wpAnyH_ready (rs := [8]) (by kernel_rfl) (by decide) ?_
      refine AllReadyH.cons rfl (fun K' hK => ?_) AllReadyH.nil
      refine step_of rfl (wp_appD (.tmp 18) (.tmp 25) rfl (w.heap.size + 1) _ (2 * m) (pubN s m) rfl (HO.out.below B5) _ 2 2 [D0, D1] rfl (two_ds w4 D0 D1 HD0.out HD1.out) (by omega) (by have := B5.size; omega) ?_)
      intro A6 c6 w6 ho6 hb6
      have HO6 := Lib.hid ho6
      have HR6 := Lib.hid ((HRS.out.below B5 hlts).below hb6 (by omega))
      have B6 : Below w.heap.size w w6 := (hbel.trans (B5.mono hbs)).trans (hb6.mono (by omega))
      clear ho6
      refine hK.out _ _ (range_row HR6.out) (fun hHeld6 => ?_)
      clear hK
      refine wpAnyH_ready (rs := [9]) (by kernel_rfl) (by decide) ?_
      refine AllReadyH.cons rfl (fun K' hK => ?_) AllReadyH.nil
      go_simp
      refine hK.out _ _ (range_row HR6.out) (fun hHeld7 => ?_)
      clear hK
      (try simp only [Act.put, List.setIfInBounds_toArray])
      refine wpAnyH_done (by kernel_rfl) ?_ _
      refine NoPanic.normal ?_
      go_wp2_with fail
      refine ⟨⟨m + 1, A6, c6, by omega, by go_num, rfl, B6, HR6.out, ?_⟩, by simp [intOf]; omega⟩
      rw [HP.out]
      exact HO6.out
    · obtain rfl : n = m := by omega
      go_wp2_with fail
      go_ret2
      exact (HO.out.mono (by omega)).new hbel
set_option maxRecDepth 100000 in
set_option maxHeartbeats 2000000 in
theorem RefPublic_ok (s : List UInt8) (n : Nat) (w : World) (hs : s.length = 32) (h1 : 1 ≤ n) (h2 : n ≤ 256) (hF : First w) (hT : Tab 2 w) : Calls Tryd.prog 72 #[.agg (bcells s), .int .i64 (n : Int)] w (NewD w (pubN s n) 0) := by
  have HMB := Lib.hid (fun w => Right_yes (n : Int) w (by omega) (by omega))
  have HT := Lib.hid hT
  have HF := Lib.hid hF
  have hT2 := hT.1
  have rl : (s.map bcell).length = 32 := by rw [List.length_map, hs]
  have rz : (Tryd.prog.info? 23).map (·.size) = some (s.map bcell).length := by rw [rl]; exact Tryd.sizeD
  have ru := Tryd.under23
  have HS := Lib.hid hs
  clear hT hF hs rl
  go_enter Tryd.func72, Tryd.ntmps72
  go_wp2_with (go_at_call 37; refine (HMB.out _).mono ?_; rintro e1 w1 ⟨rfl, rfl⟩)
  go_loopw [6, 7] (fun p i wr => ∃ (m : Nat) (A1 : Option Addr) (c1 : Nat), m ≤ n ∧ i = .int .i64 (m : Int) ∧ p = .slice A1 (2 * m) c1 ∧ Below w.heap.size w wr ∧ Row wr w.heap.size 23 (bcells s) ∧ OwnD wr (w.heap.size + 1) (.slice A1 (2 * m) c1) (2 * m) (pubN s m)) (fun _ i _ => n - (intOf i).toNat)
  case atStart => exact ⟨0, none, 0, Nat.zero_le _, rfl, rfl, (Below.refl _ _).alloc (Nat.le_refl _) _, Row.new _ _ _, OwnD.nil _ _⟩
  case round =>
    obtain ⟨m, A1, c1, hm, rfl, rfl, hbel, hrow, hown⟩ := hrel
    have hbs := hbel.size
    have hlts := hrow.lt
    have HRS := Lib.hid hrow
    have HO := Lib.hid hown
    clear hrow hown
    by_cases hlt : m < n
    · have him : (m : Int) < (n : Int) := by omega
      have HP := Lib.hid (show pubN s (m + 1) = pubN s m ++ [hidL s m 0, hidL s m 1] from rfl)
      have HS0 := Lib.hid (secL_length s m 0)
      have HS1 := Lib.hid (secL_length s m 1)
      have HD0 := Lib.hid (hidL_length s m 0)
      have HD1 := Lib.hid (hidL_length s m 1)
      have HH0 := Lib.hid (fun w hF hT => RefSecret_any s m 0 (m : Int) 0 w HS.out rfl rfl (by omega) (by omega) hF hT)
      have HH1 := Lib.hid (fun w hF hT => RefSecret_any s m 1 (m : Int) 1 w HS.out rfl rfl (by omega) (by omega) hF hT)
      have HG0 := Lib.hid (fun w hF hT => show Calls Tryd.prog 81 #[.agg (bcells (secL s m 0))] w fun e w' => e = .returned (.agg (bcells (hidL s m 0))) ∧ Below w.heap.size w w' from RefDSum_any (secL s m 0) w (secL_length s m 0) hF hT)
      have HG1 := Lib.hid (fun w hF hT => show Calls Tryd.prog 81 #[.agg (bcells (secL s m 1))] w fun e w' => e = .returned (.agg (bcells (hidL s m 1))) ∧ Below w.heap.size w w' from RefDSum_any (secL s m 1) w (secL_length s m 1) hF hT)
      have HTr := Lib.hid (HT.out.below hbel)
      have HFr := Lib.hid (HF.out.below hbel)
      generalize hidL s m 0 = D0 at *
      generalize hidL s m 1 = D1 at *
      generalize secL s m 0 = S0 at *
      generalize secL s m 1 = S1 at *
      go_wp2_with fail
      have K0 := Lib.hid (show wr.drew.rangeAt w.heap.size 0 (s.map bcell) by exact range_row (HRS.out.below ((Below.refl _ _).drew) hlts))
      refine wp_region_noPanic ?_
      refine wp_region_held_drew (S := fun w' => w'.rangeAt w.heap.size 0 (s.map bcell)) (by kernel_rfl) K0.out (fun hHeld => ?_)
      refine takeD (i := 0) (some 16) (.slice A1 (2 * m) c1) rfl rfl (by kernel_rfl) (by kernel_rfl) (by kernel_rfl) (fun _ _ _ h => h) (Or.inl ⟨by rfl, fun _ _ => rfl⟩) hHeld ?_
      simp only [Act.put, List.setIfInBounds_toArray, List.set_cons_zero, List.set_cons_succ]
      refine takeD (i := 1) (some 17) (.agg (s.map bcell).toArray) rfl rfl (by kernel_rfl) (by kernel_rfl) (by kernel_rfl) (fun _ _ _ h => h) (yieldsIf_load_mid (by rfl) _ _ rfl _ _ rfl _ _ (fun _ h => h) ru rfl rz) hHeld ?_
      simp only [Act.put, List.setIfInBounds_toArray, List.set_cons_zero, List.set_cons_succ]
      refine takeD (i := 2) (some 18) (.int .i64 (m : Int)) rfl rfl (by kernel_rfl) (by kernel_rfl) (by kernel_rfl) (fun _ _ _ h => h) (Or.inl ⟨by rfl, fun _ _ => rfl⟩) hHeld ?_
      simp only [Act.put, List.setIfInBounds_toArray, List.set_cons_zero, List.set_cons_succ]
      refine takeD (i := 5) (some 21) (.agg (s.map bcell).toArray) rfl rfl (by kernel_rfl) (by kernel_rfl) (by kernel_rfl) (fun _ _ _ h => h) (yieldsIf_load_mid (by rfl) _ _ rfl _ _ rfl _ _ (fun _ h => h) ru rfl rz) hHeld ?_
      simp only [Act.put, List.setIfInBounds_toArray, List.set_cons_zero, List.set_cons_succ]
      refine takeD (i := 6) (some 22) (.int .i64 (m : Int)) rfl rfl (by kernel_rfl) (by kernel_rfl) (by kernel_rfl) (fun _ _ _ h => h) (Or.inl ⟨by rfl, fun _ _ => rfl⟩) hHeld ?_
      simp only [Act.put, List.setIfInBounds_toArray, List.set_cons_zero, List.set_cons_succ]
      have B0 : Below wr.heap.size wr wr.drew := (Below.refl wr.heap.size wr).drew
      refine wpAnyH_ready (rs := [3]) (by kernel_rfl) (by decide) ?_
      refine AllReadyH.cons rfl (fun K' hK => ?_) AllReadyH.nil
      go_simp
      refine (HH0.out wr.drew (HFr.out.below B0) (HTr.out.below B0)).mono ?_
      rintro e3 w1 ⟨rfl, hb1⟩
      have B1 : Below wr.heap.size wr w1 := B0.trans (hb1.mono B0.size)
      refine hK.out _ _ (range_row (HRS.out.below B1 hlts)) (fun hHeld1 => ?_)
      clear hK
      refine wpAnyH_ready (rs := [4]) (by kernel_rfl) (by decide) ?_
      refine AllReadyH.cons rfl (fun K' hK => ?_) AllReadyH.nil
      go_simp
      refine (HG0.out w1 (HFr.out.below B1) (HTr.out.below B1)).mono ?_
      rintro e3 w2 ⟨rfl, hb2⟩
      have B2 : Below wr.heap.size wr w2 := B1.trans (hb2.mono B1.size)
      refine hK.out _ _ (range_row (HRS.out.below B2 hlts)) (fun hHeld2 => ?_)
      clear hK
      refine wpAnyH_ready (rs := [7]) (by kernel_rfl) (by decide) ?_
      refine AllReadyH.cons rfl (fun K' hK => ?_) AllReadyH.nil
      go_simp
      refine (HH1.out w2 (HFr.out.below B2) (HTr.out.below B2)).mono ?_
      rintro e3 w3 ⟨rfl, hb3⟩
      have B3 : Below wr.heap.size wr w3 := B2.trans (hb3.mono B2.size)
      refine hK.out _ _ (range_row (HRS.out.below B3 hlts)) (fun hHeld3 => ?_)
      clear hK
      refine wpAnyH_ready (rs := [8]) (by kernel_rfl) (by decide) ?_
      refine AllReadyH.cons rfl (fun K' hK => ?_) AllReadyH.nil
      go_simp
      refine (HG1.out w3 (HFr.out.below B3) (HTr.out.below B3)).mono ?_
      rintro e4 w4 ⟨rfl, hb4⟩
      have B4 : Below wr.heap.size wr w4 := B3.trans (hb4.mono B3.size)
      refine hK.out _ _ (range_row (HRS.out.below B4 hlts)) (fun hHeld4 => ?_)
      clear hK
      refine wpAnyH_ready (rs := [9]) (by kernel_rfl) (by decide) ?_
      refine AllReadyH.cons rfl (fun K' hK => ?_) AllReadyH.nil
      refine step_of rfl (wp_buildD (.tmp 20) (.tmp 24) rfl D0 D1 rfl rfl HD0.out HD1.out ?_)
      have B5 : Below wr.heap.size wr (w4.alloc (.cells (bcells (D0 ++ D1)) 23)) := B4.alloc B4.size _
      refine hK.out _ _ (range_row (HRS.out.below B5 hlts)) (fun hHeld5 => ?_)
      clear hK
      refine wpAnyH_ready (rs := [10]) (by kernel_rfl) (by decide) ?_
      refine AllReadyH.cons rfl (fun K' hK => ?_) AllReadyH.nil
      refine step_of rfl (wp_appD (.tmp 16) (.tmp 25) rfl (w.heap.size + 1) _ (2 * m) (pubN s m) rfl (HO.out.below B5) _ 2 2 [D0, D1] rfl (two_ds w4 D0 D1 HD0.out HD1.out) (by omega) (by have := B5.size; omega) ?_)
      intro A6 c6 w6 ho6 hb6
      have HO6 := Lib.hid ho6
      have HR6 := Lib.hid ((HRS.out.below B5 hlts).below hb6 (by omega))
      have B6 : Below w.heap.size w w6 := (hbel.trans (B5.mono hbs)).trans (hb6.mono (by omega))
      clear ho6
      refine hK.out _ _ (range_row HR6.out) (fun hHeld6 => ?_)
      clear hK
      refine wpAnyH_ready (rs := [11]) (by kernel_rfl) (by decide) ?_
      refine AllReadyH.cons rfl (fun K' hK => ?_) AllReadyH.nil
      go_simp
      refine hK.out _ _ (range_row HR6.out) (fun hHeld7 => ?_)
      clear hK
      (try simp only [Act.put, List.setIfInBounds_toArray])
      refine wpAnyH_done (by kernel_rfl) ?_ _
      refine NoPanic.normal ?_
      go_wp2_with fail
      refine ⟨⟨m + 1, A6, c6, by omega, by go_num, rfl, B6, HR6.out, ?_⟩, by simp [intOf]; omega⟩
      rw [HP.out]
      exact HO6.out
    · obtain rfl : n = m := by omega
      go_wp2_with fail
      go_ret2
      exact (HO.out.mono (by omega)).new hbel
end
section
open Go.RowKit
set_option maxRecDepth 100000 in
set_option maxHeartbeats 2000000 in
theorem Root_any (A : Option Addr) (n c : Nat) (L : List (List UInt8)) (w : World) (hD : Ds w A n L) (hT : Tab 1 w) (hn : n ≤ 1000) :
    Calls Tryd.prog 66 #[.slice A n c] w fun e w' => e = .returned (.agg (bcells (rootL L))) ∧ Below w.heap.size w w' := by
  have hmf : ∀ (fn : Fn) (first cap : Array Value) (w : World), (Instr.makeFunc fn first cap).run Tryd.prog w = .ok (.func fn first cap) w := fun _ _ _ _ => rfl
  have hcut := run_cut_all (P := Tryd.prog) Tryd.under23 Tryd.size5
  have HD := Lib.hid hD
  have HT := Lib.hid hT
  have h2 := hT.1
  have HLN := Lib.hid hD.1
  have HFL := Lib.hid (flat_length hD.2.1)
  have HS := Lib.hid (show (bcells (rootL L)).size = 32 by rw [bcells_size, rootL_length])
  have HSM := Lib.hid (fun g w h hT hl => show Calls Tryd.prog 98 #[.pointer (some ⟨g, 0, none⟩)] w fun e w' => e = .returned (.agg (bcells (rootL L))) ∧ Below w.heap.size w w' from HSum_any g (2 :: flat L) w h hT hl)
  have HTK := Lib.hid (show L.take n = L from List.take_of_length_le (by rw [hD.1]; exact Nat.le_refl _))
  have hb0 := (Below.refl w.heap.size w).alloc (Nat.le_refl _) (.cells lit32 23)
  have HZ0 := Lib.hid (Row.new w 23 lit32)
  generalize rootL L = R at *
  clear hD hT
  go_enter Tryd.func66, Tryd.ntmps66
  go_wp2_with (first
    | (go_at_call 96; refine (New_any _).mono ?_; rintro e1 w1 ⟨g, rfl, hg, hh1, hb1⟩; have HH1 := Lib.hid hh1; have hs1 := hb1.size; have hlt1 := hh1.lt; simp at hs1 hg; have hb1' := hb0.trans (hb1.mono (by simp)); have HZ1 := Lib.hid (HZ0.out.below hb1 (by simp)); have HTw1 := Lib.hid (HT.out.below hb1'); clear hh1)
    | (go_at_call 97; refine (Write_any g [] _ 1 1 [2] (w1.alloc (.cells #[.int .u8 2] 5)) (HH1.out.alloc _) (one_of w1 2 5).bs (.inr ⟨_, _, rfl, by omega⟩) (Nat.le_refl _) (HTw1.out.below ((Below.refl _ _).alloc (Nat.le_refl _) _)) (by omega) (by simp)).mono ?_; rintro e2 w2 ⟨rfl, hh2, ho2⟩; have HH2 := Lib.hid hh2; have hs2 := ho2.size; simp at hs2; have HZ2 := Lib.hid ((HZ1.out.alloc (.cells #[.int .u8 2] 5)).only ho2 (by omega)); have hb2' := (hb1'.alloc hb1'.size (.cells #[.int .u8 2] 5)).trans (ho2.below (B := w.heap.size) (by omega) (by simp; omega)); clear hh2))
  go_loopw [14] (fun i wr => ∃ m : Nat, m ≤ n ∧ i = .int .i64 (m : Int) ∧ Below w.heap.size w wr ∧ HashAt wr g (2 :: flat (L.take m)) ∧ Row wr w.heap.size 23 lit32) (fun i _ => n - (intOf i).toNat)
  case atStart => exact ⟨0, Nat.zero_le _, rfl, hb2', HH2.out, HZ2.out⟩
  case round =>
    obtain ⟨m, hm, rfl, hbel, hh, hz⟩ := hrel
    have hbs := hbel.size
    have HHr := Lib.hid hh
    have HZr := Lib.hid hz
    have hglt := hh.lt
    have HTr := Lib.hid (HT.out.below hbel)
    clear hh hz
    by_cases hlt : m < n
    · have him : (m : Int) < (n : Int) := by omega
      obtain ⟨b, off, d, rfl, hb, hd, hdl, hBd⟩ := HD.out.get hlt
      have HBd := Lib.hid (hBd.below hbel)
      have HTK1 := Lib.hid (flat_take hd)
      have HLT : Hid ((2 :: flat (L.take m)).length ≤ 40000) := Lib.hid (by rw [List.length_cons, flat_length (HD.out.2.1.take m), List.length_take]; omega)
      clear hd hBd
      go_wp2_with (first
        | (with_reducible refine wpList_indexD rfl (.tmp 18) (.tmp 19) rfl b off n c m _ rfl rfl rfl hlt ?_)
        | (go_at_call 97; refine (Write_any g (2 :: flat (L.take m)) _ 32 32 d wr HHr.out HBd.out (.inr ⟨_, _, rfl, by omega⟩) (Nat.le_refl _) HTr.out (by omega) (by have := HLT.out; omega)).mono ?_; rintro e3 w3 ⟨rfl, hh3, ho3⟩; have HH3 := Lib.hid hh3; have HZ3 := Lib.hid (HZr.out.only ho3 (by omega)); have hb3 := hbel.trans (ho3.below (B := w.heap.size) (by omega) hbs); clear hh3))
      go_roundw
      case rel => exact ⟨m + 1, by omega, by go_num, hb3, by rw [HTK1.out]; exact HH3.out, HZ3.out⟩
      case measure => simp [intOf]; omega
    · obtain rfl : n = m := by omega
      have HHe := Lib.hid (show HashAt wr g (2 :: flat L) by have h := HHr.out; rwa [HTK.out] at h)
      have HLT : Hid ((2 :: flat L).length ≤ 1152921504606846976) := Lib.hid (by rw [List.length_cons, HFL.out, HLN.out]; omega)
      go_wp2_with (first
        | (go_at_call 98; refine (HSM.out g wr HHe.out HTr.out HLT.out).mono ?_; rintro e3 w3 ⟨rfl, hb3⟩; have HZ3 := Lib.hid (HZr.out.below hb3 (by omega)); have hb3' := hbel.trans (hb3.mono hbs))
        | (with_reducible refine wpList_store_row Tryd.agg25 rfl (.tmp 2) (.tmp 25) rfl _ _ rfl rfl 23 lit32 HZ3.out HS.out lit32_size (bcells_one _) ?_; intro w9 hr9 ho9; have HR9 := Lib.hid hr9; clear hr9))
      refine bodyPost_ret (results_row1 Tryd.agg25 Tryd.results66 rfl HR9.out HS.out) rfl ⟨rfl, ?_⟩
      exact hb3'.trans (ho9.below (Nat.le_refl _) hb3'.size)
set_option maxRecDepth 100000 in
set_option maxHeartbeats 2000000 in
theorem RefRoot_any (A : Option Addr) (n c : Nat) (L : List (List UInt8)) (w : World) (hD : Ds w A n L) (hF : First w) (hT : Tab 2 w) (hn : n ≤ 1000) :
    Calls Tryd.prog 73 #[.slice A n c] w fun e w' => e = .returned (.agg (bcells (rootL L))) ∧ Below w.heap.size w w' := by
  have HD := Lib.hid hD
  have HT := Lib.hid hT
  have HF := Lib.hid hF
  have HS := Lib.hid (show (bcells (rootL L)).size = 32 by rw [bcells_size, rootL_length])
  have HSM := Lib.hid (fun A n c w hB hc hF hT hn => show Calls Tryd.prog 99 #[.slice A n c] w fun e w' => e = .returned (.agg (bcells (rootL L))) ∧ Below w.heap.size w w' from RefSum_any A n c (2 :: flat L) w hB hc hF hT hn)
  have HTK := Lib.hid (show L.take n = L from List.take_of_length_le (by rw [hD.1]; exact Nat.le_refl _))
  have hb0 := (Below.refl w.heap.size w).alloc (Nat.le_refl _) (.cells lit32 23)
  generalize rootL L = R at *
  clear hD hT hF
  go_enter Tryd.func73, Tryd.ntmps73
  go_wp2_with fail
  go_loopw [3, 4] (fun t i wr => ∃ (m q : Nat) (A1 : Option Addr) (c1 : Nat), m ≤ n ∧ i = .int .i64 (m : Int) ∧ t = .slice A1 q c1 ∧ Hid (q = 1 + 32 * m) ∧ q ≤ c1 ∧ Below w.heap.size w wr ∧ Own wr (w.heap.size + 1) 5 (.slice A1 q c1) q (2 :: flat (L.take m)) ∧ Row wr w.heap.size 23 lit32) (fun _ i _ => n - (intOf i).toNat)
  case atStart => exact ⟨0, 1, _, 1, Nat.zero_le _, rfl, rfl, Lib.hid rfl, Nat.le_refl _, hb0.alloc hb0.size _, by have h := one_of (w.alloc (.cells lit32 23)) 2 5; simp at h; exact h, (Row.new w 23 lit32).alloc _⟩
  case round =>
    obtain ⟨m, q, A1, c1, hm, rfl, rfl, HQ, hqc, hbel, hown, hz⟩ := hrel
    have hbs := hbel.size
    have HO := Lib.hid hown
    have HZr := Lib.hid hz
    have hzlt := hz.lt
    have hq1 : q ≤ 40000 := by have := HQ.out; omega
    clear hown hz
    by_cases hlt : m < n
    · have him : (m : Int) < (n : Int) := by omega
      obtain ⟨b, off, d, rfl, hb, hd, hdl, hBd⟩ := (HD.out.below hbel).get hlt
      have HRG := Lib.hid hBd.range
      have HDL := Lib.hid hdl
      have HTK1 := Lib.hid (flat_take hd)
      have HDB := Lib.hid (fun w => DBytes_any d w hdl)
      clear hd hBd hdl
      go_wp2_with (first
        | (with_reducible refine wpList_indexD rfl (.tmp 13) (.tmp 14) rfl b off n c m _ rfl rfl rfl hlt ?_)
        | (with_reducible refine wpList_loadD rfl (.tmp 15) rfl b (off + 32 * m) d rfl HRG.out HDL.out ?_)
        | (go_at_call 60; refine (HDB.out _).mono ?_; rintro e2 w2 ⟨A2, n2, c2, rfl, hB2, hc2, hb2, -⟩; have HB2 := Lib.hid hB2; have hn2 : n2 ≤ 32 := (by rw [← hB2.1, HDL.out]; exact Nat.le_refl _); have HN2 := Lib.hid (show n2 = 32 from hB2.1.symm.trans HDL.out); have hs2 := hb2.size; clear hB2)
        | (at_builtin; refine wpList_app Tryd.byteTypes rfl (.tmp 12) (.tmp 17) rfl (w.heap.size + 1) _ q (2 :: flat (L.take m)) rfl (HO.out.below hb2) A2 n2 c2 d rfl HB2.out (by omega) (by omega) ?_; intro A3 c3 w3 ho3 hb3 _; have HO3 := Lib.hid ho3; have HZ3 := Lib.hid ((HZr.out.below hb2 hzlt).below hb3 (by omega)); have hb3' := (hbel.trans (hb2.mono hbs)).trans (hb3.mono (by omega)); obtain ⟨A3q, c3q, hf1, hf2⟩ := ho3.form; injection hf1 with hfa hfb hfc; subst hfa hfc; clear ho3 hfb))
      go_roundw
      case rel => exact ⟨m + 1, q + n2, A3, _, by omega, by go_num, rfl, Lib.hid (by rw [HN2.out, HQ.out]; omega), hf2, hb3', by rw [HTK1.out]; exact HO3.out, HZ3.out⟩
      case measure => simp [intOf]; omega
    · obtain rfl : n = m := by omega
      rw [HTK.out] at HO
      go_wp2_with (first
        | (go_at_call 99; refine (HSM.out A1 q c1 wr HO.out.bs hqc (HF.out.below hbel) (HT.out.below hbel) (by omega)).mono ?_; rintro e3 w3 ⟨rfl, hb3⟩; have HZ3 := Lib.hid (HZr.out.below hb3 hzlt); have hb3' := hbel.trans (hb3.mono hbs))
        | (with_reducible refine wpList_store_row Tryd.agg25 rfl (.tmp 2) (.tmp 20) rfl _ _ rfl rfl 23 lit32 HZ3.out HS.out lit32_size (bcells_one _) ?_; intro w9 hr9 ho9; have HR9 := Lib.hid hr9; clear hr9))
      refine bodyPost_ret (results_row1 Tryd.agg25 Tryd.results73 rfl HR9.out HS.out) rfl ⟨rfl, ?_⟩
      exact hb3'.trans (ho9.below (Nat.le_refl _) hb3'.size)
end
section
open Go.RowKit
set_option maxHeartbeats 400000 in
theorem Sign_no (s : List UInt8) (n : Int) (A : Option Addr) (nt ct : Nat) (w : World) (h : n < 1 ∨ 256 < n) : Calls Tryd.prog 41 #[.agg (bcells s), .int .i64 n, .slice A nt ct] w (NewD w [] 1) := by
  have HM := Lib.hid (fun w => mayBe_no n w h)
  clear h
  go_enter Tryd.func41, Tryd.ntmps41
  go_wp2_with (go_at_call 74; refine (HM.out _).mono ?_; rintro e1 w1 ⟨rfl, rfl⟩)
  go_ret2
  exact ⟨none, 0, rfl, Nat.le_refl _, Ds.nil _ _, (Below.refl _ _).alloc (Nat.le_refl _) _⟩
set_option maxHeartbeats 400000 in
theorem RefSign_no (s : List UInt8) (n : Int) (A : Option Addr) (nt ct : Nat) (w : World) (h : n < 1 ∨ 256 < n) : Calls Tryd.prog 43 #[.agg (bcells s), .int .i64 n, .slice A nt ct] w (NewD w [] 1) := by
  have HM := Lib.hid (fun w => Right_no n w h)
  clear h
  go_enter Tryd.func43, Tryd.ntmps43
  go_wp2_with (go_at_call 37; refine (HM.out _).mono ?_; rintro e1 w1 ⟨rfl, rfl⟩)
  go_ret2
  exact ⟨none, 0, rfl, Nat.le_refl _, Ds.nil _ _, (Below.refl _ _).alloc (Nat.le_refl _) _⟩
set_option maxRecDepth 100000 in
set_option maxHeartbeats 2000000 in
theorem Sign_ok (s : List UInt8) (n : Nat) (A : Option Addr) (nt ct : Nat) (l : List UInt8) (w : World) (hs : s.length = 32) (h1 : 1 ≤ n) (h2 : n ≤ 256) (hB : Bs w A nt l) (hnc : nt ≤ ct) (hnt : nt ≤ 1000000) (hT : Tab 1 w) :
    Calls Tryd.prog 41 #[.agg (bcells s), .int .i64 (n : Int), .slice A nt ct] w (NewD w (sigN s (sumL l) n) 0) := by
  have HMB := Lib.hid (fun w => mayBe_yes (n : Int) w (by omega) (by omega))
  have hmk := run_madeD 0 (2 * n) 0 (2 * (n : Int)) rfl (by omega) (by omega) (by omega)
  have HT := Lib.hid hT
  have hT2 := hT.1
  have rl : (s.map bcell).length = 32 := by rw [List.length_map, hs]
  have rz : (Tryd.prog.info? 23).map (·.size) = some (s.map bcell).length := by rw [rl]; exact Tryd.sizeD
  have ru := Tryd.under23
  have HS := Lib.hid hs
  have hb0 := (Below.refl w.heap.size w).alloc (Nat.le_refl _) (.cells (bcells s) 23)
  have HM := Lib.hid (Sum_any A nt ct l _ (hB.below hb0) hnc (hT.below hb0) (by omega))
  have HDL := Lib.hid (sumL_length l)
  have HDS := Lib.hid (show (bcells (sumL l)).size = 32 by rw [bcells_size, sumL_length])
  generalize sumL l = D at *
  clear hT hs rl hB
  go_enter Tryd.func41, Tryd.ntmps41
  go_wp2_with (first
    | (go_at_call 74; refine (HMB.out _).mono ?_; rintro e1 w1 ⟨rfl, rfl⟩)
    | (go_at_call 75; refine HM.out.mono ?_; rintro e1 w1 ⟨rfl, hb1⟩; have hs1 := hb1.size; simp at hs1; have HR1 := Lib.hid ((Row.new w 23 (bcells s)).below hb1 (by simp)); have hb1' := hb0.trans (hb1.mono (by simp)))
    | (with_reducible refine wpList_store_row Tryd.agg25 rfl (.tmp 8) (.tmp 16) rfl _ _ rfl rfl 23 lit32 (Row.new w1 23 lit32) HDS.out lit32_size (bcells_one _) ?_; intro w2 hr2 ho2; have HD2 := Lib.hid hr2; have hs2 := ho2.size; simp at hs2; have HR2 := Lib.hid ((HR1.out.alloc (.cells lit32 23)).only ho2 (by omega)); have hb2 := (hb1'.alloc hb1'.size (.cells lit32 23)).trans (ho2.below (B := w.heap.size) (by omega) (by simp; omega)); clear hr2))
  go_loopw [9, 21] (fun p i wr => ∃ (m : Nat) (A1 : Option Addr) (c1 : Nat), m ≤ n ∧ i = .int .i64 (m : Int) ∧ p = .slice A1 (2 * m) c1 ∧ Below w.heap.size w wr ∧ w2.heap.size ≤ wr.heap.size ∧ Row wr w.heap.size 23 (bcells s) ∧ Row wr w1.heap.size 23 (bcells D) ∧ OwnD wr w2.heap.size (.slice A1 (2 * m) c1) (2 * m) (sigN s D m)) (fun _ i _ => n - (intOf i).toNat)
  case atStart => exact ⟨0, _, 2 * n, Nat.zero_le _, rfl, rfl, hb2.alloc hb2.size _, by simp, HR2.out.alloc _, HD2.out.alloc _, by have h := OwnD.made w2 w2.heap.size (2 * n) (bcells (List.replicate (2 * n * 32) 0)) (Nat.le_refl _) (by omega) (by rw [bcells_size, List.length_replicate]); exact h⟩
  case round =>
    obtain ⟨m, A1, c1, hm, rfl, rfl, hbel, hs3, hrow, hrowD, hown⟩ := hrel
    have hbs := hbel.size
    have HRS := Lib.hid hrow
    have HRD := Lib.hid hrowD
    have HO := Lib.hid hown
    clear hrow hown hrowD
    by_cases hlt : m < n
    · have him : (m : Int) < (n : Int) := by omega
      have HP := Lib.hid (show sigN s D (m + 1) = sigN s D m ++ [secL s m (bitN D m), hidL s m (1 - bitN D m)] from rfl)
      have HBO := Lib.hid (fun w => bitOf_any D m (m : Int) w HDL.out rfl (by omega))
      obtain ⟨b, hb⟩ : ∃ b, bitN D m = b := ⟨_, rfl⟩
      have hb01 : b ≤ 1 := by have := bitN_01 D m; omega
      rw [hb] at HP HBO
      have HD0 := Lib.hid (secL_length s m b)
      have HD1 := Lib.hid (hidL_length s m (1 - b))
      have HH0 := Lib.hid (fun w hT => secret_any s m b (m : Int) (b : Int) w HS.out rfl rfl (by omega) hb01 hT)
      have HH1 := Lib.hid (fun w hT => hidden_any s m (1 - b) (m : Int) (1 - (b : Int)) w HS.out rfl (by omega) (by omega) (by omega) hT)
      have HTr := Lib.hid (HT.out.below hbel)
      have HB01 := Lib.hid hb01
      clear hb hb01
      generalize secL s m b = D0 at *
      generalize hidL s m (1 - b) = D1 at *
      go_wp2_with (first
        | (with_reducible refine wpList_load_row Tryd.agg25 rfl (.tmp 8) rfl _ rfl 23 _ HRD.out HDS.out ?_)
        | (go_at_call 76; refine (HBO.out wr).mono ?_; rintro e9 wq ⟨rfl, hbq⟩; have hsq := hbq.size; have hltq : w.heap.size < wq.heap.size := (by omega); have HRSq := Lib.hid (HRS.out.below hbq (by omega)); have HRDq := Lib.hid (HRD.out.below hbq (by omega)); have HOq := Lib.hid (HO.out.below hbq); have hbelq := hbel.trans (hbq.mono hbs); have HTq := Lib.hid (HTr.out.below hbq)))
      have K0 := Lib.hid (show wq.drew.rangeAt w.heap.size 0 (s.map bcell) by exact range_row (HRSq.out.below ((Below.refl _ _).drew) hltq))
      refine wp_region_noPanic ?_
      refine wp_region_held_drew (S := fun w' => w'.rangeAt w.heap.size 0 (s.map bcell)) (by kernel_rfl) K0.out (fun hHeld => ?_)
      refine takeD (i := 0) (some 27) (.slice A1 (2 * m) c1) rfl rfl (by kernel_rfl) (by kernel_rfl) (by kernel_rfl) (fun _ _ _ h => h) (Or.inl ⟨by rfl, fun _ _ => rfl⟩) hHeld ?_
      simp only [Act.put, List.setIfInBounds_toArray, List.set_cons_zero, List.set_cons_succ]
      refine takeD (i := 1) (some 28) (.agg (s.map bcell).toArray) rfl rfl (by kernel_rfl) (by kernel_rfl) (by kernel_rfl) (fun _ _ _ h => h) (yieldsIf_load_mid (by rfl) _ _ rfl _ _ rfl _ _ (fun _ h => h) ru rfl rz) hHeld ?_
      simp only [Act.put, List.setIfInBounds_toArray, List.set_cons_zero, List.set_cons_succ]
      refine takeD (i := 2) (some 29) (.int .i64 (m : Int)) rfl rfl (by kernel_rfl) (by kernel_rfl) (by kernel_rfl) (fun _ _ _ h => h) (Or.inl ⟨by rfl, fun _ _ => rfl⟩) hHeld ?_
      simp only [Act.put, List.setIfInBounds_toArray, List.set_cons_zero, List.set_cons_succ]
      refine takeD (i := 3) (some 30) (.int .i64 (b : Int)) rfl rfl (by kernel_rfl) (by kernel_rfl) (by kernel_rfl) (fun _ _ _ h => h) (Or.inl ⟨by rfl, fun _ _ => rfl⟩) hHeld ?_
      simp only [Act.put, List.setIfInBounds_toArray, List.set_cons_zero, List.set_cons_succ]
      refine takeD (i := 5) (some 32) (.agg (s.map bcell).toArray) rfl rfl (by kernel_rfl) (by kernel_rfl) (by kernel_rfl) (fun _ _ _ h => h) (yieldsIf_load_mid (by rfl) _ _ rfl _ _ rfl _ _ (fun _ h => h) ru rfl rz) hHeld ?_
      simp only [Act.put, List.setIfInBounds_toArray, List.set_cons_zero, List.set_cons_succ]
      refine takeD (i := 6) (some 33) (.int .i64 (m : Int)) rfl rfl (by kernel_rfl) (by kernel_rfl) (by kernel_rfl) (fun _ _ _ h => h) (Or.inl ⟨by rfl, fun _ _ => rfl⟩) hHeld ?_
      simp only [Act.put, List.setIfInBounds_toArray, List.set_cons_zero, List.set_cons_succ]
      refine takeD (i := 7) (some 34) (.int .i64 (b : Int)) rfl rfl (by kernel_rfl) (by kernel_rfl) (by kernel_rfl) (fun _ _ _ h => h) (Or.inl ⟨by rfl, fun _ _ => rfl⟩) hHeld ?_
      simp only [Act.put, List.setIfInBounds_toArray, List.set_cons_zero, List.set_cons_succ]
      refine takeD (i := 8) (some 35) (.int .i64 (1 - (b : Int))) rfl rfl (by kernel_rfl) (by kernel_rfl) (by kernel_rfl) (fun _ _ _ h => h) (yields_sub rfl (.const (.int .i64 1)) (.tmp 34) rfl 1 (b : Int) (1 - (b : Int)) rfl rfl rfl (by have := HB01.out; omega) (by omega)) hHeld ?_
      simp only [Act.put, List.setIfInBounds_toArray, List.set_cons_zero, List.set_cons_succ]
      have B0 : Below wq.heap.size wq wq.drew := (Below.refl wq.heap.size wq).drew
      refine wpAnyH_ready (rs := [4]) (by kernel_rfl) (by decide) ?_
      refine AllReadyH.cons rfl (fun K' hK => ?_) AllReadyH.nil
      go_simp
      refine (HH0.out wq.drew (HTq.out.below B0)).mono ?_
      rintro e3 w3 ⟨rfl, hb3⟩
      have B3 : Below wq.heap.size wq w3 := B0.trans (hb3.mono B0.size)
      refine hK.out _ _ (range_row (HRSq.out.below B3 hltq)) (fun hHeld3 => ?_)
      clear hK
      refine wpAnyH_ready (rs := [9]) (by kernel_rfl) (by decide) ?_
      refine AllReadyH.cons rfl (fun K' hK => ?_) AllReadyH.nil
      go_simp
      refine (HH1.out w3 (HTq.out.below B3)).mono ?_
      rintro e4 w4 ⟨rfl, hb4⟩
      have B4 : Below wq.heap.size wq w4 := B3.trans (hb4.mono B3.size)
      refine hK.out _ _ (range_row (HRSq.out.below B4 hltq)) (fun hHeld4 => ?_)
      clear hK
      refine wpAnyH_ready (rs := [10]) (by kernel_rfl) (by decide) ?_
      refine AllReadyH.cons rfl (fun K' hK => ?_) AllReadyH.nil
      refine step_of rfl (wp_buildD (.tmp 31) (.tmp 36) rfl D0 D1 rfl rfl HD0.out HD1.out ?_)
      have B5 : Below wq.heap.size wq (w4.alloc (.cells (bcells (D0 ++ D1)) 23)) := B4.alloc B4.size _
      refine hK.out _ _ (range_row (HRSq.out.below B5 hltq)) (fun hHeld5 => ?_)
      clear hK
      refine wpAnyH_ready (rs := [11]) (by kernel_rfl) (by decide) ?_
      refine AllReadyH.cons rfl (fun K' hK => ?_) AllReadyH.nil
      refine step_of rfl (wp_appD (.tmp 27) (.tmp 37) rfl w2.heap.size _ (2 * m) (sigN s D m) rfl (HOq.out.below B5) _ 2 2 [D0, D1] rfl (two_ds w4 D0 D1 HD0.out HD1.out) (by omega) (by have := B5.size; omega) ?_)
      intro A6 c6 w6 ho6 hb6
      have HO6 := Lib.hid ho6
      have hs5 := B5.size
      have HR6 := Lib.hid ((HRSq.out.below B5 hltq).below hb6 (by omega))
      have HD6 := Lib.hid ((HRDq.out.below B5 (by omega)).below hb6 (by omega))
      have hs6 := hb6.size
      have B6 : Below w.heap.size w w6 := (hbelq.trans (B5.mono (by omega))).trans (hb6.mono (by omega))
      clear ho6
      refine hK.out _ _ (range_row HR6.out) (fun hHeld6 => ?_)
      clear hK
      refine wpAnyH_ready (rs := [12]) (by kernel_rfl) (by decide) ?_
      refine AllReadyH.cons rfl (fun K' hK => ?_) AllReadyH.nil
      go_simp
      refine hK.out _ _ (range_row HR6.out) (fun hHeld7 => ?_)
      clear hK
      (try simp only [Act.put, List.setIfInBounds_toArray])
      refine wpAnyH_done (by kernel_rfl) ?_ _
      refine NoPanic.normal ?_
      go_wp2_with fail
      refine ⟨⟨m + 1, A6, c6, by omega, by go_num, rfl, B6, by omega, HR6.out, HD6.out, ?_⟩, by simp [intOf]; omega⟩
      rw [HP.out]
      exact HO6.out
    · obtain rfl : n = m := by omega
      go_wp2_with fail
      go_ret2
      exact (HO.out.mono (by omega)).new hbel
set_option maxRecDepth 100000 in
set_option maxHeartbeats 2000000 in
theorem RefSign_ok (s : List UInt8) (n : Nat) (A : Option Addr) (nt ct : Nat) (l : List UInt8) (w : World) (hs : s.length = 32) (h1 : 1 ≤ n) (h2 : n ≤ 256) (hB : Bs w A nt l) (hnc : nt ≤ ct) (hnt : nt ≤ 1000000) (hF : First w) (hT : Tab 2 w) :
    Calls Tryd.prog 43 #[.agg (bcells s), .int .i64 (n : Int), .slice A nt ct] w (NewD w (sigN s (sumL l) n) 0) := by
  have HMB := Lib.hid (fun w => Right_yes (n : Int) w (by omega) (by omega))
  have HT := Lib.hid hT
  have HF := Lib.hid hF
  have rl : (s.map bcell).length = 32 := by rw [List.length_map, hs]
  have rz : (Tryd.prog.info? 23).map (·.size) = some (s.map bcell).length := by rw [rl]; exact Tryd.sizeD
  have ru := Tryd.under23
  have HS := Lib.hid hs
  have HB := Lib.hid hB
  have HBT := Lib.hid (fun (m : Nat) w hB hm hF hT => RefBitT_any A nt ct l m (m : Int) w hB hnc rfl hm hF hT hnt)
  generalize sumL l = D at *
  clear hT hF hs rl hB
  go_enter Tryd.func43, Tryd.ntmps43
  go_wp2_with (go_at_call 37; refine (HMB.out _).mono ?_; rintro e1 w1 ⟨rfl, rfl⟩)
  go_loopw [8, 9] (fun p i wr => ∃ (m : Nat) (A1 : Option Addr) (c1 : Nat), m ≤ n ∧ i = .int .i64 (m : Int) ∧ p = .slice A1 (2 * m) c1 ∧ Below w.heap.size w wr ∧ Row wr w.heap.size 23 (bcells s) ∧ OwnD wr (w.heap.size + 1) (.slice A1 (2 * m) c1) (2 * m) (sigN s D m)) (fun _ i _ => n - (intOf i).toNat)
  case atStart => exact ⟨0, none, 0, Nat.zero_le _, rfl, rfl, (Below.refl _ _).alloc (Nat.le_refl _) _, Row.new _ _ _, OwnD.nil _ _⟩
  case round =>
    obtain ⟨m, A1, c1, hm, rfl, rfl, hbel, hrow, hown⟩ := hrel
    have hbs := hbel.size
    have hlts := hrow.lt
    have HRS := Lib.hid hrow
    have HO := Lib.hid hown
    clear hrow hown
    by_cases hlt : m < n
    · have him : (m : Int) < (n : Int) := by omega
      have HP := Lib.hid (show sigN s D (m + 1) = sigN s D m ++ [secL s m (bitN D m), hidL s m (1 - bitN D m)] from rfl)
      have HTr := Lib.hid (HT.out.below hbel)
      have HFr := Lib.hid (HF.out.below hbel)
      have HBO := Lib.hid (HBT.out m wr (HB.out.below hbel) (by omega) HFr.out HTr.out)
      obtain ⟨b, hb⟩ : ∃ b, bitN D m = b := ⟨_, rfl⟩
      have hb01 : b ≤ 1 := by have := bitN_01 D m; omega
      rw [hb] at HP HBO
      have HD0 := Lib.hid (secL_length s m b)
      have HD1 := Lib.hid (hidL_length s m (1 - b))
      have HH0 := Lib.hid (fun w hF hT => RefSecret_any s m b (m : Int) (b : Int) w HS.out rfl rfl (by omega) hb01 hF hT)
      have HH1 := Lib.hid (fun w hF hT => RefSecret_any s m (1 - b) (m : Int) (1 - (b : Int)) w HS.out rfl (by omega) (by omega) (by omega) hF hT)
      have HG1 := Lib.hid (fun w hF hT => show Calls Tryd.prog 81 #[.agg (bcells (secL s m (1 - b)))] w fun e w' => e = .returned (.agg (bcells (hidL s m (1 - b)))) ∧ Below w.heap.size w w' from RefDSum_any (secL s m (1 - b)) w (secL_length s m (1 - b)) hF hT)
      have HB01 := Lib.hid hb01
      clear hb hb01
      generalize secL s m b = D0 at *
      generalize hidL s m (1 - b) = D1 at *
      generalize secL s m (1 - b) = S1 at *
      go_wp2_with (go_at_call 79; refine HBO.out.mono ?_; rintro e9 wq ⟨rfl, hbq⟩; have hsq := hbq.size; have hltq : w.heap.size < wq.heap.size := (by omega); have HRSq := Lib.hid (HRS.out.below hbq (by omega)); have HOq := Lib.hid (HO.out.below hbq); have hbelq := hbel.trans (hbq.mono hbs); have HTq := Lib.hid (HTr.out.below hbq); have HFq := Lib.hid (HFr.out.below hbq))
      have K0 := Lib.hid (show wq.drew.rangeAt w.heap.size 0 (s.map bcell) by exact range_row (HRSq.out.below ((Below.refl _ _).drew) hltq))
      refine wp_region_noPanic ?_
      refine wp_region_held_drew (S := fun w' => w'.rangeAt w.heap.size 0 (s.map bcell)) (by kernel_rfl) K0.out (fun hHeld => ?_)
      refine takeD (i := 0) (some 22) (.slice A1 (2 * m) c1) rfl rfl (by kernel_rfl) (by kernel_rfl) (by kernel_rfl) (fun _ _ _ h => h) (Or.inl ⟨by rfl, fun _ _ => rfl⟩) hHeld ?_
      simp only [Act.put, List.setIfInBounds_toArray, List.set_cons_zero, List.set_cons_succ]
      refine takeD (i := 1) (some 23) (.agg (s.map bcell).toArray) rfl rfl (by kernel_rfl) (by kernel_rfl) (by kernel_rfl) (fun _ _ _ h => h) (yieldsIf_load_mid (by rfl) _ _ rfl _ _ rfl _ _ (fun _ h => h) ru rfl rz) hHeld ?_
      simp only [Act.put, List.setIfInBounds_toArray, List.set_cons_zero, List.set_cons_succ]
      refine takeD (i := 2) (some 24) (.int .i64 (m : Int)) rfl rfl (by kernel_rfl) (by kernel_rfl) (by kernel_rfl) (fun _ _ _ h => h) (Or.inl ⟨by rfl, fun _ _ => rfl⟩) hHeld ?_
      simp only [Act.put, List.setIfInBounds_toArray, List.set_cons_zero, List.set_cons_succ]
      refine takeD (i := 3) (some 25) (.int .i64 (b : Int)) rfl rfl (by kernel_rfl) (by kernel_rfl) (by kernel_rfl) (fun _ _ _ h => h) (Or.inl ⟨by rfl, fun _ _ => rfl⟩) hHeld ?_
      simp only [Act.put, List.setIfInBounds_toArray, List.set_cons_zero, List.set_cons_succ]
      refine takeD (i := 5) (some 27) (.agg (s.map bcell).toArray) rfl rfl (by kernel_rfl) (by kernel_rfl) (by kernel_rfl) (fun _ _ _ h => h) (yieldsIf_load_mid (by rfl) _ _ rfl _ _ rfl _ _ (fun _ h => h) ru rfl rz) hHeld ?_
      simp only [Act.put, List.setIfInBounds_toArray, List.set_cons_zero, List.set_cons_succ]
      refine takeD (i := 6) (some 28) (.int .i64 (m : Int)) rfl rfl (by kernel_rfl) (by kernel_rfl) (by kernel_rfl) (fun _ _ _ h => h) (Or.inl ⟨by rfl, fun _ _ => rfl⟩) hHeld ?_
      simp only [Act.put, List.setIfInBounds_toArray, List.set_cons_zero, List.set_cons_succ]
      refine takeD (i := 7) (some 29) (.int .i64 (b : Int)) rfl rfl (by kernel_rfl) (by kernel_rfl) (by kernel_rfl) (fun _ _ _ h => h) (Or.inl ⟨by rfl, fun _ _ => rfl⟩) hHeld ?_
      simp only [Act.put, List.setIfInBounds_toArray, List.set_cons_zero, List.set_cons_succ]
      refine takeD (i := 8) (some 30) (.int .i64 (1 - (b : Int))) rfl rfl (by kernel_rfl) (by kernel_rfl) (by kernel_rfl) (fun _ _ _ h => h) (yields_sub rfl (.const (.int .i64 1)) (.tmp 29) rfl 1 (b : Int) (1 - (b : Int)) rfl rfl rfl (by have := HB01.out; omega) (by omega)) hHeld ?_
      simp only [Act.put, List.setIfInBounds_toArray, List.set_cons_zero, List.set_cons_succ]
      have B0 : Below wq.heap.size wq wq.drew := (Below.refl wq.heap.size wq).drew
      refine wpAnyH_ready (rs := [4]) (by kernel_rfl) (by decide) ?_
      refine AllReadyH.cons rfl (fun K' hK => ?_) AllReadyH.nil
      go_simp
      refine (HH0.out wq.drew (HFq.out.below B0) (HTq.out.below B0)).mono ?_
      rintro e3 w2 ⟨rfl, hb2⟩
      have B2 : Below wq.heap.size wq w2 := B0.trans (hb2.mono B0.size)
      refine hK.out _ _ (range_row (HRSq.out.below B2 hltq)) (fun hHeld2 => ?_)
      clear hK
      refine wpAnyH_ready (rs := [9]) (by kernel_rfl) (by decide) ?_
      refine AllReadyH.cons rfl (fun K' hK => ?_) AllReadyH.nil
      go_simp
      refine (HH1.out w2 (HFq.out.below B2) (HTq.out.below B2)).mono ?_
      rintro e3 w3 ⟨rfl, hb3⟩
      have B3 : Below wq.heap.size wq w3 := B2.trans (hb3.mono B2.size)
      refine hK.out _ _ (range_row (HRSq.out.below B3 hltq)) (fun hHeld3 => ?_)
      clear hK
      refine wpAnyH_ready (rs := [10]) (by kernel_rfl) (by decide) ?_
      refine AllReadyH.cons rfl (fun K' hK => ?_) AllReadyH.nil
      go_simp
      refine (HG1.out w3 (HFq.out.below B3) (HTq.out.below B3)).mono ?_
      rintro e4 w4 ⟨rfl, hb4⟩
      have B4 : Below wq.heap.size wq w4 := B3.trans (hb4.mono B3.size)
      refine hK.out _ _ (range_row (HRSq.out.below B4 hltq)) (fun hHeld4 => ?_)
      clear hK
      refine wpAnyH_ready (rs := [11]) (by kernel_rfl) (by decide) ?_
      refine AllReadyH.cons rfl (fun K' hK => ?_) AllReadyH.nil
      refine step_of rfl (wp_buildD (.tmp 26) (.tmp 32) rfl D0 D1 rfl rfl HD0.out HD1.out ?_)
      have B5 : Below wq.heap.size wq (w4.alloc (.cells (bcells (D0 ++ D1)) 23)) := B4.alloc B4.size _
      refine hK.out _ _ (range_row (HRSq.out.below B5 hltq)) (fun hHeld5 => ?_)
      clear hK
      refine wpAnyH_ready (rs := [12]) (by kernel_rfl) (by decide) ?_
      refine AllReadyH.cons rfl (fun K' hK => ?_) AllReadyH.nil
      refine step_of rfl (wp_appD (.tmp 22) (.tmp 33) rfl (w.heap.size + 1) _ (2 * m) (sigN s D m) rfl (HOq.out.below B5) _ 2 2 [D0, D1] rfl (two_ds w4 D0 D1 HD0.out HD1.out) (by omega) (by have := B5.size; omega) ?_)
      intro A6 c6 w6 ho6 hb6
      have HO6 := Lib.hid ho6
      have hs5 := B5.size
      have HR6 := Lib.hid ((HRSq.out.below B5 hltq).below hb6 (by omega))
      have B6 : Below w.heap.size w w6 := (hbelq.trans (B5.mono (by omega))).trans (hb6.mono (by omega))
      clear ho6
      refine hK.out _ _ (range_row HR6.out) (fun hHeld6 => ?_)
      clear hK
      refine wpAnyH_ready (rs := [13]) (by kernel_rfl) (by decide) ?_
      refine AllReadyH.cons rfl (fun K' hK => ?_) AllReadyH.nil
      go_simp
      refine hK.out _ _ (range_row HR6.out) (fun hHeld7 => ?_)
      clear hK
      (try simp only [Act.put, List.setIfInBounds_toArray])
      refine wpAnyH_done (by kernel_rfl) ?_ _
      refine NoPanic.normal ?_
      go_wp2_with fail
      refine ⟨⟨m + 1, A6, c6, by omega, by go_num, rfl, B6, HR6.out, ?_⟩, by simp [intOf]; omega⟩
      rw [HP.out]
      exact HO6.out
    · obtain rfl : n = m := by omega
      go_wp2_with fail
      go_ret2
      exact (HO.out.mono (by omega)).new hbel
end
section
open Go.RowKit
/-- two digests laid over the first zeros behind F, in either order -/
theorem lay_two (F S E : List UInt8) (q b o1 o2 : Nat) (hS : S.length = 32) (hE : E.length = 32) (hb : b ≤ 1) (h1 : o1 = F.length + 32 * b) (h2 : o2 = F.length + 32 * (1 - b)) :
    spl (spl (bcells (F ++ List.replicate (64 + q) 0)) o1 S) o2 E = bcells (F ++ ((if b = 0 then S ++ E else E ++ S) ++ List.replicate q 0)) := by
  rw [spl_bcells, spl_bcells]
  congr 1
  have hz : List.replicate (64 + q) (0 : UInt8) = zero32 ++ (zero32 ++ List.replicate q 0) := by
    unfold zero32
    rw [← List.append_assoc, List.replicate_append_replicate, List.replicate_append_replicate]
  have hl : zero32.length = 32 := by unfold zero32; rw [List.length_replicate]
  rw [h1, h2, splice_app, splice_app, hz]
  congr 1
  rcases Nat.eq_zero_or_pos b with h0 | h0
  · subst h0
    rw [if_pos rfl, Nat.mul_zero, splice_zero _ _ _ (by omega)]
    have := splice_app S (zero32 ++ List.replicate q 0) E 0
    rw [hS] at this
    rw [show 32 * (1 - 0) = 32 + 0 by omega, this, splice_zero _ _ _ (by omega), List.append_assoc]
  · obtain rfl : b = 1 := by omega
    have := splice_app zero32 (zero32 ++ List.replicate q 0) S 0
    rw [hl] at this
    rw [if_neg (by omega), show 32 * 1 = 32 + 0 by omega, this, splice_zero zero32 _ S (by omega), show 32 * (1 - 1) = 0 by omega, splice_zero _ _ _ (by omega), List.append_assoc]
/-- the row of digests behind m rounds -/
def ledR (d : List UInt8) (L : List (List UInt8)) (n m : Nat) : List UInt8 := flat (ledN d L m) ++ List.replicate ((2 * n - 2 * m) * 32) 0
theorem ledR_zero (d : List UInt8) (L : List (List UInt8)) (n : Nat) : ledR d L n 0 = List.replicate (2 * n * 32) 0 := by
  unfold ledR; rw [ledN, show flat ([] : List (List UInt8)) = [] from rfl, List.nil_append, Nat.mul_zero, Nat.sub_zero]
theorem ledR_all (d : List UInt8) (L : List (List UInt8)) (n : Nat) : ledR d L n n = flat (ledN d L n) := by
  unfold ledR; rw [Nat.sub_self, Nat.zero_mul, List.replicate_zero, List.append_nil]
theorem ledR_length (d : List UInt8) {L : List (List UInt8)} (hL : Digs L) (n m : Nat) (h : 2 * m ≤ L.length) (hm : m ≤ n) : (ledR d L n m).length = 2 * n * 32 := by
  unfold ledR; rw [List.length_append, flat_length (ledN_digs d hL m h), ledN_length, List.length_replicate]; omega
theorem ledR_step (d : List UInt8) {L : List (List UInt8)} (hL : Digs L) (n m o1 o2 : Nat) (x y : List UInt8) (hx : L[2 * m]? = some x) (hy : L[2 * m + 1]? = some y) (hm : m < n)
    (h1 : o1 = 32 * (2 * m + bitN d m)) (h2 : o2 = 32 * (2 * m + 1 - bitN d m)) : spl (spl (bcells (ledR d L n m)) o1 (sumL x)) o2 y = bcells (ledR d L n (m + 1)) := by
  have hlen := (List.getElem?_eq_some_iff.1 hy).1
  have hb := bitN_01 d m
  have hfl : (flat (ledN d L m)).length = 64 * m := by rw [flat_length (ledN_digs d hL m (by omega)), ledN_length]; omega
  have e := lay_two (flat (ledN d L m)) (sumL x) y ((2 * n - 2 * (m + 1)) * 32) (bitN d m) o1 o2 (sumL_length x) (hL.get hy) (by omega) (by omega) (by omega)
  have hq : (2 * n - 2 * m) * 32 = 64 + (2 * n - 2 * (m + 1)) * 32 := by omega
  unfold ledR
  rw [hq, e, ledN, flat_app, List.append_assoc]
  congr 2
  unfold twoL
  rw [List.getD_eq_getElem?_getD, List.getD_eq_getElem?_getD, hx, hy]
  congr 1
  rcases hb with h | h
  · rw [h, if_pos rfl, if_pos rfl]; simp [flat]
  · rw [h, if_neg (by omega), if_neg (by omega)]; simp [flat]
set_option maxRecDepth 100000 in
set_option maxHeartbeats 400000 in
theorem Recover_no (n : Int) (A B : Option Addr) (nt ct ns cs : Nat) (w : World) (h : n < 1 ∨ 256 < n) : Calls Tryd.prog 47 #[.int .i64 n, .slice A nt ct, .slice B ns cs] w (RecD w zero32 1) := by
  have HM := Lib.hid (fun w => mayBe_no n w h)
  clear h
  go_enter Tryd.func47, Tryd.ntmps47
  go_wp2_with (first
    | (go_at_call 74; refine (HM.out _).mono ?_; rintro e1 w1 ⟨rfl, rfl⟩)
    | (with_reducible refine wpList_store_row Tryd.agg25 rfl (.tmp 6) (.tmp 15) rfl _ _ rfl rfl 23 lit32 (Row.new w 23 lit32) lit32_size lit32_size lit32_one ?_; intro w9 hr9 ho9; have HR9 := Lib.hid hr9; clear hr9))
  exact bodyPost_ret (results_row2 Tryd.agg25 Tryd.results47 rfl rfl HR9.out lit32_size) rfl ⟨rfl, ((Below.refl _ _).alloc (Nat.le_refl _) _).trans (ho9.below (Nat.le_refl _) (by simp))⟩
set_option maxRecDepth 100000 in
set_option maxHeartbeats 400000 in
theorem Recover_form (n : Nat) (A B : Option Addr) (nt ct ns cs : Nat) (w : World) (h1 : 1 ≤ n) (h2 : n ≤ 256) (hns : ns ≠ 2 * n) : Calls Tryd.prog 47 #[.int .i64 (n : Int), .slice A nt ct, .slice B ns cs] w (RecD w zero32 41) := by
  have HM := Lib.hid (fun w => mayBe_yes (n : Int) w (by omega) (by omega))
  have hne : ((ns : Int) != 2 * (n : Int)) = true := by simp; omega
  clear hns
  go_enter Tryd.func47, Tryd.ntmps47
  go_wp2_with (first
    | (go_at_call 74; refine (HM.out _).mono ?_; rintro e1 w1 ⟨rfl, rfl⟩)
    | (with_reducible refine wpList_store_row Tryd.agg25 rfl (.tmp 6) (.tmp 21) rfl _ _ rfl rfl 23 lit32 (Row.new w 23 lit32) lit32_size lit32_size lit32_one ?_; intro w9 hr9 ho9; have HR9 := Lib.hid hr9; clear hr9))
  exact bodyPost_ret (results_row2 Tryd.agg25 Tryd.results47 rfl rfl HR9.out lit32_size) rfl ⟨rfl, ((Below.refl _ _).alloc (Nat.le_refl _) _).trans (ho9.below (Nat.le_refl _) (by simp))⟩
set_option maxRecDepth 100000 in
set_option maxHeartbeats 2000000 in
theorem Recover_ok (n : Nat) (A B : Option Addr) (nt ct ns cs : Nat) (l : List UInt8) (L : List (List UInt8)) (w : World) (h1 : 1 ≤ n) (h2 : n ≤ 256) (hns : ns = 2 * n) (hB : Bs w A nt l) (hnc : nt ≤ ct) (hnt : nt ≤ 1000000) (hD : Ds w B ns L) (hT : Tab 1 w) :
    Calls Tryd.prog 47 #[.int .i64 (n : Int), .slice A nt ct, .slice B ns cs] w (RecD w (rootL (ledN (sumL l) L n)) 0) := by
  have HMB := Lib.hid (fun w => mayBe_yes (n : Int) w (by omega) (by omega))
  have hne : ((ns : Int) != 2 * (n : Int)) = false := by simp; omega
  have hmk := run_madeD (2 * n) (2 * n) (2 * (n : Int)) (2 * (n : Int)) (by omega) (by omega) (by omega) (by omega)
  have hcut := run_cut_all (P := Tryd.prog) Tryd.under23 Tryd.size5
  have HT := Lib.hid hT
  have hT2 := hT.1
  have HNS := Lib.hid hns
  have HD := Lib.hid hD
  have hb0 := (Below.refl w.heap.size w).alloc (Nat.le_refl _) (.cells lit32 23)
  have HM := Lib.hid (Sum_any A nt ct l _ (hB.below hb0) hnc (hT.below hb0) (by omega))
  have HDL := Lib.hid (sumL_length l)
  have HDS := Lib.hid (show (bcells (sumL l)).size = 32 by rw [bcells_size, sumL_length])
  generalize sumL l = D at *
  have HLD : Hid (Digs (ledN D L n)) := Lib.hid (ledN_digs D hD.2.1 n (by rw [hD.1, hns]; exact Nat.le_refl _))
  have HRS := Lib.hid (show (bcells (rootL (ledN D L n))).size = 32 by rw [bcells_size, rootL_length])
  have HRT := Lib.hid (fun A m c w hD hT hn => Root_any A m c (ledN D L n) w hD hT hn)
  generalize rootL (ledN D L n) = R at *
  have HL0 := Lib.hid (ledR_zero D L n)
  clear hT hB hD hns
  go_enter Tryd.func47, Tryd.ntmps47
  go_wp2_with (first
    | (go_at_call 74; refine (HMB.out _).mono ?_; rintro e1 w1 ⟨rfl, rfl⟩)
    | (go_at_call 75; refine HM.out.mono ?_; rintro e1 w1 ⟨rfl, hb1⟩; have hs1 := hb1.size; simp at hs1; have HR1 := Lib.hid ((Row.new w 23 lit32).below hb1 (by simp)); have hb1' := hb0.trans (hb1.mono (by simp)))
    | (with_reducible refine wpList_store_row Tryd.agg25 rfl (.tmp 8) (.tmp 23) rfl _ _ rfl rfl 23 lit32 (Row.new w1 23 lit32) HDS.out lit32_size (bcells_one _) ?_; intro w2 hr2 ho2; have HD2 := Lib.hid hr2; have hs2 := ho2.size; simp at hs2; have HR2 := Lib.hid ((HR1.out.alloc (.cells lit32 23)).only ho2 (by omega)); have hb2 := (hb1'.alloc hb1'.size (.cells lit32 23)).trans (ho2.below (B := w.heap.size) (by omega) (by simp; omega)); clear hr2))
  rw [← HL0.out]
  go_loopw [28] (fun i wr => ∃ m : Nat, m ≤ n ∧ i = .int .i64 (m : Int) ∧ Below w.heap.size w wr ∧ Row wr w.heap.size 23 lit32 ∧ Row wr w1.heap.size 23 (bcells D) ∧ Row wr w2.heap.size 23 (bcells (ledR D L n m))) (fun i _ => n - (intOf i).toNat)
  case atStart => exact ⟨0, Nat.zero_le _, rfl, hb2.alloc hb2.size _, HR2.out.alloc _, HD2.out.alloc _, Row.new _ _ _⟩
  case round =>
    obtain ⟨m, hm, rfl, hbel, hrow, hrowD, hrowP⟩ := hrel
    have hbs := hbel.size
    have hlP := hrowP.lt
    have HRr := Lib.hid hrow
    have HRD := Lib.hid hrowD
    have HRP := Lib.hid hrowP
    have HTr := Lib.hid (HT.out.below hbel)
    clear hrow hrowD hrowP
    by_cases hlt : m < n
    · have him : (m : Int) < (n : Int) := by omega
      have HBO := Lib.hid (fun w => bitOf_any D m (m : Int) w HDL.out rfl (by omega))
      have hns := HNS.out
      obtain ⟨bs, os, x, rfl, hbs0, hx, hxl, hBx⟩ := HD.out.get (k := 2 * m) (by omega)
      obtain ⟨bs', os', y, ee, _, hy, hyl, hBy⟩ := HD.out.get (k := 2 * m + 1) (by omega)
      injection ee with ee
      injection ee with e1 e2
      subst e1 e2
      have HBX := Lib.hid hBx
      have HBY := Lib.hid hBy
      have HYL := Lib.hid hyl
      have HSL := Lib.hid (sumL_length x)
      have HSX := Lib.hid (fun A w hB hT => Sum_any A 32 32 x w hB (Nat.le_refl _) hT (by omega))
      obtain ⟨p1, hp1⟩ : ∃ p, p = 32 * (2 * m + bitN D m) := ⟨_, rfl⟩
      obtain ⟨p2, hp2⟩ : ∃ p, p = 32 * (2 * m + 1 - bitN D m) := ⟨_, rfl⟩
      have HST := Lib.hid (ledR_step D HD.out.2.1 n m p1 p2 x y hx hy hlt hp1 hp2)
      have HSZ : Hid ((bcells (ledR D L n m)).size = 2 * n * 32) := Lib.hid (by rw [bcells_size, ledR_length D HD.out.2.1 n m (by rw [HD.out.1, hns]; omega) hm])
      obtain ⟨b, hb⟩ : ∃ b, bitN D m = b := ⟨_, rfl⟩
      have hb01 : b ≤ 1 := by have := bitN_01 D m; omega
      rw [hb] at HBO hp1 hp2
      obtain ⟨o1, ho1⟩ : ∃ o, os + 32 * (2 * m) = o := ⟨_, rfl⟩
      obtain ⟨o2, ho2⟩ : ∃ o, os + 32 * (2 * m + 1) = o := ⟨_, rfl⟩
      rw [ho1] at HBX
      rw [ho2] at HBY
      have HO1 := Lib.hid ho1
      have HO2 := Lib.hid ho2
      have HP1 := Lib.hid hp1
      have HP2 := Lib.hid hp2
      have hk1 : 2 * m < ns := by omega
      have hk2 : 2 * m + 1 < ns := by omega
      have hq1 : 2 * m + b < 2 * n := by omega
      have hq2 : 2 * m + 1 - b < 2 * n := by omega
      generalize sumL x = SX at *
      obtain ⟨X1, hX1⟩ : ∃ X, ledR D L n (m + 1) = X := ⟨_, rfl⟩
      rw [hX1] at HST
      have HX1 := Lib.hid hX1
      clear hX1
      generalize ledR D L n m = X0 at *
      clear hx hy hBx hBy hyl hb ho1 ho2 hp1 hp2 hns hxl
      go_wp2_with (first
        | (with_reducible refine wpList_load_row Tryd.agg25 rfl (.tmp 8) rfl _ rfl 23 _ HRD.out HDS.out ?_)
        | (go_at_call 76; refine (HBO.out wr).mono ?_; rintro e9 wq ⟨rfl, hbq⟩; have hsq := hbq.size; have HRPq := Lib.hid (HRP.out.below hbq (by omega)); have HRDq := Lib.hid (HRD.out.below hbq (by omega)); have HRrq := Lib.hid (HRr.out.below hbq (by omega)); have hbelq := hbel.trans (hbq.mono hbs); have HTq := Lib.hid (HTr.out.below hbq))
        | (with_reducible refine wpList_indexO rfl (.tmp 39) (.tmp 41) rfl bs os ns cs (2 * m) o1 _ rfl rfl (by omega) hk1 HO1.out ?_)
        | (go_at_call 75; refine (HSX.out _ wq (HBX.out.below hbelq) HTq.out).mono ?_; rintro e3 w3 ⟨rfl, hb3⟩; have hs3 := hb3.size; have HRP3 := Lib.hid (HRPq.out.below hb3 (by omega)); have HRD3 := Lib.hid (HRDq.out.below hb3 (by omega)); have HRr3 := Lib.hid (HRrq.out.below hb3 (by omega)); have hb3' := hbelq.trans (hb3.mono hbelq.size))
        | (with_reducible refine wpList_indexO rfl (.tmp 34) (.tmp 38) rfl w2.heap.size 0 (2 * n) (2 * n) (2 * m + b) p1 _ rfl rfl (by omega) hq1 (by have := HP1.out; omega) ?_)
        | (with_reducible refine wpList_storeD rfl (.tmp 45) (.tmp 44) rfl w2.heap.size p1 SX rfl rfl 23 _ HRP3.out HSL.out (by rw [HSZ.out, HP1.out]; omega) ?_; intro w5 hr5 ho5; have HRP5 := Lib.hid hr5; have HRD5 := Lib.hid (HRD3.out.only ho5 (by omega)); have HRr5 := Lib.hid (HRr3.out.only ho5 (by omega)); have hs5 := ho5.size; have hb5 := hb3'.trans (ho5.below (B := w.heap.size) (by omega) hb3'.size); clear hr5)
        | (with_reducible refine wpList_indexO rfl (.tmp 52) (.tmp 55) rfl bs os ns cs (2 * m + 1) o2 _ rfl rfl (by omega) hk2 HO2.out ?_)
        | (with_reducible refine wpList_loadD rfl (.tmp 56) rfl bs o2 y rfl (HBY.out.below hb5).range HYL.out ?_)
        | (with_reducible refine wpList_indexO rfl (.tmp 46) (.tmp 51) rfl w2.heap.size 0 (2 * n) (2 * n) (2 * m + 1 - b) p2 _ rfl rfl (by omega) hq2 (by have := HP2.out; omega) ?_)
        | (with_reducible refine wpList_storeD rfl (.tmp 58) (.tmp 57) rfl w2.heap.size p2 y rfl rfl 23 _ HRP5.out HYL.out (by rw [spl_size _ _ _ (by rw [HSL.out, HSZ.out, HP1.out]; omega), HSZ.out, HP2.out]; omega) ?_; intro w7 hr7 ho7; rw [HST.out] at hr7; have HRP7 := Lib.hid hr7; have HRD7 := Lib.hid (HRD5.out.only ho7 (by omega)); have HRr7 := Lib.hid (HRr5.out.only ho7 (by omega)); have hb7 := hb5.trans (ho7.below (B := w.heap.size) (by omega) hb5.size); clear hr7))
      go_roundw
      case rel => exact ⟨m + 1, by omega, by go_num, hb7, HRr7.out, HRD7.out, by rw [HX1.out]; exact HRP7.out⟩
      case measure => simp [intOf]; omega
    · obtain rfl : n = m := by omega
      have HDn : Hid (Ds wr (some ⟨w2.heap.size, 0, none⟩) (2 * n) (ledN D L n)) := Lib.hid (by
        refine ⟨ledN_length D L n, HLD.out, ?_⟩
        have h := HRP.out
        rw [ledR_all] at h
        exact h.bsB (by rw [flat_length HLD.out, ledN_length]))
      go_wp2_with (first
        | (go_at_call 66; refine (HRT.out _ _ _ wr HDn.out HTr.out (by omega)).mono ?_; rintro e3 w3 ⟨rfl, hb3⟩; have HR3 := Lib.hid (HRr.out.below hb3 (by omega)); have hb3' := hbel.trans (hb3.mono hbs))
        | (with_reducible refine wpList_store_row Tryd.agg25 rfl (.tmp 6) (.tmp 61) rfl _ _ rfl rfl 23 lit32 HR3.out HRS.out lit32_size (bcells_one _) ?_; intro w9 hr9 ho9; have HR9 := Lib.hid hr9; clear hr9))
      exact bodyPost_ret (results_row2 Tryd.agg25 Tryd.results47 rfl rfl HR9.out HRS.out) rfl ⟨rfl, hb3'.trans (ho9.below (Nat.le_refl _) hb3'.size)⟩
end
end Go.Proofs.YtfelmdndjdaniaaDoor
