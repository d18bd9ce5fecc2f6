/-
  What ots.Sign and the document's own Sign answer: a text's signature, or the error. Laws for arithmetic in a region that draws its order.
-/
import Derived.Test.YtghihgmgadaoeaaDoorPub
namespace Go.Proofs.YtghihgmgadaoeaaDoor
open Go.RowKit
theorem wrap_small (r : Int) (h0 : -1000000 ≤ r) (h1 : r ≤ 1000000) : IntKind.i64.wrap r = r := by rw [IntKind.wrap_i64]; omega
theorem yields_sub {ops : Array Oper} {S : World → Prop} {o : Oper} {a : Act} (hgd : o.guard = none) (x y : Operand) (ho : o.op = .binOp .sub 3 x y 3) (p q r : Int)
    (hx : a.eval x = .int .i64 p) (hy : a.eval y = .int .i64 q) (hr : p - q = r) (h0 : -1000000 ≤ r) (h1 : r ≤ 1000000) : YieldsIf Tryd.prog ops S o (.int .i64 r) a :=
  .inl ⟨by simp [Region.wanted, hgd], fun w _ => by
    have hw := wrap_small r h0 h1
    unfold execOp
    simp only [ho, hx, hy]
    go_simp⟩
theorem yields_add {ops : Array Oper} {S : World → Prop} {o : Oper} {a : Act} (hgd : o.guard = none) (x y : Operand) (ho : o.op = .binOp .add 3 x y 3) (p q r : Int)
    (hx : a.eval x = .int .i64 p) (hy : a.eval y = .int .i64 q) (hr : p + q = r) (h0 : -1000000 ≤ r) (h1 : r ≤ 1000000) : YieldsIf Tryd.prog ops S o (.int .i64 r) a :=
  .inl ⟨by simp [Region.wanted, hgd], fun w _ => by
    have hw := wrap_small r h0 h1
    unfold execOp
    simp only [ho, hx, hy]
    go_simp⟩
theorem yields_mul {ops : Array Oper} {S : World → Prop} {o : Oper} {a : Act} (hgd : o.guard = none) (x y : Operand) (ho : o.op = .binOp .mul 3 x y 3) (p q r : Int)
    (hx : a.eval x = .int .i64 p) (hy : a.eval y = .int .i64 q) (hr : p * q = r) (h0 : -1000000 ≤ r) (h1 : r ≤ 1000000) : YieldsIf Tryd.prog ops S o (.int .i64 r) a :=
  .inl ⟨by simp [Region.wanted, hgd], fun w _ => by
    have hw := wrap_small r h0 h1
    unfold execOp
    simp only [ho, hx, hy]
    go_simp⟩
set_option maxHeartbeats 400000 in
theorem Sign_no (s : List UInt8) (n : Int) (A : Option Addr) (nt ct : Nat) (w : World) (h : n < 1 ∨ 256 < n) : Calls Tryd.prog 15 #[.agg (bcells s), .int .i64 n, .slice A nt ct] w (NewD w [] 1) := by
  have HM := Lib.hid (fun w => mayBe_no n w h)
  clear h
  go_enter Tryd.func15, Tryd.ntmps15
  go_wp2_with (go_at_call 25; refine (HM.out _).mono ?_; rintro e1 w1 ⟨rfl, rfl⟩)
  go_ret2
  exact ⟨none, 0, rfl, Nat.le_refl _, Ds.nil _ _, (Below.refl _ _).alloc (Nat.le_refl _) _⟩
set_option maxHeartbeats 400000 in
theorem RefSign_no (s : List UInt8) (n : Int) (A : Option Addr) (nt ct : Nat) (w : World) (h : n < 1 ∨ 256 < n) : Calls Tryd.prog 17 #[.agg (bcells s), .int .i64 n, .slice A nt ct] w (NewD w [] 1) := by
  have HM := Lib.hid (fun w => Right_no n w h)
  clear h
  go_enter Tryd.func17, Tryd.ntmps17
  go_wp2_with (go_at_call 20; refine (HM.out _).mono ?_; rintro e1 w1 ⟨rfl, rfl⟩)
  go_ret2
  exact ⟨none, 0, rfl, Nat.le_refl _, Ds.nil _ _, (Below.refl _ _).alloc (Nat.le_refl _) _⟩
set_option maxRecDepth 100000 in
set_option maxHeartbeats 2000000 in
theorem Sign_ok (s : List UInt8) (n : Nat) (A : Option Addr) (nt ct : Nat) (l : List UInt8) (w : World) (hs : s.length = 32) (h1 : 1 ≤ n) (h2 : n ≤ 256) (hB : Bs w A nt l) (hnc : nt ≤ ct) (hnt : nt ≤ 1000000) (hT : Tab 2 w) :
    Calls Tryd.prog 15 #[.agg (bcells s), .int .i64 (n : Int), .slice A nt ct] w (NewD w (sigN s (sumL l) n) 0) := by
  have HMB := Lib.hid (fun w => mayBe_yes (n : Int) w (by omega) (by omega))
  have hmk := run_madeD 0 (2 * n) 0 (2 * (n : Int)) rfl (by omega) (by omega) (by omega)
  have HT := Lib.hid hT
  have hT2 := hT.1
  have rl : (s.map bcell).length = 32 := by rw [List.length_map, hs]
  have rz : (Tryd.prog.info? 23).map (·.size) = some (s.map bcell).length := by rw [rl]; exact Tryd.sizeD
  have ru := Tryd.under23
  have HS := Lib.hid hs
  have hb0 := (Below.refl w.heap.size w).alloc (Nat.le_refl _) (.cells (bcells s) 23)
  have HM := Lib.hid (Sum_any A nt ct l _ (hB.below hb0) hnc (hT.below hb0) (by omega))
  have HDL := Lib.hid (sumL_length l)
  have HDS := Lib.hid (show (bcells (sumL l)).size = 32 by rw [bcells_size, sumL_length])
  generalize sumL l = D at *
  clear hT hs rl hB
  go_enter Tryd.func15, Tryd.ntmps15
  go_wp2_with (first
    | (go_at_call 25; refine (HMB.out _).mono ?_; rintro e1 w1 ⟨rfl, rfl⟩)
    | (go_at_call 32; refine HM.out.mono ?_; rintro e1 w1 ⟨rfl, hb1⟩; have hs1 := hb1.size; simp at hs1; have HR1 := Lib.hid ((Row.new w 23 (bcells s)).below hb1 (by simp)); have hb1' := hb0.trans (hb1.mono (by simp)))
    | (with_reducible refine wpList_store_row Tryd.agg25 rfl (.tmp 8) (.tmp 16) rfl _ _ rfl rfl 23 lit32 (Row.new w1 23 lit32) HDS.out lit32_size (bcells_one _) ?_; intro w2 hr2 ho2; have HD2 := Lib.hid hr2; have hs2 := ho2.size; simp at hs2; have HR2 := Lib.hid ((HR1.out.alloc (.cells lit32 23)).only ho2 (by omega)); have hb2 := (hb1'.alloc hb1'.size (.cells lit32 23)).trans (ho2.below (B := w.heap.size) (by omega) (by simp; omega)); clear hr2))
  go_loopw [9, 21] (fun p i wr => ∃ (m : Nat) (A1 : Option Addr) (c1 : Nat), m ≤ n ∧ i = .int .i64 (m : Int) ∧ p = .slice A1 (2 * m) c1 ∧ Below w.heap.size w wr ∧ w2.heap.size ≤ wr.heap.size ∧ Row wr w.heap.size 23 (bcells s) ∧ Row wr w1.heap.size 23 (bcells D) ∧ OwnD wr w2.heap.size (.slice A1 (2 * m) c1) (2 * m) (sigN s D m)) (fun _ i _ => n - (intOf i).toNat)
  case atStart => exact ⟨0, _, 2 * n, Nat.zero_le _, rfl, rfl, hb2.alloc hb2.size _, by simp, HR2.out.alloc _, HD2.out.alloc _, by have h := OwnD.made w2 w2.heap.size (2 * n) (bcells (List.replicate (2 * n * 32) 0)) (Nat.le_refl _) (by omega) (by rw [bcells_size, List.length_replicate]); exact h⟩
  case round =>
    obtain ⟨m, A1, c1, hm, rfl, rfl, hbel, hs3, hrow, hrowD, hown⟩ := hrel
    have hbs := hbel.size
    have HRS := Lib.hid hrow
    have HRD := Lib.hid hrowD
    have HO := Lib.hid hown
    clear hrow hown hrowD
    by_cases hlt : m < n
    · have him : (m : Int) < (n : Int) := by omega
      have HP := Lib.hid (show sigN s D (m + 1) = sigN s D m ++ [secL s m (bitN D m), hidL s m (1 - bitN D m)] from rfl)
      have HBO := Lib.hid (fun w => bitOf_any D m (m : Int) w HDL.out rfl (by omega))
      obtain ⟨b, hb⟩ : ∃ b, bitN D m = b := ⟨_, rfl⟩
      have hb01 : b ≤ 1 := by have := bitN_01 D m; omega
      rw [hb] at HP HBO
      have HD0 := Lib.hid (secL_length s m b)
      have HD1 := Lib.hid (hidL_length s m (1 - b))
      have HH0 := Lib.hid (fun w hT => secret_any s m b (m : Int) (b : Int) w HS.out rfl rfl (by omega) hb01 hT)
      have HH1 := Lib.hid (fun w hT => hidden_any s m (1 - b) (m : Int) (1 - (b : Int)) w HS.out rfl (by omega) (by omega) (by omega) hT)
      have HTr := Lib.hid (HT.out.below hbel)
      have HB01 := Lib.hid hb01
      clear hb hb01
      generalize secL s m b = D0 at *
      generalize hidL s m (1 - b) = D1 at *
      go_wp2_with (first
        | (with_reducible refine wpList_load_row Tryd.agg25 rfl (.tmp 8) rfl _ rfl 23 _ HRD.out HDS.out ?_)
        | (go_at_call 33; refine (HBO.out wr).mono ?_; rintro e9 wq ⟨rfl, hbq⟩; have hsq := hbq.size; have hltq : w.heap.size < wq.heap.size := (by omega); have HRSq := Lib.hid (HRS.out.below hbq (by omega)); have HRDq := Lib.hid (HRD.out.below hbq (by omega)); have HOq := Lib.hid (HO.out.below hbq); have hbelq := hbel.trans (hbq.mono hbs); have HTq := Lib.hid (HTr.out.below hbq)))
      have K0 := Lib.hid (show wq.drew.rangeAt w.heap.size 0 (s.map bcell) by exact range_row (HRSq.out.below ((Below.refl _ _).drew) hltq))
      refine wp_region_noPanic ?_
      refine wp_region_held_drew (S := fun w' => w'.rangeAt w.heap.size 0 (s.map bcell)) (by kernel_rfl) K0.out (fun hHeld => ?_)
      refine takeD (i := 0) (some 27) (.slice A1 (2 * m) c1) rfl rfl (by kernel_rfl) (by kernel_rfl) (by kernel_rfl) (fun _ _ _ h => h) (Or.inl ⟨by rfl, fun _ _ => rfl⟩) hHeld ?_
      simp only [Act.put, List.setIfInBounds_toArray, List.set_cons_zero, List.set_cons_succ]
      refine takeD (i := 1) (some 28) (.agg (s.map bcell).toArray) rfl rfl (by kernel_rfl) (by kernel_rfl) (by kernel_rfl) (fun _ _ _ h => h) (yieldsIf_load_mid (by rfl) _ _ rfl _ _ rfl _ _ (fun _ h => h) ru rfl rz) hHeld ?_
      simp only [Act.put, List.setIfInBounds_toArray, List.set_cons_zero, List.set_cons_succ]
      refine takeD (i := 2) (some 29) (.int .i64 (m : Int)) rfl rfl (by kernel_rfl) (by kernel_rfl) (by kernel_rfl) (fun _ _ _ h => h) (Or.inl ⟨by rfl, fun _ _ => rfl⟩) hHeld ?_
      simp only [Act.put, List.setIfInBounds_toArray, List.set_cons_zero, List.set_cons_succ]
      refine takeD (i := 3) (some 30) (.int .i64 (b : Int)) rfl rfl (by kernel_rfl) (by kernel_rfl) (by kernel_rfl) (fun _ _ _ h => h) (Or.inl ⟨by rfl, fun _ _ => rfl⟩) hHeld ?_
      simp only [Act.put, List.setIfInBounds_toArray, List.set_cons_zero, List.set_cons_succ]
      refine takeD (i := 5) (some 32) (.agg (s.map bcell).toArray) rfl rfl (by kernel_rfl) (by kernel_rfl) (by kernel_rfl) (fun _ _ _ h => h) (yieldsIf_load_mid (by rfl) _ _ rfl _ _ rfl _ _ (fun _ h => h) ru rfl rz) hHeld ?_
      simp only [Act.put, List.setIfInBounds_toArray, List.set_cons_zero, List.set_cons_succ]
      refine takeD (i := 6) (some 33) (.int .i64 (m : Int)) rfl rfl (by kernel_rfl) (by kernel_rfl) (by kernel_rfl) (fun _ _ _ h => h) (Or.inl ⟨by rfl, fun _ _ => rfl⟩) hHeld ?_
      simp only [Act.put, List.setIfInBounds_toArray, List.set_cons_zero, List.set_cons_succ]
      refine takeD (i := 7) (some 34) (.int .i64 (b : Int)) rfl rfl (by kernel_rfl) (by kernel_rfl) (by kernel_rfl) (fun _ _ _ h => h) (Or.inl ⟨by rfl, fun _ _ => rfl⟩) hHeld ?_
      simp only [Act.put, List.setIfInBounds_toArray, List.set_cons_zero, List.set_cons_succ]
      refine takeD (i := 8) (some 35) (.int .i64 (1 - (b : Int))) rfl rfl (by kernel_rfl) (by kernel_rfl) (by kernel_rfl) (fun _ _ _ h => h) (yields_sub rfl (.const (.int .i64 1)) (.tmp 34) rfl 1 (b : Int) (1 - (b : Int)) rfl rfl rfl (by have := HB01.out; omega) (by omega)) hHeld ?_
      simp only [Act.put, List.setIfInBounds_toArray, List.set_cons_zero, List.set_cons_succ]
      have B0 : Below wq.heap.size wq wq.drew := (Below.refl wq.heap.size wq).drew
      refine wpAnyH_ready (rs := [4]) (by kernel_rfl) (by decide) ?_
      refine AllReadyH.cons rfl (fun K' hK => ?_) AllReadyH.nil
      go_simp
      refine (HH0.out wq.drew (HTq.out.below B0)).mono ?_
      rintro e3 w3 ⟨rfl, hb3⟩
      have B3 : Below wq.heap.size wq w3 := B0.trans (hb3.mono B0.size)
      refine hK.out _ _ (range_row (HRSq.out.below B3 hltq)) (fun hHeld3 => ?_)
      clear hK
      refine wpAnyH_ready (rs := [9]) (by kernel_rfl) (by decide) ?_
      refine AllReadyH.cons rfl (fun K' hK => ?_) AllReadyH.nil
      go_simp
      refine (HH1.out w3 (HTq.out.below B3)).mono ?_
      rintro e4 w4 ⟨rfl, hb4⟩
      have B4 : Below wq.heap.size wq w4 := B3.trans (hb4.mono B3.size)
      refine hK.out _ _ (range_row (HRSq.out.below B4 hltq)) (fun hHeld4 => ?_)
      clear hK
      refine wpAnyH_ready (rs := [10]) (by kernel_rfl) (by decide) ?_
      refine AllReadyH.cons rfl (fun K' hK => ?_) AllReadyH.nil
      refine step_of rfl (wp_buildD (.tmp 31) (.tmp 36) rfl D0 D1 rfl rfl HD0.out HD1.out ?_)
      have B5 : Below wq.heap.size wq (w4.alloc (.cells (bcells (D0 ++ D1)) 23)) := B4.alloc B4.size _
      refine hK.out _ _ (range_row (HRSq.out.below B5 hltq)) (fun hHeld5 => ?_)
      clear hK
      refine wpAnyH_ready (rs := [11]) (by kernel_rfl) (by decide) ?_
      refine AllReadyH.cons rfl (fun K' hK => ?_) AllReadyH.nil
      refine step_of rfl (wp_appD (.tmp 27) (.tmp 37) rfl w2.heap.size _ (2 * m) (sigN s D m) rfl (HOq.out.below B5) _ 2 2 [D0, D1] rfl (two_ds w4 D0 D1 HD0.out HD1.out) (by omega) (by have := B5.size; omega) ?_)
      intro A6 c6 w6 ho6 hb6
      have HO6 := Lib.hid ho6
      have hs5 := B5.size
      have HR6 := Lib.hid ((HRSq.out.below B5 hltq).below hb6 (by omega))
      have HD6 := Lib.hid ((HRDq.out.below B5 (by omega)).below hb6 (by omega))
      have hs6 := hb6.size
      have B6 : Below w.heap.size w w6 := (hbelq.trans (B5.mono (by omega))).trans (hb6.mono (by omega))
      clear ho6
      refine hK.out _ _ (range_row HR6.out) (fun hHeld6 => ?_)
      clear hK
      refine wpAnyH_ready (rs := [12]) (by kernel_rfl) (by decide) ?_
      refine AllReadyH.cons rfl (fun K' hK => ?_) AllReadyH.nil
      go_simp
      refine hK.out _ _ (range_row HR6.out) (fun hHeld7 => ?_)
      clear hK
      (try simp only [Act.put, List.setIfInBounds_toArray])
      refine wpAnyH_done (by kernel_rfl) ?_ _
      refine NoPanic.normal ?_
      go_wp2_with fail
      refine ⟨⟨m + 1, A6, c6, by omega, by go_num, rfl, B6, by omega, HR6.out, HD6.out, ?_⟩, by simp [intOf]; omega⟩
      rw [HP.out]
      exact HO6.out
    · obtain rfl : n = m := by omega
      go_wp2_with fail
      go_ret2
      exact (HO.out.mono (by omega)).new hbel
set_option maxRecDepth 100000 in
set_option maxHeartbeats 2000000 in
theorem RefSign_ok (s : List UInt8) (n : Nat) (A : Option Addr) (nt ct : Nat) (l : List UInt8) (w : World) (hs : s.length = 32) (h1 : 1 ≤ n) (h2 : n ≤ 256) (hB : Bs w A nt l) (hnc : nt ≤ ct) (hnt : nt ≤ 1000000) (hF : First w) (hT : Tab 1 w) :
    Calls Tryd.prog 17 #[.agg (bcells s), .int .i64 (n : Int), .slice A nt ct] w (NewD w (sigN s (sumL l) n) 0) := by
  have HMB := Lib.hid (fun w => Right_yes (n : Int) w (by omega) (by omega))
  have HT := Lib.hid hT
  have HF := Lib.hid hF
  have rl : (s.map bcell).length = 32 := by rw [List.length_map, hs]
  have rz : (Tryd.prog.info? 23).map (·.size) = some (s.map bcell).length := by rw [rl]; exact Tryd.sizeD
  have ru := Tryd.under23
  have HS := Lib.hid hs
  have HB := Lib.hid hB
  have HBT := Lib.hid (fun (m : Nat) w hB hm hF hT => RefBitT_any A nt ct l m (m : Int) w hB hnc rfl hm hF hT hnt)
  generalize sumL l = D at *
  clear hT hF hs rl hB
  go_enter Tryd.func17, Tryd.ntmps17
  go_wp2_with (go_at_call 20; refine (HMB.out _).mono ?_; rintro e1 w1 ⟨rfl, rfl⟩)
  go_loopw [8, 9] (fun p i wr => ∃ (m : Nat) (A1 : Option Addr) (c1 : Nat), m ≤ n ∧ i = .int .i64 (m : Int) ∧ p = .slice A1 (2 * m) c1 ∧ Below w.heap.size w wr ∧ Row wr w.heap.size 23 (bcells s) ∧ OwnD wr (w.heap.size + 1) (.slice A1 (2 * m) c1) (2 * m) (sigN s D m)) (fun _ i _ => n - (intOf i).toNat)
  case atStart => exact ⟨0, none, 0, Nat.zero_le _, rfl, rfl, (Below.refl _ _).alloc (Nat.le_refl _) _, Row.new _ _ _, OwnD.nil _ _⟩
  case round =>
    obtain ⟨m, A1, c1, hm, rfl, rfl, hbel, hrow, hown⟩ := hrel
    have hbs := hbel.size
    have hlts := hrow.lt
    have HRS := Lib.hid hrow
    have HO := Lib.hid hown
    clear hrow hown
    by_cases hlt : m < n
    · have him : (m : Int) < (n : Int) := by omega
      have HP := Lib.hid (show sigN s D (m + 1) = sigN s D m ++ [secL s m (bitN D m), hidL s m (1 - bitN D m)] from rfl)
      have HTr := Lib.hid (HT.out.below hbel)
      have HFr := Lib.hid (HF.out.below hbel)
      have HBO := Lib.hid (HBT.out m wr (HB.out.below hbel) (by omega) HFr.out HTr.out)
      obtain ⟨b, hb⟩ : ∃ b, bitN D m = b := ⟨_, rfl⟩
      have hb01 : b ≤ 1 := by have := bitN_01 D m; omega
      rw [hb] at HP HBO
      have HD0 := Lib.hid (secL_length s m b)
      have HD1 := Lib.hid (hidL_length s m (1 - b))
      have HH0 := Lib.hid (fun w hF hT => RefSecret_any s m b (m : Int) (b : Int) w HS.out rfl rfl (by omega) hb01 hF hT)
      have HH1 := Lib.hid (fun w hF hT => RefSecret_any s m (1 - b) (m : Int) (1 - (b : Int)) w HS.out rfl (by omega) (by omega) (by omega) hF hT)
      have HG1 := Lib.hid (fun w hF hT => show Calls Tryd.prog 27 #[.agg (bcells (secL s m (1 - b)))] w fun e w' => e = .returned (.agg (bcells (hidL s m (1 - b)))) ∧ Below w.heap.size w w' from RefDSum_any (secL s m (1 - b)) w (secL_length s m (1 - b)) hF hT)
      have HB01 := Lib.hid hb01
      clear hb hb01
      generalize secL s m b = D0 at *
      generalize hidL s m (1 - b) = D1 at *
      generalize secL s m (1 - b) = S1 at *
      go_wp2_with (go_at_call 35; refine HBO.out.mono ?_; rintro e9 wq ⟨rfl, hbq⟩; have hsq := hbq.size; have hltq : w.heap.size < wq.heap.size := (by omega); have HRSq := Lib.hid (HRS.out.below hbq (by omega)); have HOq := Lib.hid (HO.out.below hbq); have hbelq := hbel.trans (hbq.mono hbs); have HTq := Lib.hid (HTr.out.below hbq); have HFq := Lib.hid (HFr.out.below hbq))
      have K0 := Lib.hid (show wq.drew.rangeAt w.heap.size 0 (s.map bcell) by exact range_row (HRSq.out.below ((Below.refl _ _).drew) hltq))
      refine wp_region_noPanic ?_
      refine wp_region_held_drew (S := fun w' => w'.rangeAt w.heap.size 0 (s.map bcell)) (by kernel_rfl) K0.out (fun hHeld => ?_)
      refine takeD (i := 0) (some 22) (.slice A1 (2 * m) c1) rfl rfl (by kernel_rfl) (by kernel_rfl) (by kernel_rfl) (fun _ _ _ h => h) (Or.inl ⟨by rfl, fun _ _ => rfl⟩) hHeld ?_
      simp only [Act.put, List.setIfInBounds_toArray, List.set_cons_zero, List.set_cons_succ]
      refine takeD (i := 1) (some 23) (.agg (s.map bcell).toArray) rfl rfl (by kernel_rfl) (by kernel_rfl) (by kernel_rfl) (fun _ _ _ h => h) (yieldsIf_load_mid (by rfl) _ _ rfl _ _ rfl _ _ (fun _ h => h) ru rfl rz) hHeld ?_
      simp only [Act.put, List.setIfInBounds_toArray, List.set_cons_zero, List.set_cons_succ]
      refine takeD (i := 2) (some 24) (.int .i64 (m : Int)) rfl rfl (by kernel_rfl) (by kernel_rfl) (by kernel_rfl) (fun _ _ _ h => h) (Or.inl ⟨by rfl, fun _ _ => rfl⟩) hHeld ?_
      simp only [Act.put, List.setIfInBounds_toArray, List.set_cons_zero, List.set_cons_succ]
      refine takeD (i := 3) (some 25) (.int .i64 (b : Int)) rfl rfl (by kernel_rfl) (by kernel_rfl) (by kernel_rfl) (fun _ _ _ h => h) (Or.inl ⟨by rfl, fun _ _ => rfl⟩) hHeld ?_
      simp only [Act.put, List.setIfInBounds_toArray, List.set_cons_zero, List.set_cons_succ]
      refine takeD (i := 5) (some 27) (.agg (s.map bcell).toArray) rfl rfl (by kernel_rfl) (by kernel_rfl) (by kernel_rfl) (fun _ _ _ h => h) (yieldsIf_load_mid (by rfl) _ _ rfl _ _ rfl _ _ (fun _ h => h) ru rfl rz) hHeld ?_
      simp only [Act.put, List.setIfInBounds_toArray, List.set_cons_zero, List.set_cons_succ]
      refine takeD (i := 6) (some 28) (.int .i64 (m : Int)) rfl rfl (by kernel_rfl) (by kernel_rfl) (by kernel_rfl) (fun _ _ _ h => h) (Or.inl ⟨by rfl, fun _ _ => rfl⟩) hHeld ?_
      simp only [Act.put, List.setIfInBounds_toArray, List.set_cons_zero, List.set_cons_succ]
      refine takeD (i := 7) (some 29) (.int .i64 (b : Int)) rfl rfl (by kernel_rfl) (by kernel_rfl) (by kernel_rfl) (fun _ _ _ h => h) (Or.inl ⟨by rfl, fun _ _ => rfl⟩) hHeld ?_
      simp only [Act.put, List.setIfInBounds_toArray, List.set_cons_zero, List.set_cons_succ]
      refine takeD (i := 8) (some 30) (.int .i64 (1 - (b : Int))) rfl rfl (by kernel_rfl) (by kernel_rfl) (by kernel_rfl) (fun _ _ _ h => h) (yields_sub rfl (.const (.int .i64 1)) (.tmp 29) rfl 1 (b : Int) (1 - (b : Int)) rfl rfl rfl (by have := HB01.out; omega) (by omega)) hHeld ?_
      simp only [Act.put, List.setIfInBounds_toArray, List.set_cons_zero, List.set_cons_succ]
      have B0 : Below wq.heap.size wq wq.drew := (Below.refl wq.heap.size wq).drew
      refine wpAnyH_ready (rs := [4]) (by kernel_rfl) (by decide) ?_
      refine AllReadyH.cons rfl (fun K' hK => ?_) AllReadyH.nil
      go_simp
      refine (HH0.out wq.drew (HFq.out.below B0) (HTq.out.below B0)).mono ?_
      rintro e3 w2 ⟨rfl, hb2⟩
      have B2 : Below wq.heap.size wq w2 := B0.trans (hb2.mono B0.size)
      refine hK.out _ _ (range_row (HRSq.out.below B2 hltq)) (fun hHeld2 => ?_)
      clear hK
      refine wpAnyH_ready (rs := [9]) (by kernel_rfl) (by decide) ?_
      refine AllReadyH.cons rfl (fun K' hK => ?_) AllReadyH.nil
      go_simp
      refine (HH1.out w2 (HFq.out.below B2) (HTq.out.below B2)).mono ?_
      rintro e3 w3 ⟨rfl, hb3⟩
      have B3 : Below wq.heap.size wq w3 := B2.trans (hb3.mono B2.size)
      refine hK.out _ _ (range_row (HRSq.out.below B3 hltq)) (fun hHeld3 => ?_)
      clear hK
      refine wpAnyH_ready (rs := [10]) (by kernel_rfl) (by decide) ?_
      refine AllReadyH.cons rfl (fun K' hK => ?_) AllReadyH.nil
      go_simp
      refine (HG1.out w3 (HFq.out.below B3) (HTq.out.below B3)).mono ?_
      rintro e4 w4 ⟨rfl, hb4⟩
      have B4 : Below wq.heap.size wq w4 := B3.trans (hb4.mono B3.size)
      refine hK.out _ _ (range_row (HRSq.out.below B4 hltq)) (fun hHeld4 => ?_)
      clear hK
      refine wpAnyH_ready (rs := [11]) (by kernel_rfl) (by decide) ?_
      refine AllReadyH.cons rfl (fun K' hK => ?_) AllReadyH.nil
      refine step_of rfl (wp_buildD (.tmp 26) (.tmp 32) rfl D0 D1 rfl rfl HD0.out HD1.out ?_)
      have B5 : Below wq.heap.size wq (w4.alloc (.cells (bcells (D0 ++ D1)) 23)) := B4.alloc B4.size _
      refine hK.out _ _ (range_row (HRSq.out.below B5 hltq)) (fun hHeld5 => ?_)
      clear hK
      refine wpAnyH_ready (rs := [12]) (by kernel_rfl) (by decide) ?_
      refine AllReadyH.cons rfl (fun K' hK => ?_) AllReadyH.nil
      refine step_of rfl (wp_appD (.tmp 22) (.tmp 33) rfl (w.heap.size + 1) _ (2 * m) (sigN s D m) rfl (HOq.out.below B5) _ 2 2 [D0, D1] rfl (two_ds w4 D0 D1 HD0.out HD1.out) (by omega) (by have := B5.size; omega) ?_)
      intro A6 c6 w6 ho6 hb6
      have HO6 := Lib.hid ho6
      have hs5 := B5.size
      have HR6 := Lib.hid ((HRSq.out.below B5 hltq).below hb6 (by omega))
      have B6 : Below w.heap.size w w6 := (hbelq.trans (B5.mono (by omega))).trans (hb6.mono (by omega))
      clear ho6
      refine hK.out _ _ (range_row HR6.out) (fun hHeld6 => ?_)
      clear hK
      refine wpAnyH_ready (rs := [13]) (by kernel_rfl) (by decide) ?_
      refine AllReadyH.cons rfl (fun K' hK => ?_) AllReadyH.nil
      go_simp
      refine hK.out _ _ (range_row HR6.out) (fun hHeld7 => ?_)
      clear hK
      (try simp only [Act.put, List.setIfInBounds_toArray])
      refine wpAnyH_done (by kernel_rfl) ?_ _
      refine NoPanic.normal ?_
      go_wp2_with fail
      refine ⟨⟨m + 1, A6, c6, by omega, by go_num, rfl, B6, HR6.out, ?_⟩, by simp [intOf]; omega⟩
      rw [HP.out]
      exact HO6.out
    · obtain rfl : n = m := by omega
      go_wp2_with fail
      go_ret2
      exact (HO.out.mono (by omega)).new hbel
end Go.Proofs.YtghihgmgadaoeaaDoor
