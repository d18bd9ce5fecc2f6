/-
  What proof.Root and the document's own Root answer of any list of up to a thousand digests: the root, by the split (they call themselves).
-/
import Derived.Test.YtbpbpdaohganaaaDoorNodeB
import Derived.Test.YtbpbpdaohganaaaDoorSplitA
namespace Go.Proofs.YtbpbpdaohganaaaDoor
open Go.RowKit
abbrev rootL (L : List (List UInt8)) : List UInt8 := rootP nodeL (sumL []) L
theorem rootL_length (L : List (List UInt8)) (h : Digs L) : (rootL L).length = 32 := rootP_all nodeL (sumL []) (fun d => d.length = 32) nodeL_length (sumL_length _) L h
theorem yields_sliceH {ops : Array Oper} {S : World → Prop} {o : Oper} {a : Act} (hgd : o.guard = none) (x y : Operand) (ho : o.op = .slice 28 x none (some y) none) (X Y v : Value)
    (hx : a.eval x = X) (hy : a.eval y = Y) (hrun : ∀ w, (Instr.sliceAt 28 X none (some Y) none).run Tryd.prog w = .ok v w) : YieldsIf Tryd.prog ops S o v a :=
  .inl ⟨by simp [Region.wanted, hgd], fun w _ => by
    unfold execOp
    simp [ho, hx, hy, hrun]⟩
theorem yields_sliceF {ops : Array Oper} {S : World → Prop} {o : Oper} {a : Act} (hgd : o.guard = none) (x y : Operand) (ho : o.op = .slice 28 x (some y) none none) (X Y v : Value)
    (hx : a.eval x = X) (hy : a.eval y = Y) (hrun : ∀ w, (Instr.sliceAt 28 X (some Y) none none).run Tryd.prog w = .ok v w) : YieldsIf Tryd.prog ops S o v a :=
  .inl ⟨by simp [Region.wanted, hgd], fun w _ => by
    unfold execOp
    simp [ho, hx, hy, hrun]⟩
set_option maxRecDepth 100000 in
set_option maxHeartbeats 400000 in
theorem root_nil (A : Option Addr) (c : Nat) (L : List (List UInt8)) (w : World) (hD : Ds w A 0 L) (hT : Tab 1 w) :
    Calls Tryd.prog 35 #[.slice A 0 c] w fun e w' => e = .returned (.agg (bcells (rootL L))) ∧ Below w.heap.size w w' := by
  obtain rfl : L = [] := List.eq_nil_of_length_eq_zero hD.1
  show Calls Tryd.prog 35 #[.slice A 0 c] w fun e w' => e = .returned (.agg (bcells (rootP nodeL (sumL []) []))) ∧ Below w.heap.size w w'
  rw [rootP_nil]
  have HS := Lib.hid (show (bcells (sumL [])).size = 32 by rw [bcells_size, sumL_length])
  have HM := Lib.hid (fun w1 hT => show Calls Tryd.prog 49 #[.slice none 0 0] w1 fun e w' => e = .returned (.agg (bcells (sumL []))) ∧ Below w1.heap.size w1 w' from Sum_any none 0 0 [] w1 (Bs.nil _ _) (Nat.le_refl _) hT (by omega))
  generalize sumL [] = R at *
  have hb0 := (Below.refl w.heap.size w).alloc (Nat.le_refl _) (.cells lit32 46)
  have HZ0 := Lib.hid (Row.new w 46 lit32)
  have HT := Lib.hid hT
  clear hD hT
  go_enter Tryd.func35, Tryd.ntmps35
  go_wp2_with (first
    | (go_at_call 49; refine (HM.out _ (HT.out.below hb0)).mono ?_; rintro e1 w1 ⟨rfl, hb1⟩; have HZ1 := Lib.hid (HZ0.out.below hb1 (by simp)); have hb1' := hb0.trans (hb1.mono (by simp)))
    | (with_reducible refine wpList_store_row Tryd.agg25 rfl (.tmp 2) (.tmp 7) rfl _ _ rfl rfl 46 lit32 HZ1.out HS.out lit32_size (bcells_one _) ?_; intro w9 hr9 ho9; have HR9 := Lib.hid hr9; clear hr9))
  exact bodyPost_ret (results_row1 Tryd.agg25 Tryd.results35 rfl HR9.out HS.out) rfl ⟨rfl, hb1'.trans (ho9.below (Nat.le_refl _) hb1'.size)⟩
set_option maxRecDepth 100000 in
set_option maxHeartbeats 400000 in
theorem root_one (A : Option Addr) (c : Nat) (L : List (List UInt8)) (w : World) (hD : Ds w A 1 L) :
    Calls Tryd.prog 35 #[.slice A 1 c] w fun e w' => e = .returned (.agg (bcells (rootL L))) ∧ Below w.heap.size w w' := by
  have hb0 := (Below.refl w.heap.size w).alloc (Nat.le_refl _) (.cells lit32 46)
  obtain ⟨b, off, d, rfl, hb, hd, hdl, hB⟩ := (hD.below hb0).get (k := 0) (by omega)
  have he : rootL L = d := by
    have h1 := hD.1
    match L, h1, hd with
    | [x], _, hd => show rootP nodeL (sumL []) [x] = d; rw [rootP_one]; simpa using hd
  rw [he]
  have HRG := Lib.hid hB.range
  have HDL := Lib.hid hdl
  have HDS := Lib.hid (show (bcells d).size = 32 by rw [bcells_size, hdl])
  obtain ⟨o1, ho1⟩ : ∃ o, off + 32 * 0 = o := ⟨_, rfl⟩
  rw [ho1] at HRG
  have HO1 := Lib.hid ho1
  clear hD hB hd he hdl ho1
  go_enter Tryd.func35, Tryd.ntmps35
  go_wp2_with (first
    | (with_reducible refine wpList_indexO rfl (.tmp 11) _ rfl b off 1 c 0 o1 _ rfl rfl rfl (by omega) HO1.out ?_)
    | (with_reducible refine wpList_loadD rfl (.tmp 12) rfl b o1 d rfl HRG.out HDL.out ?_)
    | (with_reducible refine wpList_store_row Tryd.agg25 rfl (.tmp 2) (.tmp 13) rfl _ _ rfl rfl 46 lit32 (Row.new w 46 lit32) HDS.out lit32_size (bcells_one _) ?_; intro w9 hr9 ho9; have HR9 := Lib.hid hr9; clear hr9))
  exact bodyPost_ret (results_row1 Tryd.agg25 Tryd.results35 rfl HR9.out HDS.out) rfl ⟨rfl, hb0.trans (ho9.below (Nat.le_refl _) (by simp))⟩
set_option maxRecDepth 100000 in
set_option maxHeartbeats 2000000 in
theorem root_two (h n : Nat) (A : Option Addr) (c : Nat) (L : List (List UInt8)) (w : World) (h2 : 2 ≤ n) (hs : splitN n = h) (hn : n ≤ 1024) (hc : n ≤ c) (hD : Ds w A n L) (hT : Tab 1 w) (X Y : List UInt8) (hX : X.length = 32) (hY : Y.length = 32)
    (h1 : ∀ A' c' w', h ≤ c' → Ds w' A' h (L.take h) → Tab 1 w' → Calls Tryd.prog 35 #[.slice A' h c'] w' fun e w'' => e = .returned (.agg (bcells X)) ∧ Below w'.heap.size w' w'')
    (h2' : ∀ A' c' w', n - h ≤ c' → Ds w' A' (n - h) (L.drop h) → Tab 1 w' → Calls Tryd.prog 35 #[.slice A' (n - h) c'] w' fun e w'' => e = .returned (.agg (bcells Y)) ∧ Below w'.heap.size w' w'') :
    Calls Tryd.prog 35 #[.slice A n c] w fun e w' => e = .returned (.agg (bcells (nodeL X Y))) ∧ Below w.heap.size w w' := by
  have hlt := splitN_lt h2
  have hpos := splitN_pos n
  rw [hs] at hlt hpos
  have HSP := Lib.hid (fun w => show Calls Tryd.prog 50 #[.int .i64 (n : Int)] w fun e w' => e = .returned (.int .i64 (h : Int)) ∧ w = w' by have q := split_any n w h2 (by omega); rwa [hs] at q)
  have hne0 : ((n : Int) == 0) = false := by simp; omega
  have hne : ((n : Int) == 1) = false := by simp; omega
  obtain ⟨A1, r1, d1, _⟩ := cutD_head A n c h (h : Int) rfl (by omega) hc
  obtain ⟨A2, r2, d2, _⟩ := cutD_from A n c h (h : Int) rfl (by omega) hc
  obtain ⟨c2, hc2⟩ : ∃ c2, c - h = c2 := ⟨_, rfl⟩
  obtain ⟨m, hm⟩ : ∃ m, n - h = m := ⟨_, rfl⟩
  rw [hc2, hm] at r2
  rw [hm] at d2 h2'
  have HR1 := Lib.hid r1
  have HR2 := Lib.hid r2
  have hb0 := (Below.refl w.heap.size w).alloc (Nat.le_refl _) (.cells lit32 46)
  have HD1 := Lib.hid (fun w' hb => d1 w' L (hD.below hb))
  have HD2 := Lib.hid (fun w' hb => d2 w' L (hD.below hb))
  have HC1 := Lib.hid (fun w' => h1 A1 c w' (by omega))
  have HC2 := Lib.hid (fun w' => h2' A2 c2 w' (by omega))
  have HAB := Lib.hid (fun w hT => Node_any X Y w hX hY hT)
  have HAS := Lib.hid (show (bcells (nodeL X Y)).size = 32 by rw [bcells_size, nodeL_length])
  have HT := Lib.hid hT
  generalize nodeL X Y = Z at *
  have HZ0 := Lib.hid (Row.new w 46 lit32)
  obtain ⟨wz, hwz⟩ : ∃ wz, w.alloc (.cells lit32 46) = wz := ⟨_, rfl⟩
  have hltz : w.heap.size < wz.heap.size := by rw [← hwz]; simp
  rw [hwz] at hb0 HZ0
  clear hn h2 hs r1 r2 d1 d2 hc2 hm h1 h2' hD hT hX hY
  go_enter Tryd.func35, Tryd.ntmps35
  go_wp2_with (go_at_call 50; refine (HSP.out _).mono ?_; rintro e2 w2 ⟨rfl, rfl⟩)
  clear hwz
  refine wp_region_noPanic ?_
  refine wp_region_held_drew (S := fun w' => True) (by kernel_rfl) trivial (fun hHeld => ?_)
  refine takeD (i := 0) (some 17) (.slice A n c) rfl rfl (by kernel_rfl) (by kernel_rfl) (by kernel_rfl) (fun _ _ _ h => h) (Or.inl ⟨by rfl, fun _ _ => rfl⟩) hHeld ?_
  simp only [Act.put, List.setIfInBounds_toArray, List.set_cons_zero, List.set_cons_succ]
  refine takeD (i := 1) (some 18) (.int .i64 (h : Int)) rfl rfl (by kernel_rfl) (by kernel_rfl) (by kernel_rfl) (fun _ _ _ h => h) (Or.inl ⟨by rfl, fun _ _ => rfl⟩) hHeld ?_
  simp only [Act.put, List.setIfInBounds_toArray, List.set_cons_zero, List.set_cons_succ]
  refine takeD (i := 2) (some 19) (.slice A1 h c) rfl rfl (by kernel_rfl) (by kernel_rfl) (by kernel_rfl) (fun _ _ _ h => h) (yields_sliceH rfl (.tmp 17) (.tmp 18) rfl _ _ _ rfl rfl HR1.out) hHeld ?_
  simp only [Act.put, List.setIfInBounds_toArray, List.set_cons_zero, List.set_cons_succ]
  refine takeD (i := 4) (some 21) (.slice A n c) rfl rfl (by kernel_rfl) (by kernel_rfl) (by kernel_rfl) (fun _ _ _ h => h) (Or.inl ⟨by rfl, fun _ _ => rfl⟩) hHeld ?_
  simp only [Act.put, List.setIfInBounds_toArray, List.set_cons_zero, List.set_cons_succ]
  refine takeD (i := 5) (some 22) (.int .i64 (h : Int)) rfl rfl (by kernel_rfl) (by kernel_rfl) (by kernel_rfl) (fun _ _ _ h => h) (Or.inl ⟨by rfl, fun _ _ => rfl⟩) hHeld ?_
  simp only [Act.put, List.setIfInBounds_toArray, List.set_cons_zero, List.set_cons_succ]
  refine takeD (i := 6) (some 23) (.slice A2 m c2) rfl rfl (by kernel_rfl) (by kernel_rfl) (by kernel_rfl) (fun _ _ _ h => h) (yields_sliceF rfl (.tmp 21) (.tmp 22) rfl _ _ _ rfl rfl HR2.out) hHeld ?_
  simp only [Act.put, List.setIfInBounds_toArray, List.set_cons_zero, List.set_cons_succ]
  have B0 : Below w.heap.size w wz.drew := hb0.drew
  refine wpAnyH_ready (rs := [3]) (by kernel_rfl) (by decide) ?_
  refine AllReadyH.cons rfl (fun K' hK => ?_) AllReadyH.nil
  go_simp
  refine (HC1.out wz.drew (HD1.out _ B0) (HT.out.below B0)).mono ?_
  rintro e3 w3 ⟨rfl, hb3⟩
  have B3 : Below w.heap.size w w3 := B0.trans (hb3.mono B0.size)
  have HZ3 := Lib.hid (HZ0.out.below (B := wz.heap.size) ((Below.refl _ _).drew.trans hb3) hltz)
  refine hK.out _ _ trivial (fun hHeld3 => ?_)
  clear hK
  refine wpAnyH_ready (rs := [7]) (by kernel_rfl) (by decide) ?_
  refine AllReadyH.cons rfl (fun K' hK => ?_) AllReadyH.nil
  go_simp
  refine (HC2.out w3 (HD2.out _ B3) (HT.out.below B3)).mono ?_
  rintro e4 w4 ⟨rfl, hb4⟩
  have B4 : Below w.heap.size w w4 := B3.trans (hb4.mono B3.size)
  have HZ4 := Lib.hid (HZ3.out.below hb4 HZ3.out.lt)
  refine hK.out _ _ trivial (fun hHeld4 => ?_)
  clear hK
  refine wpAnyH_ready (rs := [8]) (by kernel_rfl) (by decide) ?_
  refine AllReadyH.cons rfl (fun K' hK => ?_) AllReadyH.nil
  go_simp
  refine (HAB.out w4 (HT.out.below B4)).mono ?_
  rintro e5 w5 ⟨rfl, hb5⟩
  have B5 : Below w.heap.size w w5 := B4.trans (hb5.mono B4.size)
  have HZ5 := Lib.hid (HZ4.out.below hb5 HZ4.out.lt)
  refine hK.out _ _ trivial (fun hHeld5 => ?_)
  clear hK
  refine wpAnyH_ready (rs := [9]) (by kernel_rfl) (by decide) ?_
  refine AllReadyH.cons rfl (fun K' hK => ?_) AllReadyH.nil
  refine step_store_row Tryd.agg25 rfl (.tmp 2) (.tmp 25) rfl _ _ rfl rfl 46 lit32 HZ5.out HAS.out lit32_size (bcells_one _) ?_
  intro w9 hr9 ho9
  have HR9 := Lib.hid hr9
  clear hr9
  refine hK.out _ _ trivial (fun hHeld9 => ?_)
  clear hK
  (try simp only [Act.put, List.setIfInBounds_toArray])
  refine wpAnyH_done (by kernel_rfl) ?_ _
  refine NoPanic.normal ?_
  go_wp2_with fail
  exact bodyPost_ret (results_row1 Tryd.agg25 Tryd.results35 rfl HR9.out HAS.out) rfl ⟨rfl, B5.trans (ho9.below (Nat.le_refl _) B5.size)⟩
theorem root_ok (A : Option Addr) (n c : Nat) (L : List (List UInt8)) (w : World) (hn : n ≤ 1024) (hc : n ≤ c) (hD : Ds w A n L) (hT : Tab 1 w) :
    Calls Tryd.prog 35 #[.slice A n c] w fun e w' => e = .returned (.agg (bcells (rootL L))) ∧ Below w.heap.size w w' := by
  by_cases h0 : n = 0
  · subst h0; exact root_nil A c L w hD hT
  by_cases h1 : n = 1
  · subst h1; exact root_one A c L w hD
  have h2 : 2 ≤ n := by omega
  have hlt := splitN_lt h2
  have hpos := splitN_pos n
  have e : rootL L = nodeL (rootL (L.take (splitN n))) (rootL (L.drop (splitN n))) := by
    have q := rootP_two nodeL (sumL []) (L := L) (by rw [hD.1]; exact h2)
    rwa [hD.1] at q
  rw [e]
  exact root_two (splitN n) n A c L w h2 rfl hn hc hD hT _ _ (rootL_length _ (hD.2.1.take _)) (rootL_length _ (hD.2.1.dropL _))
    (fun A' c' w' h1 h2' h3 => root_ok A' (splitN n) c' _ w' (by omega) h1 h2' h3)
    (fun A' c' w' h1 h2' h3 => root_ok A' (n - splitN n) c' _ w' (by omega) h1 h2' h3)
termination_by n
set_option maxRecDepth 100000 in
set_option maxHeartbeats 400000 in
theorem Refroot_nil (A : Option Addr) (c : Nat) (L : List (List UInt8)) (w : World) (hD : Ds w A 0 L) (hF : First w) (hT : Tab 4 w) :
    Calls Tryd.prog 36 #[.slice A 0 c] w fun e w' => e = .returned (.agg (bcells (rootL L))) ∧ Below w.heap.size w w' := by
  obtain rfl : L = [] := List.eq_nil_of_length_eq_zero hD.1
  show Calls Tryd.prog 36 #[.slice A 0 c] w fun e w' => e = .returned (.agg (bcells (rootP nodeL (sumL []) []))) ∧ Below w.heap.size w w'
  rw [rootP_nil]
  have HS := Lib.hid (show (bcells (sumL [])).size = 32 by rw [bcells_size, sumL_length])
  have HM := Lib.hid (fun w1 hF hT => show Calls Tryd.prog 46 #[.slice none 0 0] w1 fun e w' => e = .returned (.agg (bcells (sumL []))) ∧ Below w1.heap.size w1 w' from RefSum_any none 0 0 [] w1 (Bs.nil _ _) (Nat.le_refl _) hF hT (by omega))
  generalize sumL [] = R at *
  have hb0 := (Below.refl w.heap.size w).alloc (Nat.le_refl _) (.cells lit32 46)
  have HZ0 := Lib.hid (Row.new w 46 lit32)
  have HF := Lib.hid hF
  have HT := Lib.hid hT
  clear hD hF hT
  go_enter Tryd.func36, Tryd.ntmps36
  go_wp2_with (first
    | (go_at_call 46; refine (HM.out _ (HF.out.below hb0) (HT.out.below hb0)).mono ?_; rintro e1 w1 ⟨rfl, hb1⟩; have HZ1 := Lib.hid (HZ0.out.below hb1 (by simp)); have hb1' := hb0.trans (hb1.mono (by simp)))
    | (with_reducible refine wpList_store_row Tryd.agg25 rfl (.tmp 2) (.tmp 7) rfl _ _ rfl rfl 46 lit32 HZ1.out HS.out lit32_size (bcells_one _) ?_; intro w9 hr9 ho9; have HR9 := Lib.hid hr9; clear hr9))
  exact bodyPost_ret (results_row1 Tryd.agg25 Tryd.results36 rfl HR9.out HS.out) rfl ⟨rfl, hb1'.trans (ho9.below (Nat.le_refl _) hb1'.size)⟩
set_option maxRecDepth 100000 in
set_option maxHeartbeats 400000 in
theorem Refroot_one (A : Option Addr) (c : Nat) (L : List (List UInt8)) (w : World) (hD : Ds w A 1 L) :
    Calls Tryd.prog 36 #[.slice A 1 c] w fun e w' => e = .returned (.agg (bcells (rootL L))) ∧ Below w.heap.size w w' := by
  have hb0 := (Below.refl w.heap.size w).alloc (Nat.le_refl _) (.cells lit32 46)
  obtain ⟨b, off, d, rfl, hb, hd, hdl, hB⟩ := (hD.below hb0).get (k := 0) (by omega)
  have he : rootL L = d := by
    have h1 := hD.1
    match L, h1, hd with
    | [x], _, hd => show rootP nodeL (sumL []) [x] = d; rw [rootP_one]; simpa using hd
  rw [he]
  have HRG := Lib.hid hB.range
  have HDL := Lib.hid hdl
  have HDS := Lib.hid (show (bcells d).size = 32 by rw [bcells_size, hdl])
  obtain ⟨o1, ho1⟩ : ∃ o, off + 32 * 0 = o := ⟨_, rfl⟩
  rw [ho1] at HRG
  have HO1 := Lib.hid ho1
  clear hD hB hd he hdl ho1
  go_enter Tryd.func36, Tryd.ntmps36
  go_wp2_with (first
    | (with_reducible refine wpList_indexO rfl (.tmp 11) _ rfl b off 1 c 0 o1 _ rfl rfl rfl (by omega) HO1.out ?_)
    | (with_reducible refine wpList_loadD rfl (.tmp 12) rfl b o1 d rfl HRG.out HDL.out ?_)
    | (with_reducible refine wpList_store_row Tryd.agg25 rfl (.tmp 2) (.tmp 13) rfl _ _ rfl rfl 46 lit32 (Row.new w 46 lit32) HDS.out lit32_size (bcells_one _) ?_; intro w9 hr9 ho9; have HR9 := Lib.hid hr9; clear hr9))
  exact bodyPost_ret (results_row1 Tryd.agg25 Tryd.results36 rfl HR9.out HDS.out) rfl ⟨rfl, hb0.trans (ho9.below (Nat.le_refl _) (by simp))⟩
set_option maxRecDepth 100000 in
set_option maxHeartbeats 2000000 in
theorem Refroot_two (h n : Nat) (A : Option Addr) (c : Nat) (L : List (List UInt8)) (w : World) (h2 : 2 ≤ n) (hs : splitN n = h) (hn : n ≤ 1024) (hc : n ≤ c) (hD : Ds w A n L) (hF : First w) (hT : Tab 4 w) (X Y : List UInt8) (hX : X.length = 32) (hY : Y.length = 32)
    (h1 : ∀ A' c' w', h ≤ c' → Ds w' A' h (L.take h) → First w' → Tab 4 w' → Calls Tryd.prog 36 #[.slice A' h c'] w' fun e w'' => e = .returned (.agg (bcells X)) ∧ Below w'.heap.size w' w'')
    (h2' : ∀ A' c' w', n - h ≤ c' → Ds w' A' (n - h) (L.drop h) → First w' → Tab 4 w' → Calls Tryd.prog 36 #[.slice A' (n - h) c'] w' fun e w'' => e = .returned (.agg (bcells Y)) ∧ Below w'.heap.size w' w'') :
    Calls Tryd.prog 36 #[.slice A n c] w fun e w' => e = .returned (.agg (bcells (nodeL X Y))) ∧ Below w.heap.size w w' := by
  have hlt := splitN_lt h2
  have hpos := splitN_pos n
  rw [hs] at hlt hpos
  have HSP := Lib.hid (fun w => show Calls Tryd.prog 52 #[.int .i64 (n : Int)] w fun e w' => e = .returned (.int .i64 (h : Int)) ∧ w = w' by have q := RefSplit_any n w h2 (by omega); rwa [hs] at q)
  have hne0 : ((n : Int) == 0) = false := by simp; omega
  have hne : ((n : Int) == 1) = false := by simp; omega
  obtain ⟨A1, r1, d1, _⟩ := cutD_head A n c h (h : Int) rfl (by omega) hc
  obtain ⟨A2, r2, d2, _⟩ := cutD_from A n c h (h : Int) rfl (by omega) hc
  obtain ⟨c2, hc2⟩ : ∃ c2, c - h = c2 := ⟨_, rfl⟩
  obtain ⟨m, hm⟩ : ∃ m, n - h = m := ⟨_, rfl⟩
  rw [hc2, hm] at r2
  rw [hm] at d2 h2'
  have HR1 := Lib.hid r1
  have HR2 := Lib.hid r2
  have hb0 := (Below.refl w.heap.size w).alloc (Nat.le_refl _) (.cells lit32 46)
  have HD1 := Lib.hid (fun w' hb => d1 w' L (hD.below hb))
  have HD2 := Lib.hid (fun w' hb => d2 w' L (hD.below hb))
  have HC1 := Lib.hid (fun w' => h1 A1 c w' (by omega))
  have HC2 := Lib.hid (fun w' => h2' A2 c2 w' (by omega))
  have HAB := Lib.hid (fun w hF hT => RefNode_any X Y w hX hY hF hT)
  have HAS := Lib.hid (show (bcells (nodeL X Y)).size = 32 by rw [bcells_size, nodeL_length])
  have HF := Lib.hid hF
  have HT := Lib.hid hT
  generalize nodeL X Y = Z at *
  have HZ0 := Lib.hid (Row.new w 46 lit32)
  obtain ⟨wz, hwz⟩ : ∃ wz, w.alloc (.cells lit32 46) = wz := ⟨_, rfl⟩
  have hltz : w.heap.size < wz.heap.size := by rw [← hwz]; simp
  rw [hwz] at hb0 HZ0
  clear hn h2 hs r1 r2 d1 d2 hc2 hm h1 h2' hD hF hT hX hY
  go_enter Tryd.func36, Tryd.ntmps36
  go_wp2_with (go_at_call 52; refine (HSP.out _).mono ?_; rintro e2 w2 ⟨rfl, rfl⟩)
  clear hwz
  refine wp_region_noPanic ?_
  refine wp_region_held_drew (S := fun w' => True) (by kernel_rfl) trivial (fun hHeld => ?_)
  refine takeD (i := 0) (some 17) (.slice A n c) rfl rfl (by kernel_rfl) (by kernel_rfl) (by kernel_rfl) (fun _ _ _ h => h) (Or.inl ⟨by rfl, fun _ _ => rfl⟩) hHeld ?_
  simp only [Act.put, List.setIfInBounds_toArray, List.set_cons_zero, List.set_cons_succ]
  refine takeD (i := 1) (some 18) (.int .i64 (h : Int)) rfl rfl (by kernel_rfl) (by kernel_rfl) (by kernel_rfl) (fun _ _ _ h => h) (Or.inl ⟨by rfl, fun _ _ => rfl⟩) hHeld ?_
  simp only [Act.put, List.setIfInBounds_toArray, List.set_cons_zero, List.set_cons_succ]
  refine takeD (i := 2) (some 19) (.slice A1 h c) rfl rfl (by kernel_rfl) (by kernel_rfl) (by kernel_rfl) (fun _ _ _ h => h) (yields_sliceH rfl (.tmp 17) (.tmp 18) rfl _ _ _ rfl rfl HR1.out) hHeld ?_
  simp only [Act.put, List.setIfInBounds_toArray, List.set_cons_zero, List.set_cons_succ]
  refine takeD (i := 4) (some 21) (.slice A n c) rfl rfl (by kernel_rfl) (by kernel_rfl) (by kernel_rfl) (fun _ _ _ h => h) (Or.inl ⟨by rfl, fun _ _ => rfl⟩) hHeld ?_
  simp only [Act.put, List.setIfInBounds_toArray, List.set_cons_zero, List.set_cons_succ]
  refine takeD (i := 5) (some 22) (.int .i64 (h : Int)) rfl rfl (by kernel_rfl) (by kernel_rfl) (by kernel_rfl) (fun _ _ _ h => h) (Or.inl ⟨by rfl, fun _ _ => rfl⟩) hHeld ?_
  simp only [Act.put, List.setIfInBounds_toArray, List.set_cons_zero, List.set_cons_succ]
  refine takeD (i := 6) (some 23) (.slice A2 m c2) rfl rfl (by kernel_rfl) (by kernel_rfl) (by kernel_rfl) (fun _ _ _ h => h) (yields_sliceF rfl (.tmp 21) (.tmp 22) rfl _ _ _ rfl rfl HR2.out) hHeld ?_
  simp only [Act.put, List.setIfInBounds_toArray, List.set_cons_zero, List.set_cons_succ]
  have B0 : Below w.heap.size w wz.drew := hb0.drew
  refine wpAnyH_ready (rs := [3]) (by kernel_rfl) (by decide) ?_
  refine AllReadyH.cons rfl (fun K' hK => ?_) AllReadyH.nil
  go_simp
  refine (HC1.out wz.drew (HD1.out _ B0) (HF.out.below B0) (HT.out.below B0)).mono ?_
  rintro e3 w3 ⟨rfl, hb3⟩
  have B3 : Below w.heap.size w w3 := B0.trans (hb3.mono B0.size)
  have HZ3 := Lib.hid (HZ0.out.below (B := wz.heap.size) ((Below.refl _ _).drew.trans hb3) hltz)
  refine hK.out _ _ trivial (fun hHeld3 => ?_)
  clear hK
  refine wpAnyH_ready (rs := [7]) (by kernel_rfl) (by decide) ?_
  refine AllReadyH.cons rfl (fun K' hK => ?_) AllReadyH.nil
  go_simp
  refine (HC2.out w3 (HD2.out _ B3) (HF.out.below B3) (HT.out.below B3)).mono ?_
  rintro e4 w4 ⟨rfl, hb4⟩
  have B4 : Below w.heap.size w w4 := B3.trans (hb4.mono B3.size)
  have HZ4 := Lib.hid (HZ3.out.below hb4 HZ3.out.lt)
  refine hK.out _ _ trivial (fun hHeld4 => ?_)
  clear hK
  refine wpAnyH_ready (rs := [8]) (by kernel_rfl) (by decide) ?_
  refine AllReadyH.cons rfl (fun K' hK => ?_) AllReadyH.nil
  go_simp
  refine (HAB.out w4 (HF.out.below B4) (HT.out.below B4)).mono ?_
  rintro e5 w5 ⟨rfl, hb5⟩
  have B5 : Below w.heap.size w w5 := B4.trans (hb5.mono B4.size)
  have HZ5 := Lib.hid (HZ4.out.below hb5 HZ4.out.lt)
  refine hK.out _ _ trivial (fun hHeld5 => ?_)
  clear hK
  refine wpAnyH_ready (rs := [9]) (by kernel_rfl) (by decide) ?_
  refine AllReadyH.cons rfl (fun K' hK => ?_) AllReadyH.nil
  refine step_store_row Tryd.agg25 rfl (.tmp 2) (.tmp 25) rfl _ _ rfl rfl 46 lit32 HZ5.out HAS.out lit32_size (bcells_one _) ?_
  intro w9 hr9 ho9
  have HR9 := Lib.hid hr9
  clear hr9
  refine hK.out _ _ trivial (fun hHeld9 => ?_)
  clear hK
  (try simp only [Act.put, List.setIfInBounds_toArray])
  refine wpAnyH_done (by kernel_rfl) ?_ _
  refine NoPanic.normal ?_
  go_wp2_with fail
  exact bodyPost_ret (results_row1 Tryd.agg25 Tryd.results36 rfl HR9.out HAS.out) rfl ⟨rfl, B5.trans (ho9.below (Nat.le_refl _) B5.size)⟩
theorem Refroot_ok (A : Option Addr) (n c : Nat) (L : List (List UInt8)) (w : World) (hn : n ≤ 1024) (hc : n ≤ c) (hD : Ds w A n L) (hF : First w) (hT : Tab 4 w) :
    Calls Tryd.prog 36 #[.slice A n c] w fun e w' => e = .returned (.agg (bcells (rootL L))) ∧ Below w.heap.size w w' := by
  by_cases h0 : n = 0
  · subst h0; exact Refroot_nil A c L w hD hF hT
  by_cases h1 : n = 1
  · subst h1; exact Refroot_one A c L w hD
  have h2 : 2 ≤ n := by omega
  have hlt := splitN_lt h2
  have hpos := splitN_pos n
  have e : rootL L = nodeL (rootL (L.take (splitN n))) (rootL (L.drop (splitN n))) := by
    have q := rootP_two nodeL (sumL []) (L := L) (by rw [hD.1]; exact h2)
    rwa [hD.1] at q
  rw [e]
  exact Refroot_two (splitN n) n A c L w h2 rfl hn hc hD hF hT _ _ (rootL_length _ (hD.2.1.take _)) (rootL_length _ (hD.2.1.dropL _))
    (fun A' c' w' h1 h2' h3 h4 => Refroot_ok A' (splitN n) c' _ w' (by omega) h1 h2' h3 h4)
    (fun A' c' w' h1 h2' h3 h4 => Refroot_ok A' (n - splitN n) c' _ w' (by omega) h1 h2' h3 h4)
termination_by n
end Go.Proofs.YtbpbpdaohganaaaDoor
