/-
  TreeR: ported texts, joined.
-/
import Derived.Test.YtfelmdndjdaniaaDoorTreeA
import Derived.Test.YtfelmdndjdaniaaDoorOnce1
namespace Go.Proofs.YtfelmdndjdaniaaDoor
section
open Go.RowKit
theorem yields_sliceH {ops : Array Oper} {S : World → Prop} {o : Oper} {a : Act} (hgd : o.guard = none) (x y : Operand) (ho : o.op = .slice 42 x none (some y) none) (X Y v : Value)
    (hx : a.eval x = X) (hy : a.eval y = Y) (hrun : ∀ w, (Instr.sliceAt 42 X none (some Y) none).run Tryd.prog w = .ok v w) : YieldsIf Tryd.prog ops S o v a :=
  .inl ⟨by simp [Region.wanted, hgd], fun w _ => by
    unfold execOp
    simp [ho, hx, hy, hrun]⟩
theorem yields_sliceF {ops : Array Oper} {S : World → Prop} {o : Oper} {a : Act} (hgd : o.guard = none) (x y : Operand) (ho : o.op = .slice 42 x (some y) none none) (X Y v : Value)
    (hx : a.eval x = X) (hy : a.eval y = Y) (hrun : ∀ w, (Instr.sliceAt 42 X (some Y) none none).run Tryd.prog w = .ok v w) : YieldsIf Tryd.prog ops S o v a :=
  .inl ⟨by simp [Region.wanted, hgd], fun w _ => by
    unfold execOp
    simp [ho, hx, hy, hrun]⟩
theorem yields_half {ops : Array Oper} {S : World → Prop} {o : Oper} {a : Act} (hgd : o.guard = none) (x y : Operand) (ho : o.op = .binOp .quo 3 x y 3) (p r : Int)
    (hx : a.eval x = .int .i64 p) (hy : a.eval y = .int .i64 2) (hr : p.tdiv 2 = r) (h0 : -1000000 ≤ r) (h1 : r ≤ 1000000) : YieldsIf Tryd.prog ops S o (.int .i64 r) a :=
  .inl ⟨by simp [Region.wanted, hgd], fun w _ => by
    have hw := wrap_small r h0 h1
    unfold execOp
    simp only [ho, hx, hy]
    go_simp⟩
theorem yields_len {ops : Array Oper} {S : World → Prop} {o : Oper} {a : Act} (hgd : o.guard = none) (x : Operand) (ho : o.op = .call { callee := .builtin .len, args := #[x], argTypes := #[42] }) (A : Option Addr) (n c : Nat)
    (hx : a.eval x = .slice A n c) : YieldsIf Tryd.prog ops S o (.int .i64 (n : Int)) a :=
  .inl ⟨by simp [Region.wanted, hgd], fun w _ => by
    unfold execOp
    simp [ho, resolve, invoke, builtin, hx, Builtin.len_, run_underlying Tryd.under24]
    rfl⟩
set_option maxRecDepth 100000 in
set_option maxHeartbeats 400000 in
theorem Refroot_one (A : Option Addr) (c : Nat) (L : List (List UInt8)) (w : World) (hD : Ds w A 1 L) :
    Calls Tryd.prog 71 #[.slice A 1 c] w fun e w' => e = .returned (.agg (bcells (rootD 0 L))) ∧ Below w.heap.size w w' := by
  have hb0 := (Below.refl w.heap.size w).alloc (Nat.le_refl _) (.cells lit32 23)
  obtain ⟨b, off, d, rfl, hb, hd, hdl, hB⟩ := (hD.below hb0).get (k := 0) (by omega)
  have he : rootD 0 L = d := by show L.getD 0 [] = d; rw [List.getD_eq_getElem?_getD, hd]; rfl
  rw [he]
  have HRG := Lib.hid hB.range
  have HDL := Lib.hid hdl
  have HDS := Lib.hid (show (bcells d).size = 32 by rw [bcells_size, hdl])
  obtain ⟨o1, ho1⟩ : ∃ o, off + 32 * 0 = o := ⟨_, rfl⟩
  rw [ho1] at HRG
  have HO1 := Lib.hid ho1
  clear hD hB hd he hdl ho1
  go_enter Tryd.func71, Tryd.ntmps71
  go_wp2_with (first
    | (with_reducible refine wpList_indexO rfl (.tmp 6) _ rfl b off 1 c 0 o1 _ rfl rfl rfl (by omega) HO1.out ?_)
    | (with_reducible refine wpList_loadD rfl (.tmp 7) rfl b o1 d rfl HRG.out HDL.out ?_)
    | (with_reducible refine wpList_store_row Tryd.agg25 rfl (.tmp 2) (.tmp 8) rfl _ _ rfl rfl 23 lit32 (Row.new w 23 lit32) HDS.out lit32_size (bcells_one _) ?_; intro w9 hr9 ho9; have HR9 := Lib.hid hr9; clear hr9))
  exact bodyPost_ret (results_row1 Tryd.agg25 Tryd.results71 rfl HR9.out HDS.out) rfl ⟨rfl, hb0.trans (ho9.below (Nat.le_refl _) (by simp))⟩
set_option maxRecDepth 100000 in
set_option maxHeartbeats 2000000 in
theorem Refroot_two (h n : Nat) (A : Option Addr) (c : Nat) (L : List (List UInt8)) (w : World) (hn : n = 2 * h) (hh : 0 < h) (hh1 : h ≤ 1024) (hc : n ≤ c) (hD : Ds w A n L) (hF : First w) (hT : Tab 2 w) (X Y : List UInt8) (hX : X.length = 32) (hY : Y.length = 32)
    (h1 : ∀ A' c' w', h ≤ c' → Ds w' A' h (L.take h) → First w' → Tab 2 w' → Calls Tryd.prog 71 #[.slice A' h c'] w' fun e w'' => e = .returned (.agg (bcells X)) ∧ Below w'.heap.size w' w'')
    (h2 : ∀ A' c' w', h ≤ c' → Ds w' A' h (L.drop h) → First w' → Tab 2 w' → Calls Tryd.prog 71 #[.slice A' h c'] w' fun e w'' => e = .returned (.agg (bcells Y)) ∧ Below w'.heap.size w' w'') :
    Calls Tryd.prog 71 #[.slice A n c] w fun e w' => e = .returned (.agg (bcells (abL X Y))) ∧ Below w.heap.size w w' := by
  have hne : ((n : Int) == 1) = false := by simp; omega
  have hdiv : ((n : Int)).tdiv 2 = (h : Int) := by rw [hn, Int.tdiv_eq_ediv_of_nonneg (by omega)]; omega
  have HDV := Lib.hid hdiv
  obtain ⟨A1, r1, d1, _⟩ := cutD_head A n c h (h : Int) rfl (by omega) hc
  obtain ⟨A2, r2, d2, _⟩ := cutD_from A n c h (h : Int) rfl (by omega) hc
  have e2 : n - h = h := by omega
  rw [e2] at r2 d2
  obtain ⟨c2, hc2⟩ : ∃ c2, c - h = c2 := ⟨_, rfl⟩
  rw [hc2] at r2
  have HR1 := Lib.hid r1
  have HR2 := Lib.hid r2
  have hb0 := (Below.refl w.heap.size w).alloc (Nat.le_refl _) (.cells lit32 23)
  have HD1 := Lib.hid (fun w' hb => d1 w' L (hD.below hb))
  have HD2 := Lib.hid (fun w' hb => d2 w' L (hD.below hb))
  have HC1 := Lib.hid (fun w' => h1 A1 c w' (by omega))
  have HC2 := Lib.hid (fun w' => h2 A2 c2 w' (by omega))
  have HAB := Lib.hid (fun w hF hT => RefAbove_any X Y w hX hY hF hT)
  have HAS := Lib.hid (show (bcells (abL X Y)).size = 32 by rw [bcells_size, abL_length])
  have HF := Lib.hid hF
  have HT := Lib.hid hT
  generalize abL X Y = Z at *
  have HZ0 := Lib.hid (Row.new w 23 lit32)
  obtain ⟨wz, hwz⟩ : ∃ wz, w.alloc (.cells lit32 23) = wz := ⟨_, rfl⟩
  have hltz : w.heap.size < wz.heap.size := by rw [← hwz]; simp
  rw [hwz] at hb0 HZ0
  clear hn hdiv r1 r2 d1 d2 e2 hc2 h1 h2 hD hF hT hX hY
  go_enter Tryd.func71, Tryd.ntmps71
  go_wp2_with fail
  clear hwz
  refine wp_region_noPanic ?_
  refine wp_region_held_drew (S := fun w' => True) (by kernel_rfl) trivial (fun hHeld => ?_)
  refine takeD (i := 0) (some 9) (.slice A n c) rfl rfl (by kernel_rfl) (by kernel_rfl) (by kernel_rfl) (fun _ _ _ h => h) (Or.inl ⟨by rfl, fun _ _ => rfl⟩) hHeld ?_
  simp only [Act.put, List.setIfInBounds_toArray, List.set_cons_zero, List.set_cons_succ]
  refine takeD (i := 1) (some 10) (.slice A n c) rfl rfl (by kernel_rfl) (by kernel_rfl) (by kernel_rfl) (fun _ _ _ h => h) (Or.inl ⟨by rfl, fun _ _ => rfl⟩) hHeld ?_
  simp only [Act.put, List.setIfInBounds_toArray, List.set_cons_zero, List.set_cons_succ]
  refine takeD (i := 2) (some 11) (.int .i64 (n : Int)) rfl rfl (by kernel_rfl) (by kernel_rfl) (by kernel_rfl) (fun _ _ _ h => h) (yields_len rfl (.tmp 10) rfl A n c rfl) hHeld ?_
  simp only [Act.put, List.setIfInBounds_toArray, List.set_cons_zero, List.set_cons_succ]
  refine takeD (i := 3) (some 12) (.int .i64 (h : Int)) rfl rfl (by kernel_rfl) (by kernel_rfl) (by kernel_rfl) (fun _ _ _ h => h) (yields_half rfl (.tmp 11) _ rfl (n : Int) _ rfl rfl HDV.out (by omega) (by omega)) hHeld ?_
  simp only [Act.put, List.setIfInBounds_toArray, List.set_cons_zero, List.set_cons_succ]
  refine takeD (i := 4) (some 13) (.slice A1 h c) rfl rfl (by kernel_rfl) (by kernel_rfl) (by kernel_rfl) (fun _ _ _ h => h) (yields_sliceH rfl (.tmp 9) (.tmp 12) rfl _ _ _ rfl rfl HR1.out) hHeld ?_
  simp only [Act.put, List.setIfInBounds_toArray, List.set_cons_zero, List.set_cons_succ]
  refine takeD (i := 6) (some 15) (.slice A n c) rfl rfl (by kernel_rfl) (by kernel_rfl) (by kernel_rfl) (fun _ _ _ h => h) (Or.inl ⟨by rfl, fun _ _ => rfl⟩) hHeld ?_
  simp only [Act.put, List.setIfInBounds_toArray, List.set_cons_zero, List.set_cons_succ]
  refine takeD (i := 7) (some 16) (.slice A n c) rfl rfl (by kernel_rfl) (by kernel_rfl) (by kernel_rfl) (fun _ _ _ h => h) (Or.inl ⟨by rfl, fun _ _ => rfl⟩) hHeld ?_
  simp only [Act.put, List.setIfInBounds_toArray, List.set_cons_zero, List.set_cons_succ]
  refine takeD (i := 8) (some 17) (.int .i64 (n : Int)) rfl rfl (by kernel_rfl) (by kernel_rfl) (by kernel_rfl) (fun _ _ _ h => h) (yields_len rfl (.tmp 16) rfl A n c rfl) hHeld ?_
  simp only [Act.put, List.setIfInBounds_toArray, List.set_cons_zero, List.set_cons_succ]
  refine takeD (i := 9) (some 18) (.int .i64 (h : Int)) rfl rfl (by kernel_rfl) (by kernel_rfl) (by kernel_rfl) (fun _ _ _ h => h) (yields_half rfl (.tmp 17) _ rfl (n : Int) _ rfl rfl HDV.out (by omega) (by omega)) hHeld ?_
  simp only [Act.put, List.setIfInBounds_toArray, List.set_cons_zero, List.set_cons_succ]
  refine takeD (i := 10) (some 19) (.slice A2 h c2) rfl rfl (by kernel_rfl) (by kernel_rfl) (by kernel_rfl) (fun _ _ _ h => h) (yields_sliceF rfl (.tmp 15) (.tmp 18) rfl _ _ _ rfl rfl HR2.out) hHeld ?_
  simp only [Act.put, List.setIfInBounds_toArray, List.set_cons_zero, List.set_cons_succ]
  have B0 : Below w.heap.size w wz.drew := hb0.drew
  refine wpAnyH_ready (rs := [5]) (by kernel_rfl) (by decide) ?_
  refine AllReadyH.cons rfl (fun K' hK => ?_) AllReadyH.nil
  go_simp
  refine (HC1.out wz.drew (HD1.out _ B0) (HF.out.below B0) (HT.out.below B0)).mono ?_
  rintro e3 w3 ⟨rfl, hb3⟩
  have B3 : Below w.heap.size w w3 := B0.trans (hb3.mono B0.size)
  have HZ3 := Lib.hid (HZ0.out.below (B := wz.heap.size) ((Below.refl _ _).drew.trans hb3) hltz)
  have hs3 := hb3.size
  refine hK.out _ _ trivial (fun hHeld3 => ?_)
  clear hK
  refine wpAnyH_ready (rs := [11]) (by kernel_rfl) (by decide) ?_
  refine AllReadyH.cons rfl (fun K' hK => ?_) AllReadyH.nil
  go_simp
  refine (HC2.out w3 (HD2.out _ B3) (HF.out.below B3) (HT.out.below B3)).mono ?_
  rintro e4 w4 ⟨rfl, hb4⟩
  have B4 : Below w.heap.size w w4 := B3.trans (hb4.mono B3.size)
  have HZ4 := Lib.hid (HZ3.out.below hb4 HZ3.out.lt)
  refine hK.out _ _ trivial (fun hHeld4 => ?_)
  clear hK
  refine wpAnyH_ready (rs := [12]) (by kernel_rfl) (by decide) ?_
  refine AllReadyH.cons rfl (fun K' hK => ?_) AllReadyH.nil
  go_simp
  refine (HAB.out w4 (HF.out.below B4) (HT.out.below B4)).mono ?_
  rintro e5 w5 ⟨rfl, hb5⟩
  have B5 : Below w.heap.size w w5 := B4.trans (hb5.mono B4.size)
  have HZ5 := Lib.hid (HZ4.out.below hb5 HZ4.out.lt)
  refine hK.out _ _ trivial (fun hHeld5 => ?_)
  clear hK
  refine wpAnyH_ready (rs := [13]) (by kernel_rfl) (by decide) ?_
  refine AllReadyH.cons rfl (fun K' hK => ?_) AllReadyH.nil
  refine step_store_row Tryd.agg25 rfl (.tmp 2) (.tmp 21) rfl _ _ rfl rfl 23 lit32 HZ5.out HAS.out lit32_size (bcells_one _) ?_
  intro w9 hr9 ho9
  have HR9 := Lib.hid hr9
  clear hr9
  refine hK.out _ _ trivial (fun hHeld9 => ?_)
  clear hK
  (try simp only [Act.put, List.setIfInBounds_toArray])
  refine wpAnyH_done (by kernel_rfl) ?_ _
  refine NoPanic.normal ?_
  go_wp2_with fail
  exact bodyPost_ret (results_row1 Tryd.agg25 Tryd.results71 rfl HR9.out HAS.out) rfl ⟨rfl, B5.trans (ho9.below (Nat.le_refl _) B5.size)⟩
theorem Refroot_ok : ∀ (k : Nat) (A : Option Addr) (n c : Nat) (L : List (List UInt8)) (w : World), k ≤ 10 → n = 2 ^ k → n ≤ c → Ds w A n L → First w → Tab 2 w →
    Calls Tryd.prog 71 #[.slice A n c] w fun e w' => e = .returned (.agg (bcells (rootD k L))) ∧ Below w.heap.size w w'
  | 0, A, n, c, L, w, _, hn, _, hD, _, _ => by
    obtain rfl : n = 1 := hn
    exact Refroot_one A c L w hD
  | k + 1, A, n, c, L, w, hk, hn, hc, hD, hF, hT => by
    have e : 2 ^ (k + 1) = 2 * 2 ^ k := by rw [Nat.pow_succ]; omega
    have l1 : (L.take (2 ^ k)).length = 2 ^ k := by rw [List.length_take, hD.1]; omega
    have l2 : (L.drop (2 ^ k)).length = 2 ^ k := by rw [List.length_drop, hD.1]; omega
    exact Refroot_two (2 ^ k) n A c L w (by omega) (Nat.pow_pos (by decide)) (two_pow_le (by omega)) hc hD hF hT _ _ (rootD_length k _ (hD.2.1.take _) l1) (rootD_length k _ (hD.2.1.dropL _) l2)
      (fun A' c' w' h1 h2 h3 h4 => Refroot_ok k A' (2 ^ k) c' _ w' (by omega) rfl h1 h2 h3 h4) (fun A' c' w' h1 h2 h3 h4 => Refroot_ok k A' (2 ^ k) c' _ w' (by omega) rfl h1 h2 h3 h4)
set_option maxRecDepth 100000 in
set_option maxHeartbeats 400000 in
theorem RefRoot_no (A : Option Addr) (n c : Nat) (w : World) (h : okT (n : Int) = false) : Calls Tryd.prog 39 #[.slice A n c] w (RecD w zero32 1) := by
  have HM := Lib.hid (fun w => show Calls Tryd.prog 70 #[.int .i64 (n : Int)] w fun e w' => e = .returned (.bool false) ∧ w = w' by have q := Right_any n w; rwa [h] at q)
  clear h
  go_enter Tryd.func39, Tryd.ntmps39
  go_wp2_with (first
    | (go_at_call 70; refine (HM.out _).mono ?_; rintro e1 w1 ⟨rfl, rfl⟩)
    | (with_reducible refine wpList_store_row Tryd.agg25 rfl (.tmp 2) (.tmp 8) rfl _ _ rfl rfl 23 lit32 (Row.new w 23 lit32) lit32_size lit32_size lit32_one ?_; intro w9 hr9 ho9; have HR9 := Lib.hid hr9; clear hr9))
  exact bodyPost_ret (results_row2 Tryd.agg25 Tryd.results39 rfl rfl HR9.out lit32_size) rfl ⟨rfl, ((Below.refl _ _).alloc (Nat.le_refl _) _).trans (ho9.below (Nat.le_refl _) (by simp))⟩
set_option maxRecDepth 100000 in
set_option maxHeartbeats 1000000 in
theorem RefRoot_ok (k : Nat) (A : Option Addr) (n c : Nat) (L : List (List UInt8)) (w : World) (hk : k ≤ 10) (hn : n = 2 ^ k) (hc : n ≤ c) (hD : Ds w A n L) (hF : First w) (hT : Tab 2 w) : Calls Tryd.prog 39 #[.slice A n c] w (RecD w (rootD k L) 0) := by
  have HM := Lib.hid (fun w => show Calls Tryd.prog 70 #[.int .i64 (n : Int)] w fun e w' => e = .returned (.bool true) ∧ w = w' by have q := Right_any n w; rwa [hn, okT_of hk, ← hn] at q)
  have hb0 := (Below.refl w.heap.size w).alloc (Nat.le_refl _) (.cells lit32 23)
  have HC := Lib.hid (Refroot_ok k A n c L (w.alloc (.cells lit32 23)) hk hn hc (hD.below hb0) (hF.below hb0) (hT.below hb0))
  have HRS := Lib.hid (show (bcells (rootD k L)).size = 32 by rw [bcells_size, rootD_length k L hD.2.1 (by rw [hD.1, hn])])
  obtain ⟨R, hR⟩ : ∃ R, rootD k L = R := ⟨_, rfl⟩
  rw [hR] at HRS HC ⊢
  clear hD hn hT hR hF
  go_enter Tryd.func39, Tryd.ntmps39
  go_wp2_with (first
    | (go_at_call 70; refine (HM.out _).mono ?_; rintro e1 w1 ⟨rfl, rfl⟩)
    | (go_at_call 71; refine HC.out.mono ?_; rintro e1 w1 ⟨rfl, hb1⟩; have HZ1 := Lib.hid ((Row.new w 23 lit32).below hb1 (by simp)); have hb1' := hb0.trans (hb1.mono (by simp)))
    | (with_reducible refine wpList_store_row Tryd.agg25 rfl (.tmp 2) (.tmp 10) rfl _ _ rfl rfl 23 lit32 HZ1.out HRS.out lit32_size (bcells_one _) ?_; intro w9 hr9 ho9; have HR9 := Lib.hid hr9; clear hr9))
  exact bodyPost_ret (results_row2 Tryd.agg25 Tryd.results39 rfl rfl HR9.out HRS.out) rfl ⟨rfl, hb1'.trans (ho9.below (Nat.le_refl _) hb1'.size)⟩
/-- a path in new memory -/
def NewP (w : World) (L : List (List UInt8)) (e : Ending) (w' : World) : Prop :=
  ∃ A c, e = .returned (.slice A L.length c) ∧ OwnD w' w.heap.size (.slice A L.length c) L.length L ∧ Below w.heap.size w w'
set_option maxRecDepth 100000 in
set_option maxHeartbeats 400000 in
theorem Refpath_one (A : Option Addr) (c : Nat) (i : Int) (w : World) : Calls Tryd.prog 84 #[.slice A 1 c, .int .i64 i] w (NewP w []) := by
  go_enter Tryd.func84, Tryd.ntmps84
  go_wp2
  go_ret
  exact ⟨none, 0, rfl, OwnD.nil _ _, Below.refl _ _⟩
set_option maxRecDepth 100000 in
set_option maxHeartbeats 2000000 in
theorem Refpath_low (h n k : Nat) (A : Option Addr) (c i : Nat) (L : List (List UInt8)) (w : World) (hn : n = 2 * h) (hh : 0 < h) (hh1 : h ≤ 1024) (hc : n ≤ c) (hi : i < h) (hi2 : i < n) (hD : Ds w A n L) (hF : First w) (hT : Tab 2 w) (hk : k ≤ 10) (Q : List (List UInt8)) (X : List UInt8) (hX : X.length = 32) (hQ : Q.length = k)
    (h1 : ∀ A' c' w', h ≤ c' → Ds w' A' h (L.take h) → First w' → Tab 2 w' → Calls Tryd.prog 84 #[.slice A' h c', .int .i64 ((i : Int))] w' (NewP w' Q))
    (h2 : ∀ A' c' w', h ≤ c' → Ds w' A' h (L.drop h) → First w' → Tab 2 w' → Calls Tryd.prog 71 #[.slice A' h c'] w' fun e w'' => e = .returned (.agg (bcells X)) ∧ Below w'.heap.size w' w'') :
    Calls Tryd.prog 84 #[.slice A n c, .int .i64 (i : Int)] w (NewP w (Q ++ [X])) := by
  have hne : ((n : Int) == 1) = false := by simp; omega
  have hdiv : ((n : Int)).tdiv 2 = (h : Int) := by rw [hn, Int.tdiv_eq_ediv_of_nonneg (by omega)]; omega
  have i0 : (i : Int) < (h : Int) := by omega
  have i1 : (i : Int) < (n : Int) := by omega
  have hhn : h ≤ n := by omega
  have i2 : (i : Int) ≤ 4096 := by omega
  have HHN := Lib.hid (show n - h = h by omega)
  have hhc : h ≤ c := by omega
  have hhc2 : h ≤ c - h := by omega
  have HD := Lib.hid hD
  have HC1 := Lib.hid h1
  have HC2 := Lib.hid h2
  have HF := Lib.hid hF
  have HT := Lib.hid hT
  have HX := Lib.hid hX
  have HQ := Lib.hid hQ
  clear hn h1 h2 hD hF hT hX hQ hi
  go_enter Tryd.func84, Tryd.ntmps84
  go_wp2_with (first
    | (with_reducible refine wpList_headD rfl (.tmp 17) (.tmp 18) rfl A n c h _ rfl rfl rfl hhn hc ?_; intro A1 d1 _; have HA1 := Lib.hid (d1 w L HD.out); clear d1)
    | (with_reducible refine wpList_fromD rfl (.tmp 23) (.tmp 24) rfl A n c h _ rfl rfl rfl hhn hc ?_; intro A3 d3 _; rw [HHN.out] at d3 ⊢; have HA3 := Lib.hid (d3 w2 L (HD.out.below hb2)); clear d3)
    | (go_at_call 84; refine (HC1.out A1 c w hhc HA1.out HF.out HT.out).mono ?_; rintro e2 w2 ⟨A2, c2, rfl, ho2, hb2⟩; have HO2 := Lib.hid ho2; have hs2 := hb2.size; clear ho2)
    | (go_at_call 71; refine (HC2.out A3 (c - h) w2 hhc2 HA3.out (HF.out.below hb2) (HT.out.below hb2)).mono ?_; rintro e3 w3 ⟨rfl, hb3⟩; have HO3 := Lib.hid (HO2.out.below hb3); have hs3 := hb3.size; have hb3' := hb2.trans (hb3.mono hs2))
    | (with_reducible refine wpList_build1 rfl (.tmp 26) rfl X rfl HX.out ?_; intro g4 w4 hg4 hd4 hb4; have HD4 := Lib.hid hd4; have hs4 := hb4.size; have hb4' := hb3'.trans (hb4.mono hb3'.size); clear hd4 hg4)
    | (at_builtin; refine wpList_appD rfl (.tmp 22) (.tmp 27) rfl w.heap.size _ Q.length Q rfl (HO3.out.below hb4) _ 1 1 [X] rfl HD4.out (by rw [HQ.out]; omega) (by omega) ?_; intro A5 c5 w5 ho5 hb5; have HO5 := Lib.hid ho5; have hb5' := hb4'.trans (hb5.mono (Nat.le_refl _)); clear ho5))
  go_ret
  refine ⟨A5, c5, ?_, ?_, hb5'⟩
  · rw [List.length_append]; rfl
  · rw [List.length_append]; exact HO5.out.mono (by omega)
set_option maxRecDepth 100000 in
set_option maxHeartbeats 2000000 in
theorem Refpath_high (h n k : Nat) (A : Option Addr) (c i : Nat) (L : List (List UInt8)) (w : World) (hn : n = 2 * h) (hh : 0 < h) (hh1 : h ≤ 1024) (hc : n ≤ c) (hi : h ≤ i) (hi2 : i < n) (hD : Ds w A n L) (hF : First w) (hT : Tab 2 w) (hk : k ≤ 10) (Q : List (List UInt8)) (X : List UInt8) (hX : X.length = 32) (hQ : Q.length = k)
    (h1 : ∀ A' c' w', h ≤ c' → Ds w' A' h (L.drop h) → First w' → Tab 2 w' → Calls Tryd.prog 84 #[.slice A' h c', .int .i64 ((i : Int) - (h : Int))] w' (NewP w' Q))
    (h2 : ∀ A' c' w', h ≤ c' → Ds w' A' h (L.take h) → First w' → Tab 2 w' → Calls Tryd.prog 71 #[.slice A' h c'] w' fun e w'' => e = .returned (.agg (bcells X)) ∧ Below w'.heap.size w' w'') :
    Calls Tryd.prog 84 #[.slice A n c, .int .i64 (i : Int)] w (NewP w (Q ++ [X])) := by
  have hne : ((n : Int) == 1) = false := by simp; omega
  have hdiv : ((n : Int)).tdiv 2 = (h : Int) := by rw [hn, Int.tdiv_eq_ediv_of_nonneg (by omega)]; omega
  have i0 : ¬ (i : Int) < (h : Int) := by omega
  have i1 : (i : Int) < (n : Int) := by omega
  have hhn : h ≤ n := by omega
  have i2 : (i : Int) ≤ 4096 := by omega
  have HHN := Lib.hid (show n - h = h by omega)
  have hhc : h ≤ c := by omega
  have hhc2 : h ≤ c - h := by omega
  have HD := Lib.hid hD
  have HC1 := Lib.hid h1
  have HC2 := Lib.hid h2
  have HF := Lib.hid hF
  have HT := Lib.hid hT
  have HX := Lib.hid hX
  have HQ := Lib.hid hQ
  clear hn h1 h2 hD hF hT hX hQ hi
  go_enter Tryd.func84, Tryd.ntmps84
  go_wp2_with (first
    | (with_reducible refine wpList_fromD rfl (.tmp 29) (.tmp 30) rfl A n c h _ rfl rfl rfl hhn hc ?_; intro A1 d1 _; rw [HHN.out] at d1 ⊢; have HA1 := Lib.hid (d1 w L HD.out); clear d1)
    | (with_reducible refine wpList_headD rfl (.tmp 37) (.tmp 38) rfl A n c h _ rfl rfl rfl hhn hc ?_; intro A3 d3 _; have HA3 := Lib.hid (d3 w2 L (HD.out.below hb2)); clear d3)
    | (go_at_call 84; refine (HC1.out A1 (c - h) w hhc2 HA1.out HF.out HT.out).mono ?_; rintro e2 w2 ⟨A2, c2, rfl, ho2, hb2⟩; have HO2 := Lib.hid ho2; have hs2 := hb2.size; clear ho2)
    | (go_at_call 71; refine (HC2.out A3 c w2 hhc HA3.out (HF.out.below hb2) (HT.out.below hb2)).mono ?_; rintro e3 w3 ⟨rfl, hb3⟩; have HO3 := Lib.hid (HO2.out.below hb3); have hs3 := hb3.size; have hb3' := hb2.trans (hb3.mono hs2))
    | (with_reducible refine wpList_build1 rfl (.tmp 40) rfl X rfl HX.out ?_; intro g4 w4 hg4 hd4 hb4; have HD4 := Lib.hid hd4; have hs4 := hb4.size; have hb4' := hb3'.trans (hb4.mono hb3'.size); clear hd4 hg4)
    | (at_builtin; refine wpList_appD rfl (.tmp 36) (.tmp 41) rfl w.heap.size _ Q.length Q rfl (HO3.out.below hb4) _ 1 1 [X] rfl HD4.out (by rw [HQ.out]; omega) (by omega) ?_; intro A5 c5 w5 ho5 hb5; have HO5 := Lib.hid ho5; have hb5' := hb4'.trans (hb5.mono (Nat.le_refl _)); clear ho5))
  go_ret
  refine ⟨A5, c5, ?_, ?_, hb5'⟩
  · rw [List.length_append]; rfl
  · rw [List.length_append]; exact HO5.out.mono (by omega)
theorem Refpath_ok : ∀ (k : Nat) (A : Option Addr) (n c i : Nat) (L : List (List UInt8)) (w : World), k ≤ 10 → n = 2 ^ k → n ≤ c → i < n → Ds w A n L → First w → Tab 2 w →
    Calls Tryd.prog 84 #[.slice A n c, .int .i64 (i : Int)] w (NewP w (pathD k L i))
  | 0, A, n, c, i, L, w, _, hn, _, _, _, _, _ => by
    obtain rfl : n = 1 := hn
    exact Refpath_one A c (i : Int) w
  | k + 1, A, n, c, i, L, w, hk, hn, hc, hi, hD, hF, hT => by
    have e : 2 ^ (k + 1) = 2 * 2 ^ k := by rw [Nat.pow_succ]; omega
    have l1 : (L.take (2 ^ k)).length = 2 ^ k := by rw [List.length_take, hD.1]; omega
    have l2 : (L.drop (2 ^ k)).length = 2 ^ k := by rw [List.length_drop, hD.1]; omega
    show Calls Tryd.prog 84 #[.slice A n c, .int .i64 (i : Int)] w (NewP w (pathT abL [] (k + 1) L i))
    rw [pathT]
    by_cases hlt : i < 2 ^ k
    · rw [if_pos hlt]
      exact Refpath_low (2 ^ k) n k A c i L w (by omega) (Nat.pow_pos (by decide)) (two_pow_le (by omega)) hc hlt hi hD hF hT (by omega) _ _ (rootD_length k _ (hD.2.1.dropL _) l2) (pathT_length abL [] k _ _)
        (fun A' c' w' h1 h2 h3 h4 => Refpath_ok k A' (2 ^ k) c' i _ w' (by omega) rfl h1 hlt h2 h3 h4) (fun A' c' w' h1 h2 h3 h4 => Refroot_ok k A' (2 ^ k) c' _ w' (by omega) rfl h1 h2 h3 h4)
    · rw [if_neg hlt]
      refine Refpath_high (2 ^ k) n k A c i L w (by omega) (Nat.pow_pos (by decide)) (two_pow_le (by omega)) hc (by omega) hi hD hF hT (by omega) _ _ (rootD_length k _ (hD.2.1.take _) l1) (pathT_length abL [] k _ _)
        (fun A' c' w' h1 h2 h3 h4 => ?_) (fun A' c' w' h1 h2 h3 h4 => Refroot_ok k A' (2 ^ k) c' _ w' (by omega) rfl h1 h2 h3 h4)
      have q := Refpath_ok k A' (2 ^ k) c' (i - 2 ^ k) _ w' (by omega) rfl h1 (by omega) h2 h3 h4
      rwa [show ((i - 2 ^ k : Nat) : Int) = (i : Int) - ((2 ^ k : Nat) : Int) by omega] at q
set_option maxRecDepth 100000 in
set_option maxHeartbeats 400000 in
theorem RefPath_no (A : Option Addr) (n c : Nat) (i : Int) (w : World) (h : okT (n : Int) = false ∨ i < 0 ∨ (n : Int) ≤ i) : Calls Tryd.prog 45 #[.slice A n c, .int .i64 i] w (NewD w [] 1) := by
  have HM := Lib.hid (fun w => Right_any n w)
  cases ht : okT (n : Int)
  · rw [ht] at HM
    clear h ht
    go_enter Tryd.func45, Tryd.ntmps45
    go_wp2_with (go_at_call 70; refine (HM.out _).mono ?_; rintro e1 w1 ⟨rfl, rfl⟩)
    go_ret2
    exact NewD.nil w 1
  · rw [ht] at HM
    by_cases h0 : i < 0
    · clear h ht
      go_enter Tryd.func45, Tryd.ntmps45
      go_wp2_with (go_at_call 70; refine (HM.out _).mono ?_; rintro e1 w1 ⟨rfl, rfl⟩)
      go_ret2
      exact NewD.nil w 1
    · have h1 : (n : Int) ≤ i := by
        rcases h with h | h | h
        · rw [ht] at h; cases h
        · omega
        · exact h
      clear h ht
      go_enter Tryd.func45, Tryd.ntmps45
      go_wp2_with (go_at_call 70; refine (HM.out _).mono ?_; rintro e1 w1 ⟨rfl, rfl⟩)
      go_ret2
      exact NewD.nil w 1
set_option maxRecDepth 100000 in
set_option maxHeartbeats 1000000 in
theorem RefPath_ok (k : Nat) (A : Option Addr) (n c i : Nat) (L : List (List UInt8)) (w : World) (hk : k ≤ 10) (hn : n = 2 ^ k) (hc : n ≤ c) (hi : i < n) (hD : Ds w A n L) (hF : First w) (hT : Tab 2 w) : Calls Tryd.prog 45 #[.slice A n c, .int .i64 (i : Int)] w (NewD w (pathD k L i) 0) := by
  have HM := Lib.hid (fun w => show Calls Tryd.prog 70 #[.int .i64 (n : Int)] w fun e w' => e = .returned (.bool true) ∧ w = w' by have q := Right_any n w; rwa [hn, okT_of hk, ← hn] at q)
  have HC := Lib.hid (Refpath_ok k A n c i L w hk hn hc hi hD hF hT)
  have i0 : ¬ (i : Int) < 0 := by omega
  have i1 : ¬ (n : Int) ≤ (i : Int) := by omega
  obtain ⟨P, hP⟩ : ∃ P, pathD k L i = P := ⟨_, rfl⟩
  rw [hP] at HC ⊢
  clear hD hn hT hF hP
  go_enter Tryd.func45, Tryd.ntmps45
  go_wp2_with (first
    | (go_at_call 70; refine (HM.out _).mono ?_; rintro e1 w1 ⟨rfl, rfl⟩)
    | (go_at_call 84; refine HC.out.mono ?_; rintro e1 w1 ⟨A1, c1, rfl, ho1, hb1⟩; have HO1 := Lib.hid ho1; clear ho1))
  go_ret2
  exact HO1.out.new hb1
end
section
open Go.RowKit
set_option maxRecDepth 100000 in
set_option maxHeartbeats 400000 in
theorem RefClimb_long (d : List UInt8) (A : Option Addr) (n c : Nat) (i : Int) (w : World) (h : 10 < n) : Calls Tryd.prog 50 #[.agg (bcells d), .int .i64 i, .slice A n c] w (RecD w zero32 1) := by
  have i0 : (10 : Int) < (n : Int) := by omega
  clear h
  have hb0 := ((Below.refl w.heap.size w).alloc (Nat.le_refl _) (.cells (bcells d) 23)).alloc (by simp) (.cells lit32 23)
  go_enter Tryd.func50, Tryd.ntmps50
  go_wp2_with (with_reducible refine wpList_store_row Tryd.agg25 rfl (.tmp 6) (.tmp 16) rfl _ _ rfl rfl 23 lit32 (Row.new1 w (.cells (bcells d) 23) 23 lit32) lit32_size lit32_size lit32_one ?_; intro w9 hr9 ho9; have HR9 := Lib.hid hr9; clear hr9)
  exact bodyPost_ret (results_row2 Tryd.agg25 Tryd.results50 rfl rfl HR9.out lit32_size) rfl ⟨rfl, hb0.trans (ho9.below (by omega) (by simp; omega))⟩
set_option maxRecDepth 100000 in
set_option maxHeartbeats 400000 in
theorem RefClimb_neg (d : List UInt8) (A : Option Addr) (n c : Nat) (i : Int) (w : World) (h : n ≤ 10) (hi : i < 0) : Calls Tryd.prog 50 #[.agg (bcells d), .int .i64 i, .slice A n c] w (RecD w zero32 1) := by
  have i0 : ¬ (10 : Int) < (n : Int) := by omega
  clear h
  have hb0 := ((Below.refl w.heap.size w).alloc (Nat.le_refl _) (.cells (bcells d) 23)).alloc (by simp) (.cells lit32 23)
  go_enter Tryd.func50, Tryd.ntmps50
  go_wp2_with (with_reducible refine wpList_store_row Tryd.agg25 rfl (.tmp 6) (.tmp 16) rfl _ _ rfl rfl 23 lit32 (Row.new1 w (.cells (bcells d) 23) 23 lit32) lit32_size lit32_size lit32_one ?_; intro w9 hr9 ho9; have HR9 := Lib.hid hr9; clear hr9)
  exact bodyPost_ret (results_row2 Tryd.agg25 Tryd.results50 rfl rfl HR9.out lit32_size) rfl ⟨rfl, hb0.trans (ho9.below (by omega) (by simp; omega))⟩
set_option maxRecDepth 100000 in
set_option maxHeartbeats 2000000 in
theorem RefClimb_any (d : List UInt8) (A : Option Addr) (n c i : Nat) (P : List (List UInt8)) (w : World) (R : List UInt8) (E : Int) (hd : d.length = 32) (hn : n ≤ 10) (hi : i < 9223372036854775808) (hD : Ds w A n P) (hF : First w) (hT : Tab 2 w)
    (hY : i < 2 ^ n → R = climbD d i P ∧ E = 0) (hN : 2 ^ n ≤ i → R = zero32 ∧ E = 1) :
    Calls Tryd.prog 50 #[.agg (bcells d), .int .i64 (i : Int), .slice A n c] w (RecD w R E) := by
  have i0 : ¬ (10 : Int) < (n : Int) := by omega
  have i1 : ¬ (i : Int) < 0 := by omega
  have HD := Lib.hid hD
  have HT := Lib.hid hT
  have HF := Lib.hid hF
  have HKS := Lib.hid (show (bcells d).size = 32 by rw [bcells_size, hd])
  have HDL := Lib.hid hd
  have HYY := Lib.hid hY
  have HNN := Lib.hid hN
  have HRS := Lib.hid (show (bcells (climbD d i P)).size = 32 by rw [bcells_size, climbD_length P d i hd])
  have HTK := Lib.hid (show P.take n = P from List.take_of_length_le (by rw [hD.1]; exact Nat.le_refl _))
  have hb0 := (((Below.refl w.heap.size w).alloc (Nat.le_refl _) (.cells (bcells d) 23)).alloc (by simp) (.cells lit32 23))
  have HN0 := Lib.hid (((Row.new w 23 (bcells d)).alloc (.cells lit32 23)))
  have HZ0 := Lib.hid (Row.new1 w (.cells (bcells d) 23) 23 lit32)
  obtain ⟨p, hp⟩ : ∃ p, 2 ^ n = p := ⟨_, rfl⟩
  rw [hp] at HYY HNN
  have HP := Lib.hid hp
  clear hD hT hd hF hY hN hp
  go_enter Tryd.func50, Tryd.ntmps50
  go_wp2_with fail
  go_loopw [1, 8] (fun vi v wr => ∃ m t : Nat, m ≤ n ∧ v = .int .i64 (m : Int) ∧ vi = .int .i64 (t : Int) ∧ Hid (i / 2 ^ m = t) ∧ t < 9223372036854775808 ∧ Below w.heap.size w wr ∧ Row wr (w.heap.size + 1) 23 lit32 ∧ Row wr w.heap.size 23 (bcells (climbD d i (P.take m)))) (fun _ v _ => n - (intOf v).toNat)
  case atStart => exact ⟨0, i, Nat.zero_le _, rfl, rfl, Lib.hid (by simp), hi, hb0, HZ0.out, by rw [List.take_zero]; exact HN0.out⟩
  case round =>
    obtain ⟨m, t, hm, rfl, rfl, HTT, ht63, hbel, hz, hnode⟩ := hrel
    have hbs := hbel.size
    have HZr := Lib.hid hz
    have hzlt := hz.lt
    have HNr := Lib.hid hnode
    have hnlt := hnode.lt
    have HTr := Lib.hid (HT.out.below hbel)
    have HFr := Lib.hid (HF.out.below hbel)
    clear hz hnode
    by_cases hlt : m < n
    · have him : (m : Int) < (n : Int) := by omega
      obtain ⟨b, off, x, rfl, hb, hx, hxl, hBx⟩ := HD.out.get hlt
      have HBX := Lib.hid (hBx.below hbel).range
      have HXL := Lib.hid hxl
      have hst := climbD_step d i P m (by rw [HD.out.1]; exact hlt)
      have hgx : P.getD m [] = x := by rw [List.getD_eq_getElem?_getD, hx]; rfl
      rw [hgx, HTT.out] at hst
      have hcl : (climbD d i (P.take m)).length = 32 := climbD_length _ d i HDL.out
      have HCL := Lib.hid hcl
      obtain ⟨y, hy⟩ : ∃ y, climbD d i (P.take m) = y := ⟨_, rfl⟩
      rw [hy] at HNr HCL hst
      have HNX := Lib.hid (range_row HNr.out)
      have HYS : Hid ((bcells y).size = 32) := Lib.hid (by rw [bcells_size]; exact HCL.out)
      have hdv : ((t : Int)).tdiv 2 = ((t / 2 : Nat) : Int) := by rw [Int.tdiv_eq_ediv_of_nonneg (by omega)]; omega
      have hrm : ((t : Int)).tmod 2 = ((t % 2 : Nat) : Int) := by rw [Int.tmod_eq_emod_of_nonneg (by omega)]; omega
      have HT2 : Hid (i / 2 ^ (m + 1) = t / 2) := Lib.hid (by rw [Nat.pow_succ, ← Nat.div_div_eq_div_mul, HTT.out])
      obtain ⟨u, hu⟩ : ∃ u, t / 2 = u := ⟨_, rfl⟩
      have hu63 : u < 9223372036854775808 := by omega
      obtain ⟨o1, ho1⟩ : ∃ o, off + 32 * m = o := ⟨_, rfl⟩
      have HO1 := Lib.hid ho1
      rw [ho1] at HBX
      rw [hu] at hdv HT2
      have hmt : t % 2 = 0 ∨ t % 2 = 1 := by omega
      clear hx hBx hxl hgx hcl hy ho1 hu
      rcases hmt with h0 | h0
      · rw [h0] at hrm
        rw [if_pos h0] at hst
        have HST := Lib.hid hst
        have HAB := Lib.hid (fun w hF hT => RefAbove_any y x w HCL.out HXL.out hF hT)
        have HAS := Lib.hid (show (bcells (abL y x)).size = 32 by rw [bcells_size, abL_length])
        generalize abL y x = z at *
        clear hst h0
        go_wp2_with fail
        refine wp_region_noPanic ?_
        refine wp_region_held_drew (S := fun w' => True) (by kernel_rfl) trivial (fun hHeld => ?_)
        refine takeD (i := 1) (some 27) (.slice (some ⟨b, off, none⟩) n c) rfl rfl (by kernel_rfl) (by kernel_rfl) (by kernel_rfl) (fun _ _ _ h => h) (Or.inl ⟨by rfl, fun _ _ => rfl⟩) hHeld ?_
        simp only [Act.put, List.setIfInBounds_toArray, List.set_cons_zero, List.set_cons_succ]
        refine takeD (i := 2) (some 28) (.int .i64 (m : Int)) rfl rfl (by kernel_rfl) (by kernel_rfl) (by kernel_rfl) (fun _ _ _ h => h) (Or.inl ⟨by rfl, fun _ _ => rfl⟩) hHeld ?_
        simp only [Act.put, List.setIfInBounds_toArray, List.set_cons_zero, List.set_cons_succ]
        refine takeD (i := 3) (some 29) (.pointer (some ⟨b, o1, none⟩)) rfl rfl (by kernel_rfl) (by kernel_rfl) (by kernel_rfl) (fun _ _ _ h => h) (yields_indexO rfl (.tmp 27) (.tmp 28) rfl b off n c m o1 _ rfl rfl rfl hlt HO1.out) hHeld ?_
        simp only [Act.put, List.setIfInBounds_toArray, List.set_cons_zero, List.set_cons_succ]
        have B0 : Below wr.heap.size wr wr.drew := (Below.refl wr.heap.size wr).drew
        refine wpAnyH_ready (rs := [0, 4]) (by kernel_rfl) (by decide) ?_
        refine AllReadyH.cons rfl (fun K' hK => ?_) (AllReadyH.cons rfl (fun K' hK => ?_) AllReadyH.nil)
        · refine step_of rfl (wp_loadD (.tmp 3) rfl w.heap.size 0 y rfl HNX.out HCL.out ?_)
          refine hK.out _ _ trivial (fun _ => ?_)
          clear hK
          refine wpAnyH_ready (rs := [4]) (by kernel_rfl) (by decide) ?_
          refine AllReadyH.cons rfl (fun K' hK => ?_) AllReadyH.nil
          refine step_of rfl (wp_loadD (.tmp 29) rfl b o1 x rfl HBX.out HXL.out ?_)
          refine hK.out _ _ trivial (fun hHeld2 => ?_)
          clear hK
          refine wpAnyH_ready (rs := [5]) (by kernel_rfl) (by decide) ?_
          refine AllReadyH.cons rfl (fun K' hK => ?_) AllReadyH.nil
          go_simp
          refine (HAB.out wr.drew (HFr.out.below B0) (HTr.out.below B0)).mono ?_
          rintro e3 w3 ⟨rfl, hb3⟩
          have B3 : Below wr.heap.size wr w3 := B0.trans (hb3.mono B0.size)
          have HN3 := Lib.hid (HNr.out.below B3 hnlt)
          have HZ3 := Lib.hid (HZr.out.below B3 hzlt)
          refine hK.out _ _ trivial (fun hHeld3 => ?_)
          clear hK
          refine wpAnyH_ready (rs := [6]) (by kernel_rfl) (by decide) ?_
          refine AllReadyH.cons rfl (fun K' hK => ?_) AllReadyH.nil
          refine step_store_row Tryd.agg25 rfl (.tmp 3) (.tmp 31) rfl _ _ rfl rfl 23 _ HN3.out HAS.out HYS.out (bcells_one _) ?_
          intro w9 hr9 ho9
          have HR9 := Lib.hid hr9
          have HZ9 := Lib.hid (HZ3.out.only ho9 (by omega))
          clear hr9
          refine hK.out _ _ trivial (fun hHeld9 => ?_)
          clear hK
          (try simp only [Act.put, List.setIfInBounds_toArray])
          refine wpAnyH_done (by kernel_rfl) ?_ _
          refine NoPanic.normal ?_
          go_wp2_with fail
          have hb3' := hbel.trans (B3.mono hbs)
          refine ⟨⟨m + 1, u, by omega, by go_num, rfl, HT2, hu63, hb3'.trans (ho9.below (Nat.le_refl _) hb3'.size), HZ9.out, ?_⟩, by simp [intOf]; omega⟩
          rw [HST.out]
          exact HR9.out
        · refine step_of rfl (wp_loadD (.tmp 29) rfl b o1 x rfl HBX.out HXL.out ?_)
          refine hK.out _ _ trivial (fun _ => ?_)
          clear hK
          refine wpAnyH_ready (rs := [0]) (by kernel_rfl) (by decide) ?_
          refine AllReadyH.cons rfl (fun K' hK => ?_) AllReadyH.nil
          refine step_of rfl (wp_loadD (.tmp 3) rfl w.heap.size 0 y rfl HNX.out HCL.out ?_)
          refine hK.out _ _ trivial (fun hHeld2 => ?_)
          clear hK
          refine wpAnyH_ready (rs := [5]) (by kernel_rfl) (by decide) ?_
          refine AllReadyH.cons rfl (fun K' hK => ?_) AllReadyH.nil
          go_simp
          refine (HAB.out wr.drew (HFr.out.below B0) (HTr.out.below B0)).mono ?_
          rintro e3 w3 ⟨rfl, hb3⟩
          have B3 : Below wr.heap.size wr w3 := B0.trans (hb3.mono B0.size)
          have HN3 := Lib.hid (HNr.out.below B3 hnlt)
          have HZ3 := Lib.hid (HZr.out.below B3 hzlt)
          refine hK.out _ _ trivial (fun hHeld3 => ?_)
          clear hK
          refine wpAnyH_ready (rs := [6]) (by kernel_rfl) (by decide) ?_
          refine AllReadyH.cons rfl (fun K' hK => ?_) AllReadyH.nil
          refine step_store_row Tryd.agg25 rfl (.tmp 3) (.tmp 31) rfl _ _ rfl rfl 23 _ HN3.out HAS.out HYS.out (bcells_one _) ?_
          intro w9 hr9 ho9
          have HR9 := Lib.hid hr9
          have HZ9 := Lib.hid (HZ3.out.only ho9 (by omega))
          clear hr9
          refine hK.out _ _ trivial (fun hHeld9 => ?_)
          clear hK
          (try simp only [Act.put, List.setIfInBounds_toArray])
          refine wpAnyH_done (by kernel_rfl) ?_ _
          refine NoPanic.normal ?_
          go_wp2_with fail
          have hb3' := hbel.trans (B3.mono hbs)
          refine ⟨⟨m + 1, u, by omega, by go_num, rfl, HT2, hu63, hb3'.trans (ho9.below (Nat.le_refl _) hb3'.size), HZ9.out, ?_⟩, by simp [intOf]; omega⟩
          rw [HST.out]
          exact HR9.out
      · rw [h0] at hrm
        rw [if_neg (by omega)] at hst
        have HST := Lib.hid hst
        have HAB := Lib.hid (fun w hF hT => RefAbove_any x y w HXL.out HCL.out hF hT)
        have HAS := Lib.hid (show (bcells (abL x y)).size = 32 by rw [bcells_size, abL_length])
        generalize abL x y = z at *
        clear hst h0
        go_wp2_with fail
        refine wp_region_noPanic ?_
        refine wp_region_held_drew (S := fun w' => True) (by kernel_rfl) trivial (fun hHeld => ?_)
        refine takeD (i := 0) (some 32) (.slice (some ⟨b, off, none⟩) n c) rfl rfl (by kernel_rfl) (by kernel_rfl) (by kernel_rfl) (fun _ _ _ h => h) (Or.inl ⟨by rfl, fun _ _ => rfl⟩) hHeld ?_
        simp only [Act.put, List.setIfInBounds_toArray, List.set_cons_zero, List.set_cons_succ]
        refine takeD (i := 1) (some 33) (.int .i64 (m : Int)) rfl rfl (by kernel_rfl) (by kernel_rfl) (by kernel_rfl) (fun _ _ _ h => h) (Or.inl ⟨by rfl, fun _ _ => rfl⟩) hHeld ?_
        simp only [Act.put, List.setIfInBounds_toArray, List.set_cons_zero, List.set_cons_succ]
        refine takeD (i := 2) (some 34) (.pointer (some ⟨b, o1, none⟩)) rfl rfl (by kernel_rfl) (by kernel_rfl) (by kernel_rfl) (fun _ _ _ h => h) (yields_indexO rfl (.tmp 32) (.tmp 33) rfl b off n c m o1 _ rfl rfl rfl hlt HO1.out) hHeld ?_
        simp only [Act.put, List.setIfInBounds_toArray, List.set_cons_zero, List.set_cons_succ]
        have B0 : Below wr.heap.size wr wr.drew := (Below.refl wr.heap.size wr).drew
        refine wpAnyH_ready (rs := [3, 4]) (by kernel_rfl) (by decide) ?_
        refine AllReadyH.cons rfl (fun K' hK => ?_) (AllReadyH.cons rfl (fun K' hK => ?_) AllReadyH.nil)
        · refine step_of rfl (wp_loadD (.tmp 34) rfl b o1 x rfl HBX.out HXL.out ?_)
          refine hK.out _ _ trivial (fun _ => ?_)
          clear hK
          refine wpAnyH_ready (rs := [4]) (by kernel_rfl) (by decide) ?_
          refine AllReadyH.cons rfl (fun K' hK => ?_) AllReadyH.nil
          refine step_of rfl (wp_loadD (.tmp 3) rfl w.heap.size 0 y rfl HNX.out HCL.out ?_)
          refine hK.out _ _ trivial (fun hHeld2 => ?_)
          clear hK
          refine wpAnyH_ready (rs := [5]) (by kernel_rfl) (by decide) ?_
          refine AllReadyH.cons rfl (fun K' hK => ?_) AllReadyH.nil
          go_simp
          refine (HAB.out wr.drew (HFr.out.below B0) (HTr.out.below B0)).mono ?_
          rintro e3 w3 ⟨rfl, hb3⟩
          have B3 : Below wr.heap.size wr w3 := B0.trans (hb3.mono B0.size)
          have HN3 := Lib.hid (HNr.out.below B3 hnlt)
          have HZ3 := Lib.hid (HZr.out.below B3 hzlt)
          refine hK.out _ _ trivial (fun hHeld3 => ?_)
          clear hK
          refine wpAnyH_ready (rs := [6]) (by kernel_rfl) (by decide) ?_
          refine AllReadyH.cons rfl (fun K' hK => ?_) AllReadyH.nil
          refine step_store_row Tryd.agg25 rfl (.tmp 3) (.tmp 37) rfl _ _ rfl rfl 23 _ HN3.out HAS.out HYS.out (bcells_one _) ?_
          intro w9 hr9 ho9
          have HR9 := Lib.hid hr9
          have HZ9 := Lib.hid (HZ3.out.only ho9 (by omega))
          clear hr9
          refine hK.out _ _ trivial (fun hHeld9 => ?_)
          clear hK
          (try simp only [Act.put, List.setIfInBounds_toArray])
          refine wpAnyH_done (by kernel_rfl) ?_ _
          refine NoPanic.normal ?_
          go_wp2_with fail
          have hb3' := hbel.trans (B3.mono hbs)
          refine ⟨⟨m + 1, u, by omega, by go_num, rfl, HT2, hu63, hb3'.trans (ho9.below (Nat.le_refl _) hb3'.size), HZ9.out, ?_⟩, by simp [intOf]; omega⟩
          rw [HST.out]
          exact HR9.out
        · refine step_of rfl (wp_loadD (.tmp 3) rfl w.heap.size 0 y rfl HNX.out HCL.out ?_)
          refine hK.out _ _ trivial (fun _ => ?_)
          clear hK
          refine wpAnyH_ready (rs := [3]) (by kernel_rfl) (by decide) ?_
          refine AllReadyH.cons rfl (fun K' hK => ?_) AllReadyH.nil
          refine step_of rfl (wp_loadD (.tmp 34) rfl b o1 x rfl HBX.out HXL.out ?_)
          refine hK.out _ _ trivial (fun hHeld2 => ?_)
          clear hK
          refine wpAnyH_ready (rs := [5]) (by kernel_rfl) (by decide) ?_
          refine AllReadyH.cons rfl (fun K' hK => ?_) AllReadyH.nil
          go_simp
          refine (HAB.out wr.drew (HFr.out.below B0) (HTr.out.below B0)).mono ?_
          rintro e3 w3 ⟨rfl, hb3⟩
          have B3 : Below wr.heap.size wr w3 := B0.trans (hb3.mono B0.size)
          have HN3 := Lib.hid (HNr.out.below B3 hnlt)
          have HZ3 := Lib.hid (HZr.out.below B3 hzlt)
          refine hK.out _ _ trivial (fun hHeld3 => ?_)
          clear hK
          refine wpAnyH_ready (rs := [6]) (by kernel_rfl) (by decide) ?_
          refine AllReadyH.cons rfl (fun K' hK => ?_) AllReadyH.nil
          refine step_store_row Tryd.agg25 rfl (.tmp 3) (.tmp 37) rfl _ _ rfl rfl 23 _ HN3.out HAS.out HYS.out (bcells_one _) ?_
          intro w9 hr9 ho9
          have HR9 := Lib.hid hr9
          have HZ9 := Lib.hid (HZ3.out.only ho9 (by omega))
          clear hr9
          refine hK.out _ _ trivial (fun hHeld9 => ?_)
          clear hK
          (try simp only [Act.put, List.setIfInBounds_toArray])
          refine wpAnyH_done (by kernel_rfl) ?_ _
          refine NoPanic.normal ?_
          go_wp2_with fail
          have hb3' := hbel.trans (B3.mono hbs)
          refine ⟨⟨m + 1, u, by omega, by go_num, rfl, HT2, hu63, hb3'.trans (ho9.below (Nat.le_refl _) hb3'.size), HZ9.out, ?_⟩, by simp [intOf]; omega⟩
          rw [HST.out]
          exact HR9.out
    · obtain rfl : n = m := by omega
      rw [HTK.out] at HNr
      rw [HP.out] at HTT
      have hp0 : 0 < p := by rw [← HP.out]; exact Nat.pow_pos (by decide)
      by_cases ht0 : 0 < t
      · have i2 : (0 : Int) < (t : Int) := by omega
        obtain ⟨hR, hE⟩ := HNN.out (by
          rcases Nat.lt_or_ge i p with q | q
          · have := Nat.div_eq_of_lt q; have := HTT.out; omega
          · exact q)
        subst hR hE
        go_wp2_with (with_reducible refine wpList_store_row Tryd.agg25 rfl (.tmp 6) (.tmp 42) rfl _ _ rfl rfl 23 lit32 HZr.out lit32_size lit32_size lit32_one ?_; intro w9 hr9 ho9; have HR9 := Lib.hid hr9; clear hr9)
        exact bodyPost_ret (results_row2 Tryd.agg25 Tryd.results50 rfl rfl HR9.out lit32_size) rfl ⟨rfl, hbel.trans (ho9.below (by omega) hbs)⟩
      · have i2 : ¬ (0 : Int) < (t : Int) := by omega
        obtain ⟨hR, hE⟩ := HYY.out (by
          rcases Nat.lt_or_ge i p with q | q
          · exact q
          · have := Nat.div_pos q hp0; have := HTT.out; omega)
        rw [← hR] at HRS HNr
        subst hE
        clear hR
        go_wp2_with (first
          | (with_reducible refine wpList_load_row Tryd.agg25 rfl (.tmp 3) rfl _ rfl 23 _ HNr.out HRS.out ?_)
          | (with_reducible refine wpList_store_row Tryd.agg25 rfl (.tmp 6) (.tmp 43) rfl _ _ rfl rfl 23 lit32 HZr.out HRS.out lit32_size (bcells_one _) ?_; intro w9 hr9 ho9; have HR9 := Lib.hid hr9; clear hr9))
        exact bodyPost_ret (results_row2 Tryd.agg25 Tryd.results50 rfl rfl HR9.out HRS.out) rfl ⟨rfl, hbel.trans (ho9.below (by omega) hbs)⟩
end
section
open Go.RowKit
theorem S6RefRoot_any (A : Option Addr) (n c : Nat) (L : List (List UInt8)) (w : World) (hc : n ≤ c) (hD : Ds w A n L) (hF : First w) (hT : Tab 2 w) : Calls Tryd.prog 39 #[.slice A n c] w (RecD w (rootI L) (errT L.length)) := by
  unfold rootI errT
  have hl := hD.1
  cases ho : okT (L.length : Int)
  · exact RefRoot_no A n c w (by rw [← hl]; exact ho)
  · obtain ⟨h1, h2⟩ := okT_log ho
    exact RefRoot_ok (Nat.log2 L.length) A n c L w h1 (by rw [← h2]; exact hl.symm) hc hD hF hT
theorem RefPath_any (A : Option Addr) (n c : Nat) (i : Int) (L : List (List UInt8)) (w : World) (hc : n ≤ c) (hD : Ds w A n L) (hF : First w) (hT : Tab 2 w) : Calls Tryd.prog 45 #[.slice A n c, .int .i64 i] w (NewD w (pathI L i) (errP L.length i)) := by
  unfold pathI errP
  have hl := hD.1
  cases ho : okP L.length i
  · exact RefPath_no A n c i w (by rw [← hl]; exact okP_no ho)
  · obtain ⟨h0, j, rfl, hj⟩ := okP_yes ho
    obtain ⟨h1, h2⟩ := okT_log h0
    exact RefPath_ok (Nat.log2 L.length) A n c j L w h1 (by rw [← h2]; exact hl.symm) hc (by omega) hD hF hT
theorem wf_i64 {i : Int} (h : (Lit.int .i64 i).wf = true) : i < 9223372036854775808 := by
  simp only [Lit.wf, Bool.and_eq_true, IntKind.min, IntKind.max] at h
  obtain ⟨_, h2⟩ := h
  simp [IntKind.bits, IntKind.signed] at h2
  omega
theorem RefClimb_all (d : List UInt8) (i : Int) (A : Option Addr) (n c : Nat) (P : List (List UInt8)) (w : World) (hd : d.length = 32) (hi : i < 9223372036854775808) (hD : Ds w A n P) (hF : First w) (hT : Tab 2 w) :
    Calls Tryd.prog 50 #[.agg (bcells d), .int .i64 i, .slice A n c] w (RecD w (climbI d i P) (errC P.length i)) := by
  have hl := hD.1
  by_cases h1 : n ≤ 10
  · by_cases h2 : i < 0
    · have ho : okC P.length i = false := by unfold okC; rw [hl]; simp; omega
      unfold climbI errC
      rw [ho]
      exact RefClimb_neg d A n c i w h1 h2
    · obtain ⟨j, rfl⟩ := Int.eq_ofNat_of_zero_le (show 0 ≤ i by omega)
      refine RefClimb_any d A n c j P w _ _ hd h1 (by omega) hD hF hT (fun h => ?_) (fun h => ?_)
      · have ho : okC P.length (j : Int) = true := by
          unfold okC
          rw [hl]
          simp only [Bool.and_eq_true, decide_eq_true_eq]
          omega
        unfold climbI errC
        rw [ho]
        exact ⟨rfl, rfl⟩
      · have ho : okC P.length (j : Int) = false := by
          unfold okC
          rw [hl]
          simp only [Bool.and_eq_false_iff, decide_eq_false_iff_not]
          omega
        unfold climbI errC
        rw [ho]
        exact ⟨rfl, rfl⟩
  · have ho : okC P.length i = false := by unfold okC; rw [hl]; simp; omega
    unfold climbI errC
    rw [ho]
    exact RefClimb_long d A n c i w (by omega)
end
end Go.Proofs.YtfelmdndjdaniaaDoor
