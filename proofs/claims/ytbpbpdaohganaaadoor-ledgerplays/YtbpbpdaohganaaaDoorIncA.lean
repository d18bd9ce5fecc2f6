/-
  What proof.inclusion and the document's own include answer of any place of a list of up to a thousand digests: the proof of the place (they call themselves).
-/
import Derived.Test.YtbpbpdaohganaaaDoorRootA
namespace Go.Proofs.YtbpbpdaohganaaaDoor
open Go.RowKit
theorem inc_le (L : List (List UInt8)) (i : Nat) (h : L.length ≤ 1024) : (incP nodeL (sumL []) L i).length ≤ 20 := by
  rw [inc_len nodeL (sumL []) _ L i rfl]
  have := deep_le 10 L.length i (by omega)
  omega
theorem part_le (L : List (List UInt8)) (m : Nat) (wb : Bool) (h1 : 1 ≤ m) (h2 : m ≤ L.length) (h : L.length ≤ 1024) : (partP nodeL (sumL []) L m wb).length ≤ 20 := by
  rw [part_len nodeL (sumL []) _ L m wb rfl h1 h2]
  have := deepC_le 10 L.length m wb h1 h2 (by omega)
  omega
/-- digests in new memory -/
def NewP (w : World) (L : List (List UInt8)) (e : Ending) (w' : World) : Prop :=
  ∃ A c, e = .returned (.slice A L.length c) ∧ OwnD w' w.heap.size (.slice A L.length c) L.length L ∧ Below w.heap.size w w'
theorem wp_build1 {o : Oper} {a : Act} {w : World} {K : Act → World → Prop} {Q : Exit → Act → World → Prop} (x : Operand) (ho : o.op = .buildSlice 28 1 #[(0, x)]) (p : List UInt8)
    (hx : a.eval x = .agg (bcells p)) (hp : p.length = 32)
    (h : ∀ g w', Ds w' (some ⟨g, 0, none⟩) 1 [p] → Below w.heap.size w w' → K (a.put o.dst (.slice (some ⟨g, 0, none⟩) 1 1)) w') : o.wp Tryd.prog a w K Q := by
  have hd : Ds (w.alloc (.cells (bcells p) 46)) (some ⟨w.heap.size, 0, none⟩) 1 [p] := by
    refine ⟨rfl, Digs.one hp, ?_⟩
    have e : flat [p] = p := by simp [flat]
    rw [e]
    exact (Row.new w 46 (bcells p)).bsB hp
  unfold Oper.wp execOp
  simp only [ho, List.map_toArray, List.map_cons, List.map_nil, hx, Sem.run_bind, run_build1 p hp, Result.andThen_ok]
  exact h _ _ hd ((Below.refl _ _).alloc (Nat.le_refl _) _)
/-- []Digest of one, as new memory -/
theorem wpList_buildO {ops : Array Oper} {rest : List Oper} {o : Oper} {a : Act} {w : World} {Q : Exit → Act → World → Prop} (hgd : o.guard = none) (x : Operand) (ho : o.op = .buildSlice 28 1 #[(0, x)]) (p : List UInt8)
    (hx : a.eval x = .agg (bcells p)) (hp : p.length = 32) (base : Nat) (hb : base ≤ w.heap.size)
    (h : ∀ A c w', OwnD w' base (.slice A 1 c) 1 [p] → Below w.heap.size w w' → wpList Tryd.prog ops Q rest (a.put o.dst (.slice A 1 c)) w') : wpList Tryd.prog ops Q (o :: rest) a w := by
  refine wpList_plain hgd fun K hK => ?_
  have hd : OwnD (w.alloc (.cells (bcells p) 46)) base (.slice (some ⟨w.heap.size, 0, none⟩) 1 1) 1 [p] := by
    refine ⟨Digs.one hp, by simp [flat, hp], .inr ⟨w.heap.size, 1, bcells p, rfl, hb, (Row.new w 46 (bcells p)), Nat.le_refl _, by decide, by rw [bcells_size, hp], ?_⟩⟩
    have e : flat [p] = p := by simp [flat]
    rw [e]
    unfold bcells
    rw [List.toList_toArray]
    exact List.take_of_length_le (by rw [List.length_map, hp]; exact Nat.le_refl _)
  unfold Oper.wp execOp
  simp only [ho, List.map_toArray, List.map_cons, List.map_nil, hx, Sem.run_bind, run_build1 p hp, Result.andThen_ok]
  exact hK _ _ (h _ _ _ hd ((Below.refl _ _).alloc (Nat.le_refl _) _))
set_option maxRecDepth 100000 in
set_option maxHeartbeats 400000 in
theorem incl_one (A : Option Addr) (c : Nat) (i : Int) (w : World) : Calls Tryd.prog 54 #[.slice A 1 c, .int .i64 i] w (NewP w []) := by
  go_enter Tryd.func54, Tryd.ntmps54
  go_wp2
  go_ret
  exact ⟨none, 0, rfl, OwnD.nil _ _, Below.refl _ _⟩
set_option maxRecDepth 100000 in
set_option maxHeartbeats 2000000 in
theorem incl_low (h m n : Nat) (A : Option Addr) (c i : Nat) (L : List (List UInt8)) (w : World) (h2 : 2 ≤ n) (hs : splitN n = h) (hm : n - h = m) (hn : n ≤ 1024) (hc : n ≤ c) (hi : i < h) (_hi2 : i ≤ n) (hD : Ds w A n L) (hT : Tab 1 w) (Q : List (List UInt8)) (X : List UInt8) (hX : X.length = 32) (hQ : Q.length ≤ 20)
    (h1 : ∀ A' c' w', h ≤ c' → Ds w' A' h (L.take h) → Tab 1 w' → Calls Tryd.prog 54 #[.slice A' h c', .int .i64 (i : Int)] w' (NewP w' Q))
    (h2' : ∀ A' c' w', m ≤ c' → Ds w' A' m (L.drop h) → Tab 1 w' → Calls Tryd.prog 35 #[.slice A' m c'] w' fun e w'' => e = .returned (.agg (bcells X)) ∧ Below w'.heap.size w' w'') :
    Calls Tryd.prog 54 #[.slice A n c, .int .i64 (i : Int)] w (NewP w (Q ++ [X])) := by
  have hlt := splitN_lt h2
  have hpos := splitN_pos n
  rw [hs] at hlt hpos
  have HSP := Lib.hid (fun w => show Calls Tryd.prog 50 #[.int .i64 (n : Int)] w fun e w' => e = .returned (.int .i64 (h : Int)) ∧ w = w' by have q := split_any n w h2 (by omega); rwa [hs] at q)
  have hne : ((n : Int) == 1) = false := by simp; omega
  have i0 : (i : Int) < (h : Int) := by omega
  have i2 : (i : Int) ≤ 4096 := by omega
  have i3 : (h : Int) ≤ 4096 := by omega
  obtain ⟨A1, r1, d1, _⟩ := cutD_head A n c h (h : Int) rfl (by omega) hc
  obtain ⟨A2, r2, d2, _⟩ := cutD_from A n c h (h : Int) rfl (by omega) hc
  obtain ⟨c2, hc2⟩ : ∃ c2, c - h = c2 := ⟨_, rfl⟩
  rw [hc2, hm] at r2
  rw [hm] at d2
  have HR1 := Lib.hid r1
  have HR2 := Lib.hid r2
  have HD1 := Lib.hid (fun w' hb => d1 w' L (hD.below hb))
  have HD2 := Lib.hid (fun w' hb => d2 w' L (hD.below hb))
  have HC1 := Lib.hid (fun w' => h1 A1 c w' (by omega))
  have HC2 := Lib.hid (fun w' => h2' A2 c2 w' (by omega))
  have HX := Lib.hid hX
  have HQ := Lib.hid hQ
  have HT := Lib.hid hT
  clear hn h2 hs r1 r2 d1 d2 hc2 hm h1 h2' hD hT hX hQ hi
  go_enter Tryd.func54, Tryd.ntmps54
  go_wp2_with (go_at_call 50; refine (HSP.out _).mono ?_; rintro e2 w2 ⟨rfl, rfl⟩)
  refine wp_region_noPanic ?_
  refine wp_region_held_drew (S := fun w' => True) (by kernel_rfl) trivial (fun hHeld => ?_)
  refine takeD (i := 0) (some 15) (.slice A n c) rfl rfl (by kernel_rfl) (by kernel_rfl) (by kernel_rfl) (fun _ _ _ h => h) (Or.inl ⟨by rfl, fun _ _ => rfl⟩) hHeld ?_
  simp only [Act.put, List.setIfInBounds_toArray, List.set_cons_zero, List.set_cons_succ]
  refine takeD (i := 1) (some 16) (.int .i64 (h : Int)) rfl rfl (by kernel_rfl) (by kernel_rfl) (by kernel_rfl) (fun _ _ _ h => h) (Or.inl ⟨by rfl, fun _ _ => rfl⟩) hHeld ?_
  simp only [Act.put, List.setIfInBounds_toArray, List.set_cons_zero, List.set_cons_succ]
  refine takeD (i := 2) (some 17) (.slice A1 h c) rfl rfl (by kernel_rfl) (by kernel_rfl) (by kernel_rfl) (fun _ _ _ h => h) (yields_sliceH rfl (.tmp 15) (.tmp 16) rfl _ _ _ rfl rfl HR1.out) hHeld ?_
  simp only [Act.put, List.setIfInBounds_toArray, List.set_cons_zero, List.set_cons_succ]
  refine takeD (i := 3) (some 18) (.int .i64 (i : Int)) rfl rfl (by kernel_rfl) (by kernel_rfl) (by kernel_rfl) (fun _ _ _ h => h) (Or.inl ⟨by rfl, fun _ _ => rfl⟩) hHeld ?_
  simp only [Act.put, List.setIfInBounds_toArray, List.set_cons_zero, List.set_cons_succ]
  refine takeD (i := 5) (some 20) (.slice A n c) rfl rfl (by kernel_rfl) (by kernel_rfl) (by kernel_rfl) (fun _ _ _ h => h) (Or.inl ⟨by rfl, fun _ _ => rfl⟩) hHeld ?_
  simp only [Act.put, List.setIfInBounds_toArray, List.set_cons_zero, List.set_cons_succ]
  refine takeD (i := 6) (some 21) (.int .i64 (h : Int)) rfl rfl (by kernel_rfl) (by kernel_rfl) (by kernel_rfl) (fun _ _ _ h => h) (Or.inl ⟨by rfl, fun _ _ => rfl⟩) hHeld ?_
  simp only [Act.put, List.setIfInBounds_toArray, List.set_cons_zero, List.set_cons_succ]
  refine takeD (i := 7) (some 22) (.slice A2 m c2) rfl rfl (by kernel_rfl) (by kernel_rfl) (by kernel_rfl) (fun _ _ _ h => h) (yields_sliceF rfl (.tmp 20) (.tmp 21) rfl _ _ _ rfl rfl HR2.out) hHeld ?_
  simp only [Act.put, List.setIfInBounds_toArray, List.set_cons_zero, List.set_cons_succ]
  have B0 : Below w.heap.size w w.drew := (Below.refl w.heap.size w).drew
  refine wpAnyH_ready (rs := [4]) (by kernel_rfl) (by decide) ?_
  refine AllReadyH.cons rfl (fun K' hK => ?_) AllReadyH.nil
  go_simp
  refine (HC1.out w.drew (HD1.out _ B0) (HT.out.below B0)).mono ?_
  rintro e3 w3 ⟨A3, c3, rfl, ho3, hb3⟩
  have HO3 := Lib.hid ho3
  have B3 : Below w.heap.size w w3 := B0.trans (hb3.mono B0.size)
  clear ho3
  refine hK.out _ _ trivial (fun hHeld3 => ?_)
  clear hK
  refine wpAnyH_ready (rs := [8]) (by kernel_rfl) (by decide) ?_
  refine AllReadyH.cons rfl (fun K' hK => ?_) AllReadyH.nil
  go_simp
  refine (HC2.out w3 (HD2.out _ B3) (HT.out.below B3)).mono ?_
  rintro e4 w4 ⟨rfl, hb4⟩
  have HO4 := Lib.hid ((HO3.out.below hb4).mono (base' := w.heap.size) B0.size)
  have B4 : Below w.heap.size w w4 := B3.trans (hb4.mono B3.size)
  refine hK.out _ _ trivial (fun hHeld4 => ?_)
  clear hK
  refine wpAnyH_ready (rs := [9]) (by kernel_rfl) (by decide) ?_
  refine AllReadyH.cons rfl (fun K' hK => ?_) AllReadyH.nil
  refine step_of rfl (wp_build1 (.tmp 23) rfl X rfl HX.out ?_)
  intro g5 w5 hd5 hb5
  have HD5 := Lib.hid hd5
  have HO5 := Lib.hid (HO4.out.below hb5)
  have B5 : Below w.heap.size w w5 := B4.trans (hb5.mono B4.size)
  clear hd5
  refine hK.out _ _ trivial (fun hHeld5 => ?_)
  clear hK
  refine wpAnyH_ready (rs := [10]) (by kernel_rfl) (by decide) ?_
  refine AllReadyH.cons rfl (fun K' hK => ?_) AllReadyH.nil
  refine step_of rfl (wp_appD (.tmp 19) (.tmp 24) rfl w.heap.size _ Q.length Q rfl HO5.out _ 1 1 [X] rfl HD5.out (by have := HQ.out; omega) B5.size ?_)
  intro A6 c6 w6 ho6 hb6
  have HO6 := Lib.hid ho6
  have B6 : Below w.heap.size w w6 := B5.trans hb6
  clear ho6
  refine hK.out _ _ trivial (fun hHeld6 => ?_)
  clear hK
  simp only [Act.put, List.getElem_toArray, List.getElem_cons_succ, List.getElem_cons_zero, List.setIfInBounds_toArray, List.set_cons_zero, List.set_cons_succ]
  refine takeD (i := 11) (some 4) (.slice A6 (Q.length + 1) c6) rfl rfl (by kernel_rfl) (by kernel_rfl) (by kernel_rfl) (fun _ _ _ h => h) (Or.inl ⟨by rfl, fun _ _ => rfl⟩) hHeld6 ?_
  (try simp only [Act.put, List.setIfInBounds_toArray])
  refine wpAnyH_done (by kernel_rfl) ?_ _
  refine NoPanic.normal ?_
  go_wp2_with fail
  go_ret
  refine ⟨A6, c6, ?_, ?_, B6⟩
  · rw [List.length_append]; rfl
  · rw [List.length_append]; exact HO6.out
set_option maxRecDepth 100000 in
set_option maxHeartbeats 2000000 in
theorem incl_high (h m n : Nat) (A : Option Addr) (c i : Nat) (L : List (List UInt8)) (w : World) (h2 : 2 ≤ n) (hs : splitN n = h) (hm : n - h = m) (hn : n ≤ 1024) (hc : n ≤ c) (hi : h ≤ i) (hi2 : i ≤ n) (hD : Ds w A n L) (hT : Tab 1 w) (Q : List (List UInt8)) (X : List UInt8) (hX : X.length = 32) (hQ : Q.length ≤ 20)
    (h1 : ∀ A' c' w', m ≤ c' → Ds w' A' m (L.drop h) → Tab 1 w' → Calls Tryd.prog 54 #[.slice A' m c', .int .i64 ((i : Int) - (h : Int))] w' (NewP w' Q))
    (h2' : ∀ A' c' w', h ≤ c' → Ds w' A' h (L.take h) → Tab 1 w' → Calls Tryd.prog 35 #[.slice A' h c'] w' fun e w'' => e = .returned (.agg (bcells X)) ∧ Below w'.heap.size w' w'') :
    Calls Tryd.prog 54 #[.slice A n c, .int .i64 (i : Int)] w (NewP w (Q ++ [X])) := by
  have hlt := splitN_lt h2
  have hpos := splitN_pos n
  rw [hs] at hlt hpos
  have HSP := Lib.hid (fun w => show Calls Tryd.prog 50 #[.int .i64 (n : Int)] w fun e w' => e = .returned (.int .i64 (h : Int)) ∧ w = w' by have q := split_any n w h2 (by omega); rwa [hs] at q)
  have hne : ((n : Int) == 1) = false := by simp; omega
  have i0 : ¬ (i : Int) < (h : Int) := by omega
  have i2 : (i : Int) ≤ 4096 := by omega
  have i3 : (h : Int) ≤ 4096 := by omega
  have i4 : (h : Int) ≤ (i : Int) := by omega
  obtain ⟨A1, r1, d1, _⟩ := cutD_head A n c h (h : Int) rfl (by omega) hc
  obtain ⟨A2, r2, d2, _⟩ := cutD_from A n c h (h : Int) rfl (by omega) hc
  obtain ⟨c2, hc2⟩ : ∃ c2, c - h = c2 := ⟨_, rfl⟩
  rw [hc2, hm] at r2
  rw [hm] at d2
  have HR1 := Lib.hid r1
  have HR2 := Lib.hid r2
  have HD1 := Lib.hid (fun w' hb => d1 w' L (hD.below hb))
  have HD2 := Lib.hid (fun w' hb => d2 w' L (hD.below hb))
  have HC1 := Lib.hid (fun w' => h1 A2 c2 w' (by omega))
  have HC2 := Lib.hid (fun w' => h2' A1 c w' (by omega))
  have HX := Lib.hid hX
  have HQ := Lib.hid hQ
  have HT := Lib.hid hT
  clear hn h2 hs r1 r2 d1 d2 hc2 hm h1 h2' hD hT hX hQ hi hi2
  go_enter Tryd.func54, Tryd.ntmps54
  go_wp2_with (go_at_call 50; refine (HSP.out _).mono ?_; rintro e2 w2 ⟨rfl, rfl⟩)
  refine wp_region_noPanic ?_
  refine wp_region_held_drew (S := fun w' => True) (by kernel_rfl) trivial (fun hHeld => ?_)
  refine takeD (i := 0) (some 26) (.slice A n c) rfl rfl (by kernel_rfl) (by kernel_rfl) (by kernel_rfl) (fun _ _ _ h => h) (Or.inl ⟨by rfl, fun _ _ => rfl⟩) hHeld ?_
  simp only [Act.put, List.setIfInBounds_toArray, List.set_cons_zero, List.set_cons_succ]
  refine takeD (i := 1) (some 27) (.int .i64 (h : Int)) rfl rfl (by kernel_rfl) (by kernel_rfl) (by kernel_rfl) (fun _ _ _ h => h) (Or.inl ⟨by rfl, fun _ _ => rfl⟩) hHeld ?_
  simp only [Act.put, List.setIfInBounds_toArray, List.set_cons_zero, List.set_cons_succ]
  refine takeD (i := 2) (some 28) (.slice A2 m c2) rfl rfl (by kernel_rfl) (by kernel_rfl) (by kernel_rfl) (fun _ _ _ h => h) (yields_sliceF rfl (.tmp 26) (.tmp 27) rfl _ _ _ rfl rfl HR2.out) hHeld ?_
  simp only [Act.put, List.setIfInBounds_toArray, List.set_cons_zero, List.set_cons_succ]
  refine takeD (i := 3) (some 29) (.int .i64 (i : Int)) rfl rfl (by kernel_rfl) (by kernel_rfl) (by kernel_rfl) (fun _ _ _ h => h) (Or.inl ⟨by rfl, fun _ _ => rfl⟩) hHeld ?_
  simp only [Act.put, List.setIfInBounds_toArray, List.set_cons_zero, List.set_cons_succ]
  refine takeD (i := 4) (some 30) (.int .i64 (h : Int)) rfl rfl (by kernel_rfl) (by kernel_rfl) (by kernel_rfl) (fun _ _ _ h => h) (Or.inl ⟨by rfl, fun _ _ => rfl⟩) hHeld ?_
  simp only [Act.put, List.setIfInBounds_toArray, List.set_cons_zero, List.set_cons_succ]
  refine takeD (i := 5) (some 31) (.int .i64 ((i : Int) - (h : Int))) rfl rfl (by kernel_rfl) (by kernel_rfl) (by kernel_rfl) (fun _ _ _ h => h) (yields_sub rfl (.tmp 29) (.tmp 30) rfl _ _ _ rfl rfl rfl (by omega) (by omega)) hHeld ?_
  simp only [Act.put, List.setIfInBounds_toArray, List.set_cons_zero, List.set_cons_succ]
  refine takeD (i := 7) (some 33) (.slice A n c) rfl rfl (by kernel_rfl) (by kernel_rfl) (by kernel_rfl) (fun _ _ _ h => h) (Or.inl ⟨by rfl, fun _ _ => rfl⟩) hHeld ?_
  simp only [Act.put, List.setIfInBounds_toArray, List.set_cons_zero, List.set_cons_succ]
  refine takeD (i := 8) (some 34) (.int .i64 (h : Int)) rfl rfl (by kernel_rfl) (by kernel_rfl) (by kernel_rfl) (fun _ _ _ h => h) (Or.inl ⟨by rfl, fun _ _ => rfl⟩) hHeld ?_
  simp only [Act.put, List.setIfInBounds_toArray, List.set_cons_zero, List.set_cons_succ]
  refine takeD (i := 9) (some 35) (.slice A1 h c) rfl rfl (by kernel_rfl) (by kernel_rfl) (by kernel_rfl) (fun _ _ _ h => h) (yields_sliceH rfl (.tmp 33) (.tmp 34) rfl _ _ _ rfl rfl HR1.out) hHeld ?_
  simp only [Act.put, List.setIfInBounds_toArray, List.set_cons_zero, List.set_cons_succ]
  have B0 : Below w.heap.size w w.drew := (Below.refl w.heap.size w).drew
  refine wpAnyH_ready (rs := [6]) (by kernel_rfl) (by decide) ?_
  refine AllReadyH.cons rfl (fun K' hK => ?_) AllReadyH.nil
  go_simp
  refine (HC1.out w.drew (HD2.out _ B0) (HT.out.below B0)).mono ?_
  rintro e3 w3 ⟨A3, c3, rfl, ho3, hb3⟩
  have HO3 := Lib.hid ho3
  have B3 : Below w.heap.size w w3 := B0.trans (hb3.mono B0.size)
  clear ho3
  refine hK.out _ _ trivial (fun hHeld3 => ?_)
  clear hK
  refine wpAnyH_ready (rs := [10]) (by kernel_rfl) (by decide) ?_
  refine AllReadyH.cons rfl (fun K' hK => ?_) AllReadyH.nil
  go_simp
  refine (HC2.out w3 (HD1.out _ B3) (HT.out.below B3)).mono ?_
  rintro e4 w4 ⟨rfl, hb4⟩
  have HO4 := Lib.hid ((HO3.out.below hb4).mono (base' := w.heap.size) B0.size)
  have B4 : Below w.heap.size w w4 := B3.trans (hb4.mono B3.size)
  refine hK.out _ _ trivial (fun hHeld4 => ?_)
  clear hK
  refine wpAnyH_ready (rs := [11]) (by kernel_rfl) (by decide) ?_
  refine AllReadyH.cons rfl (fun K' hK => ?_) AllReadyH.nil
  refine step_of rfl (wp_build1 (.tmp 36) rfl X rfl HX.out ?_)
  intro g5 w5 hd5 hb5
  have HD5 := Lib.hid hd5
  have HO5 := Lib.hid (HO4.out.below hb5)
  have B5 : Below w.heap.size w w5 := B4.trans (hb5.mono B4.size)
  clear hd5
  refine hK.out _ _ trivial (fun hHeld5 => ?_)
  clear hK
  refine wpAnyH_ready (rs := [12]) (by kernel_rfl) (by decide) ?_
  refine AllReadyH.cons rfl (fun K' hK => ?_) AllReadyH.nil
  refine step_of rfl (wp_appD (.tmp 32) (.tmp 37) rfl w.heap.size _ Q.length Q rfl HO5.out _ 1 1 [X] rfl HD5.out (by have := HQ.out; omega) B5.size ?_)
  intro A6 c6 w6 ho6 hb6
  have HO6 := Lib.hid ho6
  have B6 : Below w.heap.size w w6 := B5.trans hb6
  clear ho6
  refine hK.out _ _ trivial (fun hHeld6 => ?_)
  clear hK
  simp only [Act.put, List.getElem_toArray, List.getElem_cons_succ, List.getElem_cons_zero, List.setIfInBounds_toArray, List.set_cons_zero, List.set_cons_succ]
  refine takeD (i := 13) (some 4) (.slice A6 (Q.length + 1) c6) rfl rfl (by kernel_rfl) (by kernel_rfl) (by kernel_rfl) (fun _ _ _ h => h) (Or.inl ⟨by rfl, fun _ _ => rfl⟩) hHeld6 ?_
  (try simp only [Act.put, List.setIfInBounds_toArray])
  refine wpAnyH_done (by kernel_rfl) ?_ _
  refine NoPanic.normal ?_
  go_wp2_with fail
  go_ret
  refine ⟨A6, c6, ?_, ?_, B6⟩
  · rw [List.length_append]; rfl
  · rw [List.length_append]; exact HO6.out
theorem incl_ok (A : Option Addr) (n c i : Nat) (L : List (List UInt8)) (w : World) (hn : n ≤ 1024) (hc : n ≤ c) (hi : i < n) (hD : Ds w A n L) (hT : Tab 1 w) :
    Calls Tryd.prog 54 #[.slice A n c, .int .i64 (i : Int)] w (NewP w (incP nodeL (sumL []) L i)) := by
  by_cases h1 : n = 1
  · subst h1; rw [incP_one nodeL (sumL []) i (by rw [hD.1]; exact Nat.le_refl _)]; exact incl_one A c _ w
  have h2 : 2 ≤ n := by omega
  have hlt := splitN_lt h2
  have hpos := splitN_pos n
  have l1 : (L.take (splitN n)).length = splitN n := by rw [List.length_take, hD.1]; omega
  have l2 : (L.drop (splitN n)).length = n - splitN n := by rw [List.length_drop, hD.1]
  by_cases hlow : i < splitN n
  · have e : incP nodeL (sumL []) L i = incP nodeL (sumL []) (L.take (splitN n)) i ++ [rootL (L.drop (splitN n))] := by
      have q := incP_left nodeL (sumL []) (L := L) (i := i) (by rw [hD.1]; exact h2) (by rw [hD.1]; exact hlow)
      rwa [hD.1] at q
    rw [e]
    exact incl_low (splitN n) (n - splitN n) n A c i L w h2 rfl rfl hn hc hlow (by omega) hD hT _ _ (rootL_length _ (hD.2.1.dropL _)) (inc_le _ _ (by omega))
      (fun A' c' w' h1 h2' h3 => incl_ok A' (splitN n) c' i _ w' (by omega) h1 hlow h2' h3) (fun A' c' w' h1 h2' h3 => root_ok A' _ c' _ w' (by omega) h1 h2' h3)
  · have e : incP nodeL (sumL []) L i = incP nodeL (sumL []) (L.drop (splitN n)) (i - splitN n) ++ [rootL (L.take (splitN n))] := by
      have q := incP_right nodeL (sumL []) (L := L) (i := i) (by rw [hD.1]; exact h2) (by rw [hD.1]; exact hlow)
      rwa [hD.1] at q
    rw [e]
    refine incl_high (splitN n) (n - splitN n) n A c i L w h2 rfl rfl hn hc (by omega) (by omega) hD hT _ _ (rootL_length _ (hD.2.1.take _)) (inc_le _ _ (by omega))
      (fun A' c' w' h1 h2' h3 => ?_) (fun A' c' w' h1 h2' h3 => root_ok A' _ c' _ w' (by omega) h1 h2' h3)
    have q := incl_ok A' (n - splitN n) c' (i - splitN n) _ w' (by omega) h1 (by omega) h2' h3
    rwa [show ((i - splitN n : Nat) : Int) = (i : Int) - (splitN n : Int) by omega] at q
termination_by n
set_option maxRecDepth 100000 in
set_option maxHeartbeats 400000 in
theorem Refincl_one (A : Option Addr) (c : Nat) (i : Int) (w : World) : Calls Tryd.prog 55 #[.slice A 1 c, .int .i64 i] w (NewP w []) := by
  go_enter Tryd.func55, Tryd.ntmps55
  go_wp2
  go_ret
  exact ⟨none, 0, rfl, OwnD.nil _ _, Below.refl _ _⟩
set_option maxRecDepth 100000 in
set_option maxHeartbeats 2000000 in
theorem Refincl_low (h m n : Nat) (A : Option Addr) (c i : Nat) (L : List (List UInt8)) (w : World) (h2 : 2 ≤ n) (hs : splitN n = h) (hm : n - h = m) (hn : n ≤ 1024) (hc : n ≤ c) (hi : i < h) (_hi2 : i ≤ n) (hD : Ds w A n L) (hF : First w) (hT : Tab 4 w) (Q : List (List UInt8)) (X : List UInt8) (hX : X.length = 32) (hQ : Q.length ≤ 20)
    (h1 : ∀ A' c' w', h ≤ c' → Ds w' A' h (L.take h) → First w' → Tab 4 w' → Calls Tryd.prog 55 #[.slice A' h c', .int .i64 (i : Int)] w' (NewP w' Q))
    (h2' : ∀ A' c' w', m ≤ c' → Ds w' A' m (L.drop h) → First w' → Tab 4 w' → Calls Tryd.prog 36 #[.slice A' m c'] w' fun e w'' => e = .returned (.agg (bcells X)) ∧ Below w'.heap.size w' w'') :
    Calls Tryd.prog 55 #[.slice A n c, .int .i64 (i : Int)] w (NewP w (Q ++ [X])) := by
  have hlt := splitN_lt h2
  have hpos := splitN_pos n
  rw [hs] at hlt hpos
  have HSP := Lib.hid (fun w => show Calls Tryd.prog 52 #[.int .i64 (n : Int)] w fun e w' => e = .returned (.int .i64 (h : Int)) ∧ w = w' by have q := RefSplit_any n w h2 (by omega); rwa [hs] at q)
  have hne : ((n : Int) == 1) = false := by simp; omega
  have i0 : (i : Int) < (h : Int) := by omega
  have i2 : (i : Int) ≤ 4096 := by omega
  have i3 : (h : Int) ≤ 4096 := by omega
  have hhn : h ≤ n := by omega
  have HHN := Lib.hid hm
  have hhc : h ≤ c := by omega
  have hhc2 : m ≤ c - h := by omega
  have HD := Lib.hid hD
  have HC1 := Lib.hid h1
  have HC2 := Lib.hid h2'
  have HX := Lib.hid hX
  have HQ := Lib.hid hQ
  have HF := Lib.hid hF
  have HT := Lib.hid hT
  clear hn h2 hs hm h1 h2' hD hF hT hX hQ hi
  go_enter Tryd.func55, Tryd.ntmps55
  go_wp2_with (first
    | (go_at_call 52; refine (HSP.out _).mono ?_; rintro e1 w1 ⟨rfl, rfl⟩)
    | (with_reducible refine wpList_headD rfl (.tmp 17) (.tmp 18) rfl A n c h _ rfl rfl rfl hhn hc ?_; intro A1 d1 _; have HA1 := Lib.hid (d1 w L HD.out); clear d1)
    | (with_reducible refine wpList_fromD rfl (.tmp 23) (.tmp 24) rfl A n c h _ rfl rfl rfl hhn hc ?_; intro A3 d3 _; rw [HHN.out] at d3 ⊢; have HA3 := Lib.hid (d3 w2 L (HD.out.below hb2)); clear d3)
    | (go_at_call 55; refine (HC1.out A1 c w hhc HA1.out HF.out HT.out).mono ?_; rintro e2 w2 ⟨A2, c2, rfl, ho2, hb2⟩; have HO2 := Lib.hid ho2; have hs2 := hb2.size; clear ho2)
    | (go_at_call 36; refine (HC2.out A3 (c - h) w2 hhc2 HA3.out (HF.out.below hb2) (HT.out.below hb2)).mono ?_; rintro e3 w3 ⟨rfl, hb3⟩; have HO3 := Lib.hid (HO2.out.below hb3); have hs3 := hb3.size; have hb3' := hb2.trans (hb3.mono hs2))
    | (with_reducible refine wpList_build1 rfl (.tmp 26) rfl X rfl HX.out ?_; intro g4 w4 hg4 hd4 hb4; have HD4 := Lib.hid hd4; have hs4 := hb4.size; have hb4' := hb3'.trans (hb4.mono hb3'.size); clear hd4 hg4)
    | (at_builtin; refine wpList_appD rfl (.tmp 22) (.tmp 27) rfl w.heap.size _ Q.length Q rfl (HO3.out.below hb4) _ 1 1 [X] rfl HD4.out (by have := HQ.out; omega) (by omega) ?_; intro A5 c5 w5 ho5 hb5; have HO5 := Lib.hid ho5; have hb5' := hb4'.trans (hb5.mono (Nat.le_refl _)); clear ho5))
  go_ret
  refine ⟨A5, c5, ?_, ?_, hb5'⟩
  · rw [List.length_append]; rfl
  · rw [List.length_append]; exact HO5.out.mono (by omega)
set_option maxRecDepth 100000 in
set_option maxHeartbeats 2000000 in
theorem Refincl_high (h m n : Nat) (A : Option Addr) (c i : Nat) (L : List (List UInt8)) (w : World) (h2 : 2 ≤ n) (hs : splitN n = h) (hm : n - h = m) (hn : n ≤ 1024) (hc : n ≤ c) (hi : h ≤ i) (hi2 : i ≤ n) (hD : Ds w A n L) (hF : First w) (hT : Tab 4 w) (Q : List (List UInt8)) (X : List UInt8) (hX : X.length = 32) (hQ : Q.length ≤ 20)
    (h1 : ∀ A' c' w', m ≤ c' → Ds w' A' m (L.drop h) → First w' → Tab 4 w' → Calls Tryd.prog 55 #[.slice A' m c', .int .i64 ((i : Int) - (h : Int))] w' (NewP w' Q))
    (h2' : ∀ A' c' w', h ≤ c' → Ds w' A' h (L.take h) → First w' → Tab 4 w' → Calls Tryd.prog 36 #[.slice A' h c'] w' fun e w'' => e = .returned (.agg (bcells X)) ∧ Below w'.heap.size w' w'') :
    Calls Tryd.prog 55 #[.slice A n c, .int .i64 (i : Int)] w (NewP w (Q ++ [X])) := by
  have hlt := splitN_lt h2
  have hpos := splitN_pos n
  rw [hs] at hlt hpos
  have HSP := Lib.hid (fun w => show Calls Tryd.prog 52 #[.int .i64 (n : Int)] w fun e w' => e = .returned (.int .i64 (h : Int)) ∧ w = w' by have q := RefSplit_any n w h2 (by omega); rwa [hs] at q)
  have hne : ((n : Int) == 1) = false := by simp; omega
  have i0 : ¬ (i : Int) < (h : Int) := by omega
  have i2 : (i : Int) ≤ 4096 := by omega
  have i3 : (h : Int) ≤ 4096 := by omega
  have i4 : (h : Int) ≤ (i : Int) := by omega
  have hhn : h ≤ n := by omega
  have HHN := Lib.hid hm
  have hhc : h ≤ c := by omega
  have hhc2 : m ≤ c - h := by omega
  have HD := Lib.hid hD
  have HC1 := Lib.hid h1
  have HC2 := Lib.hid h2'
  have HX := Lib.hid hX
  have HQ := Lib.hid hQ
  have HF := Lib.hid hF
  have HT := Lib.hid hT
  clear hn h2 hs hm h1 h2' hD hF hT hX hQ hi hi2
  go_enter Tryd.func55, Tryd.ntmps55
  go_wp2_with (first
    | (go_at_call 52; refine (HSP.out _).mono ?_; rintro e1 w1 ⟨rfl, rfl⟩)
    | (with_reducible refine wpList_fromD rfl (.tmp 29) (.tmp 30) rfl A n c h _ rfl rfl rfl hhn hc ?_; intro A1 d1 _; rw [HHN.out] at d1 ⊢; have HA1 := Lib.hid (d1 w L HD.out); clear d1)
    | (with_reducible refine wpList_headD rfl (.tmp 37) (.tmp 38) rfl A n c h _ rfl rfl rfl hhn hc ?_; intro A3 d3 _; have HA3 := Lib.hid (d3 w2 L (HD.out.below hb2)); clear d3)
    | (go_at_call 55; refine (HC1.out A1 (c - h) w hhc2 HA1.out HF.out HT.out).mono ?_; rintro e2 w2 ⟨A2, c2, rfl, ho2, hb2⟩; have HO2 := Lib.hid ho2; have hs2 := hb2.size; clear ho2)
    | (go_at_call 36; refine (HC2.out A3 c w2 hhc HA3.out (HF.out.below hb2) (HT.out.below hb2)).mono ?_; rintro e3 w3 ⟨rfl, hb3⟩; have HO3 := Lib.hid (HO2.out.below hb3); have hs3 := hb3.size; have hb3' := hb2.trans (hb3.mono hs2))
    | (with_reducible refine wpList_build1 rfl (.tmp 40) rfl X rfl HX.out ?_; intro g4 w4 hg4 hd4 hb4; have HD4 := Lib.hid hd4; have hs4 := hb4.size; have hb4' := hb3'.trans (hb4.mono hb3'.size); clear hd4 hg4)
    | (at_builtin; refine wpList_appD rfl (.tmp 36) (.tmp 41) rfl w.heap.size _ Q.length Q rfl (HO3.out.below hb4) _ 1 1 [X] rfl HD4.out (by have := HQ.out; omega) (by omega) ?_; intro A5 c5 w5 ho5 hb5; have HO5 := Lib.hid ho5; have hb5' := hb4'.trans (hb5.mono (Nat.le_refl _)); clear ho5))
  go_ret
  refine ⟨A5, c5, ?_, ?_, hb5'⟩
  · rw [List.length_append]; rfl
  · rw [List.length_append]; exact HO5.out.mono (by omega)
theorem Refincl_ok (A : Option Addr) (n c i : Nat) (L : List (List UInt8)) (w : World) (hn : n ≤ 1024) (hc : n ≤ c) (hi : i < n) (hD : Ds w A n L) (hF : First w) (hT : Tab 4 w) :
    Calls Tryd.prog 55 #[.slice A n c, .int .i64 (i : Int)] w (NewP w (incP nodeL (sumL []) L i)) := by
  by_cases h1 : n = 1
  · subst h1; rw [incP_one nodeL (sumL []) i (by rw [hD.1]; exact Nat.le_refl _)]; exact Refincl_one A c _ w
  have h2 : 2 ≤ n := by omega
  have hlt := splitN_lt h2
  have hpos := splitN_pos n
  have l1 : (L.take (splitN n)).length = splitN n := by rw [List.length_take, hD.1]; omega
  have l2 : (L.drop (splitN n)).length = n - splitN n := by rw [List.length_drop, hD.1]
  by_cases hlow : i < splitN n
  · have e : incP nodeL (sumL []) L i = incP nodeL (sumL []) (L.take (splitN n)) i ++ [rootL (L.drop (splitN n))] := by
      have q := incP_left nodeL (sumL []) (L := L) (i := i) (by rw [hD.1]; exact h2) (by rw [hD.1]; exact hlow)
      rwa [hD.1] at q
    rw [e]
    exact Refincl_low (splitN n) (n - splitN n) n A c i L w h2 rfl rfl hn hc hlow (by omega) hD hF hT _ _ (rootL_length _ (hD.2.1.dropL _)) (inc_le _ _ (by omega))
      (fun A' c' w' h1 h2' h3 h4 => Refincl_ok A' (splitN n) c' i _ w' (by omega) h1 hlow h2' h3 h4) (fun A' c' w' h1 h2' h3 h4 => Refroot_ok A' _ c' _ w' (by omega) h1 h2' h3 h4)
  · have e : incP nodeL (sumL []) L i = incP nodeL (sumL []) (L.drop (splitN n)) (i - splitN n) ++ [rootL (L.take (splitN n))] := by
      have q := incP_right nodeL (sumL []) (L := L) (i := i) (by rw [hD.1]; exact h2) (by rw [hD.1]; exact hlow)
      rwa [hD.1] at q
    rw [e]
    refine Refincl_high (splitN n) (n - splitN n) n A c i L w h2 rfl rfl hn hc (by omega) (by omega) hD hF hT _ _ (rootL_length _ (hD.2.1.take _)) (inc_le _ _ (by omega))
      (fun A' c' w' h1 h2' h3 h4 => ?_) (fun A' c' w' h1 h2' h3 h4 => Refroot_ok A' _ c' _ w' (by omega) h1 h2' h3 h4)
    have q := Refincl_ok A' (n - splitN n) c' (i - splitN n) _ w' (by omega) h1 (by omega) h2' h3 h4
    rwa [show ((i - splitN n : Nat) : Int) = (i : Int) - (splitN n : Int) by omega] at q
termination_by n
end Go.Proofs.YtbpbpdaohganaaaDoor
