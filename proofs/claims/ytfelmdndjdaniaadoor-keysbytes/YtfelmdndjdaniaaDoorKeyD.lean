/-
  The laws' awake: a key of one index signs once. The laws of a region that draws its order, for signatures and the document's key.
-/
import Derived.Test.YtfelmdndjdaniaaDoorKeyC
namespace Go.Proofs.YtfelmdndjdaniaaDoor
open Go.RowKit
theorem Row.range {w : World} {g : Nat} {t : TypeId} {cs : Array Value} (h : Row w g t cs) : w.rangeAt g 0 cs.toList := fun j v hv => by
  rw [Nat.zero_add, h.cell j]; simpa using hv
theorem sizeS : (Tryd.prog.info? 44).map (·.size) = some 3 := by kernel_rfl
theorem yields_loadS {ops : Array Oper} {S : World → Prop} {o : Oper} {a : Act} (hw : Region.wanted o (yielded ops a.tmps) = true) (x : Operand) (ho : o.op = .load 44 x) (g : Nat)
    (hx : a.eval x = .pointer (some ⟨g, 0, none⟩)) (i : Int) (A : Option Addr) (n c : Nat) (B : Option Addr) (m d : Nat) (hS : ∀ w, S w → Row w g 44 (sigC i A n c B m d)) : YieldsIf Tryd.prog ops S o (.agg (sigC i A n c B m d)) a :=
  yieldsIf_load_mid hw 44 x ho g 0 hx [.int .i64 i, .slice A n c, .slice B m d] _ (fun w h => (hS w h).range) Tryd.underlying44 rfl sizeS
theorem yields_fld44 {ops : Array Oper} {S : World → Prop} {o : Oper} {a : Act} (hw : Region.wanted o (yielded ops a.tmps) = true) (x : Operand) (k : Nat) (ho : o.op = .fieldAddr 44 x k) (hk : k = 0 ∨ k = 1 ∨ k = 2) (g : Nat)
    (hx : a.eval x = .pointer (some ⟨g, 0, none⟩)) : YieldsIf Tryd.prog ops S o (.pointer (some ⟨g, k, none⟩)) a :=
  .inl ⟨hw, fun w _ => by
    unfold execOp
    simp only [ho, hx]
    rcases hk with rfl | rfl | rfl <;> go_simp⟩
theorem yields_eqN {ops : Array Oper} {S : World → Prop} {o : Oper} {a : Act} (hw : Region.wanted o (yielded ops a.tmps) = true) (x y : Operand) (ho : o.op = .binOp .eql 3 x y 3) (p q : Int) (b : Bool)
    (hx : a.eval x = .int .i64 p) (hy : a.eval y = .int .i64 q) (hb : (p == q) = b) : YieldsIf Tryd.prog ops S o (.bool b) a :=
  .inl ⟨hw, fun w _ => by
    unfold execOp
    simp only [ho, hx, hy]
    go_simp⟩
theorem yields_eqlX {ops : Array Oper} {S : World → Prop} {o : Oper} {a : Act} (hw : Region.wanted o (yielded ops a.tmps) = true) (x y : Operand) (ho : o.op = .binOp .eql 23 x y 23) (d : List UInt8)
    (hx : a.eval x = .agg (bcells d)) (hy : a.eval y = .agg (bcells d)) (hd : d.length = 32) : YieldsIf Tryd.prog ops S o (.bool true) a :=
  .inl ⟨hw, fun w _ => by
    have he := eqD d d hd hd w
    rw [decide_eq_true rfl] at he
    unfold execOp
    simp only [ho, hx, hy]
    go_simp⟩
set_option maxRecDepth 100000 in
set_option maxHeartbeats 4000000 in
theorem kawake_any (w : World) (hT : Tab 1 w) : Calls Tryd.prog 12 #[] w fun e w' => e = .returned (.bool true) ∧ Below w.heap.size w w' := by
  have hT1 := hT.1
  obtain ⟨s, hs0⟩ : ∃ s, zero32 = s := ⟨_, rfl⟩
  have hz : s.length = 32 := by rw [← hs0]; exact zero32_length
  have hl : lit32 = bcells s := by rw [← hs0]; rfl
  clear hs0
  have HN := Lib.hid (fun w hT => show Calls Tryd.prog 13 #[.agg lit32, .int .i64 1, .int .i64 0] w (NewK w s 1 0) from by rw [hl]; exact New_ok s 1 0 w hz (by omega) (by omega) (by omega) hT)
  have HP := Lib.hid (fun T g w hK hT => kPublic_any T g 1 0 1 s w (by omega) hK hT)
  have HX := Lib.hid (fun T g A w hK => show Calls Tryd.prog 21 #[.pointer (some ⟨g, 0, none⟩), .slice A 1 1] w fun e w' => e = .returned (.tuple #[.agg sig0, .int .i64 70]) ∧ Below w.heap.size w w' from kSign_spent T g 1 0 A 1 1 s w (by omega) hK)
  have hver : verK (pubK s 1 0) 1 0 (sumL [97]) 0 (sigN (ksL s 0) (sumL [97]) 1) (pathD 0 (leavesL s 1 (2 ^ 0)) 0) = true := verK_back s (sumL [97]) 1 0 0 (by omega) (by omega) (by omega) (by decide)
  have HG : Hid (∀ T g A w, KeyAt w T g s 1 0 0 → Bs w A 1 [97] → Tab 1 w → 1 < g → Calls Tryd.prog 21 #[.pointer (some ⟨g, 0, none⟩), .slice A 1 1] w fun e w' => ∃ A1 n1 c1 A2 n2 c2, e = .returned (.tuple #[.agg (sigC 0 A1 n1 c1 A2 n2 c2), .int .i64 0]) ∧ Ds w' A1 n1 (sigN (ksL s 0) (sumL [97]) 1) ∧ n1 ≤ c1 ∧ Ds w' A2 n2 (pathD 0 (leavesL s 1 (2 ^ 0)) 0) ∧ n2 ≤ c2 ∧ KeyAt w' T g s 1 0 1 ∧ Only g w w' ∧ Keeps w w') := Lib.hid (fun T g A w hK hB hT hg => kSign_ok T g 1 0 0 1 1 s [97] A w hz (by omega) (by omega) (by omega) (by decide) hK hB (by omega) (by omega) hT hg)
  have HV := Lib.hid (fun A A1 A2 n1 c1 n2 c2 w hB hO hP hT => show Calls Tryd.prog 25 #[.agg (bcells (pubK s 1 0)), .int .i64 1, .int .i64 0, .slice A 1 1, .agg (sigC 0 A1 n1 c1 A2 n2 c2)] w fun e w' => e = .returned (.bool true) ∧ Below w.heap.size w w' from by
    have q := kVerify_any (pubK s 1 0) 1 0 0 A A1 A2 1 1 n1 c1 n2 c2 [97] (sigN (ksL s 0) (sumL [97]) 1) (pathD 0 (leavesL s 1 (2 ^ 0)) 0) w (pubK_length s 1 0) hB (by omega) (by omega) hO hP hT
    rw [hver] at q
    exact q)
  have HT := Lib.hid hT
  generalize pubK s 1 0 = P at *
  generalize sigN (ksL s 0) (sumL [97]) 1 = SN at *
  generalize pathD 0 (leavesL s 1 (2 ^ 0)) 0 = PN at *
  clear hver hT hz hl
  go_enter Tryd.func12, Tryd.ntmps12
  go_wp2_with (first
    | (go_at_call 13; refine (HN.out _ HT.out).mono ?_; rintro e1 w1 ⟨g, rfl, hg, hk1, hb1⟩; have HK1 := Lib.hid hk1; have hs1 := hb1.size; have hgl1 := hk1.lt.1; clear hk1)
    | (go_at_call 21; have hq := HK3; clear hq; refine (HX.out w3.heap.size g _ _ (HK3.out.below ((Below.refl _ _).alloc (Nat.le_refl _) _))).mono ?_; rintro e4 w4 ⟨rfl, hb4⟩; have b4 : Below w3.heap.size w3 w4 := ((Below.refl _ _).alloc (Nat.le_refl _) _).trans (hb4.mono (by simp)); have HS4 := Lib.hid (HS3.out.below b4 hgs); have hs4 := b4.size)
    | (go_at_call 21; refine (HG.out w1.heap.size g _ _ (HK1.out.below ((Below.refl _ _).alloc (Nat.le_refl _) _)) (lit_one w1) (HT.out.below (hb1.alloc hs1 _)) (by omega)).mono ?_; rintro e2 w2 ⟨A1, n1, c1, A2, n2, c2, rfl, hd1, hc1, hd2, hc2, hk2, ho2, -⟩; have hs2 := ho2.size; simp at hs2; have b2 : Below w.heap.size w w2 := (hb1.alloc hs1 (.cells #[.int .u8 97] 5)).trans (ho2.below hg (by simp; omega)); have HD1 := Lib.hid hd1; have HD2 := Lib.hid hd2; have HK2 := Lib.hid hk2; clear hd1 hd2 hk2)
    | (with_reducible refine wpList_store_row Tryd.aggSig rfl (.tmp 3) (.tmp 16) rfl _ (sigC 0 A1 n1 c1 A2 n2 c2) rfl rfl 44 sig0 (Row.new w2 44 sig0) (sigC_size _ _ _ _ _ _ _) (sigC_size _ _ _ _ _ _ _) (sigC_one _ _ _ _ _ _ _) ?_; intro w3 hr3 ho3; have HS3 := Lib.hid hr3; have hgs := hr3.lt; have b3 : Below w2.heap.size w2 w3 := ((Below.refl _ _).alloc (Nat.le_refl _) _).trans (ho3.below (Nat.le_refl _) (by simp)); have hs3 := b3.size; have HK3 := Lib.hid ((HK2.out.low.below b3).low); clear hr3)
    | (with_reducible refine wpList_store_row Tryd.aggSig rfl (.tmp 5) (.tmp 22) rfl _ sig0 rfl rfl 44 sig0 (Row.new w4 44 sig0) (sigC_size _ _ _ _ _ _ _) (sigC_size _ _ _ _ _ _ _) (sigC_one _ _ _ _ _ _ _) ?_; intro w5 hr5 ho5; clear hr5; have b5 : Below w3.heap.size w3 w5 := (b4.alloc hs4 _).trans (ho5.below (B := w3.heap.size) hs4 (by simp; omega))))
  have hs5 := b5.size
  have b5' : Below w2.heap.size w2 w5 := b3.trans (b5.mono hs3)
  have HS5 := Lib.hid (HS3.out.below b5 hgs)
  have HK5 := Lib.hid ((HK3.out.below b5).low)
  have HDA := Lib.hid (HD1.out.below b5')
  have HDB := Lib.hid (HD2.out.below b5')
  have bw5 : Below w.heap.size w w5 := b2.trans (b5'.mono b2.size)
  have HT5 := Lib.hid (HT.out.below bw5)
  obtain ⟨gs, hgs'⟩ : ∃ gs, gs = w2.heap.size := ⟨_, rfl⟩
  rw [← hgs'] at HS5 ⊢
  have hgl : gs < w5.heap.size := HS5.out.lt
  clear hgs'
  have B0 : Below w5.heap.size w5 w5.drew := (Below.refl w5.heap.size w5).drew
  have K0 := Lib.hid (HS5.out.below B0 hgl)
  refine wp_region_noPanic ?_
  refine wp_region_held_drew (S := fun w' => Row w' gs 44 (sigC 0 A1 n1 c1 A2 n2 c2)) (by kernel_rfl) K0.out (fun hHeld => ?_)
  refine takeD (i := 0) (some 24) (.int .i64 0) rfl rfl (by kernel_rfl) (by kernel_rfl) (by kernel_rfl) (fun _ _ _ h => h) (Or.inl ⟨by rfl, fun _ _ => rfl⟩) hHeld ?_
  simp only [Act.put, List.setIfInBounds_toArray, List.set_cons_zero, List.set_cons_succ]
  refine takeD (i := 1) (some 25) (.bool true) rfl rfl (by kernel_rfl) (by kernel_rfl) (by kernel_rfl) (fun _ _ _ h => h) (yields_eqE (by rfl) _ _ rfl (0) (0) true rfl rfl (by simp)) hHeld ?_
  simp only [Act.put, List.setIfInBounds_toArray, List.set_cons_zero, List.set_cons_succ]
  refine takeD (i := 2) (some 26) (.bool true) rfl rfl (by kernel_rfl) (by kernel_rfl) (by kernel_rfl) (fun _ _ _ h => h) (Or.inl ⟨by rfl, fun _ _ => rfl⟩) hHeld ?_
  simp only [Act.put, List.setIfInBounds_toArray, List.set_cons_zero, List.set_cons_succ]
  refine takeD (i := 3) (some 27) (.int .i64 0) rfl rfl (by kernel_rfl) (by kernel_rfl) (by kernel_rfl) (fun _ _ _ h => h) (Or.inl ⟨by rfl, fun _ _ => rfl⟩) hHeld ?_
  simp only [Act.put, List.setIfInBounds_toArray, List.set_cons_zero, List.set_cons_succ]
  refine takeD (i := 4) (some 28) (.bool true) rfl rfl (by kernel_rfl) (by kernel_rfl) (by kernel_rfl) (fun _ _ _ h => h) (yields_eqE (by rfl) _ _ rfl (0) (0) true rfl rfl (by simp)) hHeld ?_
  simp only [Act.put, List.setIfInBounds_toArray, List.set_cons_zero, List.set_cons_succ]
  refine takeD (i := 5) (some 29) (.bool true) rfl rfl (by kernel_rfl) (by kernel_rfl) (by kernel_rfl) (fun _ _ _ h => h) (Or.inl ⟨by rfl, fun _ _ => rfl⟩) hHeld ?_
  simp only [Act.put, List.setIfInBounds_toArray, List.set_cons_zero, List.set_cons_succ]
  refine takeD (i := 6) (some 30) (.bool true) rfl rfl (by kernel_rfl) (by kernel_rfl) (by kernel_rfl) (fun _ _ _ h => h) (Or.inl ⟨by rfl, fun _ _ => rfl⟩) hHeld ?_
  simp only [Act.put, List.setIfInBounds_toArray, List.set_cons_zero, List.set_cons_succ]
  refine takeD (i := 7) (some 31) (.int .i64 70) rfl rfl (by kernel_rfl) (by kernel_rfl) (by kernel_rfl) (fun _ _ _ h => h) (Or.inl ⟨by rfl, fun _ _ => rfl⟩) hHeld ?_
  simp only [Act.put, List.setIfInBounds_toArray, List.set_cons_zero, List.set_cons_succ]
  refine takeD (i := 8) (some 32) (.bool true) rfl rfl (by kernel_rfl) (by kernel_rfl) (by kernel_rfl) (fun _ _ _ h => h) (yields_eqE (by rfl) _ _ rfl (70) (70) true rfl rfl (by simp)) hHeld ?_
  simp only [Act.put, List.setIfInBounds_toArray, List.set_cons_zero, List.set_cons_succ]
  refine takeD (i := 9) (some 33) (.bool true) rfl rfl (by kernel_rfl) (by kernel_rfl) (by kernel_rfl) (fun _ _ _ h => h) (Or.inl ⟨by rfl, fun _ _ => rfl⟩) hHeld ?_
  simp only [Act.put, List.setIfInBounds_toArray, List.set_cons_zero, List.set_cons_succ]
  refine takeD (i := 10) (some 34) (.bool true) rfl rfl (by kernel_rfl) (by kernel_rfl) (by kernel_rfl) (fun _ _ _ h => h) (Or.inl ⟨by rfl, fun _ _ => rfl⟩) hHeld ?_
  simp only [Act.put, List.setIfInBounds_toArray, List.set_cons_zero, List.set_cons_succ]
  refine takeD (i := 11) (some 35) (.pointer (some ⟨g, 0, none⟩)) rfl rfl (by kernel_rfl) (by kernel_rfl) (by kernel_rfl) (fun _ _ _ h => h) (Or.inl ⟨by rfl, fun _ _ => rfl⟩) hHeld ?_
  simp only [Act.put, List.setIfInBounds_toArray, List.set_cons_zero, List.set_cons_succ]
  refine takeD (i := 14) (some 38) (.agg (sigC 0 A1 n1 c1 A2 n2 c2)) rfl rfl (by kernel_rfl) (by kernel_rfl) (by kernel_rfl) (fun _ _ _ h => h) (yields_loadS (by rfl) (.tmp 3) rfl (gs) rfl _ _ _ _ _ _ _ (fun _ h => h)) hHeld ?_
  simp only [Act.put, List.setIfInBounds_toArray, List.set_cons_zero, List.set_cons_succ]
  refine wpAnyH_ready (rs := [12, 13]) (by kernel_rfl) (by decide) ?_
  refine AllReadyH.cons rfl (fun K' hK => ?_) (AllReadyH.cons rfl (fun K' hK => ?_) AllReadyH.nil)
  · go_simp
    refine (HP.out w5.heap.size g w5.drew (HK5.out.below B0) (HT5.out.below B0)).mono ?_
    rintro e6 w6 ⟨rfl, hb6⟩
    have B6 : Below w5.heap.size w5 w6 := B0.trans (hb6.mono B0.size)
    refine hK.out _ _ (HS5.out.below B6 hgl) (fun hHeld1 => ?_)
    clear hK
    (try simp only [Act.put, List.setIfInBounds_toArray, List.set_cons_zero, List.set_cons_succ])
    refine wpAnyH_ready (rs := [13]) (by kernel_rfl) (by decide) ?_
    refine AllReadyH.cons rfl (fun K' hK => ?_) AllReadyH.nil
    go_simp
    have B7 : Below w5.heap.size w5 (w6.alloc (.cells #[.int .u8 97] 5)) := B6.alloc B6.size _
    have L7 := Lib.hid (lit_one w6)
    refine hK.out _ _ (HS5.out.below B7 hgl) (fun hHeld2 => ?_)
    clear hK
    (try simp only [Act.put, List.setIfInBounds_toArray, List.set_cons_zero, List.set_cons_succ])
    refine wpAnyH_ready (rs := [15]) (by kernel_rfl) (by decide) ?_
    refine AllReadyH.cons rfl (fun K' hK => ?_) AllReadyH.nil
    go_simp
    refine (HV.out _ A1 A2 n1 c1 n2 c2 ((w6.alloc (.cells #[.int .u8 97] 5))) L7.out (HDA.out.below B7) (HDB.out.below B7) (HT5.out.below B7)).mono ?_
    rintro e8 w8 ⟨rfl, hb8⟩
    have B8 : Below w5.heap.size w5 w8 := B7.trans (hb8.mono B7.size)
    refine hK.out _ _ (HS5.out.below B8 hgl) (fun hHeld3 => ?_)
    clear hK
    (try simp only [Act.put, List.setIfInBounds_toArray, List.set_cons_zero, List.set_cons_succ])
    refine takeD (i := 16) (some 40) (.bool true) rfl rfl (by kernel_rfl) (by kernel_rfl) (by kernel_rfl) (fun _ _ _ h => h) (Or.inl ⟨by rfl, fun _ _ => rfl⟩) hHeld3 ?_
    simp only [Act.put, List.setIfInBounds_toArray, List.set_cons_zero, List.set_cons_succ]
    refine takeD (i := 17) (some 0) (.bool true) rfl rfl (by kernel_rfl) (by kernel_rfl) (by kernel_rfl) (fun _ _ _ h => h) (Or.inl ⟨by rfl, fun _ _ => rfl⟩) hHeld3 ?_
    simp only [Act.put, List.setIfInBounds_toArray, List.set_cons_zero]
    (try simp only [Act.put, List.setIfInBounds_toArray])
    refine wpAnyH_done (by kernel_rfl) ?_ _
    refine NoPanic.normal ?_
    go_wp2_with fail
    go_ret
    exact ⟨rfl, bw5.trans (B8.mono bw5.size)⟩
  · go_simp
    have B7 : Below w5.heap.size w5 (w5.drew.alloc (.cells #[.int .u8 97] 5)) := B0.alloc B0.size _
    have L7 := Lib.hid (lit_one w5.drew)
    refine hK.out _ _ (HS5.out.below B7 hgl) (fun hHeld1 => ?_)
    clear hK
    (try simp only [Act.put, List.setIfInBounds_toArray, List.set_cons_zero, List.set_cons_succ])
    refine wpAnyH_ready (rs := [12]) (by kernel_rfl) (by decide) ?_
    refine AllReadyH.cons rfl (fun K' hK => ?_) AllReadyH.nil
    go_simp
    refine (HP.out w5.heap.size g (w5.drew.alloc (.cells #[.int .u8 97] 5)) (HK5.out.below B7) (HT5.out.below B7)).mono ?_
    rintro e6 w6 ⟨rfl, hb6⟩
    have B6 : Below w5.heap.size w5 w6 := B7.trans (hb6.mono B7.size)
    refine hK.out _ _ (HS5.out.below B6 hgl) (fun hHeld2 => ?_)
    clear hK
    (try simp only [Act.put, List.setIfInBounds_toArray, List.set_cons_zero, List.set_cons_succ])
    refine wpAnyH_ready (rs := [15]) (by kernel_rfl) (by decide) ?_
    refine AllReadyH.cons rfl (fun K' hK => ?_) AllReadyH.nil
    go_simp
    refine (HV.out _ A1 A2 n1 c1 n2 c2 (w6) (L7.out.below hb6) (HDA.out.below B6) (HDB.out.below B6) (HT5.out.below B6)).mono ?_
    rintro e8 w8 ⟨rfl, hb8⟩
    have B8 : Below w5.heap.size w5 w8 := B6.trans (hb8.mono B6.size)
    refine hK.out _ _ (HS5.out.below B8 hgl) (fun hHeld3 => ?_)
    clear hK
    (try simp only [Act.put, List.setIfInBounds_toArray, List.set_cons_zero, List.set_cons_succ])
    refine takeD (i := 16) (some 40) (.bool true) rfl rfl (by kernel_rfl) (by kernel_rfl) (by kernel_rfl) (fun _ _ _ h => h) (Or.inl ⟨by rfl, fun _ _ => rfl⟩) hHeld3 ?_
    simp only [Act.put, List.setIfInBounds_toArray, List.set_cons_zero, List.set_cons_succ]
    refine takeD (i := 17) (some 0) (.bool true) rfl rfl (by kernel_rfl) (by kernel_rfl) (by kernel_rfl) (fun _ _ _ h => h) (Or.inl ⟨by rfl, fun _ _ => rfl⟩) hHeld3 ?_
    simp only [Act.put, List.setIfInBounds_toArray, List.set_cons_zero]
    (try simp only [Act.put, List.setIfInBounds_toArray])
    refine wpAnyH_done (by kernel_rfl) ?_ _
    refine NoPanic.normal ?_
    go_wp2_with fail
    go_ret
    exact ⟨rfl, bw5.trans (B8.mono bw5.size)⟩
end Go.Proofs.YtfelmdndjdaniaaDoor
