/-
  The statements' own functions: a copy of digests, and the document's example (three leaves).
-/
import Derived.Test.YtojepkhooabjiaaDoorLeadA
namespace Go.Proofs.YtojepkhooabjiaaDoor
open Go.RowKit
theorem own_any (A : Option Addr) (n c : Nat) (L : List (List UInt8)) (w : World) (hD : Ds w A n L) (hn : n ≤ 1000000) :
    Calls Tryd.prog 12 #[.slice A n c] w fun e w' => ∃ A2 c2, e = .returned (.slice A2 n c2) ∧ n ≤ c2 ∧ Ds w' A2 n L ∧ Below w.heap.size w w' := by
  have HD := Lib.hid hD
  clear hD
  go_enter Tryd.func12, Tryd.ntmps12
  go_wp2_with (at_builtin; refine wpList_copyD rfl (.tmp 3) (.tmp 4) rfl rfl A n c L rfl HD.out (by omega) ?_; intro A1 c1 w1 hd1 hc1 hb1)
  go_ret
  exact ⟨_, _, rfl, hc1, hd1, hb1⟩
theorem run_build3 (p q r : List UInt8) (hp : p.length = 32) (hq : q.length = 32) (hr : r.length = 32) (w : World) :
    (Instr.buildSlice 22 3 #[(0, .agg (bcells p)), (1, .agg (bcells q)), (2, .agg (bcells r))]).run Tryd.prog w = .ok (.slice (some ⟨w.heap.size, 0, none⟩) 3 3) (w.alloc (.cells (bcells (p ++ q ++ r)) 24)) := by
  obtain ⟨i, hi, hz, hsize, hby⟩ := info_parts Tryd.infoD
  refine run_buildSlice w 22 24 3 _ _ i _ Tryd.under24 hi hz (by rw [hsize]; decide) (by rw [hsize]; decide) ?_
  rw [hsize]
  have hf := Great.fill_whole (s := 32) (by omega) [.agg (bcells p), .agg (bcells q), .agg (bcells r)] ((Array.range (3 * 32)).map ((Value.agg (bcells zero32)).cells[· % (Value.agg (bcells zero32)).cells.size]!))
    (fun v hv => by simp at hv; rcases hv with rfl | rfl | rfl <;> simp [Value.cells, bcells_size, hp, hq, hr]) (by simp)
  have e : (([.agg (bcells p), .agg (bcells q), .agg (bcells r)] : List Value).flatMap fun v => v.cells.toList).toArray = bcells (p ++ q ++ r) := by
    simp [Value.cells, bcells]
  rw [e] at hf
  exact hf
theorem wpList_build3 {ops : Array Oper} {rest : List Oper} {o : Oper} {a : Act} {w : World} {Q : Exit → Act → World → Prop} (hgd : o.guard = none) (x y z : Operand) (ho : o.op = .buildSlice 22 3 #[(0, x), (1, y), (2, z)]) (p q r : List UInt8)
    (hx : a.eval x = .agg (bcells p)) (hy : a.eval y = .agg (bcells q)) (hz : a.eval z = .agg (bcells r)) (hp : p.length = 32) (hq : q.length = 32) (hr : r.length = 32)
    (h : ∀ g w', Ds w' (some ⟨g, 0, none⟩) 3 [p, q, r] → Below w.heap.size w w' → wpList Tryd.prog ops Q rest (a.put o.dst (.slice (some ⟨g, 0, none⟩) 3 3)) w') : wpList Tryd.prog ops Q (o :: rest) a w := by
  refine wpList_plain hgd fun K hK => ?_
  have hd : Ds (w.alloc (.cells (bcells (p ++ q ++ r)) 24)) (some ⟨w.heap.size, 0, none⟩) 3 [p, q, r] := by
    refine ⟨rfl, fun d hd => ?_, ?_⟩
    · simp at hd; rcases hd with rfl | rfl | rfl <;> assumption
    · have e : flat [p, q, r] = p ++ q ++ r := by simp [flat]
      rw [e]
      exact (Row.new w 24 (bcells (p ++ q ++ r))).bsB (by rw [List.length_append, List.length_append, hp, hq, hr])
  unfold Oper.wp execOp
  simp only [ho, List.map_toArray, List.map_cons, List.map_nil, hx, hy, hz, Sem.run_bind, run_build3 p q r hp hq hr, Result.andThen_ok]
  exact hK _ _ (h _ _ hd ((Below.refl _ _).alloc (Nat.le_refl _) _))
theorem yields_eqIW {ops : Array Oper} {S : World → Prop} {o : Oper} {a : Act} (hw : Region.wanted o (yielded ops a.tmps) = true) (x y : Operand) (ho : o.op = .binOp .eql 3 x y 3) (p q : Int) (b : Bool)
    (hx : a.eval x = .int .i64 p) (hy : a.eval y = .int .i64 q) (hb : (p == q) = b) : YieldsIf Tryd.prog ops S o (.bool b) a :=
  .inl ⟨hw, fun w _ => by
    unfold execOp
    simp only [ho, hx, hy]
    go_simp⟩
theorem split3 : splitN 3 = 2 := splitN_eq (s := 1) (by decide) (by decide)
theorem split2 : splitN 2 = 1 := splitN_eq (s := 0) (by decide) (by decide)
theorem root3 (a b c : List UInt8) : rootL [a, b, c] = nodeL (nodeL a b) c := by
  have h3 := rootP_two nodeL (sumL []) (L := [a, b, c]) (by simp)
  have h2 := rootP_two nodeL (sumL []) (L := [a, b]) (by simp)
  simp only [List.length_cons, List.length_nil, Nat.zero_add, Nat.reduceAdd, split3, split2, List.take_succ_cons, List.take_zero, List.drop_succ_cons, List.drop_zero] at h3 h2
  show rootP nodeL (sumL []) [a, b, c] = _
  rw [h3, h2, rootP_one, rootP_one, rootP_one]
theorem con3 (a b c : List UInt8) : conI [a, b, c] 2 = [c] := by
  have h1 := partP_left nodeL (sumL []) (L := [a, b, c]) (m := 2) true (by simp) (by simp) (by rw [show [a, b, c].length = 3 from rfl, split3]; decide)
  simp only [List.length_cons, List.length_nil, Nat.zero_add, Nat.reduceAdd, split3, List.take_succ_cons, List.take_zero, List.drop_succ_cons, List.drop_zero] at h1
  rw [partP_all nodeL (sumL []) true (show 2 = [a, b].length from rfl)] at h1
  unfold conI
  rw [if_pos (by simp)]
  show partP nodeL (sumL []) [a, b, c] 2 true = [c]
  rw [h1, rootP_one]
  rfl
theorem awake_leaf : (leafL [1] == leafL [2]) = false := by decide +kernel
set_option maxRecDepth 100000 in
set_option maxHeartbeats 2000000 in
theorem awake_any (w : World) (hT : Tab 2 w) : Calls Tryd.prog 10 #[] w fun e w' => e = .returned (.bool true) ∧ Below w.heap.size w w' := by
  have HNE0 : decide (leafL [1] = leafL [2]) = false := by
    refine decide_eq_false fun q => ?_
    have h := awake_leaf
    rw [q] at h
    simp at h
  have HNE := Lib.hid HNE0
  have HF1 := Lib.hid (fun A c w hB hc hT => show Calls Tryd.prog 16 #[.slice A 1 c] w fun e w' => e = .returned (.agg (bcells (leafL [1]))) ∧ Below w.heap.size w w' from Leaf_any A 1 c [1] w hB hc (by omega) hT)
  have HF2 := Lib.hid (fun A c w hB hc hT => show Calls Tryd.prog 16 #[.slice A 1 c] w fun e w' => e = .returned (.agg (bcells (leafL [2]))) ∧ Below w.heap.size w w' from Leaf_any A 1 c [2] w hB hc (by omega) hT)
  have HF3 := Lib.hid (fun A c w hB hc hT => show Calls Tryd.prog 16 #[.slice A 1 c] w fun e w' => e = .returned (.agg (bcells (leafL [3]))) ∧ Below w.heap.size w w' from Leaf_any A 1 c [3] w hB hc (by omega) hT)
  have HL1 := Lib.hid (leafL_length [1])
  have HL2 := Lib.hid (leafL_length [2])
  have HL3 := Lib.hid (leafL_length [3])
  generalize leafL [1] = p at *
  generalize leafL [2] = q at *
  generalize leafL [3] = r at *
  have HS1 := Lib.hid (show (bcells p).size = 32 by rw [bcells_size, HL1.out])
  have HS2 := Lib.hid (show (bcells q).size = 32 by rw [bcells_size, HL2.out])
  have HS3 := Lib.hid (show (bcells r).size = 32 by rw [bcells_size, HL3.out])
  have HC := Lib.hid (fun A c w (hc : 3 ≤ c) hD hT => show Calls Tryd.prog 20 #[.slice A 3 c, .int .i64 2] w (NewD w [r] 0) by have h := Consist_any A 3 c 2 [p, q, r] w (by omega) hc hD hT; rwa [con3] at h)
  have HR := Lib.hid (fun A c w (hc : 3 ≤ c) hD hT => show Calls Tryd.prog 11 #[.slice A 3 c] w fun e w' => e = .returned (.agg (bcells (nodeL (nodeL p q) r))) ∧ Below w.heap.size w w' by have h := root_ok A 3 c [p, q, r] w (by omega) hc hD hT; rwa [root3] at h)
  have HN1 := Lib.hid (fun w hT => Node_any p q w HL1.out HL2.out hT)
  have HN2 := Lib.hid (fun w hT => Node_any (nodeL p q) r w (nodeL_length p q) HL3.out hT)
  have HZL := Lib.hid (nodeL_length (nodeL p q) r)
  generalize nodeL (nodeL p q) r = z at *
  generalize nodeL p q = y at *
  have HT := Lib.hid hT
  clear hT HNE0
  go_enter Tryd.func10, Tryd.ntmps10
  go_wp2_with (first
    | (go_at_call 16; have hz := H2; clear hz; refine (HF3.out _ _ _ (one_of w2 3 5).bs (Nat.le_refl _) (HT.out.below (hb2'.alloc hb2'.size _))).mono ?_; rintro e3 w3 ⟨rfl, hb3⟩; have hb3' := (hb2'.alloc hb2'.size (.cells #[.int .u8 3] 5)).trans (hb3.mono (by have := hb2'.size; simp; omega)); have hs3 := hb3'.size)
    | (go_at_call 16; have hz := H1; clear hz; refine (HF2.out _ _ _ (one_of w1 2 5).bs (Nat.le_refl _) (HT.out.below (hb1'.alloc hb1'.size _))).mono ?_; rintro e2 w2 ⟨rfl, hb2⟩; have hb2' := (hb1'.alloc hb1'.size (.cells #[.int .u8 2] 5)).trans (hb2.mono (by have := hb1'.size; simp; omega)); have H2 := Lib.hid hb2')
    | (go_at_call 16; refine (HF1.out _ _ _ (one_of w 1 5).bs (Nat.le_refl _) (HT.out.below ((Below.refl _ _).alloc (Nat.le_refl _) _))).mono ?_; rintro e1 w1 ⟨rfl, hb1⟩; have hb1' := ((Below.refl w.heap.size w).alloc (Nat.le_refl _) (.cells #[.int .u8 1] 5)).trans (hb1.mono (by simp)); have H1 := Lib.hid hb1')
    | (with_reducible refine wpList_store_row Tryd.agg25 rfl (.tmp 1) (.tmp 8) rfl _ _ rfl rfl 24 lit32 (((Row.new w3 24 lit32).alloc (.cells lit32 24)).alloc (.cells lit32 24)) HS1.out lit32_size (bcells_one _) ?_; intro w4 hr4 ho4; have HA4 := Lib.hid hr4; have HB4 := Lib.hid (((Row.new1 w3 (.cells lit32 24) 24 lit32).alloc (.cells lit32 24)).only ho4 (by omega)); have HC4 := Lib.hid ((Row.new2 w3 (.cells lit32 24) (.cells lit32 24) 24 lit32).only ho4 (by omega)); have b4 : Below w3.heap.size w3 w4 := ((((Below.refl w3.heap.size w3).alloc (Nat.le_refl _) (.cells lit32 24)).alloc (by simp) (.cells lit32 24)).alloc (by simp <;> omega) (.cells lit32 24)).trans (ho4.below (Nat.le_refl _) (by simp; omega)); clear hr4)
    | (with_reducible refine wpList_store_row Tryd.agg25 rfl (.tmp 2) (.tmp 10) rfl _ _ rfl rfl 24 lit32 HB4.out HS2.out lit32_size (bcells_one _) ?_; intro w5 hr5 ho5; have HB5 := Lib.hid hr5; have HA5 := Lib.hid (HA4.out.only ho5 (by omega)); have HC5 := Lib.hid (HC4.out.only ho5 (by omega)); have b5 : Below w3.heap.size w3 w5 := b4.trans (ho5.below (by omega) b4.size); clear hr5)
    | (with_reducible refine wpList_store_row Tryd.agg25 rfl (.tmp 3) (.tmp 12) rfl _ _ rfl rfl 24 lit32 HC5.out HS3.out lit32_size (bcells_one _) ?_; intro w6 hr6 ho6; have HC6 := Lib.hid hr6; have HA6 := Lib.hid (HA5.out.only ho6 (by omega)); have HB6 := Lib.hid (HB5.out.only ho6 (by omega)); have b6 : Below w3.heap.size w3 w6 := b5.trans (ho6.below (by omega) b5.size); have hb6 := hb3'.trans (b6.mono hs3); clear hr6)
    | (with_reducible refine wpList_load_row Tryd.agg25 rfl (.tmp 1) rfl _ rfl 24 _ HA6.out HS1.out ?_)
    | (with_reducible refine wpList_load_row Tryd.agg25 rfl (.tmp 2) rfl _ rfl 24 _ HB6.out HS2.out ?_)
    | (with_reducible refine wpList_load_row Tryd.agg25 rfl (.tmp 3) rfl _ rfl 24 _ HC6.out HS3.out ?_)
    | (with_reducible refine wpList_build3 rfl (.tmp 13) (.tmp 14) (.tmp 15) rfl p q r rfl rfl rfl HL1.out HL2.out HL3.out ?_; intro gl w7 hd7 hb7; have HD7 := Lib.hid hd7; have HA7 := Lib.hid (HA6.out.below hb7 HA6.out.lt); have HB7 := Lib.hid (HB6.out.below hb7 HB6.out.lt); have HC7 := Lib.hid (HC6.out.below hb7 HC6.out.lt); have hb7' := hb6.trans (hb7.mono hb6.size); clear hd7)
    | (go_at_call 20; refine (HC.out _ 3 w7 (Nat.le_refl _) HD7.out (HT.out.below hb7')).mono ?_; rintro e8 w8 ⟨A8, c8, rfl, hc8, hd8, hb8⟩; have HD8 := Lib.hid hd8; have HDL := Lib.hid (HD7.out.below hb8); have HA8 := Lib.hid (HA7.out.below hb8 HA7.out.lt); have HB8 := Lib.hid (HB7.out.below hb8 HB7.out.lt); have HC8 := Lib.hid (HC7.out.below hb8 HC7.out.lt); have hb8' := hb7'.trans (hb8.mono hb7'.size); clear hd8 hc8))
  obtain ⟨gp, hgp⟩ : ∃ g, g = w3.heap.size := ⟨_, rfl⟩
  rw [← hgp] at HA8 HB8 HC8 ⊢
  clear hgp
  obtain ⟨b9, off9, r9, rfl, hb9, hr9, hl9, hB9⟩ := HD8.out.get (k := 0) (by show 0 < 1; omega)
  obtain rfl : r = r9 := by simpa using hr9
  obtain ⟨o9, ho9⟩ : ∃ o, off9 + 32 * 0 = o := ⟨_, rfl⟩
  rw [ho9] at hB9
  have HO9 := Lib.hid ho9
  have KP : Hid (∀ wq, Below w8.heap.size w8 wq → wq.rangeAt gp 0 (p.map bcell) ∧ wq.rangeAt (gp + 1) 0 (q.map bcell) ∧ wq.rangeAt (gp + 1 + 1) 0 (r.map bcell) ∧ wq.rangeAt b9 o9 (r.map bcell)) := Lib.hid (fun wq hb => ⟨range_row (HA8.out.below hb HA8.out.lt), range_row (HB8.out.below hb HB8.out.lt), range_row (HC8.out.below hb HC8.out.lt), (hB9.below hb).range⟩)
  clear hb9 hr9 hl9 hB9 ho9
  have B0 : Below w8.heap.size w8 w8.drew := (Below.refl w8.heap.size w8).drew
  refine wp_region_noPanic ?_
  refine wp_region_held_drew (S := fun w' => w'.rangeAt gp 0 (p.map bcell) ∧ w'.rangeAt (gp + 1) 0 (q.map bcell) ∧ w'.rangeAt (gp + 1 + 1) 0 (r.map bcell) ∧ w'.rangeAt b9 o9 (r.map bcell)) (by kernel_rfl) (KP.out _ B0) (fun hHeld => ?_)
  refine takeD (i := 0) (some 22) (.slice (some ⟨gl, 0, none⟩) 3 3) rfl rfl (by kernel_rfl) (by kernel_rfl) (by kernel_rfl) (fun _ _ _ h => h) (Or.inl ⟨by rfl, fun _ _ => rfl⟩) hHeld ?_
  simp only [Act.put, List.setIfInBounds_toArray, List.set_cons_zero, List.set_cons_succ]
  refine takeD (i := 2) (some 24) (.agg (bcells p)) rfl rfl (by kernel_rfl) (by kernel_rfl) (by kernel_rfl) (fun _ _ _ h => h) (yields_loadW (by rfl) (.tmp 1) rfl _ 0 p rfl (fun _ h => h.1) HL1.out) hHeld ?_
  simp only [Act.put, List.setIfInBounds_toArray, List.set_cons_zero, List.set_cons_succ]
  refine takeD (i := 3) (some 25) (.agg (bcells q)) rfl rfl (by kernel_rfl) (by kernel_rfl) (by kernel_rfl) (fun _ _ _ h => h) (yields_loadW (by rfl) (.tmp 2) rfl _ 0 q rfl (fun _ h => h.2.1) HL2.out) hHeld ?_
  simp only [Act.put, List.setIfInBounds_toArray, List.set_cons_zero, List.set_cons_succ]
  refine takeD (i := 5) (some 27) (.agg (bcells r)) rfl rfl (by kernel_rfl) (by kernel_rfl) (by kernel_rfl) (fun _ _ _ h => h) (yields_loadW (by rfl) (.tmp 3) rfl _ 0 r rfl (fun _ h => h.2.2.1) HL3.out) hHeld ?_
  simp only [Act.put, List.setIfInBounds_toArray, List.set_cons_zero, List.set_cons_succ]
  refine wpAnyH_ready (rs := [1]) (by kernel_rfl) (by decide) ?_
  refine AllReadyH.cons rfl (fun K' hK => ?_) AllReadyH.nil
  go_simp
  refine (HR.out _ 3 w8.drew (Nat.le_refl _) (HDL.out.below B0) (HT.out.below hb8'.drew)).mono ?_
  rintro e10 w10 ⟨rfl, hb10⟩
  have B10 : Below w8.heap.size w8 w10 := B0.trans (hb10.mono B0.size)
  have BT10 := hb8'.trans (B10.mono hb8'.size)
  refine hK.out _ _ (KP.out _ B10) (fun hHeld10 => ?_)
  clear hK
  refine wpAnyH_ready (rs := [4]) (by kernel_rfl) (by decide) ?_
  refine AllReadyH.cons rfl (fun K' hK => ?_) AllReadyH.nil
  go_simp
  refine (HN1.out w10 (HT.out.below BT10)).mono ?_
  rintro e11 w11 ⟨rfl, hb11⟩
  have B11 : Below w8.heap.size w8 w11 := B10.trans (hb11.mono B10.size)
  have BT11 := hb8'.trans (B11.mono hb8'.size)
  refine hK.out _ _ (KP.out _ B11) (fun hHeld11 => ?_)
  clear hK
  refine wpAnyH_ready (rs := [6]) (by kernel_rfl) (by decide) ?_
  refine AllReadyH.cons rfl (fun K' hK => ?_) AllReadyH.nil
  go_simp
  refine (HN2.out w11 (HT.out.below BT11)).mono ?_
  rintro e12 w12 ⟨rfl, hb12⟩
  have B12 : Below w8.heap.size w8 w12 := B11.trans (hb12.mono B11.size)
  refine hK.out _ _ (KP.out _ B12) (fun hHeld12 => ?_)
  clear hK
  (try simp only [Act.put, List.setIfInBounds_toArray, List.set_cons_zero, List.set_cons_succ])
  refine takeD (i := 7) (some 29) (.bool true) rfl rfl (by kernel_rfl) (by kernel_rfl) (by kernel_rfl) (fun _ _ _ h => h) (yields_eqlW (by rfl) (.tmp 23) (.tmp 28) rfl z z true rfl rfl HZL.out HZL.out (by simp)) hHeld12 ?_
  simp only [Act.put, List.setIfInBounds_toArray, List.set_cons_zero, List.set_cons_succ]
  refine takeD (i := 8) (some 30) (.bool true) rfl rfl (by kernel_rfl) (by kernel_rfl) (by kernel_rfl) (fun _ _ _ h => h) (Or.inl ⟨by rfl, fun _ _ => rfl⟩) hHeld12 ?_
  simp only [Act.put, List.setIfInBounds_toArray, List.set_cons_zero, List.set_cons_succ]
  refine takeD (i := 9) (some 31) (.int .i64 0) rfl rfl (by kernel_rfl) (by kernel_rfl) (by kernel_rfl) (fun _ _ _ h => h) (Or.inl ⟨by rfl, fun _ _ => rfl⟩) hHeld12 ?_
  simp only [Act.put, List.setIfInBounds_toArray, List.set_cons_zero, List.set_cons_succ]
  refine takeD (i := 10) (some 32) (.bool true) rfl rfl (by kernel_rfl) (by kernel_rfl) (by kernel_rfl) (fun _ _ _ h => h) (yields_eqE (by rfl) (.tmp 31) _ rfl 0 0 true rfl rfl rfl) hHeld12 ?_
  simp only [Act.put, List.setIfInBounds_toArray, List.set_cons_zero, List.set_cons_succ]
  refine takeD (i := 11) (some 33) (.bool true) rfl rfl (by kernel_rfl) (by kernel_rfl) (by kernel_rfl) (fun _ _ _ h => h) (Or.inl ⟨by rfl, fun _ _ => rfl⟩) hHeld12 ?_
  simp only [Act.put, List.setIfInBounds_toArray, List.set_cons_zero, List.set_cons_succ]
  refine takeD (i := 12) (some 34) (.bool true) rfl rfl (by kernel_rfl) (by kernel_rfl) (by kernel_rfl) (fun _ _ _ h => h) (Or.inl ⟨by rfl, fun _ _ => rfl⟩) hHeld12 ?_
  simp only [Act.put, List.setIfInBounds_toArray, List.set_cons_zero, List.set_cons_succ]
  refine takeD (i := 13) (some 35) (.slice (some ⟨b9, off9, none⟩) 1 c8) rfl rfl (by kernel_rfl) (by kernel_rfl) (by kernel_rfl) (fun _ _ _ h => h) (Or.inl ⟨by rfl, fun _ _ => rfl⟩) hHeld12 ?_
  simp only [Act.put, List.setIfInBounds_toArray, List.set_cons_zero, List.set_cons_succ]
  refine takeD (i := 14) (some 36) (.int .i64 ((1 : Nat) : Int)) rfl rfl (by kernel_rfl) (by kernel_rfl) (by kernel_rfl) (fun _ _ _ h => h) (yields_len (by rfl) (.tmp 35) rfl _ 1 c8 rfl) hHeld12 ?_
  simp only [Act.put, List.setIfInBounds_toArray, List.set_cons_zero, List.set_cons_succ]
  refine takeD (i := 15) (some 37) (.bool true) rfl rfl (by kernel_rfl) (by kernel_rfl) (by kernel_rfl) (fun _ _ _ h => h) (yields_eqIW (by rfl) (.tmp 36) _ rfl ((1 : Nat) : Int) 1 true rfl rfl rfl) hHeld12 ?_
  simp only [Act.put, List.setIfInBounds_toArray, List.set_cons_zero, List.set_cons_succ]
  refine takeD (i := 16) (some 38) (.bool true) rfl rfl (by kernel_rfl) (by kernel_rfl) (by kernel_rfl) (fun _ _ _ h => h) (Or.inl ⟨by rfl, fun _ _ => rfl⟩) hHeld12 ?_
  simp only [Act.put, List.setIfInBounds_toArray, List.set_cons_zero, List.set_cons_succ]
  refine takeD (i := 17) (some 39) (.bool true) rfl rfl (by kernel_rfl) (by kernel_rfl) (by kernel_rfl) (fun _ _ _ h => h) (Or.inl ⟨by rfl, fun _ _ => rfl⟩) hHeld12 ?_
  simp only [Act.put, List.setIfInBounds_toArray, List.set_cons_zero, List.set_cons_succ]
  refine takeD (i := 18) (some 40) (.slice (some ⟨b9, off9, none⟩) 1 c8) rfl rfl (by kernel_rfl) (by kernel_rfl) (by kernel_rfl) (fun _ _ _ h => h) (Or.inl ⟨by rfl, fun _ _ => rfl⟩) hHeld12 ?_
  simp only [Act.put, List.setIfInBounds_toArray, List.set_cons_zero, List.set_cons_succ]
  refine takeD (i := 19) (some 41) (.pointer (some ⟨b9, o9, none⟩)) rfl rfl (by kernel_rfl) (by kernel_rfl) (by kernel_rfl) (fun _ _ _ h => h) (yields_indexW (by rfl) (.tmp 40) _ rfl b9 off9 1 c8 0 o9 _ rfl rfl rfl (by omega) HO9.out) hHeld12 ?_
  simp only [Act.put, List.setIfInBounds_toArray, List.set_cons_zero, List.set_cons_succ]
  refine takeD (i := 20) (some 42) (.agg (bcells r)) rfl rfl (by kernel_rfl) (by kernel_rfl) (by kernel_rfl) (fun _ _ _ h => h) (yields_loadW (by rfl) (.tmp 41) rfl b9 o9 r rfl (fun _ h => h.2.2.2) HL3.out) hHeld12 ?_
  simp only [Act.put, List.setIfInBounds_toArray, List.set_cons_zero, List.set_cons_succ]
  refine takeD (i := 21) (some 43) (.agg (bcells r)) rfl rfl (by kernel_rfl) (by kernel_rfl) (by kernel_rfl) (fun _ _ _ h => h) (yields_loadW (by rfl) (.tmp 3) rfl _ 0 r rfl (fun _ h => h.2.2.1) HL3.out) hHeld12 ?_
  simp only [Act.put, List.setIfInBounds_toArray, List.set_cons_zero, List.set_cons_succ]
  refine takeD (i := 22) (some 44) (.bool true) rfl rfl (by kernel_rfl) (by kernel_rfl) (by kernel_rfl) (fun _ _ _ h => h) (yields_eqlW (by rfl) (.tmp 42) (.tmp 43) rfl r r true rfl rfl HL3.out HL3.out (by simp)) hHeld12 ?_
  simp only [Act.put, List.setIfInBounds_toArray, List.set_cons_zero, List.set_cons_succ]
  refine takeD (i := 23) (some 45) (.bool true) rfl rfl (by kernel_rfl) (by kernel_rfl) (by kernel_rfl) (fun _ _ _ h => h) (Or.inl ⟨by rfl, fun _ _ => rfl⟩) hHeld12 ?_
  simp only [Act.put, List.setIfInBounds_toArray, List.set_cons_zero, List.set_cons_succ]
  refine takeD (i := 24) (some 46) (.bool true) rfl rfl (by kernel_rfl) (by kernel_rfl) (by kernel_rfl) (fun _ _ _ h => h) (Or.inl ⟨by rfl, fun _ _ => rfl⟩) hHeld12 ?_
  simp only [Act.put, List.setIfInBounds_toArray, List.set_cons_zero, List.set_cons_succ]
  refine takeD (i := 25) (some 47) (.agg (bcells p)) rfl rfl (by kernel_rfl) (by kernel_rfl) (by kernel_rfl) (fun _ _ _ h => h) (yields_loadW (by rfl) (.tmp 1) rfl _ 0 p rfl (fun _ h => h.1) HL1.out) hHeld12 ?_
  simp only [Act.put, List.setIfInBounds_toArray, List.set_cons_zero, List.set_cons_succ]
  refine takeD (i := 26) (some 48) (.agg (bcells q)) rfl rfl (by kernel_rfl) (by kernel_rfl) (by kernel_rfl) (fun _ _ _ h => h) (yields_loadW (by rfl) (.tmp 2) rfl _ 0 q rfl (fun _ h => h.2.1) HL2.out) hHeld12 ?_
  simp only [Act.put, List.setIfInBounds_toArray, List.set_cons_zero, List.set_cons_succ]
  refine takeD (i := 27) (some 49) (.bool true) rfl rfl (by kernel_rfl) (by kernel_rfl) (by kernel_rfl) (fun _ _ _ h => h) (yields_neqX (by rfl) (.tmp 47) (.tmp 48) rfl p q rfl rfl HL1.out HL2.out HNE.out) hHeld12 ?_
  simp only [Act.put, List.setIfInBounds_toArray, List.set_cons_zero, List.set_cons_succ]
  refine takeD (i := 28) (some 50) (.bool true) rfl rfl (by kernel_rfl) (by kernel_rfl) (by kernel_rfl) (fun _ _ _ h => h) (Or.inl ⟨by rfl, fun _ _ => rfl⟩) hHeld12 ?_
  simp only [Act.put, List.setIfInBounds_toArray, List.set_cons_zero, List.set_cons_succ]
  refine takeD (i := 29) (some 0) (.bool true) rfl rfl (by kernel_rfl) (by kernel_rfl) (by kernel_rfl) (fun _ _ _ h => h) (Or.inl ⟨by rfl, fun _ _ => rfl⟩) hHeld12 ?_
  simp only [Act.put, List.setIfInBounds_toArray, List.set_cons_zero]
  (try simp only [Act.put, List.setIfInBounds_toArray])
  refine wpAnyH_done (by kernel_rfl) ?_ _
  refine NoPanic.normal ?_
  go_wp2_with fail
  go_ret
  exact ⟨rfl, hb8'.trans (B12.mono hb8'.size)⟩
end Go.Proofs.YtojepkhooabjiaaDoor
