/-
  The document's example: two leaves, and the head of the first.
-/
import Derived.Test.YtbpbpdaohganaaaDoorLedG
namespace Go.Proofs.YtbpbpdaohganaaaDoor
open Go.RowKit
theorem yields_eqN {ops : Array Oper} {S : World → Prop} {o : Oper} {a : Act} (hw : Region.wanted o (yielded ops a.tmps) = true) (x y : Operand) (ho : o.op = .binOp .eql 3 x y 3) (p q : Int) (b : Bool)
    (hx : a.eval x = .int .i64 p) (hy : a.eval y = .int .i64 q) (hb : (p == q) = b) : YieldsIf Tryd.prog ops S o (.bool b) a :=
  .inl ⟨hw, fun w _ => by
    unfold execOp
    simp only [ho, hx, hy]
    go_simp⟩
theorem yields_neN {ops : Array Oper} {S : World → Prop} {o : Oper} {a : Act} (hw : Region.wanted o (yielded ops a.tmps) = true) (x y : Operand) (ho : o.op = .binOp .neq 3 x y 3) (p q : Int) (b : Bool)
    (hx : a.eval x = .int .i64 p) (hy : a.eval y = .int .i64 q) (hb : (p != q) = b) : YieldsIf Tryd.prog ops S o (.bool b) a :=
  .inl ⟨hw, fun w _ => by
    unfold execOp
    simp only [ho, hx, hy]
    go_simp⟩
theorem yields_fldH {ops : Array Oper} {S : World → Prop} {o : Oper} {a : Act} (hw : Region.wanted o (yielded ops a.tmps) = true) (T : TypeId) (x : Operand) (k : Nat) (ho : o.op = .fieldAddr T x k) (hT : (T = 48 ∨ T = 30 ∨ T = 74) ∧ (k = 0 ∨ k = 1)) (g : Nat)
    (hx : a.eval x = .pointer (some ⟨g, 0, none⟩)) : YieldsIf Tryd.prog ops S o (.pointer (some ⟨g, k, none⟩)) a :=
  .inl ⟨hw, fun w _ => by
    unfold execOp
    simp only [ho, hx]
    rcases hT with ⟨rfl | rfl | rfl, rfl | rfl⟩ <;> go_simp⟩
theorem head_range {w : World} {g : Nat} {n : Int} {d : List UInt8} (h : Row w g 48 (headC n d)) : w.rangeAt g 1 (d.map bcell) := fun j v hv => by
  rw [h.cell (1 + j), headC, Array.getElem?_append_right (by simp), show 1 + j - (#[Value.int .i64 n] : Array Value).size = j by simp, bcells_get?, ← List.getElem?_map]; exact hv
theorem yields_headN {ops : Array Oper} {S : World → Prop} {o : Oper} {a : Act} (hw : Region.wanted o (yielded ops a.tmps) = true) (x : Operand) (ho : o.op = .load 3 x) (g : Nat) (n : Int) (d : List UInt8)
    (hx : a.eval x = .pointer (some ⟨g, 0, none⟩)) (hS : ∀ w, S w → Row w g 48 (headC n d)) : YieldsIf Tryd.prog ops S o (.int .i64 n) a :=
  .inl ⟨hw, fun w h => by
    have hc : w.cell? ⟨g, 0, none⟩ = some (.int .i64 n) := by
      rw [(hS w h).cell 0, headC, Array.getElem?_append_left (by simp)]; rfl
    unfold execOp
    simp only [ho, hx]
    go_simp⟩
theorem yields_headD {ops : Array Oper} {S : World → Prop} {o : Oper} {a : Act} (hw : Region.wanted o (yielded ops a.tmps) = true) (x : Operand) (ho : o.op = .load 46 x) (g : Nat) (n : Int) (d : List UInt8)
    (hx : a.eval x = .pointer (some ⟨g, 1, none⟩)) (hd : d.length = 32) (hS : ∀ w, S w → Row w g 48 (headC n d)) : YieldsIf Tryd.prog ops S o (.agg (bcells d)) a :=
  yields_loadW hw x ho g 1 d hx (fun w h => head_range (hS w h)) hd
theorem step_ofG {P : Program} {ops : Array Oper} {o : Oper} {a : Act} {w : World} {K : Act → World → Prop} {Q : Exit → Act → World → Prop} {E : Prop} (hw : Region.wanted o (yielded ops a.tmps) = true) (h : o.wp P a w K Q) :
    if Region.wanted o (yielded ops a.tmps) = true then Oper.wp P o a w K Q else E := by rw [if_pos hw]; exact h
theorem run_build1B (x : UInt8) (w : World) : (Instr.buildSlice 31 1 #[(0, .int .u8 (x.toNat : Int))]).run Tryd.prog w = .ok (.slice (some ⟨w.heap.size, 0, none⟩) 1 1) (w.alloc (.cells #[.int .u8 (x.toNat : Int)] 5)) := by
  obtain ⟨i, hi, hz, hsize, hby⟩ := info_parts (show (Tryd.prog.info? 5).map (fun i => (i.zero, i.size, i.bytes)) = some (some (.int .u8 0), 1, 1) by kernel_rfl)
  refine run_buildSlice w 31 5 1 _ _ i _ Tryd.underlying31 hi hz (by rw [hsize]; decide) (by rw [hsize]; decide) ?_
  rw [hsize]
  have hf := Great.fill_whole (s := 1) (by omega) [.int .u8 (x.toNat : Int)] ((Array.range (1 * 1)).map ((Value.int .u8 0).cells[· % (Value.int .u8 0).cells.size]!))
    (fun v hv => by simp at hv; rw [hv]; rfl) (by simp)
  exact hf
theorem wp_buildB {o : Oper} {a : Act} {w : World} {K : Act → World → Prop} {Q : Exit → Act → World → Prop} (x : Operand) (ho : o.op = .buildSlice 31 1 #[(0, x)]) (b : UInt8)
    (hx : a.eval x = .int .u8 (b.toNat : Int)) (h : K (a.put o.dst (.slice (some ⟨w.heap.size, 0, none⟩) 1 1)) (w.alloc (.cells #[.int .u8 (b.toNat : Int)] 5))) : o.wp Tryd.prog a w K Q := by
  unfold Oper.wp execOp
  simp only [ho, List.map_toArray, List.map_cons, List.map_nil, hx, Sem.run_bind, run_build1B b, Result.andThen_ok]
  exact h
set_option maxRecDepth 100000 in
set_option maxHeartbeats 4000000 in
theorem awake_any (w : World) (hT : Tab 1 w) : Calls Tryd.prog 10 #[] w fun e w' => e = .returned (.bool true) ∧ Below w.heap.size w w' := by
  have hT1 := hT.1
  have HT := Lib.hid hT
  have HLf := Lib.hid (fun A c w hB hc hT => show Calls Tryd.prog 28 #[.slice A 1 c] w fun e w' => e = .returned (.agg (bcells (leafL [97]))) ∧ Below w.heap.size w w' from Leaf_any A 1 c [97] w hB hc (by omega) hT)
  have HH := Lib.hid (fun g F L w h hT => show Calls Tryd.prog 18 #[.pointer (some ⟨g, 0, none⟩), .int .i64 1] w (HeadR w 1 (rootL ((L.map leafL).take 1)) 0) from Head_ok g 2 1 F L w h (by omega) (by omega) hT)
  have HR1 := Lib.hid (show rootL ((([] ++ [[97]] ++ [[98]] : List (List UInt8)).map leafL).take 1) = leafL [97] from rootP_one nodeL (sumL []) _)
  have HLL := Lib.hid (leafL_length [97])
  have HSZ := Lib.hid (headC_size (1 : Int) (leafL [97]) (leafL_length [97]))
  clear hT
  go_enter Tryd.func10, Tryd.ntmps10
  go_wp2_with (first
    | (go_at_call 11; refine (LNew_any _).mono ?_; rintro e1 w1 ⟨g, rfl, hg, hl1, hb1⟩; have HL1 := Lib.hid hl1; have hs1 := hb1.size; clear hl1)
    | (go_at_call 12; have hz := HL2; clear hz; refine (App_ok g 1 1 1 _ F2 ([] ++ [[97]]) [98] (w2.alloc (.cells #[.int .u8 98] 5)) (HL2.out.below ((Below.refl _ _).alloc (Nat.le_refl _) _)) (one_of w2 98 5).bs (fun b' o' q1 q2 => absurd ((one_of w2 98 5).fresh b' o' q1) (Nat.not_le_of_lt (HL2.out.2.1 b' q2))) (Nat.le_refl _) (by omega) (by omega) (HT.out.below (b2.alloc b2.size _)) (fun q => absurd (HF2.out 1 q) (by omega))).mono ?_; rintro e3 w3 ⟨rfl, ⟨F3, hF3, hl3⟩, ho3⟩; have b2' := b2.alloc b2.size (.cells #[.int .u8 98] 5); have HF3 := Lib.hid (show ∀ b, F3 b → w.heap.size ≤ b from fun b q => (hF3 b q).elim (HF2.out b) (fun q2 => Nat.le_trans b2'.size q2)); have HL3 := Lib.hid hl3; have b3 := b2'.trans (ho3.below HF2.out b2'.size); clear hF3 hl3 ho3)
    | (go_at_call 12; refine (App_ok g 0 1 1 _ (· = g) [] [97] (w1.alloc (.cells #[.int .u8 97] 5)) (HL1.out.below ((Below.refl _ _).alloc (Nat.le_refl _) _)) (one_of w1 97 5).bs (fun b' o' q1 q2 => absurd ((one_of w1 97 5).fresh b' o' q1) (Nat.not_le_of_lt (HL1.out.2.1 b' q2))) (Nat.le_refl _) (by omega) (by omega) (HT.out.below (hb1.alloc hs1 _)) (fun q => absurd (show 1 = g from q) (by omega))).mono ?_; rintro e2 w2 ⟨rfl, ⟨F2, hF2, hl2⟩, ho2⟩; have b1' := hb1.alloc hs1 (.cells #[.int .u8 97] 5); have HF2 := Lib.hid (show ∀ b, F2 b → w.heap.size ≤ b from fun b q => (hF2 b q).elim (fun q2 => by have q3 : b = g := q2; omega) (fun q2 => Nat.le_trans b1'.size q2)); have HL2 := Lib.hid hl2; have b2 := b1'.trans (ho2.below (fun x q => by have q3 : x = g := q; omega) b1'.size); clear hF2 hl2 ho2)
    | (go_at_call 18; refine (HH.out g F3 _ w3 HL3.out (HT.out.below b3)).mono ?_; rw [HR1.out]; rintro e4 w4 ⟨rfl, hb4⟩; have b4 := b3.trans (hb4.mono b3.size); have HL4 := Lib.hid (HL3.out.below hb4))
    | (with_reducible refine wpList_allocH rfl rfl ?_; intro gh w5 hgh hrh hbh; have HRh := Lib.hid hrh; have hge : w4.heap.size ≤ gh := (by omega); have b5 := b4.trans (hbh.mono b4.size); clear hgh hrh)
    | (with_reducible refine wpList_store_row Tryd.aggHead rfl (.tmp 6) (.tmp 24) rfl _ (headC 1 (leafL [97])) rfl rfl 48 head0 HRh.out HSZ.out head0_size (headC_one _ _) ?_; intro w6 hr6 ho6; have HR6 := Lib.hid hr6; have b46 : Below w4.heap.size w4 w6 := hbh.trans (ho6.below hge hbh.size); have b6 := b4.trans (b46.mono b4.size); have HL6 := Lib.hid (HL4.out.below b46); have hlt6 := hr6.lt; clear hr6))
  generalize leafL [97] = d at *
  have KP : Hid (∀ wq, Below w6.heap.size w6 wq → Row wq gh 48 (headC 1 d)) := Lib.hid (fun wq hb => HR6.out.below hb hlt6)
  have B0 : Below w6.heap.size w6 w6.drew := (Below.refl w6.heap.size w6).drew
  refine wp_region_noPanic ?_
  refine wp_region_held_drew (S := fun w' => Row w' gh 48 (headC 1 d)) (by kernel_rfl) (KP.out _ B0) (fun hHeld => ?_)
  refine takeD (i := 0) (some 26) (.int .i64 0) rfl rfl (by kernel_rfl) (by kernel_rfl) (by kernel_rfl) (fun _ _ _ h => h) (Or.inl ⟨by rfl, fun _ _ => rfl⟩) hHeld ?_
  simp only [Act.put, List.setIfInBounds_toArray, List.set_cons_zero, List.set_cons_succ]
  refine takeD (i := 1) (some 27) (.bool true) rfl rfl (by kernel_rfl) (by kernel_rfl) (by kernel_rfl) (fun _ _ _ h => h) (yields_eqE (by rfl) _ _ rfl (0) (0) true rfl rfl (by simp)) hHeld ?_
  simp only [Act.put, List.setIfInBounds_toArray, List.set_cons_zero, List.set_cons_succ]
  refine takeD (i := 2) (some 28) (.bool true) rfl rfl (by kernel_rfl) (by kernel_rfl) (by kernel_rfl) (fun _ _ _ h => h) (Or.inl ⟨by rfl, fun _ _ => rfl⟩) hHeld ?_
  simp only [Act.put, List.setIfInBounds_toArray, List.set_cons_zero, List.set_cons_succ]
  refine takeD (i := 3) (some 29) (.int .i64 0) rfl rfl (by kernel_rfl) (by kernel_rfl) (by kernel_rfl) (fun _ _ _ h => h) (Or.inl ⟨by rfl, fun _ _ => rfl⟩) hHeld ?_
  simp only [Act.put, List.setIfInBounds_toArray, List.set_cons_zero, List.set_cons_succ]
  refine takeD (i := 4) (some 30) (.bool true) rfl rfl (by kernel_rfl) (by kernel_rfl) (by kernel_rfl) (fun _ _ _ h => h) (yields_eqE (by rfl) _ _ rfl (0) (0) true rfl rfl (by simp)) hHeld ?_
  simp only [Act.put, List.setIfInBounds_toArray, List.set_cons_zero, List.set_cons_succ]
  refine takeD (i := 5) (some 31) (.bool true) rfl rfl (by kernel_rfl) (by kernel_rfl) (by kernel_rfl) (fun _ _ _ h => h) (Or.inl ⟨by rfl, fun _ _ => rfl⟩) hHeld ?_
  simp only [Act.put, List.setIfInBounds_toArray, List.set_cons_zero, List.set_cons_succ]
  refine takeD (i := 6) (some 32) (.bool true) rfl rfl (by kernel_rfl) (by kernel_rfl) (by kernel_rfl) (fun _ _ _ h => h) (Or.inl ⟨by rfl, fun _ _ => rfl⟩) hHeld ?_
  simp only [Act.put, List.setIfInBounds_toArray, List.set_cons_zero, List.set_cons_succ]
  refine takeD (i := 7) (some 33) (.int .i64 0) rfl rfl (by kernel_rfl) (by kernel_rfl) (by kernel_rfl) (fun _ _ _ h => h) (Or.inl ⟨by rfl, fun _ _ => rfl⟩) hHeld ?_
  simp only [Act.put, List.setIfInBounds_toArray, List.set_cons_zero, List.set_cons_succ]
  refine takeD (i := 8) (some 34) (.bool true) rfl rfl (by kernel_rfl) (by kernel_rfl) (by kernel_rfl) (fun _ _ _ h => h) (yields_eqE (by rfl) _ _ rfl (0) (0) true rfl rfl (by simp)) hHeld ?_
  simp only [Act.put, List.setIfInBounds_toArray, List.set_cons_zero, List.set_cons_succ]
  refine takeD (i := 9) (some 35) (.bool true) rfl rfl (by kernel_rfl) (by kernel_rfl) (by kernel_rfl) (fun _ _ _ h => h) (Or.inl ⟨by rfl, fun _ _ => rfl⟩) hHeld ?_
  simp only [Act.put, List.setIfInBounds_toArray, List.set_cons_zero, List.set_cons_succ]
  refine takeD (i := 10) (some 36) (.bool true) rfl rfl (by kernel_rfl) (by kernel_rfl) (by kernel_rfl) (fun _ _ _ h => h) (Or.inl ⟨by rfl, fun _ _ => rfl⟩) hHeld ?_
  simp only [Act.put, List.setIfInBounds_toArray, List.set_cons_zero, List.set_cons_succ]
  refine takeD (i := 11) (some 37) (.int .i64 0) rfl rfl (by kernel_rfl) (by kernel_rfl) (by kernel_rfl) (fun _ _ _ h => h) (Or.inl ⟨by rfl, fun _ _ => rfl⟩) hHeld ?_
  simp only [Act.put, List.setIfInBounds_toArray, List.set_cons_zero, List.set_cons_succ]
  refine takeD (i := 12) (some 38) (.bool true) rfl rfl (by kernel_rfl) (by kernel_rfl) (by kernel_rfl) (fun _ _ _ h => h) (yields_eqN (by rfl) _ _ rfl (0) (0) true rfl rfl (by simp)) hHeld ?_
  simp only [Act.put, List.setIfInBounds_toArray, List.set_cons_zero, List.set_cons_succ]
  refine takeD (i := 13) (some 39) (.bool true) rfl rfl (by kernel_rfl) (by kernel_rfl) (by kernel_rfl) (fun _ _ _ h => h) (Or.inl ⟨by rfl, fun _ _ => rfl⟩) hHeld ?_
  simp only [Act.put, List.setIfInBounds_toArray, List.set_cons_zero, List.set_cons_succ]
  refine takeD (i := 14) (some 40) (.bool true) rfl rfl (by kernel_rfl) (by kernel_rfl) (by kernel_rfl) (fun _ _ _ h => h) (Or.inl ⟨by rfl, fun _ _ => rfl⟩) hHeld ?_
  simp only [Act.put, List.setIfInBounds_toArray, List.set_cons_zero, List.set_cons_succ]
  refine takeD (i := 15) (some 41) (.int .i64 1) rfl rfl (by kernel_rfl) (by kernel_rfl) (by kernel_rfl) (fun _ _ _ h => h) (Or.inl ⟨by rfl, fun _ _ => rfl⟩) hHeld ?_
  simp only [Act.put, List.setIfInBounds_toArray, List.set_cons_zero, List.set_cons_succ]
  refine takeD (i := 16) (some 42) (.bool true) rfl rfl (by kernel_rfl) (by kernel_rfl) (by kernel_rfl) (fun _ _ _ h => h) (yields_eqN (by rfl) _ _ rfl (1) (1) true rfl rfl (by simp)) hHeld ?_
  simp only [Act.put, List.setIfInBounds_toArray, List.set_cons_zero, List.set_cons_succ]
  refine takeD (i := 17) (some 43) (.bool true) rfl rfl (by kernel_rfl) (by kernel_rfl) (by kernel_rfl) (fun _ _ _ h => h) (Or.inl ⟨by rfl, fun _ _ => rfl⟩) hHeld ?_
  simp only [Act.put, List.setIfInBounds_toArray, List.set_cons_zero, List.set_cons_succ]
  refine takeD (i := 18) (some 44) (.bool true) rfl rfl (by kernel_rfl) (by kernel_rfl) (by kernel_rfl) (fun _ _ _ h => h) (Or.inl ⟨by rfl, fun _ _ => rfl⟩) hHeld ?_
  simp only [Act.put, List.setIfInBounds_toArray, List.set_cons_zero, List.set_cons_succ]
  refine takeD (i := 19) (some 45) (.pointer (some ⟨g, 0, none⟩)) rfl rfl (by kernel_rfl) (by kernel_rfl) (by kernel_rfl) (fun _ _ _ h => h) (Or.inl ⟨by rfl, fun _ _ => rfl⟩) hHeld ?_
  simp only [Act.put, List.setIfInBounds_toArray, List.set_cons_zero, List.set_cons_succ]
  refine wpAnyH_ready (rs := [20]) (by kernel_rfl) (by decide) ?_
  refine AllReadyH.cons rfl (fun K' hK => ?_) AllReadyH.nil
  go_simp
  refine (Size_any g _ F3 _ w6.drew (HL6.out.below B0)).mono ?_
  rintro e7 w7 ⟨rfl, rfl⟩
  refine hK.out _ _ (KP.out _ B0) (fun hHeld1 => ?_)
  clear hK
  refine takeD (i := 21) (some 47) (.bool true) rfl rfl (by kernel_rfl) (by kernel_rfl) (by kernel_rfl) (fun _ _ _ h => h) (yields_eqN (by rfl) _ _ rfl (2) (2) true rfl rfl (by simp)) hHeld1 ?_
  simp only [Act.put, List.setIfInBounds_toArray, List.set_cons_zero, List.set_cons_succ]
  refine takeD (i := 22) (some 48) (.bool true) rfl rfl (by kernel_rfl) (by kernel_rfl) (by kernel_rfl) (fun _ _ _ h => h) (Or.inl ⟨by rfl, fun _ _ => rfl⟩) hHeld1 ?_
  simp only [Act.put, List.setIfInBounds_toArray, List.set_cons_zero, List.set_cons_succ]
  refine takeD (i := 23) (some 49) (.bool true) rfl rfl (by kernel_rfl) (by kernel_rfl) (by kernel_rfl) (fun _ _ _ h => h) (Or.inl ⟨by rfl, fun _ _ => rfl⟩) hHeld1 ?_
  simp only [Act.put, List.setIfInBounds_toArray, List.set_cons_zero, List.set_cons_succ]
  refine takeD (i := 24) (some 50) (.pointer (some ⟨gh, 0, none⟩)) rfl rfl (by kernel_rfl) (by kernel_rfl) (by kernel_rfl) (fun _ _ _ h => h) (yields_fldH (by rfl) 48 (.tmp 6) 0 rfl (by decide) (gh) rfl) hHeld1 ?_
  simp only [Act.put, List.setIfInBounds_toArray, List.set_cons_zero, List.set_cons_succ]
  refine takeD (i := 25) (some 51) (.int .i64 1) rfl rfl (by kernel_rfl) (by kernel_rfl) (by kernel_rfl) (fun _ _ _ h => h) (yields_headN (by rfl) (.tmp 50) rfl (gh) (1) (d) rfl (fun _ h => h)) hHeld1 ?_
  simp only [Act.put, List.setIfInBounds_toArray, List.set_cons_zero, List.set_cons_succ]
  refine takeD (i := 26) (some 52) (.bool true) rfl rfl (by kernel_rfl) (by kernel_rfl) (by kernel_rfl) (fun _ _ _ h => h) (yields_eqN (by rfl) _ _ rfl (1) (1) true rfl rfl (by simp)) hHeld1 ?_
  simp only [Act.put, List.setIfInBounds_toArray, List.set_cons_zero, List.set_cons_succ]
  refine takeD (i := 27) (some 53) (.bool true) rfl rfl (by kernel_rfl) (by kernel_rfl) (by kernel_rfl) (fun _ _ _ h => h) (Or.inl ⟨by rfl, fun _ _ => rfl⟩) hHeld1 ?_
  simp only [Act.put, List.setIfInBounds_toArray, List.set_cons_zero, List.set_cons_succ]
  refine takeD (i := 28) (some 54) (.bool true) rfl rfl (by kernel_rfl) (by kernel_rfl) (by kernel_rfl) (fun _ _ _ h => h) (Or.inl ⟨by rfl, fun _ _ => rfl⟩) hHeld1 ?_
  simp only [Act.put, List.setIfInBounds_toArray, List.set_cons_zero, List.set_cons_succ]
  refine takeD (i := 29) (some 55) (.pointer (some ⟨gh, 1, none⟩)) rfl rfl (by kernel_rfl) (by kernel_rfl) (by kernel_rfl) (fun _ _ _ h => h) (yields_fldH (by rfl) 48 (.tmp 6) 1 rfl (by decide) (gh) rfl) hHeld1 ?_
  simp only [Act.put, List.setIfInBounds_toArray, List.set_cons_zero, List.set_cons_succ]
  refine takeD (i := 30) (some 56) (.agg (bcells d)) rfl rfl (by kernel_rfl) (by kernel_rfl) (by kernel_rfl) (fun _ _ _ h => h) (yields_headD (by rfl) (.tmp 55) rfl (gh) (1) (d) rfl HLL.out (fun _ h => h)) hHeld1 ?_
  simp only [Act.put, List.setIfInBounds_toArray, List.set_cons_zero, List.set_cons_succ]
  refine wpAnyH_ready (rs := [31]) (by kernel_rfl) (by decide) ?_
  refine AllReadyH.cons rfl (fun K' hK => ?_) AllReadyH.nil
  refine step_ofG (by rfl) (wp_buildB _ rfl 97 rfl ?_)
  have B8 := B0.alloc B0.size (.cells #[.int .u8 ((97 : UInt8).toNat : Int)] 5)
  refine hK.out _ _ (KP.out _ B8) (fun hHeld2 => ?_)
  clear hK
  simp only [Act.put, List.setIfInBounds_toArray]
  refine wpAnyH_ready (rs := [32]) (by kernel_rfl) (by decide) ?_
  refine AllReadyH.cons rfl (fun K' hK => ?_) AllReadyH.nil
  go_simp
  refine (HLf.out _ _ _ (one_of w6.drew 97 5).bs (Nat.le_refl _) (HT.out.below (b6.trans (B8.mono b6.size)))).mono ?_
  rintro e9 w9 ⟨rfl, hb9⟩
  have B9 := B8.trans (hb9.mono B8.size)
  refine hK.out _ _ (KP.out _ B9) (fun hHeld3 => ?_)
  clear hK
  refine takeD (i := 33) (some 59) (.bool true) rfl rfl (by kernel_rfl) (by kernel_rfl) (by kernel_rfl) (fun _ _ _ h => h) (yields_eqlW (by rfl) (.tmp 56) (.tmp 58) rfl d d true rfl rfl HLL.out HLL.out (by simp)) hHeld3 ?_
  simp only [Act.put, List.setIfInBounds_toArray, List.set_cons_zero, List.set_cons_succ]
  refine takeD (i := 34) (some 60) (.bool true) rfl rfl (by kernel_rfl) (by kernel_rfl) (by kernel_rfl) (fun _ _ _ h => h) (Or.inl ⟨by rfl, fun _ _ => rfl⟩) hHeld3 ?_
  simp only [Act.put, List.setIfInBounds_toArray, List.set_cons_zero, List.set_cons_succ]
  refine takeD (i := 35) (some 0) (.bool true) rfl rfl (by kernel_rfl) (by kernel_rfl) (by kernel_rfl) (fun _ _ _ h => h) (Or.inl ⟨by rfl, fun _ _ => rfl⟩) hHeld3 ?_
  simp only [Act.put, List.setIfInBounds_toArray, List.set_cons_zero]
  (try simp only [Act.put, List.setIfInBounds_toArray])
  refine wpAnyH_done (by kernel_rfl) ?_ _
  refine NoPanic.normal ?_
  go_wp2_with fail
  go_ret
  exact ⟨rfl, b6.trans (B9.mono b6.size)⟩
end Go.Proofs.YtbpbpdaohganaaaDoor
