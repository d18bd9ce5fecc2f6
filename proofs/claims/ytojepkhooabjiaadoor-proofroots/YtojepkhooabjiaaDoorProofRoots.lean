/-
  ProofRoots, whole, as the tied card (Rows.ProofRootsCardSaid): for every list of digests (up to 100 of them are looked at), every two digests and every leaf (up to 500 bytes of it are looked at) proof.Root, proof.Node and proof.Leaf answer the document's own root, node and leaf's digest; and the document's example of three leaves. Conditions: the tables sha.constants, juratref02.constants and juratref02.first read as their initialisers lay them (tied to the program's text).
-/
import Derived.Test.YtojepkhooabjiaaDoorRows
import Derived.Test.YtojepkhooabjiaaDoorCards
import Derived.Test.YtojepkhooabjiaaDoorTie
import Derived.WalkKit
import Derived.ProofKit
import Derived.OpenShut
import Derived.ChangeMaps5
import Derived.ShutString
import Derived.ChangeOld
import Derived.Below
import Derived.SizedLaws
import Derived.SevenTiedAt
import Derived.Lay
import Derived.LaidLaws
import Derived.Test.YtojepkhooabjiaaDoorAwakeA
namespace Go.Proofs.YtojepkhooabjiaaDoor.proofRoots
open Go.ChangeShapes Go.WideShapes Go.ChangeAt Go.RowKit
open Go.ChangeMaps (open_string shut_string)
set_option linter.unusedVariables false
theorem own : ownKnob Tryd.prog.godebug = none := by kernel_rfl
theorem laidOut : laidOutB Tryd.prog = true := by kernel_rfl
theorem step_ofW {P : Program} {ops : Array Oper} {o : Oper} {a : Act} {w : World} {K : Act → World → Prop} {Q : Exit → Act → World → Prop} {E : Prop} (hw : Region.wanted o (yielded ops a.tmps) = true) (h : o.wp P a w K Q) :
    if Region.wanted o (yielded ops a.tmps) = true then Oper.wp P o a w K Q else E := by
  rw [if_pos hw]
  exact h
theorem run_emptyB (w : World) : (Instr.buildSlice 25 0 #[]).run Tryd.prog w = .ok (.slice (some ⟨w.heap.size, 0, none⟩) 0 0) (w.alloc (.cells #[] 5)) := by
  obtain ⟨i, hi, hz, hsize, hby⟩ := info_parts Tryd.byteTypes.hi
  simp [Instr.buildSlice, run_underlying Tryd.underlying25, sizeOf, typeInfo, hi, Instr.fill, newRow]
  have e : Array.map (fun _ => (default : Value)) (Array.range 0) = #[] := by apply Array.ext <;> simp
  rw [e]
theorem wp_emptyB {o : Oper} {a : Act} {w : World} {K : Act → World → Prop} {Q : Exit → Act → World → Prop} (ho : o.op = .buildSlice 25 0 #[])
    (h : ∀ g w', g = w.heap.size → Own w' w.heap.size 5 (.slice (some ⟨g, 0, none⟩) 0 0) 0 [] → Below w.heap.size w w' → K (a.put o.dst (.slice (some ⟨g, 0, none⟩) 0 0)) w') : o.wp Tryd.prog a w K Q := by
  unfold Oper.wp execOp
  simp only [ho, List.map_toArray, List.map_nil, Sem.run_bind, run_emptyB, Result.andThen_ok]
  exact h _ _ rfl (empty_new w 5) ((Below.refl _ _).alloc (Nat.le_refl _) _)
theorem wp_appB {o : Oper} {a : Act} {w : World} {K : Act → World → Prop} {Q : Exit → Act → World → Prop} (s x : Operand)
    (ho : o.op = .call { callee := .builtin .append, args := #[s, x], argTypes := #[25, 25] })
    (base : Nat) (v : Value) (n : Nat) (xs : List UInt8) (hs : a.eval s = v) (hown : Own w base 5 v n xs)
    (A : Option Addr) (m c : Nat) (l : List UInt8) (hx : a.eval x = .slice A m c) (hr : Bs w A m l) (hb : n + m ≤ 140737488355328) (hbase : base ≤ w.heap.size)
    (h : ∀ A' c' w', Own w' base 5 (.slice A' (n + m) c') (n + m) (xs ++ l) → Below base w w' → K (a.put o.dst (.slice A' (n + m) c')) w') : o.wp Tryd.prog a w K Q := by
  obtain ⟨A', c', w', hrun, h2, h3, h4⟩ := run_app Tryd.byteTypes o.type w base v n xs hown A m c l hr hb hbase
  unfold Oper.wp execOp
  simp only [ho, resolve, invoke, builtin, Sem.run_bind, Sem.run_pure, Result.andThen_ok, List.map_toArray, List.map_cons, List.map_nil, hs, hx, hrun]
  exact h A' c' w' h2 h3
set_option maxRecDepth 100000 in
set_option maxHeartbeats 2000000 in
theorem walk_in (w : World) (a0 : Option Addr) (len0 cap0 : Nat) (l0 : List (List UInt8)) (w0 : Ds w a0 len0 l0) (s0 : len0 ≤ cap0) (s1 : List UInt8) (w1 : s1.length = 32) (s2 : List UInt8) (w2 : s2.length = 32) (a3 : Option Addr) (len3 cap3 : Nat) (l3 : List UInt8) (w3 : Bs w a3 len3 l3) (_s3 : len3 ≤ cap3 ∧ cap3 ≤ 140737488351232) (h100 : len0 ≤ 100) (h500 : len3 ≤ 500) (hT : First w ∧ Tab 1 w ∧ Tab 2 w) :
    Calls Tryd.prog 3 #[.slice a0 len0 cap0, .agg (bcells s1), .agg (bcells s2), .slice a3 len3 cap3] w fun e w' => e = .returned (.bool true) ∧ Below w.heap.size w w' := by
  have HF := Lib.hid hT.1
  have HT1 := Lib.hid hT.2.1
  have HT2 := Lib.hid hT.2.2
  have i0 : ¬ 100 < (len0 : Int) := by omega
  have i1 : ¬ 500 < (len3 : Int) := by omega
  have HD := Lib.hid w0
  have HB := Lib.hid w3
  have HRT := Lib.hid (fun A c wq hc hD hT => root_ok A len0 c l0 wq (by omega) hc hD hT)
  have HRF := Lib.hid (fun wq hD hF hT => Refroot_ok a0 len0 cap0 l0 wq (by omega) s0 hD hF hT)
  have HRL := Lib.hid (rootL_length l0 w0.2.1)
  generalize rootL l0 = R at *
  have HNA := Lib.hid (fun wq hT => Node_any s1 s2 wq w1 w2 hT)
  have HNB := Lib.hid (fun wq hF hT => RefNode_any s1 s2 wq w1 w2 hF hT)
  have HNL := Lib.hid (nodeL_length s1 s2)
  generalize nodeL s1 s2 = Z at *
  have HLA := Lib.hid (fun A c wq hB hc hT => Leaf_any A len3 c l3 wq hB hc (by omega) hT)
  have HLB := Lib.hid (fun wq hB hF hT => RefLeaf_any a3 len3 cap3 l3 wq hB (by omega) hF hT)
  have HLL := Lib.hid (leafL_length l3)
  generalize leafL l3 = Y at *
  have HL1 := Lib.hid w1
  have HL2 := Lib.hid w2
  have hb0 := ((Below.refl w.heap.size w).alloc (Nat.le_refl _) (.cells (bcells s1) 24)).alloc (by simp) (.cells (bcells s2) 24)
  have HR1 := Lib.hid ((Row.new w 24 (bcells s1)).alloc (.cells (bcells s2) 24))
  have HR2 := Lib.hid (Row.new1 w (.cells (bcells s1) 24) 24 (bcells s2))
  obtain ⟨wz, hwz⟩ : ∃ wz, (w.alloc (.cells (bcells s1) 24)).alloc (.cells (bcells s2) 24) = wz := ⟨_, rfl⟩
  rw [hwz] at hb0 HR1 HR2
  clear w0 w3 hT w1 w2
  go_enter Tryd.func3, Tryd.ntmps3
  go_wp2_with fail
  clear hwz
  have KP : Hid (∀ wq, Below wz.heap.size wz wq → wq.rangeAt w.heap.size 0 (s1.map bcell) ∧ wq.rangeAt (w.heap.size + 1) 0 (s2.map bcell)) := Lib.hid (fun wq hb => ⟨range_row (HR1.out.below hb HR1.out.lt), range_row (HR2.out.below hb HR2.out.lt)⟩)
  have B0 : Below wz.heap.size wz wz.drew := (Below.refl wz.heap.size wz).drew
  have BW0 := hb0.trans (B0.mono hb0.size)
  refine wp_region_noPanic ?_
  refine wp_region_held_drew (S := fun w' => w'.rangeAt w.heap.size 0 (s1.map bcell) ∧ w'.rangeAt (w.heap.size + 1) 0 (s2.map bcell)) (by kernel_rfl) (KP.out _ B0) (fun hHeld => ?_)
  refine takeD (i := 0) (some 18) (.slice a0 len0 cap0) rfl rfl (by kernel_rfl) (by kernel_rfl) (by kernel_rfl) (fun _ _ _ h => h) (Or.inl ⟨by rfl, fun _ _ => rfl⟩) hHeld ?_
  simp only [Act.put, List.setIfInBounds_toArray, List.set_cons_zero, List.set_cons_succ]
  refine takeD (i := 3) (some 21) (.slice a0 len0 cap0) rfl rfl (by kernel_rfl) (by kernel_rfl) (by kernel_rfl) (fun _ _ _ h => h) (Or.inl ⟨by rfl, fun _ _ => rfl⟩) hHeld ?_
  simp only [Act.put, List.setIfInBounds_toArray, List.set_cons_zero, List.set_cons_succ]
  refine wpAnyH_ready (rs := [1]) (by kernel_rfl) (by decide) ?_
  refine AllReadyH.cons rfl (fun K' hK => ?_) AllReadyH.nil
  go_simp
  refine (own_any a0 len0 cap0 l0 wz.drew (HD.out.below BW0) (by omega)).mono ?_
  rintro e5 w5 ⟨A5, c5, rfl, hc5, hd5, hb5⟩
  have HD5 := Lib.hid hd5
  have B5 : Below wz.heap.size wz w5 := B0.trans (hb5.mono B0.size)
  have BW5 := hb0.trans (B5.mono hb0.size)
  clear hd5
  refine hK.out _ _ (KP.out _ B5) (fun hHeld5 => ?_)
  clear hK
  refine wpAnyH_ready (rs := [2]) (by kernel_rfl) (by decide) ?_
  refine AllReadyH.cons rfl (fun K' hK => ?_) AllReadyH.nil
  go_simp
  refine (HRT.out A5 c5 w5 hc5 HD5.out (HT2.out.below BW5)).mono ?_
  rintro e6 w6 ⟨rfl, hb6⟩
  have B6 : Below wz.heap.size wz w6 := B5.trans (hb6.mono B5.size)
  have BW6 := hb0.trans (B6.mono hb0.size)
  refine hK.out _ _ (KP.out _ B6) (fun hHeld6 => ?_)
  clear hK
  refine wpAnyH_ready (rs := [4]) (by kernel_rfl) (by decide) ?_
  refine AllReadyH.cons rfl (fun K' hK => ?_) AllReadyH.nil
  go_simp
  refine (HRF.out w6 (HD.out.below BW6) (HF.out.below BW6) (HT1.out.below BW6)).mono ?_
  rintro e7 w7 ⟨rfl, hb7⟩
  have B7 : Below wz.heap.size wz w7 := B6.trans (hb7.mono B6.size)
  have BW7 := hb0.trans (B7.mono hb0.size)
  refine hK.out _ _ (KP.out _ B7) (fun hHeld7 => ?_)
  clear hK
  (try simp only [Act.put, List.setIfInBounds_toArray, List.set_cons_zero, List.set_cons_succ])
  refine takeD (i := 5) (some 23) (.bool true) rfl rfl (by kernel_rfl) (by kernel_rfl) (by kernel_rfl) (fun _ _ _ h => h) (yields_eqlW (by rfl) (.tmp 20) (.tmp 22) rfl R R true rfl rfl HRL.out HRL.out (by simp)) hHeld7 ?_
  simp only [Act.put, List.setIfInBounds_toArray, List.set_cons_zero, List.set_cons_succ]
  refine takeD (i := 6) (some 24) (.bool true) rfl rfl (by kernel_rfl) (by kernel_rfl) (by kernel_rfl) (fun _ _ _ h => h) (Or.inl ⟨by rfl, fun _ _ => rfl⟩) hHeld7 ?_
  simp only [Act.put, List.setIfInBounds_toArray, List.set_cons_zero, List.set_cons_succ]
  refine takeD (i := 7) (some 25) (.agg (bcells s1)) rfl rfl (by kernel_rfl) (by kernel_rfl) (by kernel_rfl) (fun _ _ _ h => h) (yields_loadW (by rfl) (.tmp 5) rfl _ 0 s1 rfl (fun _ h => h.1) HL1.out) hHeld7 ?_
  simp only [Act.put, List.setIfInBounds_toArray, List.set_cons_zero, List.set_cons_succ]
  refine takeD (i := 8) (some 26) (.agg (bcells s2)) rfl rfl (by kernel_rfl) (by kernel_rfl) (by kernel_rfl) (fun _ _ _ h => h) (yields_loadW (by rfl) (.tmp 6) rfl _ 0 s2 rfl (fun _ h => h.2) HL2.out) hHeld7 ?_
  simp only [Act.put, List.setIfInBounds_toArray, List.set_cons_zero, List.set_cons_succ]
  refine takeD (i := 10) (some 28) (.agg (bcells s1)) rfl rfl (by kernel_rfl) (by kernel_rfl) (by kernel_rfl) (fun _ _ _ h => h) (yields_loadW (by rfl) (.tmp 5) rfl _ 0 s1 rfl (fun _ h => h.1) HL1.out) hHeld7 ?_
  simp only [Act.put, List.setIfInBounds_toArray, List.set_cons_zero, List.set_cons_succ]
  refine takeD (i := 11) (some 29) (.agg (bcells s2)) rfl rfl (by kernel_rfl) (by kernel_rfl) (by kernel_rfl) (fun _ _ _ h => h) (yields_loadW (by rfl) (.tmp 6) rfl _ 0 s2 rfl (fun _ h => h.2) HL2.out) hHeld7 ?_
  simp only [Act.put, List.setIfInBounds_toArray, List.set_cons_zero, List.set_cons_succ]
  refine wpAnyH_ready (rs := [9]) (by kernel_rfl) (by decide) ?_
  refine AllReadyH.cons rfl (fun K' hK => ?_) AllReadyH.nil
  go_simp
  refine (HNA.out w7 (HT2.out.below BW7)).mono ?_
  rintro e8 w8 ⟨rfl, hb8⟩
  have B8 : Below wz.heap.size wz w8 := B7.trans (hb8.mono B7.size)
  have BW8 := hb0.trans (B8.mono hb0.size)
  refine hK.out _ _ (KP.out _ B8) (fun hHeld8 => ?_)
  clear hK
  refine wpAnyH_ready (rs := [12]) (by kernel_rfl) (by decide) ?_
  refine AllReadyH.cons rfl (fun K' hK => ?_) AllReadyH.nil
  go_simp
  refine (HNB.out w8 (HF.out.below BW8) (HT1.out.below BW8)).mono ?_
  rintro e9 w9 ⟨rfl, hb9⟩
  have B9 : Below wz.heap.size wz w9 := B8.trans (hb9.mono B8.size)
  have BW9 := hb0.trans (B9.mono hb0.size)
  refine hK.out _ _ (KP.out _ B9) (fun hHeld9 => ?_)
  clear hK
  (try simp only [Act.put, List.setIfInBounds_toArray, List.set_cons_zero, List.set_cons_succ])
  refine takeD (i := 13) (some 31) (.bool true) rfl rfl (by kernel_rfl) (by kernel_rfl) (by kernel_rfl) (fun _ _ _ h => h) (yields_eqlW (by rfl) (.tmp 27) (.tmp 30) rfl Z Z true rfl rfl HNL.out HNL.out (by simp)) hHeld9 ?_
  simp only [Act.put, List.setIfInBounds_toArray, List.set_cons_zero, List.set_cons_succ]
  refine takeD (i := 14) (some 32) (.bool true) rfl rfl (by kernel_rfl) (by kernel_rfl) (by kernel_rfl) (fun _ _ _ h => h) (Or.inl ⟨by rfl, fun _ _ => rfl⟩) hHeld9 ?_
  simp only [Act.put, List.setIfInBounds_toArray, List.set_cons_zero, List.set_cons_succ]
  refine takeD (i := 15) (some 33) (.bool true) rfl rfl (by kernel_rfl) (by kernel_rfl) (by kernel_rfl) (fun _ _ _ h => h) (Or.inl ⟨by rfl, fun _ _ => rfl⟩) hHeld9 ?_
  simp only [Act.put, List.setIfInBounds_toArray, List.set_cons_zero, List.set_cons_succ]
  refine takeD (i := 17) (some 35) (.slice a3 len3 cap3) rfl rfl (by kernel_rfl) (by kernel_rfl) (by kernel_rfl) (fun _ _ _ h => h) (Or.inl ⟨by rfl, fun _ _ => rfl⟩) hHeld9 ?_
  simp only [Act.put, List.setIfInBounds_toArray, List.set_cons_zero, List.set_cons_succ]
  refine takeD (i := 20) (some 38) (.slice a3 len3 cap3) rfl rfl (by kernel_rfl) (by kernel_rfl) (by kernel_rfl) (fun _ _ _ h => h) (Or.inl ⟨by rfl, fun _ _ => rfl⟩) hHeld9 ?_
  simp only [Act.put, List.setIfInBounds_toArray, List.set_cons_zero, List.set_cons_succ]
  refine wpAnyH_ready (rs := [16]) (by kernel_rfl) (by decide) ?_
  refine AllReadyH.cons rfl (fun K' hK => ?_) AllReadyH.nil
  refine step_ofW (by rfl) (wp_emptyB rfl ?_)
  intro g10 w10 _ ho10 hb10
  have HO10 := Lib.hid ho10
  have B10 : Below wz.heap.size wz w10 := B9.trans (hb10.mono B9.size)
  have BW10 := hb0.trans (B10.mono hb0.size)
  have hs10 := hb10.size
  clear ho10
  refine hK.out _ _ (KP.out _ B10) (fun hHeld10 => ?_)
  clear hK
  refine wpAnyH_ready (rs := [18]) (by kernel_rfl) (by decide) ?_
  refine AllReadyH.cons rfl (fun K' hK => ?_) AllReadyH.nil
  refine step_ofW (by rfl) (wp_appB (.tmp 34) (.tmp 35) rfl w9.heap.size _ 0 [] rfl HO10.out a3 len3 cap3 l3 rfl (HB.out.below BW10) (by omega) hs10 ?_)
  intro A11 c11 w11 ho11 hb11
  have HO11 := Lib.hid ho11
  have B11 : Below wz.heap.size wz w11 := B10.trans (hb11.mono B9.size)
  have BW11 := hb0.trans (B11.mono hb0.size)
  obtain ⟨A11q, c11q, hf1, hf2⟩ := ho11.form
  injection hf1 with hfa hfb hfc
  subst hfa hfc
  clear ho11 hfb
  refine hK.out _ _ (KP.out _ B11) (fun hHeld11 => ?_)
  clear hK
  refine wpAnyH_ready (rs := [19]) (by kernel_rfl) (by decide) ?_
  refine AllReadyH.cons rfl (fun K' hK => ?_) AllReadyH.nil
  go_simp
  refine (HLA.out A11 _ w11 (by have h := HO11.out.bs; simpa using h) (by omega) (HT2.out.below BW11)).mono ?_
  rintro e12 w12 ⟨rfl, hb12⟩
  have B12 : Below wz.heap.size wz w12 := B11.trans (hb12.mono B11.size)
  have BW12 := hb0.trans (B12.mono hb0.size)
  refine hK.out _ _ (KP.out _ B12) (fun hHeld12 => ?_)
  clear hK
  refine wpAnyH_ready (rs := [21]) (by kernel_rfl) (by decide) ?_
  refine AllReadyH.cons rfl (fun K' hK => ?_) AllReadyH.nil
  go_simp
  refine (HLB.out w12 (HB.out.below BW12) (HF.out.below BW12) (HT1.out.below BW12)).mono ?_
  rintro e13 w13 ⟨rfl, hb13⟩
  have B13 : Below wz.heap.size wz w13 := B12.trans (hb13.mono B12.size)
  have BW13 := hb0.trans (B13.mono hb0.size)
  refine hK.out _ _ (KP.out _ B13) (fun hHeld13 => ?_)
  clear hK
  (try simp only [Act.put, List.getElem_toArray, List.getElem_cons_succ, List.getElem_cons_zero, List.setIfInBounds_toArray, List.set_cons_zero, List.set_cons_succ])
  refine takeD (i := 22) (some 40) (.bool true) rfl rfl (by kernel_rfl) (by kernel_rfl) (by kernel_rfl) (fun _ _ _ h => h) (yields_eqlW (by rfl) (.tmp 37) (.tmp 39) rfl Y Y true rfl rfl HLL.out HLL.out (by simp)) hHeld13 ?_
  simp only [Act.put, List.setIfInBounds_toArray, List.set_cons_zero, List.set_cons_succ]
  refine takeD (i := 23) (some 41) (.bool true) rfl rfl (by kernel_rfl) (by kernel_rfl) (by kernel_rfl) (fun _ _ _ h => h) (Or.inl ⟨by rfl, fun _ _ => rfl⟩) hHeld13 ?_
  simp only [Act.put, List.setIfInBounds_toArray, List.set_cons_zero, List.set_cons_succ]
  refine takeD (i := 24) (some 42) (.bool true) rfl rfl (by kernel_rfl) (by kernel_rfl) (by kernel_rfl) (fun _ _ _ h => h) (Or.inl ⟨by rfl, fun _ _ => rfl⟩) hHeld13 ?_
  simp only [Act.put, List.setIfInBounds_toArray, List.set_cons_zero, List.set_cons_succ]
  refine wpAnyH_ready (rs := [25]) (by kernel_rfl) (by decide) ?_
  refine AllReadyH.cons rfl (fun K' hK => ?_) AllReadyH.nil
  go_simp
  refine (awake_any w13 (HT2.out.below BW13)).mono ?_
  rintro e14 w14 ⟨rfl, hb14⟩
  have B14 : Below wz.heap.size wz w14 := B13.trans (hb14.mono B13.size)
  have BW14 := hb0.trans (B14.mono hb0.size)
  refine hK.out _ _ (KP.out _ B14) (fun hHeld14 => ?_)
  clear hK
  (try simp only [Act.put, List.setIfInBounds_toArray, List.set_cons_zero, List.set_cons_succ])
  refine takeD (i := 26) (some 44) (.bool true) rfl rfl (by kernel_rfl) (by kernel_rfl) (by kernel_rfl) (fun _ _ _ h => h) (Or.inl ⟨by rfl, fun _ _ => rfl⟩) hHeld14 ?_
  simp only [Act.put, List.setIfInBounds_toArray, List.set_cons_zero, List.set_cons_succ]
  refine takeD (i := 27) (some 8) (.bool true) rfl rfl (by kernel_rfl) (by kernel_rfl) (by kernel_rfl) (fun _ _ _ h => h) (Or.inl ⟨by rfl, fun _ _ => rfl⟩) hHeld14 ?_
  simp only [Act.put, List.setIfInBounds_toArray, List.set_cons_zero, List.set_cons_succ]
  (try simp only [Act.put, List.setIfInBounds_toArray])
  refine wpAnyH_done (by kernel_rfl) ?_ _
  refine NoPanic.normal ?_
  go_wp2_with fail
  go_ret
  exact ⟨rfl, BW14⟩
set_option maxRecDepth 100000 in
set_option maxHeartbeats 400000 in
theorem walk (w : World) (a0 : Option Addr) (len0 cap0 : Nat) (l0 : List (List UInt8)) (w0 : Ds w a0 len0 l0) (s0 : len0 ≤ cap0) (s1 : List UInt8) (w1 : s1.length = 32) (s2 : List UInt8) (w2 : s2.length = 32) (a3 : Option Addr) (len3 cap3 : Nat) (l3 : List UInt8) (w3 : Bs w a3 len3 l3) (s3 : len3 ≤ cap3 ∧ cap3 ≤ 140737488351232) (hT : First w ∧ Tab 1 w ∧ Tab 2 w) :
    Calls Tryd.prog 3 #[.slice a0 len0 cap0, .agg (bcells s1), .agg (bcells s2), .slice a3 len3 cap3] w fun e w' => e = .returned (.bool true) ∧ Below w.heap.size w w' := by
  have HT2 := Lib.hid hT.2.2
  have hb0 := ((Below.refl w.heap.size w).alloc (Nat.le_refl _) (.cells (bcells s1) 24)).alloc (by simp) (.cells (bcells s2) 24)
  by_cases h100 : len0 ≤ 100
  · by_cases h500 : len3 ≤ 500
    · exact walk_in w a0 len0 cap0 l0 w0 s0 s1 w1 s2 w2 a3 len3 cap3 l3 w3 s3 h100 h500 hT
    · have i0 : ¬ 100 < (len0 : Int) := by omega
      have i1 : 500 < (len3 : Int) := by omega
      clear w0 w3 hT w1 w2 s3
      go_enter Tryd.func3, Tryd.ntmps3
      go_wp2_with (go_at_call 10; refine (awake_any _ (HT2.out.below hb0)).mono ?_; rintro e4 w4 ⟨rfl, hb4⟩)
      go_ret
      exact ⟨rfl, hb0.trans (hb4.mono hb0.size)⟩
  · have i0 : 100 < (len0 : Int) := by omega
    clear w0 w3 hT w1 w2 s3
    go_enter Tryd.func3, Tryd.ntmps3
    go_wp2_with (go_at_call 10; refine (awake_any _ (HT2.out.below hb0)).mono ?_; rintro e4 w4 ⟨rfl, hb4⟩)
    go_ret
    exact ⟨rfl, hb0.trans (hb4.mono hb0.size)⟩

set_option maxRecDepth 100000 in
theorem lifted (os : Os) (started : os.Started) (H : Type) (enc : TypeId × Value → H) :
    ReturnsInHanded {} Tryd.checked os 3 .any (fun w args => (Rows.proofRootsSpec.pre enc Tryd.prog Tryd.f3 Rows.proofRootsRow.domain false w args ∧ laidMetH Tryd.prog lay3 w) ∧ sizedMet enc Tryd.prog Tryd.f3 (OpenSpec.ofChange Rows.proofRootsSpec) false w args)
      (Rows.proofRootsSpec.post enc Tryd.prog Tryd.f3 false true false false) := by
  refine returnsInHanded_of_change_and (C := Tryd.checked) (X := fun w _ => laidMetH Tryd.prog lay3 w) (fun _ _ _ hh h => h.of_heap hh) own started (by kernel_rfl) Tryd.func3
    (ChangeSpec.witness_shaped (enc := enc) (C := Tryd.checked) (os := os) (X := fun w _ => laidMetH Tryd.prog lay3 w) false (World.laidAll Tryd.prog os lay3) #[.slice none 0 0, .agg #[.int .u8 0, .int .u8 0, .int .u8 0, .int .u8 0, .int .u8 0, .int .u8 0, .int .u8 0, .int .u8 0, .int .u8 0, .int .u8 0, .int .u8 0, .int .u8 0, .int .u8 0, .int .u8 0, .int .u8 0, .int .u8 0, .int .u8 0, .int .u8 0, .int .u8 0, .int .u8 0, .int .u8 0, .int .u8 0, .int .u8 0, .int .u8 0, .int .u8 0, .int .u8 0, .int .u8 0, .int .u8 0, .int .u8 0, .int .u8 0, .int .u8 0, .int .u8 0], .agg #[.int .u8 0, .int .u8 0, .int .u8 0, .int .u8 0, .int .u8 0, .int .u8 0, .int .u8 0, .int .u8 0, .int .u8 0, .int .u8 0, .int .u8 0, .int .u8 0, .int .u8 0, .int .u8 0, .int .u8 0, .int .u8 0, .int .u8 0, .int .u8 0, .int .u8 0, .int .u8 0, .int .u8 0, .int .u8 0, .int .u8 0, .int .u8 0, .int .u8 0, .int .u8 0, .int .u8 0, .int .u8 0, .int .u8 0, .int .u8 0, .int .u8 0, .int .u8 0], .slice none 0 0] 8 rfl (World.shaped_of_ZipB (by kernel_rfl) (by kernel_rfl)) (by kernel_rfl) (by kernel_rfl) (by kernel_rfl) (met3 os _)) ?_
  intro W base args ds gs before hval0 hW hcnd hsz0 hL _
  have hval : ∀ (j : Nat) t v, Tryd.f3.params[j]? = some t → args[j]? = some v → Value.okWide Tryd.prog W .any base t v := hval0
  have hW' := hW
  obtain ⟨p, q, hA0, hV, rfl, hfz, hnd⟩ := hW
  have hA : DataW.TrodAll enc Tryd.prog W 0 (fun _ => true) true Tryd.f3.params.toList args.toList ds p := hA0
  have hsz : (DataW.weightsEach Tryd.prog (Tryd.f3.params.toList ++ Rows.proofRootsSpec.plain.varTypes Tryd.prog) (ds ++ gs)).all (· ≤ reachBytes) = true := hsz0
  rw [Tryd.params3] at hA hval hsz
  obtain ⟨v0, vs0, d0, ds0, p0, q0, hargs, rfl, rfl, h0, r0⟩ := trodAll_cons hA
  obtain ⟨v1, vs1, d1, ds1, p1, q1, rfl, rfl, rfl, h1, r1⟩ := trodAll_cons r0
  obtain ⟨v2, vs2, d2, ds2, p2, q2, rfl, rfl, rfl, h2, r2⟩ := trodAll_cons r1
  obtain ⟨v3, vs3, d3, ds3, p3, q3, rfl, rfl, rfl, h3, r3⟩ := trodAll_cons r2
  obtain ⟨rfl, rfl, rfl⟩ := trodAll_nil r3
  obtain rfl : args = #[v0, v1, v2, v3] := by cases args; simp_all
  obtain ⟨rfl, rfl⟩ := trodVars_none hV
  have k0 := h0
  have lt0 : ∀ x ∈ p0, x.block < W.heap.size := by obtain ⟨m, hm⟩ := k0; exact DataW.trod_lt m _ _ _ hm
  obtain ⟨a0, len0, cap0, l0, rfl, w0, s0⟩ := open_ds (hval 0 22 v0 rfl rfl) h0
  have k1 := h1
  have lt1 : ∀ x ∈ p1, x.block < W.heap.size := by obtain ⟨m, hm⟩ := k1; exact DataW.trod_lt m _ _ _ hm
  obtain ⟨s1, w1, rfl⟩ : ∃ s : List UInt8, s.length = 32 ∧ v1 = .agg (bcells s) := open_digest (hval 1 24 v1 rfl rfl) h1
  have k2 := h2
  have lt2 : ∀ x ∈ p2, x.block < W.heap.size := by obtain ⟨m, hm⟩ := k2; exact DataW.trod_lt m _ _ _ hm
  obtain ⟨s2, w2, rfl⟩ : ∃ s : List UInt8, s.length = 32 ∧ v2 = .agg (bcells s) := open_digest (hval 2 24 v2 rfl rfl) h2
  obtain ⟨a3, len3, cap3, rfl⟩ := okWide_slice Tryd.underlying25 (hval 3 25 v3 rfl rfl)
  have k3 := h3
  have lt3 : ∀ x ∈ p3, x.block < W.heap.size := by obtain ⟨m, hm⟩ := k3; exact DataW.trod_lt m _ _ _ hm
  obtain ⟨l3, w3, s3⟩ : ∃ l, Bs W a3 len3 l ∧ len3 ≤ cap3 ∧ cap3 ≤ 140737488351232 := by
    obtain ⟨fuel, hf⟩ := h3
    rcases open_ints Tryd.underlying25 Tryd.underlying5 (by kernel_rfl) hf with ⟨hcs, _⟩ | ⟨x, l, c, zs, hcs, _, hl, hm, hz, hx, hcell, hwz⟩
    · simp [Value.cells] at hcs
      obtain ⟨rfl, rfl, rfl⟩ := hcs
      exact ⟨[], Bs.nil _ _, by omega, by omega⟩
    · simp [Value.cells] at hcs
      obtain ⟨rfl, rfl, rfl⟩ := hcs
      simp only [Prod.mk.injEq] at hx
      obtain ⟨rfl, _⟩ := hx
      have hb := sized_slice hsz (j := 3) (t := 25) (e := 5) rfl rfl Tryd.underlying25
      rw [show Tryd.prog.bytesOf 5 = 1 from by kernel_rfl] at hb
      simp only [lits, List.length_map, List.length_take, List.length_drop, reachBytes] at hb
      have hz' : zs.length = cap3 := by simpa using hz
      exact ⟨_, Bs.of_ints hl hz' hcell hwz, hl, by omega⟩
  have hTab := of_lay3 hL
  clear hA0 hval0
  refine (walk W a0 len0 cap0 l0 w0 s0 s1 w1 s2 w2 a3 len3 cap3 l3 w3 s3 hTab).mono fun e W' ⟨he, bel⟩ => ?_
  subst he
  exact ⟨_, rfl, _, _, _, [], _, [], hW', trodAll_mk1 (shut_bool Tryd.underlying4 _), (trodAll_cons_mk (Below.trod laidOut (by kernel_rfl) (of_decide_eq_true (by kernel_rfl)) k0 bel lt0) (trodAll_cons_mk (Below.trod laidOut (by kernel_rfl) (of_decide_eq_true (by kernel_rfl)) k1 bel lt1) (trodAll_cons_mk (Below.trod laidOut (by kernel_rfl) (of_decide_eq_true (by kernel_rfl)) k2 bel lt2) (trodAll_cons_mk (Below.trod laidOut (by kernel_rfl) (of_decide_eq_true (by kernel_rfl)) k3 bel lt3) trodAll_mk0)))), rfl, bel.frame _, fun h => by cases h⟩
theorem over : Rows.proofRootsRow.holds Tryd.pinned (OpenSpec.ofChange Rows.proofRootsSpec) :=
  OpenClaim.holds_of_wide 3 Tryd.f3 rfl rfl rfl rfl rfl rfl rfl ⟨rfl, rfl, rfl, rfl, rfl⟩ rfl rfl rfl rfl rfl (by kernel_rfl) Tryd.func3 (by kernel_rfl)
    (of_decide_eq_true (by kernel_rfl)) (by unfold Func.isWrapper; first | (rw [if_pos (by decide +kernel)]; kernel_rfl) | (rw [if_neg (by decide +kernel)]; exact ⟨rfl, rfl⟩))
    (fun os started H enc _ => lifted os started H enc)
theorem proofRoots_holds : Rows.ProofRootsCardSaid :=
  Claim7.holds_tied_plain_at .later [] [.data, .data, .data] true (true, "94cbc27510e38751a60ab1ffe97d8db4da220d4986d50e976b7ed11b3ca8a243") false
    over (fun _ h => by cases h) (by kernel_rfl) (fun _ h => by cases h) proofRoots_row_tie rfl ⟨rfl, rfl⟩ (by kernel_rfl) rfl
    (fun f fn hf hfn => by
      obtain rfl : f = 3 := Option.some.inj ((show Tryd.prog.funcNamed "jurat/juratlaw08.ProofRoots" = some 3 by kernel_rfl).symm.trans hf) |>.symm
      obtain rfl : fn = Tryd.f3 := (Option.some.inj (Tryd.func3.symm.trans hfn)).symm
      exact ⟨by kernel_rfl, fun j t ht => by
        rw [Tryd.params3] at ht
        have hm : t ∈ [22, 24, 25] := by simpa using Array.mem_of_getElem? ht
        have hall : ([22, 24, 25].all fun u => !Tryd.prog.wantsStandIn u) = true := by kernel_rfl
        exact (show Tryd.prog.wantsStandIn t = false by simpa using List.all_eq_true.1 hall t hm)⟩)
    (by kernel_rfl)
#print axioms proofRoots_holds
end Go.Proofs.YtojepkhooabjiaaDoor.proofRoots
