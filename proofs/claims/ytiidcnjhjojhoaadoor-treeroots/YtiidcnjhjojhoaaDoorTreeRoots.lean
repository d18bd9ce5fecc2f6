/-
  TreeRoots, whole, as the tied card (Rows.TreeRootsCardSaid): for every list of up to 200 digests tree.Root answers the document's own root, or its error, and for any two digests tree.Above the document's own node above them; and of two leaves the root is the node above them. Conditions: the tables sha.constants, juratref02.constants and juratref02.first read as their initialisers lay them (tied to the program's text).
-/
import Derived.Test.YtiidcnjhjojhoaaDoorRows
import Derived.Test.YtiidcnjhjojhoaaDoorCards
import Derived.Test.YtiidcnjhjojhoaaDoorTie
import Derived.WalkKit
import Derived.ProofKit
import Derived.OpenShut
import Derived.ChangeMaps5
import Derived.ShutString
import Derived.ChangeOld
import Derived.Below
import Derived.SizedLaws
import Derived.SevenTiedAt
import Derived.Lay
import Derived.LaidLaws
import Derived.Test.YtiidcnjhjojhoaaDoorLaid
import Derived.Test.YtiidcnjhjojhoaaDoorOpens
import Derived.Test.YtiidcnjhjojhoaaDoorRefL
namespace Go.Proofs.YtiidcnjhjojhoaaDoor.treeRoots
open Go.ChangeShapes Go.WideShapes Go.ChangeAt Go.RowKit
open Go.ChangeMaps (open_string shut_string)
set_option linter.unusedVariables false
theorem own : ownKnob Tryd.prog.godebug = none := by kernel_rfl
theorem laidOut : laidOutB Tryd.prog = true := by kernel_rfl
theorem yields_eqIW {ops : Array Oper} {S : World → Prop} {o : Oper} {a : Act} (hw : Region.wanted o (yielded ops a.tmps) = true) (x y : Operand) (ho : o.op = .binOp .eql 3 x y 3) (p q : Int) (b : Bool)
    (hx : a.eval x = .int .i64 p) (hy : a.eval y = .int .i64 q) (hb : (p == q) = b) : YieldsIf Tryd.prog ops S o (.bool b) a :=
  .inl ⟨hw, fun w _ => by
    unfold execOp
    simp only [ho, hx, hy]
    go_simp⟩
set_option maxRecDepth 100000 in
set_option maxHeartbeats 2000000 in
theorem walk_in (w : World) (a0 : Option Addr) (len0 cap0 : Nat) (l0 : List (List UInt8)) (w0 : Ds w a0 len0 l0) (s0 : len0 ≤ cap0) (s1 : List UInt8) (w1 : s1.length = 32) (s2 : List UInt8) (w2 : s2.length = 32) (h200 : len0 ≤ 200) (hT : First w ∧ Tab 2 w ∧ Tab 1 w) :
    Calls Tryd.prog 3 #[.slice a0 len0 cap0, .agg (bcells s1), .agg (bcells s2)] w fun e w' => e = .returned (.bool true) ∧ Below w.heap.size w w' := by
  have HF := Lib.hid hT.1
  have HT2 := Lib.hid hT.2.1
  have HT1 := Lib.hid hT.2.2
  have i0 : ¬ 200 < (len0 : Int) := by omega
  have HD := Lib.hid w0
  have HR := Lib.hid (fun A c wq hD hT => Root_any A len0 c l0 wq hD hT)
  have HQ := Lib.hid (fun wq hD hF hT => RefRoot_any a0 len0 cap0 l0 wq s0 hD hF hT)
  have HRL := Lib.hid (rootI_length l0 w0.2.1)
  have HRS := Lib.hid (show (bcells (rootI l0)).size = 32 by rw [bcells_size, rootI_length l0 w0.2.1])
  generalize rootI l0 = R at *
  generalize errT l0.length = E at *
  have HAB := Lib.hid (fun w hT => Above_any s1 s2 w w1 w2 hT)
  have HAC := Lib.hid (fun w hF hT => RefAbove_any s1 s2 w w1 w2 hF hT)
  have HZL := Lib.hid (abL_length s1 s2)
  generalize abL s1 s2 = Z at *
  have HL1 := Lib.hid w1
  have HL2 := Lib.hid w2
  have hb0 := ((Below.refl w.heap.size w).alloc (Nat.le_refl _) (.cells (bcells s1) 24)).alloc (by simp) (.cells (bcells s2) 24)
  have HA0 := Lib.hid ((Row.new w 24 (bcells s1)).alloc (.cells (bcells s2) 24))
  have HB0 := Lib.hid (Row.new1 w (.cells (bcells s1) 24) 24 (bcells s2))
  clear w0 hT w1 w2
  go_enter Tryd.func3, Tryd.ntmps3
  go_wp2_with (first
    | (go_at_call 11; refine (own_any a0 len0 cap0 l0 _ (HD.out.below hb0) (by omega)).mono ?_; rintro e2 w2 ⟨A2, c2, rfl, hc2, hd2, hb2⟩; have HD2 := Lib.hid hd2; have hb2' := hb0.trans (hb2.mono hb0.size); have HA2 := Lib.hid (HA0.out.below hb2 HA0.out.lt); have HB2 := Lib.hid (HB0.out.below hb2 HB0.out.lt); clear hd2)
    | (go_at_call 10; refine (HR.out A2 c2 w2 HD2.out (HT1.out.below hb2')).mono ?_; rintro e3 w3 ⟨rfl, hb3⟩; have hb3' := hb2'.trans (hb3.mono hb2'.size); have HA3 := Lib.hid (HA2.out.below hb3 HA2.out.lt); have HB3 := Lib.hid (HB2.out.below hb3 HB2.out.lt))
    | (with_reducible refine wpList_store_row Tryd.agg25 rfl (.tmp 7) (.tmp 19) rfl _ _ rfl rfl 24 lit32 (Row.new w3 24 lit32) HRS.out lit32_size (bcells_one _) ?_; intro w4 hr4 ho4; have HC4 := Lib.hid hr4; have b4 : Below w3.heap.size w3 w4 := ((Below.refl _ _).alloc (Nat.le_refl _) _).trans (ho4.below (Nat.le_refl _) (by simp)); have hb4' := hb3'.trans (b4.mono hb3'.size); have HA4 := Lib.hid (HA3.out.below b4 HA3.out.lt); have HB4 := Lib.hid (HB3.out.below b4 HB3.out.lt); clear hr4)
    | (go_at_call 12; refine (HQ.out w4 (HD.out.below hb4') (HF.out.below hb4') (HT2.out.below hb4')).mono ?_; rintro e5 w5 ⟨rfl, hb5⟩; have hb5' := hb4'.trans (hb5.mono hb4'.size); have HA5 := Lib.hid (HA4.out.below hb5 HA4.out.lt); have HB5 := Lib.hid (HB4.out.below hb5 HB4.out.lt); have HC5 := Lib.hid (HC4.out.below hb5 HC4.out.lt))
    | (with_reducible refine wpList_store_row Tryd.agg25 rfl (.tmp 9) (.tmp 24) rfl _ _ rfl rfl 24 lit32 (Row.new w5 24 lit32) HRS.out lit32_size (bcells_one _) ?_; intro w6 hr6 ho6; have HE6 := Lib.hid hr6; have b6 : Below w5.heap.size w5 w6 := ((Below.refl _ _).alloc (Nat.le_refl _) _).trans (ho6.below (Nat.le_refl _) (by simp)); have hb6' := hb5'.trans (b6.mono hb5'.size); have HA6 := Lib.hid (HA5.out.below b6 HA5.out.lt); have HB6 := Lib.hid (HB5.out.below b6 HB5.out.lt); have HC6 := Lib.hid (HC5.out.below b6 HC5.out.lt); clear hr6))
  obtain ⟨g7, hg7⟩ : ∃ g, g = w3.heap.size := ⟨_, rfl⟩
  obtain ⟨g9, hg9⟩ : ∃ g, g = w5.heap.size := ⟨_, rfl⟩
  rw [← hg7] at HC6 ⊢
  rw [← hg9] at HE6 ⊢
  clear hg7 hg9
  have B0 : Below w6.heap.size w6 w6.drew := (Below.refl w6.heap.size w6).drew
  have KP : Hid (∀ wq, Below w6.heap.size w6 wq → wq.rangeAt g7 0 (R.map bcell) ∧ wq.rangeAt g9 0 (R.map bcell) ∧ wq.rangeAt w.heap.size 0 (s1.map bcell) ∧ wq.rangeAt (w.heap.size + 1) 0 (s2.map bcell)) := Lib.hid (fun wq hb => ⟨range_row (HC6.out.below hb HC6.out.lt), range_row (HE6.out.below hb HE6.out.lt), range_row (HA6.out.below hb HA6.out.lt), range_row (HB6.out.below hb HB6.out.lt)⟩)
  refine wp_region_noPanic ?_
  refine wp_region_held_drew (S := fun w' => w'.rangeAt g7 0 (R.map bcell) ∧ w'.rangeAt g9 0 (R.map bcell) ∧ w'.rangeAt w.heap.size 0 (s1.map bcell) ∧ w'.rangeAt (w.heap.size + 1) 0 (s2.map bcell)) (by kernel_rfl) (KP.out _ B0) (fun hHeld => ?_)
  refine takeD (i := 0) (some 26) (.agg (bcells R)) rfl rfl (by kernel_rfl) (by kernel_rfl) (by kernel_rfl) (fun _ _ _ h => h) (yields_loadW (by rfl) (.tmp 7) rfl g7 0 R rfl (fun _ h => h.1) HRL.out) hHeld ?_
  simp only [Act.put, List.setIfInBounds_toArray, List.set_cons_zero, List.set_cons_succ]
  refine takeD (i := 1) (some 27) (.agg (bcells R)) rfl rfl (by kernel_rfl) (by kernel_rfl) (by kernel_rfl) (fun _ _ _ h => h) (yields_loadW (by rfl) (.tmp 9) rfl g9 0 R rfl (fun _ h => h.2.1) HRL.out) hHeld ?_
  simp only [Act.put, List.setIfInBounds_toArray, List.set_cons_zero, List.set_cons_succ]
  refine takeD (i := 2) (some 28) (.bool true) rfl rfl (by kernel_rfl) (by kernel_rfl) (by kernel_rfl) (fun _ _ _ h => h) (yields_eqlW (by rfl) (.tmp 26) (.tmp 27) rfl R R true rfl rfl HRL.out HRL.out (by simp)) hHeld ?_
  simp only [Act.put, List.setIfInBounds_toArray, List.set_cons_zero, List.set_cons_succ]
  refine takeD (i := 3) (some 29) (.bool true) rfl rfl (by kernel_rfl) (by kernel_rfl) (by kernel_rfl) (fun _ _ _ h => h) (Or.inl ⟨by rfl, fun _ _ => rfl⟩) hHeld ?_
  simp only [Act.put, List.setIfInBounds_toArray, List.set_cons_zero, List.set_cons_succ]
  refine takeD (i := 4) (some 30) (.int .i64 E) rfl rfl (by kernel_rfl) (by kernel_rfl) (by kernel_rfl) (fun _ _ _ h => h) (Or.inl ⟨by rfl, fun _ _ => rfl⟩) hHeld ?_
  simp only [Act.put, List.setIfInBounds_toArray, List.set_cons_zero, List.set_cons_succ]
  refine takeD (i := 5) (some 31) (.int .i64 E) rfl rfl (by kernel_rfl) (by kernel_rfl) (by kernel_rfl) (fun _ _ _ h => h) (Or.inl ⟨by rfl, fun _ _ => rfl⟩) hHeld ?_
  simp only [Act.put, List.setIfInBounds_toArray, List.set_cons_zero, List.set_cons_succ]
  refine takeD (i := 6) (some 32) (.bool true) rfl rfl (by kernel_rfl) (by kernel_rfl) (by kernel_rfl) (fun _ _ _ h => h) (yields_eqIW (by rfl) (.tmp 30) (.tmp 31) rfl E E true rfl rfl (by simp)) hHeld ?_
  simp only [Act.put, List.setIfInBounds_toArray, List.set_cons_zero, List.set_cons_succ]
  refine takeD (i := 7) (some 33) (.bool true) rfl rfl (by kernel_rfl) (by kernel_rfl) (by kernel_rfl) (fun _ _ _ h => h) (Or.inl ⟨by rfl, fun _ _ => rfl⟩) hHeld ?_
  simp only [Act.put, List.setIfInBounds_toArray, List.set_cons_zero, List.set_cons_succ]
  refine takeD (i := 8) (some 34) (.bool true) rfl rfl (by kernel_rfl) (by kernel_rfl) (by kernel_rfl) (fun _ _ _ h => h) (Or.inl ⟨by rfl, fun _ _ => rfl⟩) hHeld ?_
  simp only [Act.put, List.setIfInBounds_toArray, List.set_cons_zero, List.set_cons_succ]
  refine takeD (i := 9) (some 35) (.agg (bcells s1)) rfl rfl (by kernel_rfl) (by kernel_rfl) (by kernel_rfl) (fun _ _ _ h => h) (yields_loadW (by rfl) (.tmp 4) rfl _ 0 s1 rfl (fun _ h => h.2.2.1) HL1.out) hHeld ?_
  simp only [Act.put, List.setIfInBounds_toArray, List.set_cons_zero, List.set_cons_succ]
  refine takeD (i := 10) (some 36) (.agg (bcells s2)) rfl rfl (by kernel_rfl) (by kernel_rfl) (by kernel_rfl) (fun _ _ _ h => h) (yields_loadW (by rfl) (.tmp 5) rfl _ 0 s2 rfl (fun _ h => h.2.2.2) HL2.out) hHeld ?_
  simp only [Act.put, List.setIfInBounds_toArray, List.set_cons_zero, List.set_cons_succ]
  refine takeD (i := 12) (some 38) (.agg (bcells s1)) rfl rfl (by kernel_rfl) (by kernel_rfl) (by kernel_rfl) (fun _ _ _ h => h) (yields_loadW (by rfl) (.tmp 4) rfl _ 0 s1 rfl (fun _ h => h.2.2.1) HL1.out) hHeld ?_
  simp only [Act.put, List.setIfInBounds_toArray, List.set_cons_zero, List.set_cons_succ]
  refine takeD (i := 13) (some 39) (.agg (bcells s2)) rfl rfl (by kernel_rfl) (by kernel_rfl) (by kernel_rfl) (fun _ _ _ h => h) (yields_loadW (by rfl) (.tmp 5) rfl _ 0 s2 rfl (fun _ h => h.2.2.2) HL2.out) hHeld ?_
  simp only [Act.put, List.setIfInBounds_toArray, List.set_cons_zero, List.set_cons_succ]
  refine wpAnyH_ready (rs := [11]) (by kernel_rfl) (by decide) ?_
  refine AllReadyH.cons rfl (fun K' hK => ?_) AllReadyH.nil
  go_simp
  refine (HAB.out w6.drew (HT1.out.below hb6'.drew)).mono ?_
  rintro e7 w7 ⟨rfl, hb7⟩
  have B7 : Below w6.heap.size w6 w7 := B0.trans (hb7.mono B0.size)
  refine hK.out _ _ (KP.out _ B7) (fun hHeld7 => ?_)
  clear hK
  refine wpAnyH_ready (rs := [14]) (by kernel_rfl) (by decide) ?_
  refine AllReadyH.cons rfl (fun K' hK => ?_) AllReadyH.nil
  go_simp
  refine (HAC.out w7 (HF.out.below (hb6'.trans (B7.mono hb6'.size))) (HT2.out.below (hb6'.trans (B7.mono hb6'.size)))).mono ?_
  rintro e8 w8 ⟨rfl, hb8⟩
  have B8 : Below w6.heap.size w6 w8 := B7.trans (hb8.mono B7.size)
  refine hK.out _ _ (KP.out _ B8) (fun hHeld8 => ?_)
  clear hK
  (try simp only [Act.put, List.setIfInBounds_toArray, List.set_cons_zero, List.set_cons_succ])
  refine takeD (i := 15) (some 41) (.bool true) rfl rfl (by kernel_rfl) (by kernel_rfl) (by kernel_rfl) (fun _ _ _ h => h) (yields_eqlW (by rfl) (.tmp 37) (.tmp 40) rfl Z Z true rfl rfl HZL.out HZL.out (by simp)) hHeld8 ?_
  simp only [Act.put, List.setIfInBounds_toArray, List.set_cons_zero, List.set_cons_succ]
  refine takeD (i := 16) (some 42) (.bool true) rfl rfl (by kernel_rfl) (by kernel_rfl) (by kernel_rfl) (fun _ _ _ h => h) (Or.inl ⟨by rfl, fun _ _ => rfl⟩) hHeld8 ?_
  simp only [Act.put, List.setIfInBounds_toArray, List.set_cons_zero, List.set_cons_succ]
  refine takeD (i := 17) (some 43) (.bool true) rfl rfl (by kernel_rfl) (by kernel_rfl) (by kernel_rfl) (fun _ _ _ h => h) (Or.inl ⟨by rfl, fun _ _ => rfl⟩) hHeld8 ?_
  simp only [Act.put, List.setIfInBounds_toArray, List.set_cons_zero, List.set_cons_succ]
  refine wpAnyH_ready (rs := [18]) (by kernel_rfl) (by decide) ?_
  refine AllReadyH.cons rfl (fun K' hK => ?_) AllReadyH.nil
  go_simp
  refine (awake_any w8 (HT1.out.below (hb6'.trans (B8.mono hb6'.size)))).mono ?_
  rintro e9 w9 ⟨rfl, hb9⟩
  have B9 : Below w6.heap.size w6 w9 := B8.trans (hb9.mono B8.size)
  refine hK.out _ _ (KP.out _ B9) (fun hHeld9 => ?_)
  clear hK
  (try simp only [Act.put, List.setIfInBounds_toArray, List.set_cons_zero, List.set_cons_succ])
  refine takeD (i := 19) (some 45) (.bool true) rfl rfl (by kernel_rfl) (by kernel_rfl) (by kernel_rfl) (fun _ _ _ h => h) (Or.inl ⟨by rfl, fun _ _ => rfl⟩) hHeld9 ?_
  simp only [Act.put, List.setIfInBounds_toArray, List.set_cons_zero, List.set_cons_succ]
  refine takeD (i := 20) (some 6) (.bool true) rfl rfl (by kernel_rfl) (by kernel_rfl) (by kernel_rfl) (fun _ _ _ h => h) (Or.inl ⟨by rfl, fun _ _ => rfl⟩) hHeld9 ?_
  simp only [Act.put, List.setIfInBounds_toArray, List.set_cons_zero, List.set_cons_succ]
  (try simp only [Act.put, List.setIfInBounds_toArray])
  refine wpAnyH_done (by kernel_rfl) ?_ _
  refine NoPanic.normal ?_
  go_wp2_with fail
  go_ret
  exact ⟨rfl, hb6'.trans (B9.mono hb6'.size)⟩
set_option maxRecDepth 100000 in
set_option maxHeartbeats 1000000 in
theorem walk (w : World) (a0 : Option Addr) (len0 cap0 : Nat) (l0 : List (List UInt8)) (w0 : Ds w a0 len0 l0) (s0 : len0 ≤ cap0) (s1 : List UInt8) (w1 : s1.length = 32) (s2 : List UInt8) (w2 : s2.length = 32) (hT : First w ∧ Tab 2 w ∧ Tab 1 w) :
    Calls Tryd.prog 3 #[.slice a0 len0 cap0, .agg (bcells s1), .agg (bcells s2)] w fun e w' => e = .returned (.bool true) ∧ Below w.heap.size w w' := by
  by_cases h200 : len0 ≤ 200
  · exact walk_in w a0 len0 cap0 l0 w0 s0 s1 w1 s2 w2 h200 hT
  · have i0 : 200 < (len0 : Int) := by omega
    have HT1 := Lib.hid hT.2.2
    have hb0 := ((Below.refl w.heap.size w).alloc (Nat.le_refl _) (.cells (bcells s1) 24)).alloc (by simp) (.cells (bcells s2) 24)
    clear w0 hT w1 w2
    go_enter Tryd.func3, Tryd.ntmps3
    go_wp2_with (go_at_call 9; refine (awake_any _ (HT1.out.below hb0)).mono ?_; rintro e4 w4 ⟨rfl, hb4⟩)
    go_ret
    exact ⟨rfl, hb0.trans (hb4.mono hb0.size)⟩

set_option maxRecDepth 100000 in
theorem lifted (os : Os) (started : os.Started) (H : Type) (enc : TypeId × Value → H) :
    ReturnsInHanded {} Tryd.checked os 3 .any (fun w args => (Rows.treeRootsSpec.pre enc Tryd.prog Tryd.f3 Rows.treeRootsRow.domain false w args ∧ laidMetH Tryd.prog lay3 w) ∧ sizedMet enc Tryd.prog Tryd.f3 (OpenSpec.ofChange Rows.treeRootsSpec) false w args)
      (Rows.treeRootsSpec.post enc Tryd.prog Tryd.f3 false true false false) := by
  refine returnsInHanded_of_change_and (C := Tryd.checked) (X := fun w _ => laidMetH Tryd.prog lay3 w) (fun _ _ _ hh h => h.of_heap hh) own started (by kernel_rfl) Tryd.func3
    (ChangeSpec.witness_shaped (enc := enc) (C := Tryd.checked) (os := os) (X := fun w _ => laidMetH Tryd.prog lay3 w) false (World.laidAll Tryd.prog os lay3) #[.slice none 0 0, .agg #[.int .u8 0, .int .u8 0, .int .u8 0, .int .u8 0, .int .u8 0, .int .u8 0, .int .u8 0, .int .u8 0, .int .u8 0, .int .u8 0, .int .u8 0, .int .u8 0, .int .u8 0, .int .u8 0, .int .u8 0, .int .u8 0, .int .u8 0, .int .u8 0, .int .u8 0, .int .u8 0, .int .u8 0, .int .u8 0, .int .u8 0, .int .u8 0, .int .u8 0, .int .u8 0, .int .u8 0, .int .u8 0, .int .u8 0, .int .u8 0, .int .u8 0, .int .u8 0], .agg #[.int .u8 0, .int .u8 0, .int .u8 0, .int .u8 0, .int .u8 0, .int .u8 0, .int .u8 0, .int .u8 0, .int .u8 0, .int .u8 0, .int .u8 0, .int .u8 0, .int .u8 0, .int .u8 0, .int .u8 0, .int .u8 0, .int .u8 0, .int .u8 0, .int .u8 0, .int .u8 0, .int .u8 0, .int .u8 0, .int .u8 0, .int .u8 0, .int .u8 0, .int .u8 0, .int .u8 0, .int .u8 0, .int .u8 0, .int .u8 0, .int .u8 0, .int .u8 0]] 8 rfl (World.shaped_of_ZipB (by kernel_rfl) (by kernel_rfl)) (by kernel_rfl) (by kernel_rfl) (by kernel_rfl) (met3 os _)) ?_
  intro W base args ds gs before hval0 hW hcnd hsz0 hL _
  have hval : ∀ (j : Nat) t v, Tryd.f3.params[j]? = some t → args[j]? = some v → Value.okWide Tryd.prog W .any base t v := hval0
  have hW' := hW
  obtain ⟨p, q, hA0, hV, rfl, hfz, hnd⟩ := hW
  have hA : DataW.TrodAll enc Tryd.prog W 0 (fun _ => true) true Tryd.f3.params.toList args.toList ds p := hA0
  have hsz : (DataW.weightsEach Tryd.prog (Tryd.f3.params.toList ++ Rows.treeRootsSpec.plain.varTypes Tryd.prog) (ds ++ gs)).all (· ≤ reachBytes) = true := hsz0
  rw [Tryd.params3] at hA hval hsz
  obtain ⟨v0, vs0, d0, ds0, p0, q0, hargs, rfl, rfl, h0, r0⟩ := trodAll_cons hA
  obtain ⟨v1, vs1, d1, ds1, p1, q1, rfl, rfl, rfl, h1, r1⟩ := trodAll_cons r0
  obtain ⟨v2, vs2, d2, ds2, p2, q2, rfl, rfl, rfl, h2, r2⟩ := trodAll_cons r1
  obtain ⟨rfl, rfl, rfl⟩ := trodAll_nil r2
  obtain rfl : args = #[v0, v1, v2] := by cases args; simp_all
  obtain ⟨rfl, rfl⟩ := trodVars_none hV
  have k0 := h0
  have lt0 : ∀ x ∈ p0, x.block < W.heap.size := by obtain ⟨m, hm⟩ := k0; exact DataW.trod_lt m _ _ _ hm
  obtain ⟨a0, len0, cap0, l0, rfl, w0, s0⟩ := open_ds (hval 0 22 v0 rfl rfl) h0
  have k1 := h1
  have lt1 : ∀ x ∈ p1, x.block < W.heap.size := by obtain ⟨m, hm⟩ := k1; exact DataW.trod_lt m _ _ _ hm
  obtain ⟨s1, w1, rfl⟩ : ∃ s : List UInt8, s.length = 32 ∧ v1 = .agg (bcells s) := open_digest (hval 1 24 v1 rfl rfl) h1
  have k2 := h2
  have lt2 : ∀ x ∈ p2, x.block < W.heap.size := by obtain ⟨m, hm⟩ := k2; exact DataW.trod_lt m _ _ _ hm
  obtain ⟨s2, w2, rfl⟩ : ∃ s : List UInt8, s.length = 32 ∧ v2 = .agg (bcells s) := open_digest (hval 2 24 v2 rfl rfl) h2
  have hTab := of_lay3 hL
  clear hA0 hval0
  refine (walk W a0 len0 cap0 l0 w0 s0 s1 w1 s2 w2 hTab).mono fun e W' ⟨he, bel⟩ => ?_
  subst he
  exact ⟨_, rfl, _, _, _, [], _, [], hW', trodAll_mk1 (shut_bool Tryd.underlying4 _), (trodAll_cons_mk (Below.trod laidOut (by kernel_rfl) (of_decide_eq_true (by kernel_rfl)) k0 bel lt0) (trodAll_cons_mk (Below.trod laidOut (by kernel_rfl) (of_decide_eq_true (by kernel_rfl)) k1 bel lt1) (trodAll_cons_mk (Below.trod laidOut (by kernel_rfl) (of_decide_eq_true (by kernel_rfl)) k2 bel lt2) trodAll_mk0))), rfl, bel.frame _, fun h => by cases h⟩
theorem over : Rows.treeRootsRow.holds Tryd.pinned (OpenSpec.ofChange Rows.treeRootsSpec) :=
  OpenClaim.holds_of_wide 3 Tryd.f3 rfl rfl rfl rfl rfl rfl rfl ⟨rfl, rfl, rfl, rfl, rfl⟩ rfl rfl rfl rfl rfl (by kernel_rfl) Tryd.func3 (by kernel_rfl)
    (of_decide_eq_true (by kernel_rfl)) (by unfold Func.isWrapper; first | (rw [if_pos (by decide +kernel)]; kernel_rfl) | (rw [if_neg (by decide +kernel)]; exact ⟨rfl, rfl⟩))
    (fun os started H enc _ => lifted os started H enc)
theorem treeRoots_holds : Rows.TreeRootsCardSaid :=
  Claim7.holds_tied_plain_at .later [] [.data, .data, .data] true (true, "88038e2d516bc315e4e17de3119a76fa62516c6ce152f586382fba84026f3fa9") false
    over (fun _ h => by cases h) (by kernel_rfl) (fun _ h => by cases h) treeRoots_row_tie rfl ⟨rfl, rfl⟩ (by kernel_rfl) rfl
    (fun f fn hf hfn => by
      obtain rfl : f = 3 := Option.some.inj ((show Tryd.prog.funcNamed "jurat/juratlaw06.TreeRoots" = some 3 by kernel_rfl).symm.trans hf) |>.symm
      obtain rfl : fn = Tryd.f3 := (Option.some.inj (Tryd.func3.symm.trans hfn)).symm
      exact ⟨by kernel_rfl, fun j t ht => by
        rw [Tryd.params3] at ht
        have hm : t ∈ [22, 24] := by simpa using Array.mem_of_getElem? ht
        have hall : ([22, 24].all fun u => !Tryd.prog.wantsStandIn u) = true := by kernel_rfl
        exact (show Tryd.prog.wantsStandIn t = false by simpa using List.all_eq_true.1 hall t hm)⟩)
    (by kernel_rfl)
#print axioms treeRoots_holds
end Go.Proofs.YtiidcnjhjojhoaaDoor.treeRoots
