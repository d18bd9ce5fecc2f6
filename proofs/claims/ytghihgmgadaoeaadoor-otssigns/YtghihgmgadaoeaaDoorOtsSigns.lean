/-
  OtsSigns, whole, as the tied card (Rows.OtsSignsCardSaid): for every seed, number of bits, text of up to 500 bytes and up to 600 digests ots.Sign answers the document's own signature, or its error, and ots.Recover the document's own root to which the digests lead, or its error; what is signed is verified, and another root isn't. Conditions: the tables sha.constants, juratref02.constants and juratref02.first read as their initialisers lay them (tied to the program's text).
-/
import Derived.Test.YtghihgmgadaoeaaDoorRows
import Derived.Test.YtghihgmgadaoeaaDoorCards
import Derived.Test.YtghihgmgadaoeaaDoorTie
import Derived.WalkKit
import Derived.ProofKit
import Derived.OpenShut
import Derived.ChangeMaps5
import Derived.ShutString
import Derived.ChangeOld
import Derived.Below
import Derived.SizedLaws
import Derived.SevenTiedAt
import Derived.Lay
import Derived.LaidLaws
import Derived.Test.YtghihgmgadaoeaaDoorAlive
import Derived.Test.YtghihgmgadaoeaaDoorRSame
import Derived.Test.YtghihgmgadaoeaaDoorOpens
namespace Go.Proofs.YtghihgmgadaoeaaDoor.otsSigns
open Go.ChangeShapes Go.WideShapes Go.ChangeAt Go.RowKit
open Go.ChangeMaps (open_string shut_string)
set_option linter.unusedVariables false
theorem own : ownKnob Tryd.prog.godebug = none := by kernel_rfl
theorem laidOut : laidOutB Tryd.prog = true := by kernel_rfl
set_option maxRecDepth 100000 in
set_option maxHeartbeats 2000000 in
theorem walk_in (w : World) (s0 : List UInt8) (w0 : s0.length = 32) (a1 : Int) (a2 : Option Addr) (len2 cap2 : Nat) (l2 : List UInt8) (w2 : Bs w a2 len2 l2) (s2 : len2 ≤ cap2) (a3 : Option Addr) (len3 cap3 : Nat) (l3 : List (List UInt8)) (w3 : Ds w a3 len3 l3) (h500 : len2 ≤ 500) (h600 : len3 ≤ 600) (hT : First w ∧ Tab 1 w ∧ Tab 2 w) :
    Calls Tryd.prog 4 #[.agg (bcells s0), .int .i64 a1, .slice a2 len2 cap2, .slice a3 len3 cap3] w fun e w' => e = .returned (.bool true) ∧ Below w.heap.size w w' := by
  have hb0 := (Below.refl w.heap.size w).alloc (Nat.le_refl _) (.cells (bcells s0) 23)
  have HF := Lib.hid hT.1
  have HT1 := Lib.hid hT.2.1
  have HT2 := Lib.hid hT.2.2
  have i0 : ¬ 500 < (len2 : Int) := by omega
  have i1 : ¬ 600 < (len3 : Int) := by omega
  have HKS := Lib.hid (show (bcells s0).size = 32 by rw [bcells_size, w0])
  have HSG := Lib.hid (fun A n c w hB hc hn hT => Sign_any s0 a1 A n c l2 w w0 hB hc hn hT)
  have HRG := Lib.hid (fun w hB hF hT => RefSign_any s0 a1 a2 len2 cap2 l2 w w0 hB s2 (by omega) hF hT)
  have HGL := Lib.hid (sigI_length s0 (sumL l2) a1)
  have HRC := Lib.hid (fun A n c B d w hB hc hn hD hT => Recover_any a1 A B n c len3 d l2 l3 w hB hc hn hD hT)
  have HRR := Lib.hid (fun w hB hD hF hT => RefRecover_any a1 a2 a3 len2 cap2 len3 cap3 l2 l3 w hB s2 (by omega) hD hF hT)
  have HRS := Lib.hid (show (bcells (recI a1 (sumL l2) l3)).size = 32 by rw [bcells_size, recI_length])
  have HRL := Lib.hid (recI_length a1 (sumL l2) l3)
  have heq := eq_digest (recI a1 (sumL l2) l3) (recI_length a1 (sumL l2) l3)
  have rl : (s0.map bcell).length = 32 := by rw [List.length_map, w0]
  have rz : (Tryd.prog.info? 23).map (·.size) = some (s0.map bcell).length := by rw [rl]; exact Tryd.sizeD
  have ru := Tryd.under23
  have HB := Lib.hid w2
  have HLN := Lib.hid w2.1
  have HD := Lib.hid w3
  generalize recI a1 (sumL l2) l3 = R at *
  generalize sigI s0 (sumL l2) a1 = SG at *
  generalize errA a1 = E at *
  generalize errR a1 l3.length = F at *
  have HBz := Lib.hid (HB.out.below hb0)
  have HTz := Lib.hid (HT2.out.below hb0)
  have HRz := Lib.hid (Row.new w 23 (bcells s0))
  obtain ⟨g, hg⟩ : ∃ g, w.heap.size = g := ⟨_, rfl⟩
  obtain ⟨wz, hwz⟩ : ∃ wz, w.alloc (.cells (bcells s0) 23) = wz := ⟨_, rfl⟩
  have hltz : w.heap.size < wz.heap.size := by rw [← hwz]; simp
  rw [hwz] at HBz HTz HRz hb0
  clear w2 w3 hT w0 rl hg g
  go_enter Tryd.func4, Tryd.ntmps4
  go_wp2_with fail
  clear hwz
  have Kq := Lib.hid (show wz.drew.rangeAt w.heap.size 0 (s0.map bcell) by exact range_row (HRz.out.below ((Below.refl _ _).drew) hltz))
  refine wp_region_noPanic ?_
  refine wp_region_held_drew (S := fun w' => w'.rangeAt w.heap.size 0 (s0.map bcell)) (by kernel_rfl) Kq.out (fun hHeld => ?_)
  refine takeD (i := 0) (some 27) (.agg (s0.map bcell).toArray) rfl rfl (by kernel_rfl) (by kernel_rfl) (by kernel_rfl) (fun _ _ _ h => h) (yieldsIf_load_mid (by rfl) _ _ rfl _ _ rfl _ _ (fun _ h => h) ru rfl rz) hHeld ?_
  simp only [Act.put, List.setIfInBounds_toArray, List.set_cons_zero, List.set_cons_succ]
  refine takeD (i := 1) (some 28) (.int .i64 a1) rfl rfl (by kernel_rfl) (by kernel_rfl) (by kernel_rfl) (fun _ _ _ h => h) (Or.inl ⟨by rfl, fun _ _ => rfl⟩) hHeld ?_
  simp only [Act.put, List.setIfInBounds_toArray, List.set_cons_zero, List.set_cons_succ]
  refine takeD (i := 2) (some 29) (.slice a2 len2 cap2) rfl rfl (by kernel_rfl) (by kernel_rfl) (by kernel_rfl) (fun _ _ _ h => h) (Or.inl ⟨by rfl, fun _ _ => rfl⟩) hHeld ?_
  simp only [Act.put, List.setIfInBounds_toArray, List.set_cons_zero, List.set_cons_succ]
  have Dq : Below wz.heap.size wz wz.drew := (Below.refl wz.heap.size wz).drew
  refine wpAnyH_ready (rs := [3]) (by kernel_rfl) (by decide) ?_
  refine AllReadyH.cons rfl (fun K' hK => ?_) AllReadyH.nil
  go_simp
  refine (own_any a2 len2 cap2 l2 wz.drew (HBz.out.below Dq) (by omega)).mono ?_
  rintro e3 woq ⟨Aoq, noq, coq, rfl, hBoq, hcoq, hboq, -⟩
  have HBoq := Lib.hid hBoq
  have hnoq : noq ≤ 1000000 := by rw [← hBoq.1, HLN.out]; omega
  have Boq : Below wz.heap.size wz woq := Dq.trans (hboq.mono Dq.size)
  clear hBoq
  refine hK.out _ _ (range_row (HRz.out.below Boq hltz)) (fun hHeld31 => ?_)
  clear hK
  refine wpAnyH_ready (rs := [4]) (by kernel_rfl) (by decide) ?_
  refine AllReadyH.cons rfl (fun K' hK => ?_) AllReadyH.nil
  go_simp
  refine (HSG.out Aoq noq coq woq HBoq.out hcoq hnoq (HTz.out.below Boq)).mono ?_
  rintro e4 wsq ⟨Asq, csq, rfl, hcsq, hdsq, hbsq⟩
  have HDsq := Lib.hid hdsq
  have Bsq : Below wz.heap.size wz wsq := Boq.trans (hbsq.mono Boq.size)
  clear hdsq
  refine hK.out _ _ (range_row (HRz.out.below Bsq hltz)) (fun hHeld32 => ?_)
  clear hK
  (try simp only [Act.put, List.setIfInBounds_toArray, List.set_cons_zero, List.set_cons_succ])
  refine takeD (i := 5) (some 26) (.tuple #[.slice Asq SG.length csq, .int .i64 E]) rfl rfl (by kernel_rfl) (by kernel_rfl) (by kernel_rfl) (fun _ _ _ h => h) (Or.inl ⟨by rfl, fun _ _ => rfl⟩) hHeld32 ?_
  simp only [Act.put, List.setIfInBounds_toArray, List.set_cons_zero, List.set_cons_succ]
  refine takeD (i := 6) (some 32) (.slice Asq SG.length csq) rfl rfl (by kernel_rfl) (by kernel_rfl) (by kernel_rfl) (fun _ _ _ h => h) (Or.inl ⟨by rfl, fun _ _ => rfl⟩) hHeld32 ?_
  simp only [Act.put, List.setIfInBounds_toArray, List.set_cons_zero, List.set_cons_succ]
  refine takeD (i := 7) (some 33) (.int .i64 E) rfl rfl (by kernel_rfl) (by kernel_rfl) (by kernel_rfl) (fun _ _ _ h => h) (Or.inl ⟨by rfl, fun _ _ => rfl⟩) hHeld32 ?_
  simp only [Act.put, List.setIfInBounds_toArray, List.set_cons_zero, List.set_cons_succ]
  refine takeD (i := 8) (some 9) (.slice Asq SG.length csq) rfl rfl (by kernel_rfl) (by kernel_rfl) (by kernel_rfl) (fun _ _ _ h => h) (Or.inl ⟨by rfl, fun _ _ => rfl⟩) hHeld32 ?_
  simp only [Act.put, List.setIfInBounds_toArray, List.set_cons_zero, List.set_cons_succ]
  refine takeD (i := 9) (some 10) (.int .i64 E) rfl rfl (by kernel_rfl) (by kernel_rfl) (by kernel_rfl) (fun _ _ _ h => h) (Or.inl ⟨by rfl, fun _ _ => rfl⟩) hHeld32 ?_
  simp only [Act.put, List.setIfInBounds_toArray, List.set_cons_zero, List.set_cons_succ]
  (try simp only [Act.put, List.setIfInBounds_toArray])
  refine wpAnyH_done (by kernel_rfl) ?_ _
  refine NoPanic.normal ?_
  have hb1' := hb0.trans (Bsq.mono hb0.size)
  have HR1 := Lib.hid (HRz.out.below Bsq hltz)
  go_wp2_with (first
    | (with_reducible refine wpList_load_row Tryd.agg25 rfl (.tmp 4) rfl _ rfl 23 _ HR1.out HKS.out ?_)
    | (go_at_call 17; refine (HRG.out wsq (HB.out.below hb1') (HF.out.below hb1') (HT1.out.below hb1')).mono ?_; rintro e2 w2 ⟨A2, c2, rfl, hc2, hd2, hb2⟩; have HD2 := Lib.hid hd2; have hb2' := hb1'.trans (hb2.mono hb1'.size); clear hd2)
    | (go_at_call 16; refine (own_any a2 len2 cap2 l2 w2 (HB.out.below hb2') (by omega)).mono ?_; rintro e7 w3 ⟨A3, n3, c3, rfl, hB3, hc3, hb3, -⟩; have HB3 := Lib.hid hB3; have hn3 : n3 ≤ 1000000 := (by rw [← hB3.1, HLN.out]; omega); have hb3' := hb2'.trans (hb3.mono hb2'.size); clear hB3)
    | (at_builtin; refine wpList_copyD rfl (.tmp 45) (.tmp 46) rfl rfl a3 len3 cap3 l3 rfl (HD.out.below hb3') (by omega) ?_; intro A4 c4 w4 hd4 hc4 hb4; have HD4 := Lib.hid hd4; have hb4' := hb3'.trans (hb4.mono hb3'.size); clear hd4)
    | (go_at_call 18; refine (HRC.out A3 n3 c3 A4 c4 w4 (HB3.out.below hb4) hc3 hn3 HD4.out (HT2.out.below hb4')).mono ?_; rintro e5 w5 ⟨rfl, hb5⟩; have hb5' := hb4'.trans (hb5.mono hb4'.size))
    | (with_reducible refine wpList_store_row Tryd.agg25 rfl (.tmp 13) (.tmp 49) rfl _ _ rfl rfl 23 lit32 (Row.new w5 23 lit32) HRS.out lit32_size (bcells_one _) ?_; intro w6 hr6 ho6; have HG6 := Lib.hid hr6; have hlt6 := hr6.lt; have hs6 := ho6.size; simp at hs6; have b6 : Below w5.heap.size w5 w6 := ((Below.refl _ _).alloc (Nat.le_refl _) _).trans (ho6.below (Nat.le_refl _) (by simp)); have hb6' := hb5'.trans (b6.mono hb5'.size); clear hr6)
    | (go_at_call 19; refine (HRR.out w6 (HB.out.below hb6') (HD.out.below hb6') (HF.out.below hb6') (HT1.out.below hb6')).mono ?_; rintro e7 w7 ⟨rfl, hb7⟩; have hb7' := hb6'.trans (hb7.mono hb6'.size); have HG7 := Lib.hid (HG6.out.below hb7 hlt6))
    | (with_reducible refine wpList_store_row Tryd.agg25 rfl (.tmp 15) (.tmp 56) rfl _ _ rfl rfl 23 lit32 (Row.new w7 23 lit32) HRS.out lit32_size (bcells_one _) ?_; intro w8 hr8 ho8; have HH8 := Lib.hid hr8; have hlt8 := hr8.lt; have hs7 := hb7.size; have b8 : Below w7.heap.size w7 w8 := ((Below.refl _ _).alloc (Nat.le_refl _) _).trans (ho8.below (Nat.le_refl _) (by simp)); have HG8 := Lib.hid (HG7.out.below b8 (by omega)); have hb8' := hb7'.trans (b8.mono hb7'.size); have HDs8 := Lib.hid ((((((HDsq.out.below hb2).below hb3).below hb4).below hb5).below b6).below hb7); have HD28 := Lib.hid (((((HD2.out.below hb3).below hb4).below hb5).below b6).below hb7); clear hr8)
    | (go_at_call 12; refine (RSame_yes Asq A2 _ csq c2 SG w8 (HDs8.out.below b8) (HD28.out.below b8) (by have := HGL.out; omega)).mono ?_; rintro e9 w9 ⟨rfl, k9, rfl⟩; have hb9' := below_drewN hb8' k9)
    | (with_reducible refine wpList_loadG (by with_unfolding_all rfl) (.tmp 13) rfl _ 0 R rfl (range_row (HG8.out.drewN k9)) HRL.out ?_)
    | (with_reducible refine wpList_loadG (by with_unfolding_all rfl) (.tmp 15) rfl _ 0 R rfl (range_row (HH8.out.drewN k9)) HRL.out ?_)
    | (go_at_call 9; refine (awake_any _ (HT2.out.below hb9')).mono ?_; rintro e10 w10 ⟨rfl, hb10⟩; have hb10' := hb9'.trans (hb10.mono hb9'.size)))
  go_ret
  exact ⟨rfl, hb10'⟩
set_option maxRecDepth 100000 in
set_option maxHeartbeats 1000000 in
theorem walk (w : World) (s0 : List UInt8) (w0 : s0.length = 32) (a1 : Int) (_w1 : (Lit.int .i64 a1).wf = true) (a2 : Option Addr) (len2 cap2 : Nat) (l2 : List UInt8) (w2 : Bs w a2 len2 l2) (s2 : len2 ≤ cap2 ∧ cap2 ≤ 140737488351232) (a3 : Option Addr) (len3 cap3 : Nat) (l3 : List (List UInt8)) (w3 : Ds w a3 len3 l3) (hT : First w ∧ Tab 1 w ∧ Tab 2 w) :
    Calls Tryd.prog 4 #[.agg (bcells s0), .int .i64 a1, .slice a2 len2 cap2, .slice a3 len3 cap3] w fun e w' => e = .returned (.bool true) ∧ Below w.heap.size w w' := by
  have hb0 := (Below.refl w.heap.size w).alloc (Nat.le_refl _) (.cells (bcells s0) 23)
  have HT := Lib.hid hT.2.2
  by_cases h500 : len2 ≤ 500
  · by_cases h600 : len3 ≤ 600
    · exact walk_in w s0 w0 a1 a2 len2 cap2 l2 w2 s2.1 a3 len3 cap3 l3 w3 h500 h600 hT
    · have i0 : ¬ 500 < (len2 : Int) := by omega
      have i1 : 600 < (len3 : Int) := by omega
      clear w2 w3 hT w0
      go_enter Tryd.func4, Tryd.ntmps4
      go_wp2_with (go_at_call 9; refine (awake_any _ (HT.out.below hb0)).mono ?_; rintro e4 w4 ⟨rfl, hb4⟩)
      go_ret
      exact ⟨rfl, hb0.trans (hb4.mono hb0.size)⟩
  · have i0 : 500 < (len2 : Int) := by omega
    clear w2 w3 hT w0
    go_enter Tryd.func4, Tryd.ntmps4
    go_wp2_with (go_at_call 9; refine (awake_any _ (HT.out.below hb0)).mono ?_; rintro e4 w4 ⟨rfl, hb4⟩)
    go_ret
    exact ⟨rfl, hb0.trans (hb4.mono hb0.size)⟩

set_option maxRecDepth 100000 in
theorem lifted (os : Os) (started : os.Started) (H : Type) (enc : TypeId × Value → H) :
    ReturnsInHanded {} Tryd.checked os 4 .any (fun w args => (Rows.otsSignsSpec.pre enc Tryd.prog Tryd.f4 Rows.otsSignsRow.domain false w args ∧ laidMetH Tryd.prog lay3 w) ∧ sizedMet enc Tryd.prog Tryd.f4 (OpenSpec.ofChange Rows.otsSignsSpec) false w args)
      (Rows.otsSignsSpec.post enc Tryd.prog Tryd.f4 false true false false) := by
  refine returnsInHanded_of_change_and (C := Tryd.checked) (X := fun w _ => laidMetH Tryd.prog lay3 w) (fun _ _ _ hh h => h.of_heap hh) own started (by kernel_rfl) Tryd.func4
    (ChangeSpec.witness_shaped (enc := enc) (C := Tryd.checked) (os := os) (X := fun w _ => laidMetH Tryd.prog lay3 w) false (World.laidAll Tryd.prog os lay3) #[.agg #[.int .u8 0, .int .u8 0, .int .u8 0, .int .u8 0, .int .u8 0, .int .u8 0, .int .u8 0, .int .u8 0, .int .u8 0, .int .u8 0, .int .u8 0, .int .u8 0, .int .u8 0, .int .u8 0, .int .u8 0, .int .u8 0, .int .u8 0, .int .u8 0, .int .u8 0, .int .u8 0, .int .u8 0, .int .u8 0, .int .u8 0, .int .u8 0, .int .u8 0, .int .u8 0, .int .u8 0, .int .u8 0, .int .u8 0, .int .u8 0, .int .u8 0, .int .u8 0], .int .i64 0, .slice none 0 0, .slice none 0 0] 8 rfl (World.shaped_of_ZipB (by kernel_rfl) (by kernel_rfl)) (by kernel_rfl) (by kernel_rfl) (by kernel_rfl) (met3 os _)) ?_
  intro W base args ds gs before hval0 hW hcnd hsz0 hL _
  have hval : ∀ (j : Nat) t v, Tryd.f4.params[j]? = some t → args[j]? = some v → Value.okWide Tryd.prog W .any base t v := hval0
  have hW' := hW
  obtain ⟨p, q, hA0, hV, rfl, hfz, hnd⟩ := hW
  have hA : DataW.TrodAll enc Tryd.prog W 0 (fun _ => true) true Tryd.f4.params.toList args.toList ds p := hA0
  have hsz : (DataW.weightsEach Tryd.prog (Tryd.f4.params.toList ++ Rows.otsSignsSpec.plain.varTypes Tryd.prog) (ds ++ gs)).all (· ≤ reachBytes) = true := hsz0
  rw [Tryd.params4] at hA hval hsz
  obtain ⟨v0, vs0, d0, ds0, p0, q0, hargs, rfl, rfl, h0, r0⟩ := trodAll_cons hA
  obtain ⟨v1, vs1, d1, ds1, p1, q1, rfl, rfl, rfl, h1, r1⟩ := trodAll_cons r0
  obtain ⟨v2, vs2, d2, ds2, p2, q2, rfl, rfl, rfl, h2, r2⟩ := trodAll_cons r1
  obtain ⟨v3, vs3, d3, ds3, p3, q3, rfl, rfl, rfl, h3, r3⟩ := trodAll_cons r2
  obtain ⟨rfl, rfl, rfl⟩ := trodAll_nil r3
  obtain rfl : args = #[v0, v1, v2, v3] := by cases args; simp_all
  obtain ⟨rfl, rfl⟩ := trodVars_none hV
  have k0 := h0
  have lt0 : ∀ x ∈ p0, x.block < W.heap.size := by obtain ⟨m, hm⟩ := k0; exact DataW.trod_lt m _ _ _ hm
  obtain ⟨s0, w0, rfl⟩ : ∃ s : List UInt8, s.length = 32 ∧ v0 = .agg (bcells s) := open_digest (hval 0 23 v0 rfl rfl) h0
  obtain ⟨a1, rfl, rfl, rfl, w1⟩ := open_int Tryd.underlying3 (hval 1 3 v1 rfl rfl) h1
  obtain ⟨a2, len2, cap2, rfl⟩ := okWide_slice Tryd.underlying34 (hval 2 34 v2 rfl rfl)
  have k2 := h2
  have lt2 : ∀ x ∈ p2, x.block < W.heap.size := by obtain ⟨m, hm⟩ := k2; exact DataW.trod_lt m _ _ _ hm
  obtain ⟨l2, w2, s2⟩ : ∃ l, Bs W a2 len2 l ∧ len2 ≤ cap2 ∧ cap2 ≤ 140737488351232 := by
    obtain ⟨fuel, hf⟩ := h2
    rcases open_ints Tryd.underlying34 Tryd.underlying5 (by kernel_rfl) hf with ⟨hcs, _⟩ | ⟨x, l, c, zs, hcs, _, hl, hm, hz, hx, hcell, hwz⟩
    · simp [Value.cells] at hcs
      obtain ⟨rfl, rfl, rfl⟩ := hcs
      exact ⟨[], Bs.nil _ _, by omega, by omega⟩
    · simp [Value.cells] at hcs
      obtain ⟨rfl, rfl, rfl⟩ := hcs
      simp only [Prod.mk.injEq] at hx
      obtain ⟨rfl, _⟩ := hx
      have hb := sized_slice hsz (j := 2) (t := 34) (e := 5) rfl rfl Tryd.underlying34
      rw [show Tryd.prog.bytesOf 5 = 1 from by kernel_rfl] at hb
      simp only [lits, List.length_map, List.length_take, List.length_drop, reachBytes] at hb
      have hz' : zs.length = cap2 := by simpa using hz
      exact ⟨_, Bs.of_ints hl hz' hcell hwz, hl, by omega⟩
  have k3 := h3
  have lt3 : ∀ x ∈ p3, x.block < W.heap.size := by obtain ⟨m, hm⟩ := k3; exact DataW.trod_lt m _ _ _ hm
  obtain ⟨a3, len3, cap3, l3, rfl, w3⟩ := open_ds (hval 3 24 v3 rfl rfl) h3
  have hTab := of_lay3 hL
  clear hA0 hval0
  refine (walk W s0 w0 a1 w1 a2 len2 cap2 l2 w2 s2 a3 len3 cap3 l3 w3 hTab).mono fun e W' ⟨he, bel⟩ => ?_
  subst he
  exact ⟨_, rfl, _, _, _, [], _, [], hW', trodAll_mk1 (shut_bool Tryd.underlying4 _), (trodAll_cons_mk (Below.trod laidOut (by kernel_rfl) (of_decide_eq_true (by kernel_rfl)) k0 bel lt0) (trodAll_cons_mk (shut_int Tryd.underlying3 w1) (trodAll_cons_mk (Below.trod laidOut (by kernel_rfl) (of_decide_eq_true (by kernel_rfl)) k2 bel lt2) (trodAll_cons_mk (Below.trod laidOut (by kernel_rfl) (of_decide_eq_true (by kernel_rfl)) k3 bel lt3) trodAll_mk0)))), rfl, bel.frame _, fun h => by cases h⟩
theorem over : Rows.otsSignsRow.holds Tryd.pinned (OpenSpec.ofChange Rows.otsSignsSpec) :=
  OpenClaim.holds_of_wide 4 Tryd.f4 rfl rfl rfl rfl rfl rfl rfl ⟨rfl, rfl, rfl, rfl, rfl⟩ rfl rfl rfl rfl rfl (by kernel_rfl) Tryd.func4 (by kernel_rfl)
    (of_decide_eq_true (by kernel_rfl)) (by unfold Func.isWrapper; first | (rw [if_pos (by decide +kernel)]; kernel_rfl) | (rw [if_neg (by decide +kernel)]; exact ⟨rfl, rfl⟩))
    (fun os started H enc _ => lifted os started H enc)
theorem otsSigns_holds : Rows.OtsSignsCardSaid :=
  Claim7.holds_tied_plain_at .later [] [.data, .data, .data] true (true, "38853a3e69654356aeca0a1f5f06e005877108b1e9361b026282a30c4990b858") false
    over (fun _ h => by cases h) (by kernel_rfl) (fun _ h => by cases h) otsSigns_row_tie rfl ⟨rfl, rfl⟩ (by kernel_rfl) rfl
    (fun f fn hf hfn => by
      obtain rfl : f = 4 := Option.some.inj ((show Tryd.prog.funcNamed "jurat/juratlaw05.OtsSigns" = some 4 by kernel_rfl).symm.trans hf) |>.symm
      obtain rfl : fn = Tryd.f4 := (Option.some.inj (Tryd.func4.symm.trans hfn)).symm
      exact ⟨by kernel_rfl, fun j t ht => by
        rw [Tryd.params4] at ht
        have hm : t ∈ [23, 3, 34, 24] := by simpa using Array.mem_of_getElem? ht
        have hall : ([23, 3, 34, 24].all fun u => !Tryd.prog.wantsStandIn u) = true := by kernel_rfl
        exact (show Tryd.prog.wantsStandIn t = false by simpa using List.all_eq_true.1 hall t hm)⟩)
    (by kernel_rfl)
#print axioms otsSigns_holds
end Go.Proofs.YtghihgmgadaoeaaDoor.otsSigns
