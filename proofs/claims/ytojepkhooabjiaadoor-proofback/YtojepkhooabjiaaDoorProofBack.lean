/-
  ProofBack, whole, as the tied card (Rows.ProofBackCardSaid): for every list of digests (1 to 100 of them are looked at) and every number the proof of each place of the list is included, that of each beginning is consistent, and that of all of them is; and the document's example of three leaves. Conditions: the tables math/bits.deBruijn32tab, math/bits.deBruijn64tab and sha.constants read as their initialisers lay them (tied to the program's text).
-/
import Derived.Test.YtojepkhooabjiaaDoorRows
import Derived.Test.YtojepkhooabjiaaDoorCards
import Derived.Test.YtojepkhooabjiaaDoorTie
import Derived.WalkKit
import Derived.ProofKit
import Derived.OpenShut
import Derived.ChangeMaps5
import Derived.ShutString
import Derived.ChangeOld
import Derived.Below
import Derived.SizedLaws
import Derived.SevenTiedAt
import Derived.Lay
import Derived.LaidLaws
import Derived.Test.YtojepkhooabjiaaDoorAwakeA
import Derived.Test.YtojepkhooabjiaaDoorIncB
import Derived.Test.YtojepkhooabjiaaDoorConZ
namespace Go.Proofs.YtojepkhooabjiaaDoor.proofBack
open Go.ChangeShapes Go.WideShapes Go.ChangeAt Go.RowKit
open Go.ChangeMaps (open_string shut_string)
set_option linter.unusedVariables false
theorem own : ownKnob Tryd.prog.godebug = none := by kernel_rfl
theorem laidOut : laidOutB Tryd.prog = true := by kernel_rfl
theorem mod_in (a : Int) (m : Nat) (h : 0 < m) : ∃ j : Nat, (IntKind.u64.wrap a).tmod (m : Int) = (j : Int) ∧ j < m := by
  have h0 : 0 ≤ IntKind.u64.wrap a := by simp [IntKind.wrap, IntKind.bits, IntKind.signed]; omega
  generalize IntKind.u64.wrap a = x at *
  obtain ⟨y, rfl⟩ := Int.eq_ofNat_of_zero_le h0
  refine ⟨y % m, ?_, Nat.mod_lt _ h⟩
  rw [Int.tmod_eq_emod_of_nonneg (by omega)]
  rfl
theorem yields_sliceW {ops : Array Oper} {S : World → Prop} {o : Oper} {a : Act} (hw : Region.wanted o (yielded ops a.tmps) = true) (x y : Operand) (ho : o.op = .slice 22 x none (some y) none) (X Y v : Value)
    (hx : a.eval x = X) (hy : a.eval y = Y) (hrun : ∀ w, (Instr.sliceAt 22 X none (some Y) none).run Tryd.prog w = .ok v w) : YieldsIf Tryd.prog ops S o v a :=
  .inl ⟨hw, fun w _ => by
    unfold execOp
    simp [ho, hx, hy, hrun]⟩
theorem back_inc (L : List (List UInt8)) (j : Nat) (d : List UInt8) (h : L[j]? = some d) : errI L.length (j : Int) = 0 ∧ incB d (j : Int) (L.length : Int) (incI L (j : Int)) (rootL L) = true := by
  have hj : j < L.length := (List.getElem?_eq_some_iff.1 h).1
  have hc : (0 : Int) ≤ (j : Int) ∧ (j : Int) < (L.length : Int) := ⟨by omega, by omega⟩
  unfold errI incB incI
  rw [if_pos hc, if_pos hc, if_pos hc]
  exact ⟨rfl, decide_eq_true (lead_inc nodeL (sumL []) _ L j d rfl h)⟩
theorem back_con (L : List (List UInt8)) (j : Nat) (h : j < L.length) : errC L.length (j : Int) = 0 ∧ conB (j : Int) (L.length : Int) (conI L (j : Int)) (rootL (L.take j)) (rootL L) = true := by
  have hc : (0 : Int) ≤ (j : Int) ∧ (j : Int) ≤ (L.length : Int) := ⟨by omega, by omega⟩
  unfold errC conB conI
  rw [if_pos hc, if_pos hc]
  refine ⟨rfl, ?_⟩
  by_cases h0 : j = 0
  · subst h0
    rw [if_pos (show ((0 : Nat) : Int) = 0 from rfl), if_neg (by omega), List.take_zero, show rootL [] = sumL [] from rootP_nil nodeL (sumL [])]
    simp
  · rw [if_neg (by omega), if_neg (by omega), if_pos ⟨by omega, by omega⟩]
    exact decide_eq_true (leads_part nodeL (sumL []) _ L j true (rootL (L.take j)) rfl (by omega) (by omega) (fun _ => rfl))
theorem back_all (L : List (List UInt8)) (R : List UInt8) (h : 1 ≤ L.length) : errC L.length (L.length : Int) = 0 ∧ conI L (L.length : Int) = [] ∧ conB (L.length : Int) (L.length : Int) [] R R = true := by
  have hc : (0 : Int) ≤ (L.length : Int) ∧ (L.length : Int) ≤ (L.length : Int) := ⟨by omega, by omega⟩
  refine ⟨?_, ?_, ?_⟩
  · unfold errC; rw [if_pos hc]
  · unfold conI
    rw [if_pos ⟨by omega, by omega⟩]
    show partP nodeL (sumL []) L L.length true = []
    rw [partP_all nodeL (sumL []) true rfl]
    rfl
  · unfold conB
    rw [if_pos hc, if_neg (by omega), if_pos rfl]
    simp
theorem incI_length (L : List (List UInt8)) (i : Int) (h : L.length ≤ 1024) : (incI L i).length ≤ 20 := by
  unfold incI; split
  · exact inc_le _ _ h
  · exact Nat.zero_le _
theorem conI_length (L : List (List UInt8)) (i : Int) (h : L.length ≤ 1024) : (conI L i).length ≤ 20 := by
  unfold conI; split
  · exact part_le _ _ _ (by omega) (by omega) h
  · exact Nat.zero_le _
set_option maxRecDepth 100000 in
set_option maxHeartbeats 4000000 in
theorem walk_in (w : World) (a0 : Option Addr) (len0 cap0 : Nat) (l0 : List (List UInt8)) (w0 : Ds w a0 len0 l0) (s0 : len0 ≤ cap0) (a1 : Int) (h100 : len0 ≤ 100) (hz : len0 ≠ 0) (hT : TabB w ∧ Tab 2 w) :
    Calls Tryd.prog 7 #[.slice a0 len0 cap0, .int .i64 a1] w fun e w' => e = .returned (.bool true) ∧ Below w.heap.size w w' := by
  have HB := Lib.hid hT.1
  have HT := Lib.hid hT.2
  have i0 : ¬ 100 < (len0 : Int) := by omega
  have i1 : ((len0 : Int) == 0) = false := by simp; omega
  obtain ⟨j, hj, hjm⟩ := mod_in a1 len0 (by omega)
  have e1 : IntKind.u64.wrap (len0 : Int) = (len0 : Int) := by
    simp [IntKind.wrap, IntKind.bits, IntKind.signed]
    omega
  have e2 : IntKind.i64.wrap (j : Int) = (j : Int) := wrap_small _ (by omega) (by omega)
  have e3 : wrap64 (j : Int) = (j : Int) := w64 _ (by omega) (by omega)
  obtain ⟨b, off, d, rfl, hbk, hd, hdl, hBd⟩ := w0.get hjm
  have hle : l0.length = len0 := w0.1
  obtain ⟨hE, hI⟩ := back_inc l0 j d hd
  obtain ⟨hF, hC⟩ := back_con l0 j (by omega)
  obtain ⟨hG, hCn, hA⟩ := back_all l0 (rootL l0) (by omega)
  rw [hle] at hE hI hF hC hG hCn hA
  have HD := Lib.hid w0
  have HPL := Lib.hid (incI_length l0 (j : Int) (by omega))
  have HML := Lib.hid (conI_length l0 (j : Int) (by omega))
  have hRl := rootL_length l0 w0.2.1
  have hVl := rootL_length (l0.take j) (w0.2.1.take _)
  have HRT := Lib.hid (fun A c wq hc hD hT => root_ok A len0 c l0 wq (by omega) hc hD hT)
  have HVT := Lib.hid (fun A c wq hc hD hT => root_ok A j c (l0.take j) wq (by omega) hc hD hT)
  have HP := Lib.hid (fun A c wq hc hD hT => show Calls Tryd.prog 18 #[.slice A len0 c, .int .i64 (j : Int)] wq (NewD wq (incI l0 (j : Int)) 0) by have q := Include_any A len0 c (j : Int) l0 wq (by omega) hc hD hT; rwa [hE] at q)
  have HM := Lib.hid (fun A c wq hc hD hT => show Calls Tryd.prog 20 #[.slice A len0 c, .int .i64 (j : Int)] wq (NewD wq (conI l0 (j : Int)) 0) by have q := Consist_any A len0 c (j : Int) l0 wq (by omega) hc hD hT; rwa [hF] at q)
  have HN := Lib.hid (fun A c wq hc hD hT => show Calls Tryd.prog 20 #[.slice A len0 c, .int .i64 (len0 : Int)] wq (NewD wq [] 0) by have q := Consist_any A len0 c (len0 : Int) l0 wq (by omega) hc hD hT; rwa [hG, hCn] at q)
  have HI := Lib.hid (fun A c wq hc hD hT => show Calls Tryd.prog 23 #[.agg (bcells d), .int .i64 (j : Int), .int .i64 (len0 : Int), .slice A (incI l0 (j : Int)).length c, .agg (bcells (rootL l0))] wq fun e w' => e = .returned (.bool true) ∧ Below wq.heap.size wq w' by have q := Included_any d (rootL l0) (j : Int) (len0 : Int) A (incI l0 (j : Int)).length c (incI l0 (j : Int)) wq hdl hRl (by have := HPL.out; omega) hc (by omega) hD hT; rwa [hI] at q)
  have HJ := Lib.hid (fun A c wq hc hD hB hT => show Calls Tryd.prog 25 #[.int .i64 (j : Int), .int .i64 (len0 : Int), .slice A (conI l0 (j : Int)).length c, .agg (bcells (rootL (l0.take j))), .agg (bcells (rootL l0))] wq fun e w' => e = .returned (.bool true) ∧ Below wq.heap.size wq w' by have q := Consistent_any (j : Int) (len0 : Int) A (conI l0 (j : Int)).length c (conI l0 (j : Int)) (rootL (l0.take j)) (rootL l0) wq hVl hRl (by have := HML.out; omega) hc (by omega) hD hB hT; rwa [hC] at q)
  have HK := Lib.hid (fun A c wq hD hB hT => show Calls Tryd.prog 25 #[.int .i64 (len0 : Int), .int .i64 (len0 : Int), .slice A 0 c, .agg (bcells (rootL l0)), .agg (bcells (rootL l0))] wq fun e w' => e = .returned (.bool true) ∧ Below wq.heap.size wq w' by have q := Consistent_any (len0 : Int) (len0 : Int) A 0 c [] (rootL l0) (rootL l0) wq hRl hRl (by omega) (Nat.zero_le _) (by omega) hD hB hT; rwa [hA] at q)
  have HRL := Lib.hid hRl
  have HRS := Lib.hid (show (bcells (rootL l0)).size = 32 by rw [bcells_size]; exact hRl)
  have HVL := Lib.hid hVl
  have HDL := Lib.hid hdl
  generalize incI l0 (j : Int) = P at *
  generalize conI l0 (j : Int) = M at *
  obtain ⟨R, hR⟩ : ∃ R, rootL l0 = R := ⟨_, rfl⟩
  rw [hR] at HRT HI HJ HK HRL HRS
  obtain ⟨V, hV⟩ : ∃ V, rootL (l0.take j) = V := ⟨_, rfl⟩
  rw [hV] at HVT HJ HVL
  obtain ⟨A1, r1, d1, _⟩ := cutD_head (some ⟨b, off, none⟩) len0 cap0 j (j : Int) rfl (by omega) s0
  have HR1 := Lib.hid r1
  have HD1 := Lib.hid (fun w' (hb : Below w.heap.size w w') => d1 w' l0 (w0.below hb))
  obtain ⟨o1, ho1⟩ : ∃ o, off + 32 * j = o := ⟨_, rfl⟩
  rw [ho1] at hBd
  have HO1 := Lib.hid ho1
  have KD := Lib.hid (fun wq (hb : Below w.heap.size w wq) => (hBd.below hb).range)
  have hjc : j ≤ cap0 := by omega
  have hj100 : j ≤ 100 := by omega
  clear w0 hT hE hI hF hC hG hCn hA hRl hVl hdl hR hV hd hBd hbk r1 d1 ho1 hle hz
  go_enter Tryd.func7, Tryd.ntmps7
  go_wp2_with (first
    | (go_at_call 12; have hz := HD8; clear hz; refine (own_any (some ⟨b, off, none⟩) len0 cap0 l0 w8 (HD.out.below hb8') (by omega)).mono ?_; rintro e9 w9 ⟨A9, c9, rfl, hc9, hd9, hb9⟩; have HD9 := Lib.hid hd9; have hb9' := hb8'.trans (hb9.mono hb8'.size); have HQ9 := Lib.hid (HQ8.out.below hb9 HQ8.out.lt); clear hd9)
    | (go_at_call 12; have hz := HD6; clear hz; refine (own_any (some ⟨b, off, none⟩) len0 cap0 l0 w6 (HD.out.below hb6') (by omega)).mono ?_; rintro e7 w7 ⟨A7, c7, rfl, hc7, hd7, hb7⟩; have HD7 := Lib.hid hd7; have hb7' := hb6'.trans (hb7.mono hb6'.size); have HQ7 := Lib.hid (HQ6.out.below hb7 HQ6.out.lt); clear hd7)
    | (go_at_call 12; have hz := HQ4; clear hz; refine (own_any (some ⟨b, off, none⟩) len0 cap0 l0 w4 (HD.out.below hb4') (by omega)).mono ?_; rintro e5 w5 ⟨A5, c5, rfl, hc5, hd5, hb5⟩; have HD5 := Lib.hid hd5; have hb5' := hb4'.trans (hb5.mono hb4'.size); have HQ5 := Lib.hid (HQ4.out.below hb5 HQ4.out.lt); clear hd5)
    | (go_at_call 12; refine (own_any (some ⟨b, off, none⟩) len0 cap0 l0 w HD.out (by omega)).mono ?_; rintro e2 w2 ⟨A2, c2, rfl, hc2, hd2, hb2⟩; have HD2 := Lib.hid hd2; clear hd2)
    | (go_at_call 11; refine (HRT.out A2 c2 w2 hc2 HD2.out (HT.out.below hb2)).mono ?_; rintro e3 w3 ⟨rfl, hb3⟩; have hb3' := hb2.trans (hb3.mono hb2.size))
    | (with_reducible refine wpList_store_row Tryd.agg25 rfl (.tmp 5) (.tmp 30) rfl _ _ rfl rfl 24 lit32 (Row.new w3 24 lit32) HRS.out lit32_size (bcells_one _) ?_; intro w4 hr4 ho4; have HQ4 := Lib.hid hr4; have b4 : Below w3.heap.size w3 w4 := ((Below.refl _ _).alloc (Nat.le_refl _) _).trans (ho4.below (Nat.le_refl _) (by simp)); have hb4' := hb3'.trans (b4.mono hb3'.size); clear hr4)
    | (go_at_call 18; refine (HP.out A5 c5 w5 hc5 HD5.out (HT.out.below hb5')).mono ?_; rintro e6 w6 ⟨A6, c6, rfl, hc6, hd6, hb6⟩; have HD6 := Lib.hid hd6; have HC6 := Lib.hid hc6; have hb6' := hb5'.trans (hb6.mono hb5'.size); have HQ6 := Lib.hid (HQ5.out.below hb6 HQ5.out.lt); clear hd6 hc6)
    | (go_at_call 20; have hz := HD9; clear hz; refine (HN.out A9 c9 w9 hc9 HD9.out (HT.out.below hb9')).mono ?_; rintro e10 w10 ⟨A10, c10, rfl, hc10, hd10, hb10⟩; have HD10 := Lib.hid hd10; have hb10' := hb9'.trans (hb10.mono hb9'.size); have HQ10 := Lib.hid (HQ9.out.below hb10 HQ9.out.lt); have b810 : Below w8.heap.size w8 w10 := hb9.trans (hb10.mono hb9.size); clear hd10 hc10)
    | (go_at_call 20; refine (HM.out A7 c7 w7 hc7 HD7.out (HT.out.below hb7')).mono ?_; rintro e8 w8 ⟨A8, c8, rfl, hc8, hd8, hb8⟩; have HD8 := Lib.hid hd8; have HC8 := Lib.hid hc8; have hb8' := hb7'.trans (hb8.mono hb7'.size); have HQ8 := Lib.hid (HQ7.out.below hb8 HQ7.out.lt); have b68 : Below w6.heap.size w6 w8 := hb7.trans (hb8.mono hb7.size); clear hd8 hc8))
  have HD8' := Lib.hid (HD8.out.below b810)
  have HD6' := Lib.hid ((HD6.out.below b68).below b810)
  obtain ⟨g5, hg5⟩ : ∃ g, g = w3.heap.size := ⟨_, rfl⟩
  rw [← hg5] at HQ10 ⊢
  clear hg5
  have KP : Hid (∀ wq, Below w10.heap.size w10 wq → wq.rangeAt g5 0 (R.map bcell) ∧ wq.rangeAt b o1 (d.map bcell)) := Lib.hid (fun wq hb => ⟨range_row (HQ10.out.below hb HQ10.out.lt), KD.out _ (hb10'.trans (hb.mono hb10'.size))⟩)
  have B0 : Below w10.heap.size w10 w10.drew := (Below.refl w10.heap.size w10).drew
  refine wp_region_noPanic ?_
  refine wp_region_held_drew (S := fun w' => w'.rangeAt g5 0 (R.map bcell) ∧ w'.rangeAt b o1 (d.map bcell)) (by kernel_rfl) (KP.out _ B0) (fun hHeld => ?_)
  have BW0 := hb10'.trans (B0.mono hb10'.size)
  refine takeD (i := 0) (some 53) (.int .i64 0) rfl rfl (by kernel_rfl) (by kernel_rfl) (by kernel_rfl) (fun _ _ _ h => h) (Or.inl ⟨by rfl, fun _ _ => rfl⟩) hHeld ?_
  simp only [Act.put, List.setIfInBounds_toArray, List.set_cons_zero, List.set_cons_succ]
  refine takeD (i := 1) (some 54) (.bool true) rfl rfl (by kernel_rfl) (by kernel_rfl) (by kernel_rfl) (fun _ _ _ h => h) (yields_eqE (by rfl) (.tmp 53) _ rfl 0 0 true rfl rfl rfl) hHeld ?_
  simp only [Act.put, List.setIfInBounds_toArray, List.set_cons_zero, List.set_cons_succ]
  refine takeD (i := 2) (some 55) (.bool true) rfl rfl (by kernel_rfl) (by kernel_rfl) (by kernel_rfl) (fun _ _ _ h => h) (Or.inl ⟨by rfl, fun _ _ => rfl⟩) hHeld ?_
  simp only [Act.put, List.setIfInBounds_toArray, List.set_cons_zero, List.set_cons_succ]
  refine takeD (i := 3) (some 56) (.int .i64 0) rfl rfl (by kernel_rfl) (by kernel_rfl) (by kernel_rfl) (fun _ _ _ h => h) (Or.inl ⟨by rfl, fun _ _ => rfl⟩) hHeld ?_
  simp only [Act.put, List.setIfInBounds_toArray, List.set_cons_zero, List.set_cons_succ]
  refine takeD (i := 4) (some 57) (.bool true) rfl rfl (by kernel_rfl) (by kernel_rfl) (by kernel_rfl) (fun _ _ _ h => h) (yields_eqE (by rfl) (.tmp 56) _ rfl 0 0 true rfl rfl rfl) hHeld ?_
  simp only [Act.put, List.setIfInBounds_toArray, List.set_cons_zero, List.set_cons_succ]
  refine takeD (i := 5) (some 58) (.bool true) rfl rfl (by kernel_rfl) (by kernel_rfl) (by kernel_rfl) (fun _ _ _ h => h) (Or.inl ⟨by rfl, fun _ _ => rfl⟩) hHeld ?_
  simp only [Act.put, List.setIfInBounds_toArray, List.set_cons_zero, List.set_cons_succ]
  refine takeD (i := 6) (some 59) (.bool true) rfl rfl (by kernel_rfl) (by kernel_rfl) (by kernel_rfl) (fun _ _ _ h => h) (Or.inl ⟨by rfl, fun _ _ => rfl⟩) hHeld ?_
  simp only [Act.put, List.setIfInBounds_toArray, List.set_cons_zero, List.set_cons_succ]
  refine takeD (i := 7) (some 60) (.int .i64 0) rfl rfl (by kernel_rfl) (by kernel_rfl) (by kernel_rfl) (fun _ _ _ h => h) (Or.inl ⟨by rfl, fun _ _ => rfl⟩) hHeld ?_
  simp only [Act.put, List.setIfInBounds_toArray, List.set_cons_zero, List.set_cons_succ]
  refine takeD (i := 8) (some 61) (.bool true) rfl rfl (by kernel_rfl) (by kernel_rfl) (by kernel_rfl) (fun _ _ _ h => h) (yields_eqE (by rfl) (.tmp 60) _ rfl 0 0 true rfl rfl rfl) hHeld ?_
  simp only [Act.put, List.setIfInBounds_toArray, List.set_cons_zero, List.set_cons_succ]
  refine takeD (i := 9) (some 62) (.bool true) rfl rfl (by kernel_rfl) (by kernel_rfl) (by kernel_rfl) (fun _ _ _ h => h) (Or.inl ⟨by rfl, fun _ _ => rfl⟩) hHeld ?_
  simp only [Act.put, List.setIfInBounds_toArray, List.set_cons_zero, List.set_cons_succ]
  refine takeD (i := 10) (some 63) (.bool true) rfl rfl (by kernel_rfl) (by kernel_rfl) (by kernel_rfl) (fun _ _ _ h => h) (Or.inl ⟨by rfl, fun _ _ => rfl⟩) hHeld ?_
  simp only [Act.put, List.setIfInBounds_toArray, List.set_cons_zero, List.set_cons_succ]
  refine takeD (i := 11) (some 64) (.slice (some ⟨b, off, none⟩) len0 cap0) rfl rfl (by kernel_rfl) (by kernel_rfl) (by kernel_rfl) (fun _ _ _ h => h) (Or.inl ⟨by rfl, fun _ _ => rfl⟩) hHeld ?_
  simp only [Act.put, List.setIfInBounds_toArray, List.set_cons_zero, List.set_cons_succ]
  refine takeD (i := 12) (some 65) (.int .i64 (j : Int)) rfl rfl (by kernel_rfl) (by kernel_rfl) (by kernel_rfl) (fun _ _ _ h => h) (Or.inl ⟨by rfl, fun _ _ => rfl⟩) hHeld ?_
  simp only [Act.put, List.setIfInBounds_toArray, List.set_cons_zero, List.set_cons_succ]
  refine takeD (i := 13) (some 66) (.pointer (some ⟨b, o1, none⟩)) rfl rfl (by kernel_rfl) (by kernel_rfl) (by kernel_rfl) (fun _ _ _ h => h) (yields_indexW (by rfl) (.tmp 64) (.tmp 65) rfl b off len0 cap0 j o1 _ rfl rfl rfl hjm HO1.out) hHeld ?_
  simp only [Act.put, List.setIfInBounds_toArray, List.set_cons_zero, List.set_cons_succ]
  refine takeD (i := 14) (some 67) (.agg (bcells d)) rfl rfl (by kernel_rfl) (by kernel_rfl) (by kernel_rfl) (fun _ _ _ h => h) (yields_loadW (by rfl) (.tmp 66) rfl b o1 d rfl (fun _ h => h.2) HDL.out) hHeld ?_
  simp only [Act.put, List.setIfInBounds_toArray, List.set_cons_zero, List.set_cons_succ]
  refine takeD (i := 15) (some 68) (.int .i64 (j : Int)) rfl rfl (by kernel_rfl) (by kernel_rfl) (by kernel_rfl) (fun _ _ _ h => h) (Or.inl ⟨by rfl, fun _ _ => rfl⟩) hHeld ?_
  simp only [Act.put, List.setIfInBounds_toArray, List.set_cons_zero, List.set_cons_succ]
  refine takeD (i := 16) (some 69) (.slice (some ⟨b, off, none⟩) len0 cap0) rfl rfl (by kernel_rfl) (by kernel_rfl) (by kernel_rfl) (fun _ _ _ h => h) (Or.inl ⟨by rfl, fun _ _ => rfl⟩) hHeld ?_
  simp only [Act.put, List.setIfInBounds_toArray, List.set_cons_zero, List.set_cons_succ]
  refine takeD (i := 17) (some 70) (.int .i64 (len0 : Int)) rfl rfl (by kernel_rfl) (by kernel_rfl) (by kernel_rfl) (fun _ _ _ h => h) (yields_len (by rfl) (.tmp 69) rfl _ len0 cap0 rfl) hHeld ?_
  simp only [Act.put, List.setIfInBounds_toArray, List.set_cons_zero, List.set_cons_succ]
  refine takeD (i := 18) (some 71) (.slice A6 P.length c6) rfl rfl (by kernel_rfl) (by kernel_rfl) (by kernel_rfl) (fun _ _ _ h => h) (Or.inl ⟨by rfl, fun _ _ => rfl⟩) hHeld ?_
  simp only [Act.put, List.setIfInBounds_toArray, List.set_cons_zero, List.set_cons_succ]
  refine takeD (i := 19) (some 72) (.agg (bcells R)) rfl rfl (by kernel_rfl) (by kernel_rfl) (by kernel_rfl) (fun _ _ _ h => h) (yields_loadW (by rfl) (.tmp 5) rfl g5 0 R rfl (fun _ h => h.1) HRL.out) hHeld ?_
  simp only [Act.put, List.setIfInBounds_toArray, List.set_cons_zero, List.set_cons_succ]
  refine wpAnyH_ready (rs := [20]) (by kernel_rfl) (by decide) ?_
  refine AllReadyH.cons rfl (fun K' hK => ?_) AllReadyH.nil
  go_simp
  refine (HI.out A6 c6 w10.drew HC6.out (HD6'.out.below B0) (HT.out.below BW0)).mono ?_
  rintro e11 w11 ⟨rfl, hb11⟩
  have B11 : Below w10.heap.size w10 w11 := B0.trans (hb11.mono B0.size)
  have BW11 := hb10'.trans (B11.mono hb10'.size)
  refine hK.out _ _ (KP.out _ B11) (fun hHeld11 => ?_)
  clear hK
  (try simp only [Act.put, List.setIfInBounds_toArray, List.set_cons_zero, List.set_cons_succ])
  refine takeD (i := 21) (some 74) (.bool true) rfl rfl (by kernel_rfl) (by kernel_rfl) (by kernel_rfl) (fun _ _ _ h => h) (Or.inl ⟨by rfl, fun _ _ => rfl⟩) hHeld11 ?_
  simp only [Act.put, List.setIfInBounds_toArray, List.set_cons_zero, List.set_cons_succ]
  refine takeD (i := 22) (some 75) (.bool true) rfl rfl (by kernel_rfl) (by kernel_rfl) (by kernel_rfl) (fun _ _ _ h => h) (Or.inl ⟨by rfl, fun _ _ => rfl⟩) hHeld11 ?_
  simp only [Act.put, List.setIfInBounds_toArray, List.set_cons_zero, List.set_cons_succ]
  refine takeD (i := 23) (some 76) (.int .i64 (j : Int)) rfl rfl (by kernel_rfl) (by kernel_rfl) (by kernel_rfl) (fun _ _ _ h => h) (Or.inl ⟨by rfl, fun _ _ => rfl⟩) hHeld11 ?_
  simp only [Act.put, List.setIfInBounds_toArray, List.set_cons_zero, List.set_cons_succ]
  refine takeD (i := 24) (some 77) (.slice (some ⟨b, off, none⟩) len0 cap0) rfl rfl (by kernel_rfl) (by kernel_rfl) (by kernel_rfl) (fun _ _ _ h => h) (Or.inl ⟨by rfl, fun _ _ => rfl⟩) hHeld11 ?_
  simp only [Act.put, List.setIfInBounds_toArray, List.set_cons_zero, List.set_cons_succ]
  refine takeD (i := 25) (some 78) (.int .i64 (len0 : Int)) rfl rfl (by kernel_rfl) (by kernel_rfl) (by kernel_rfl) (fun _ _ _ h => h) (yields_len (by rfl) (.tmp 77) rfl _ len0 cap0 rfl) hHeld11 ?_
  simp only [Act.put, List.setIfInBounds_toArray, List.set_cons_zero, List.set_cons_succ]
  refine takeD (i := 26) (some 79) (.slice A8 M.length c8) rfl rfl (by kernel_rfl) (by kernel_rfl) (by kernel_rfl) (fun _ _ _ h => h) (Or.inl ⟨by rfl, fun _ _ => rfl⟩) hHeld11 ?_
  simp only [Act.put, List.setIfInBounds_toArray, List.set_cons_zero, List.set_cons_succ]
  refine takeD (i := 27) (some 80) (.slice (some ⟨b, off, none⟩) len0 cap0) rfl rfl (by kernel_rfl) (by kernel_rfl) (by kernel_rfl) (fun _ _ _ h => h) (Or.inl ⟨by rfl, fun _ _ => rfl⟩) hHeld11 ?_
  simp only [Act.put, List.setIfInBounds_toArray, List.set_cons_zero, List.set_cons_succ]
  refine takeD (i := 28) (some 81) (.int .i64 (j : Int)) rfl rfl (by kernel_rfl) (by kernel_rfl) (by kernel_rfl) (fun _ _ _ h => h) (Or.inl ⟨by rfl, fun _ _ => rfl⟩) hHeld11 ?_
  simp only [Act.put, List.setIfInBounds_toArray, List.set_cons_zero, List.set_cons_succ]
  refine takeD (i := 29) (some 82) (.slice A1 j cap0) rfl rfl (by kernel_rfl) (by kernel_rfl) (by kernel_rfl) (fun _ _ _ h => h) (yields_sliceW (by rfl) (.tmp 80) (.tmp 81) rfl (.slice (some ⟨b, off, none⟩) len0 cap0) (.int .i64 (j : Int)) _ rfl rfl HR1.out) hHeld11 ?_
  simp only [Act.put, List.setIfInBounds_toArray, List.set_cons_zero, List.set_cons_succ]
  refine takeD (i := 32) (some 85) (.agg (bcells R)) rfl rfl (by kernel_rfl) (by kernel_rfl) (by kernel_rfl) (fun _ _ _ h => h) (yields_loadW (by rfl) (.tmp 5) rfl g5 0 R rfl (fun _ h => h.1) HRL.out) hHeld11 ?_
  simp only [Act.put, List.setIfInBounds_toArray, List.set_cons_zero, List.set_cons_succ]
  refine wpAnyH_ready (rs := [30]) (by kernel_rfl) (by decide) ?_
  refine AllReadyH.cons rfl (fun K' hK => ?_) AllReadyH.nil
  go_simp
  refine (own_any A1 j cap0 _ w11 (HD1.out _ BW11) (by omega)).mono ?_
  rintro e12 w12 ⟨A12, c12, rfl, hc12, hd12, hb12⟩
  have HD12 := Lib.hid hd12
  have B12 : Below w10.heap.size w10 w12 := B11.trans (hb12.mono B11.size)
  have BW12 := hb10'.trans (B12.mono hb10'.size)
  clear hd12
  refine hK.out _ _ (KP.out _ B12) (fun hHeld12 => ?_)
  clear hK
  refine wpAnyH_ready (rs := [31]) (by kernel_rfl) (by decide) ?_
  refine AllReadyH.cons rfl (fun K' hK => ?_) AllReadyH.nil
  go_simp
  refine (HVT.out A12 c12 w12 hc12 HD12.out (HT.out.below BW12)).mono ?_
  rintro e13 w13 ⟨rfl, hb13⟩
  have B13 : Below w10.heap.size w10 w13 := B12.trans (hb13.mono B12.size)
  have BW13 := hb10'.trans (B13.mono hb10'.size)
  refine hK.out _ _ (KP.out _ B13) (fun hHeld13 => ?_)
  clear hK
  refine wpAnyH_ready (rs := [33]) (by kernel_rfl) (by decide) ?_
  refine AllReadyH.cons rfl (fun K' hK => ?_) AllReadyH.nil
  go_simp
  refine (HJ.out A8 c8 w13 HC8.out (HD8'.out.below B13) (HB.out.below BW13) (HT.out.below BW13)).mono ?_
  rintro e14 w14 ⟨rfl, hb14⟩
  have B14 : Below w10.heap.size w10 w14 := B13.trans (hb14.mono B13.size)
  have BW14 := hb10'.trans (B14.mono hb10'.size)
  refine hK.out _ _ (KP.out _ B14) (fun hHeld14 => ?_)
  clear hK
  (try simp only [Act.put, List.setIfInBounds_toArray, List.set_cons_zero, List.set_cons_succ])
  refine takeD (i := 34) (some 87) (.bool true) rfl rfl (by kernel_rfl) (by kernel_rfl) (by kernel_rfl) (fun _ _ _ h => h) (Or.inl ⟨by rfl, fun _ _ => rfl⟩) hHeld14 ?_
  simp only [Act.put, List.setIfInBounds_toArray, List.set_cons_zero, List.set_cons_succ]
  refine takeD (i := 35) (some 88) (.bool true) rfl rfl (by kernel_rfl) (by kernel_rfl) (by kernel_rfl) (fun _ _ _ h => h) (Or.inl ⟨by rfl, fun _ _ => rfl⟩) hHeld14 ?_
  simp only [Act.put, List.setIfInBounds_toArray, List.set_cons_zero, List.set_cons_succ]
  refine takeD (i := 36) (some 89) (.slice (some ⟨b, off, none⟩) len0 cap0) rfl rfl (by kernel_rfl) (by kernel_rfl) (by kernel_rfl) (fun _ _ _ h => h) (Or.inl ⟨by rfl, fun _ _ => rfl⟩) hHeld14 ?_
  simp only [Act.put, List.setIfInBounds_toArray, List.set_cons_zero, List.set_cons_succ]
  refine takeD (i := 37) (some 90) (.int .i64 (len0 : Int)) rfl rfl (by kernel_rfl) (by kernel_rfl) (by kernel_rfl) (fun _ _ _ h => h) (yields_len (by rfl) (.tmp 89) rfl _ len0 cap0 rfl) hHeld14 ?_
  simp only [Act.put, List.setIfInBounds_toArray, List.set_cons_zero, List.set_cons_succ]
  refine takeD (i := 38) (some 91) (.slice (some ⟨b, off, none⟩) len0 cap0) rfl rfl (by kernel_rfl) (by kernel_rfl) (by kernel_rfl) (fun _ _ _ h => h) (Or.inl ⟨by rfl, fun _ _ => rfl⟩) hHeld14 ?_
  simp only [Act.put, List.setIfInBounds_toArray, List.set_cons_zero, List.set_cons_succ]
  refine takeD (i := 39) (some 92) (.int .i64 (len0 : Int)) rfl rfl (by kernel_rfl) (by kernel_rfl) (by kernel_rfl) (fun _ _ _ h => h) (yields_len (by rfl) (.tmp 91) rfl _ len0 cap0 rfl) hHeld14 ?_
  simp only [Act.put, List.setIfInBounds_toArray, List.set_cons_zero, List.set_cons_succ]
  refine takeD (i := 40) (some 93) (.slice A10 0 c10) rfl rfl (by kernel_rfl) (by kernel_rfl) (by kernel_rfl) (fun _ _ _ h => h) (Or.inl ⟨by rfl, fun _ _ => rfl⟩) hHeld14 ?_
  simp only [Act.put, List.setIfInBounds_toArray, List.set_cons_zero, List.set_cons_succ]
  refine takeD (i := 41) (some 94) (.agg (bcells R)) rfl rfl (by kernel_rfl) (by kernel_rfl) (by kernel_rfl) (fun _ _ _ h => h) (yields_loadW (by rfl) (.tmp 5) rfl g5 0 R rfl (fun _ h => h.1) HRL.out) hHeld14 ?_
  simp only [Act.put, List.setIfInBounds_toArray, List.set_cons_zero, List.set_cons_succ]
  refine takeD (i := 42) (some 95) (.agg (bcells R)) rfl rfl (by kernel_rfl) (by kernel_rfl) (by kernel_rfl) (fun _ _ _ h => h) (yields_loadW (by rfl) (.tmp 5) rfl g5 0 R rfl (fun _ h => h.1) HRL.out) hHeld14 ?_
  simp only [Act.put, List.setIfInBounds_toArray, List.set_cons_zero, List.set_cons_succ]
  refine wpAnyH_ready (rs := [43]) (by kernel_rfl) (by decide) ?_
  refine AllReadyH.cons rfl (fun K' hK => ?_) AllReadyH.nil
  go_simp
  refine (HK.out A10 c10 w14 (HD10.out.below B14) (HB.out.below BW14) (HT.out.below BW14)).mono ?_
  rintro e15 w15 ⟨rfl, hb15⟩
  have B15 : Below w10.heap.size w10 w15 := B14.trans (hb15.mono B14.size)
  have BW15 := hb10'.trans (B15.mono hb10'.size)
  refine hK.out _ _ (KP.out _ B15) (fun hHeld15 => ?_)
  clear hK
  (try simp only [Act.put, List.setIfInBounds_toArray, List.set_cons_zero, List.set_cons_succ])
  refine takeD (i := 44) (some 97) (.bool true) rfl rfl (by kernel_rfl) (by kernel_rfl) (by kernel_rfl) (fun _ _ _ h => h) (Or.inl ⟨by rfl, fun _ _ => rfl⟩) hHeld15 ?_
  simp only [Act.put, List.setIfInBounds_toArray, List.set_cons_zero, List.set_cons_succ]
  refine takeD (i := 45) (some 98) (.bool true) rfl rfl (by kernel_rfl) (by kernel_rfl) (by kernel_rfl) (fun _ _ _ h => h) (Or.inl ⟨by rfl, fun _ _ => rfl⟩) hHeld15 ?_
  simp only [Act.put, List.setIfInBounds_toArray, List.set_cons_zero, List.set_cons_succ]
  refine wpAnyH_ready (rs := [46]) (by kernel_rfl) (by decide) ?_
  refine AllReadyH.cons rfl (fun K' hK => ?_) AllReadyH.nil
  go_simp
  refine (awake_any w15 (HT.out.below BW15)).mono ?_
  rintro e16 w16 ⟨rfl, hb16⟩
  have B16 : Below w10.heap.size w10 w16 := B15.trans (hb16.mono B15.size)
  have BW16 := hb10'.trans (B16.mono hb10'.size)
  refine hK.out _ _ (KP.out _ B16) (fun hHeld16 => ?_)
  clear hK
  (try simp only [Act.put, List.setIfInBounds_toArray, List.set_cons_zero, List.set_cons_succ])
  refine takeD (i := 47) (some 100) (.bool true) rfl rfl (by kernel_rfl) (by kernel_rfl) (by kernel_rfl) (fun _ _ _ h => h) (Or.inl ⟨by rfl, fun _ _ => rfl⟩) hHeld16 ?_
  simp only [Act.put, List.setIfInBounds_toArray, List.set_cons_zero, List.set_cons_succ]
  refine takeD (i := 48) (some 4) (.bool true) rfl rfl (by kernel_rfl) (by kernel_rfl) (by kernel_rfl) (fun _ _ _ h => h) (Or.inl ⟨by rfl, fun _ _ => rfl⟩) hHeld16 ?_
  simp only [Act.put, List.setIfInBounds_toArray, List.set_cons_zero, List.set_cons_succ]
  (try simp only [Act.put, List.setIfInBounds_toArray])
  refine wpAnyH_done (by kernel_rfl) ?_ _
  refine NoPanic.normal ?_
  go_wp2_with fail
  go_ret
  exact ⟨rfl, BW16⟩
set_option maxRecDepth 100000 in
set_option maxHeartbeats 400000 in
theorem walk (w : World) (a0 : Option Addr) (len0 cap0 : Nat) (l0 : List (List UInt8)) (w0 : Ds w a0 len0 l0) (s0 : len0 ≤ cap0) (a1 : Int) (_w1 : (Lit.int .i64 a1).wf = true) (hT : TabB w ∧ Tab 2 w) :
    Calls Tryd.prog 7 #[.slice a0 len0 cap0, .int .i64 a1] w fun e w' => e = .returned (.bool true) ∧ Below w.heap.size w w' := by
  have HT := Lib.hid hT.2
  by_cases h100 : len0 ≤ 100
  · by_cases hz : len0 = 0
    · subst hz
      clear w0 hT _w1
      go_enter Tryd.func7, Tryd.ntmps7
      go_wp2_with (go_at_call 10; refine (awake_any w HT.out).mono ?_; rintro e4 w4 ⟨rfl, hb4⟩)
      go_ret
      exact ⟨rfl, hb4⟩
    · exact walk_in w a0 len0 cap0 l0 w0 s0 a1 h100 hz hT
  · have i0 : 100 < (len0 : Int) := by omega
    clear w0 hT _w1
    go_enter Tryd.func7, Tryd.ntmps7
    go_wp2_with (go_at_call 10; refine (awake_any w HT.out).mono ?_; rintro e4 w4 ⟨rfl, hb4⟩)
    go_ret
    exact ⟨rfl, hb4⟩

set_option maxRecDepth 100000 in
theorem lifted (os : Os) (started : os.Started) (H : Type) (enc : TypeId × Value → H) :
    ReturnsInHanded {} Tryd.checked os 7 .any (fun w args => (Rows.proofBackSpec.pre enc Tryd.prog Tryd.f7 Rows.proofBackRow.domain false w args ∧ laidMetH Tryd.prog layB w) ∧ sizedMet enc Tryd.prog Tryd.f7 (OpenSpec.ofChange Rows.proofBackSpec) false w args)
      (Rows.proofBackSpec.post enc Tryd.prog Tryd.f7 false true false false) := by
  refine returnsInHanded_of_change_and (C := Tryd.checked) (X := fun w _ => laidMetH Tryd.prog layB w) (fun _ _ _ hh h => h.of_heap hh) own started (by kernel_rfl) Tryd.func7
    (ChangeSpec.witness_shaped (enc := enc) (C := Tryd.checked) (os := os) (X := fun w _ => laidMetH Tryd.prog layB w) false (World.laidAll Tryd.prog os layB) #[.slice none 0 0, .int .i64 0] 8 rfl (World.shaped_of_ZipB (by kernel_rfl) (by kernel_rfl)) (by kernel_rfl) (by kernel_rfl) (by kernel_rfl) (metB os _)) ?_
  intro W base args ds gs before hval0 hW hcnd hsz0 hL _
  have hval : ∀ (j : Nat) t v, Tryd.f7.params[j]? = some t → args[j]? = some v → Value.okWide Tryd.prog W .any base t v := hval0
  have hW' := hW
  obtain ⟨p, q, hA0, hV, rfl, hfz, hnd⟩ := hW
  have hA : DataW.TrodAll enc Tryd.prog W 0 (fun _ => true) true Tryd.f7.params.toList args.toList ds p := hA0
  have hsz : (DataW.weightsEach Tryd.prog (Tryd.f7.params.toList ++ Rows.proofBackSpec.plain.varTypes Tryd.prog) (ds ++ gs)).all (· ≤ reachBytes) = true := hsz0
  rw [Tryd.params7] at hA hval hsz
  obtain ⟨v0, vs0, d0, ds0, p0, q0, hargs, rfl, rfl, h0, r0⟩ := trodAll_cons hA
  obtain ⟨v1, vs1, d1, ds1, p1, q1, rfl, rfl, rfl, h1, r1⟩ := trodAll_cons r0
  obtain ⟨rfl, rfl, rfl⟩ := trodAll_nil r1
  obtain rfl : args = #[v0, v1] := by cases args; simp_all
  obtain ⟨rfl, rfl⟩ := trodVars_none hV
  have k0 := h0
  have lt0 : ∀ x ∈ p0, x.block < W.heap.size := by obtain ⟨m, hm⟩ := k0; exact DataW.trod_lt m _ _ _ hm
  obtain ⟨a0, len0, cap0, l0, rfl, w0, s0⟩ := open_ds (hval 0 22 v0 rfl rfl) h0
  obtain ⟨a1, rfl, rfl, rfl, w1⟩ := open_int Tryd.underlying3 (hval 1 3 v1 rfl rfl) h1
  have hTab := of_layB hL
  clear hA0 hval0
  refine (walk W a0 len0 cap0 l0 w0 s0 a1 w1 hTab).mono fun e W' ⟨he, bel⟩ => ?_
  subst he
  exact ⟨_, rfl, _, _, _, [], _, [], hW', trodAll_mk1 (shut_bool Tryd.underlying4 _), (trodAll_cons_mk (Below.trod laidOut (by kernel_rfl) (of_decide_eq_true (by kernel_rfl)) k0 bel lt0) (trodAll_cons_mk (shut_int Tryd.underlying3 w1) trodAll_mk0)), rfl, bel.frame _, fun h => by cases h⟩
theorem over : Rows.proofBackRow.holds Tryd.pinned (OpenSpec.ofChange Rows.proofBackSpec) :=
  OpenClaim.holds_of_wide 7 Tryd.f7 rfl rfl rfl rfl rfl rfl rfl ⟨rfl, rfl, rfl, rfl, rfl⟩ rfl rfl rfl rfl rfl (by kernel_rfl) Tryd.func7 (by kernel_rfl)
    (of_decide_eq_true (by kernel_rfl)) (by unfold Func.isWrapper; first | (rw [if_pos (by decide +kernel)]; kernel_rfl) | (rw [if_neg (by decide +kernel)]; exact ⟨rfl, rfl⟩))
    (fun os started H enc _ => lifted os started H enc)
theorem proofBack_holds : Rows.ProofBackCardSaid :=
  Claim7.holds_tied_plain_at .later [] [.data, .data, .data] true (true, "94cbc27510e38751a60ab1ffe97d8db4da220d4986d50e976b7ed11b3ca8a243") false
    over (fun _ h => by cases h) (by kernel_rfl) (fun _ h => by cases h) proofBack_row_tie rfl ⟨rfl, rfl⟩ (by kernel_rfl) rfl
    (fun f fn hf hfn => by
      obtain rfl : f = 7 := Option.some.inj ((show Tryd.prog.funcNamed "jurat/juratlaw08.ProofBack" = some 7 by kernel_rfl).symm.trans hf) |>.symm
      obtain rfl : fn = Tryd.f7 := (Option.some.inj (Tryd.func7.symm.trans hfn)).symm
      exact ⟨by kernel_rfl, fun j t ht => by
        rw [Tryd.params7] at ht
        have hm : t ∈ [22, 3] := by simpa using Array.mem_of_getElem? ht
        have hall : ([22, 3].all fun u => !Tryd.prog.wantsStandIn u) = true := by kernel_rfl
        exact (show Tryd.prog.wantsStandIn t = false by simpa using List.all_eq_true.1 hall t hm)⟩)
    (by kernel_rfl)
#print axioms proofBack_holds
end Go.Proofs.YtojepkhooabjiaaDoor.proofBack
