/-
  ProofGrows, whole, as the tied card (Rows.ProofGrowsCardSaid): for every list of digests (2 to 200 of them are looked at) and every digest a list's root is the node of those of its parts at the split, and behind a power of two a new digest stands beside all; of one digest the root is that digest; and the document's example of three leaves. Conditions: the table sha.constants reads as its initialiser lays it (tied to the program's text).
-/
import Derived.Test.YtojepkhooabjiaaDoorRows
import Derived.Test.YtojepkhooabjiaaDoorCards
import Derived.Test.YtojepkhooabjiaaDoorTie
import Derived.WalkKit
import Derived.ProofKit
import Derived.OpenShut
import Derived.ChangeMaps5
import Derived.ShutString
import Derived.ChangeOld
import Derived.Below
import Derived.SizedLaws
import Derived.SevenTiedAt
import Derived.Lay
import Derived.LaidLaws
import Derived.Test.YtojepkhooabjiaaDoorAwakeA
namespace Go.Proofs.YtojepkhooabjiaaDoor.proofGrows
open Go.ChangeShapes Go.WideShapes Go.ChangeAt Go.RowKit
open Go.ChangeMaps (open_string shut_string)
set_option linter.unusedVariables false
theorem own : ownKnob Tryd.prog.godebug = none := by kernel_rfl
theorem laidOut : laidOutB Tryd.prog = true := by kernel_rfl
theorem step_ofW {P : Program} {ops : Array Oper} {o : Oper} {a : Act} {w : World} {K : Act → World → Prop} {Q : Exit → Act → World → Prop} {E : Prop} (hw : Region.wanted o (yielded ops a.tmps) = true) (h : o.wp P a w K Q) :
    if Region.wanted o (yielded ops a.tmps) = true then Oper.wp P o a w K Q else E := by
  rw [if_pos hw]
  exact h
theorem yields_neI {ops : Array Oper} {S : World → Prop} {o : Oper} {a : Act} (hgd : o.guard = none) (x y : Operand) (ho : o.op = .binOp .neq 3 x y 3) (p q : Int) (b : Bool)
    (hx : a.eval x = .int .i64 p) (hy : a.eval y = .int .i64 q) (hb : (p != q) = b) : YieldsIf Tryd.prog ops S o (.bool b) a :=
  .inl ⟨by simp [Region.wanted, hgd], fun w _ => by
    unfold execOp
    simp only [ho, hx, hy]
    go_simp⟩
theorem wpList_emptyO {ops : Array Oper} {rest : List Oper} {o : Oper} {a : Act} {w : World} {Q : Exit → Act → World → Prop} (hgd : o.guard = none) (ho : o.op = .buildSlice 22 0 #[])
    (h : ∀ g w', OwnD w' w.heap.size (.slice (some ⟨g, 0, none⟩) 0 0) 0 [] → Below w.heap.size w w' → wpList Tryd.prog ops Q rest (a.put o.dst (.slice (some ⟨g, 0, none⟩) 0 0)) w') : wpList Tryd.prog ops Q (o :: rest) a w :=
  wpList_plain hgd fun _ hK => wp_emptyD ho (fun g w' _ _ h1 h2 => hK _ _ (h g w' h1 h2))
/-- a copy, as new memory -/
theorem own_own (A : Option Addr) (n c : Nat) (L : List (List UInt8)) (w : World) (hD : Ds w A n L) (hn : n ≤ 1000000) :
    Calls Tryd.prog 12 #[.slice A n c] w fun e w' => ∃ A2 c2, e = .returned (.slice A2 n c2) ∧ OwnD w' w.heap.size (.slice A2 n c2) n L ∧ Below w.heap.size w w' := by
  have HD := Lib.hid hD
  clear hD
  go_enter Tryd.func12, Tryd.ntmps12
  go_wp2_with (first
    | (with_reducible refine wpList_emptyO rfl rfl ?_; intro g1 w1 ho1 hb1; have HO1 := Lib.hid ho1; have hs1 := hb1.size; clear ho1)
    | (at_builtin; refine wpList_appD rfl (.tmp 3) (.tmp 4) rfl w.heap.size _ 0 [] rfl HO1.out A n c L rfl (HD.out.below hb1) (by omega) hs1 ?_; intro A2 c2 w2 ho2 hb2; have HO2 := Lib.hid ho2; clear ho2))
  go_ret
  have h := HO2.out
  rw [Nat.zero_add] at h
  exact ⟨A2, c2, rfl, h, hb1.trans hb2⟩
theorem grow_root {L : List (List UInt8)} {s : Nat} (d : List UInt8) (h : L.length = 2 ^ (s + 1)) : rootL (L ++ [d]) = nodeL (rootL L) d := by
  have hp : 0 < 2 ^ s := Nat.pos_of_ne_zero (by simp)
  have e2 : 2 ^ (s + 1) = 2 * 2 ^ s := by rw [Nat.pow_succ, Nat.mul_comm]
  have hl : (L ++ [d]).length = 2 ^ (s + 1) + 1 := by rw [List.length_append, h]; rfl
  have hs : splitN (L ++ [d]).length = L.length := by
    rw [hl, h]
    exact splitN_eq (by omega) (by rw [Nat.pow_succ]; omega)
  have q := rootP_two nodeL (sumL []) (L := L ++ [d]) (by omega)
  rw [hs, List.take_left, List.drop_left, rootP_one] at q
  exact q
set_option maxRecDepth 100000 in
set_option maxHeartbeats 1000000 in
theorem walk_few (w : World) (a0 : Option Addr) (len0 cap0 : Nat) (s1 : List UInt8) (w1 : s1.length = 32) (h : 200 < len0 ∨ len0 < 2) (hT : Tab 2 w) :
    Calls Tryd.prog 9 #[.slice a0 len0 cap0, .agg (bcells s1)] w fun e w' => e = .returned (.bool true) ∧ Below w.heap.size w w' := by
  have HT := Lib.hid hT
  have HL1 := Lib.hid w1
  have HRO := Lib.hid (fun A c wq hc hD hT => show Calls Tryd.prog 11 #[.slice A 1 c] wq fun e w' => e = .returned (.agg (bcells s1)) ∧ Below wq.heap.size wq w' by have q := root_ok A 1 c [s1] wq (by omega) hc hD hT; rwa [show rootL [s1] = s1 from rootP_one nodeL (sumL []) s1] at q)
  have hb0 := (Below.refl w.heap.size w).alloc (Nat.le_refl _) (.cells (bcells s1) 24)
  have HR1 := Lib.hid (Row.new w 24 (bcells s1))
  obtain ⟨wz, hwz⟩ : ∃ wz, w.alloc (.cells (bcells s1) 24) = wz := ⟨_, rfl⟩
  rw [hwz] at hb0 HR1
  have KP : Hid (∀ wq, Below wz.heap.size wz wq → wq.rangeAt w.heap.size 0 (s1.map bcell)) := Lib.hid (fun wq hb => range_row (HR1.out.below hb HR1.out.lt))
  have B0 : Below wz.heap.size wz wz.drew := (Below.refl wz.heap.size wz).drew
  clear hT w1
  by_cases h200 : 200 < len0
  · have i0 : 200 < (len0 : Int) := by omega
    clear h
    go_enter Tryd.func9, Tryd.ntmps9
    go_wp2_with fail
    clear hwz
    refine wp_region_noPanic ?_
    refine wp_region_held_drew (S := fun w' => w'.rangeAt w.heap.size 0 (s1.map bcell)) (by kernel_rfl) (KP.out _ B0) (fun hHeld => ?_)
    refine takeD (i := 0) (some 15) (.agg (bcells s1)) rfl rfl (by kernel_rfl) (by kernel_rfl) (by kernel_rfl) (fun _ _ _ h => h) (yields_loadW (by rfl) (.tmp 3) rfl _ 0 s1 rfl (fun _ h => h) HL1.out) hHeld ?_
    simp only [Act.put, List.setIfInBounds_toArray, List.set_cons_zero, List.set_cons_succ]
    refine takeD (i := 3) (some 18) (.agg (bcells s1)) rfl rfl (by kernel_rfl) (by kernel_rfl) (by kernel_rfl) (fun _ _ _ h => h) (yields_loadW (by rfl) (.tmp 3) rfl _ 0 s1 rfl (fun _ h => h) HL1.out) hHeld ?_
    simp only [Act.put, List.setIfInBounds_toArray, List.set_cons_zero, List.set_cons_succ]
    refine wpAnyH_ready (rs := [1]) (by kernel_rfl) (by decide) ?_
    refine AllReadyH.cons rfl (fun K' hK => ?_) AllReadyH.nil
    refine step_of rfl (wp_build1 (.tmp 15) rfl s1 rfl HL1.out ?_)
    intro g5 w5 hd5 hb5
    have HD5 := Lib.hid hd5
    have B5 : Below wz.heap.size wz w5 := B0.trans (hb5.mono B0.size)
    have BW5 := hb0.trans (B5.mono hb0.size)
    clear hd5
    refine hK.out _ _ (KP.out _ B5) (fun hHeld5 => ?_)
    clear hK
    refine wpAnyH_ready (rs := [2]) (by kernel_rfl) (by decide) ?_
    refine AllReadyH.cons rfl (fun K' hK => ?_) AllReadyH.nil
    go_simp
    refine (HRO.out (some ⟨g5, 0, none⟩) 1 w5 (Nat.le_refl _) HD5.out (HT.out.below BW5)).mono ?_
    rintro e6 w6 ⟨rfl, hb6⟩
    have B6 : Below wz.heap.size wz w6 := B5.trans (hb6.mono B5.size)
    have BW6 := hb0.trans (B6.mono hb0.size)
    refine hK.out _ _ (KP.out _ B6) (fun hHeld6 => ?_)
    clear hK
    (try simp only [Act.put, List.getElem_toArray, List.getElem_cons_succ, List.getElem_cons_zero, List.setIfInBounds_toArray, List.set_cons_zero, List.set_cons_succ])
    refine takeD (i := 4) (some 19) (.bool true) rfl rfl (by kernel_rfl) (by kernel_rfl) (by kernel_rfl) (fun _ _ _ h => h) (yields_eqlW (by rfl) (.tmp 17) (.tmp 18) rfl s1 s1 true rfl rfl HL1.out HL1.out (by simp)) hHeld6 ?_
    simp only [Act.put, List.setIfInBounds_toArray, List.set_cons_zero, List.set_cons_succ]
    refine takeD (i := 5) (some 20) (.bool true) rfl rfl (by kernel_rfl) (by kernel_rfl) (by kernel_rfl) (fun _ _ _ h => h) (Or.inl ⟨by rfl, fun _ _ => rfl⟩) hHeld6 ?_
    simp only [Act.put, List.setIfInBounds_toArray, List.set_cons_zero, List.set_cons_succ]
    refine wpAnyH_ready (rs := [6]) (by kernel_rfl) (by decide) ?_
    refine AllReadyH.cons rfl (fun K' hK => ?_) AllReadyH.nil
    go_simp
    refine (awake_any w6 (HT.out.below BW6)).mono ?_
    rintro e7 w7 ⟨rfl, hb7⟩
    have B7 : Below wz.heap.size wz w7 := B6.trans (hb7.mono B6.size)
    have BW7 := hb0.trans (B7.mono hb0.size)
    refine hK.out _ _ (KP.out _ B7) (fun hHeld7 => ?_)
    clear hK
    (try simp only [Act.put, List.setIfInBounds_toArray, List.set_cons_zero, List.set_cons_succ])
    refine takeD (i := 7) (some 22) (.bool true) rfl rfl (by kernel_rfl) (by kernel_rfl) (by kernel_rfl) (fun _ _ _ h => h) (Or.inl ⟨by rfl, fun _ _ => rfl⟩) hHeld7 ?_
    simp only [Act.put, List.setIfInBounds_toArray, List.set_cons_zero, List.set_cons_succ]
    refine takeD (i := 8) (some 4) (.bool true) rfl rfl (by kernel_rfl) (by kernel_rfl) (by kernel_rfl) (fun _ _ _ h => h) (Or.inl ⟨by rfl, fun _ _ => rfl⟩) hHeld7 ?_
    simp only [Act.put, List.setIfInBounds_toArray, List.set_cons_zero, List.set_cons_succ]
    (try simp only [Act.put, List.setIfInBounds_toArray])
    refine wpAnyH_done (by kernel_rfl) ?_ _
    refine NoPanic.normal ?_
    go_wp2_with fail
    go_ret
    exact ⟨rfl, BW7⟩
  · have i0 : ¬ 200 < (len0 : Int) := by omega
    have i1 : (len0 : Int) < 2 := by omega
    clear h
    go_enter Tryd.func9, Tryd.ntmps9
    go_wp2_with fail
    clear hwz
    refine wp_region_noPanic ?_
    refine wp_region_held_drew (S := fun w' => w'.rangeAt w.heap.size 0 (s1.map bcell)) (by kernel_rfl) (KP.out _ B0) (fun hHeld => ?_)
    refine takeD (i := 0) (some 15) (.agg (bcells s1)) rfl rfl (by kernel_rfl) (by kernel_rfl) (by kernel_rfl) (fun _ _ _ h => h) (yields_loadW (by rfl) (.tmp 3) rfl _ 0 s1 rfl (fun _ h => h) HL1.out) hHeld ?_
    simp only [Act.put, List.setIfInBounds_toArray, List.set_cons_zero, List.set_cons_succ]
    refine takeD (i := 3) (some 18) (.agg (bcells s1)) rfl rfl (by kernel_rfl) (by kernel_rfl) (by kernel_rfl) (fun _ _ _ h => h) (yields_loadW (by rfl) (.tmp 3) rfl _ 0 s1 rfl (fun _ h => h) HL1.out) hHeld ?_
    simp only [Act.put, List.setIfInBounds_toArray, List.set_cons_zero, List.set_cons_succ]
    refine wpAnyH_ready (rs := [1]) (by kernel_rfl) (by decide) ?_
    refine AllReadyH.cons rfl (fun K' hK => ?_) AllReadyH.nil
    refine step_of rfl (wp_build1 (.tmp 15) rfl s1 rfl HL1.out ?_)
    intro g5 w5 hd5 hb5
    have HD5 := Lib.hid hd5
    have B5 : Below wz.heap.size wz w5 := B0.trans (hb5.mono B0.size)
    have BW5 := hb0.trans (B5.mono hb0.size)
    clear hd5
    refine hK.out _ _ (KP.out _ B5) (fun hHeld5 => ?_)
    clear hK
    refine wpAnyH_ready (rs := [2]) (by kernel_rfl) (by decide) ?_
    refine AllReadyH.cons rfl (fun K' hK => ?_) AllReadyH.nil
    go_simp
    refine (HRO.out (some ⟨g5, 0, none⟩) 1 w5 (Nat.le_refl _) HD5.out (HT.out.below BW5)).mono ?_
    rintro e6 w6 ⟨rfl, hb6⟩
    have B6 : Below wz.heap.size wz w6 := B5.trans (hb6.mono B5.size)
    have BW6 := hb0.trans (B6.mono hb0.size)
    refine hK.out _ _ (KP.out _ B6) (fun hHeld6 => ?_)
    clear hK
    (try simp only [Act.put, List.getElem_toArray, List.getElem_cons_succ, List.getElem_cons_zero, List.setIfInBounds_toArray, List.set_cons_zero, List.set_cons_succ])
    refine takeD (i := 4) (some 19) (.bool true) rfl rfl (by kernel_rfl) (by kernel_rfl) (by kernel_rfl) (fun _ _ _ h => h) (yields_eqlW (by rfl) (.tmp 17) (.tmp 18) rfl s1 s1 true rfl rfl HL1.out HL1.out (by simp)) hHeld6 ?_
    simp only [Act.put, List.setIfInBounds_toArray, List.set_cons_zero, List.set_cons_succ]
    refine takeD (i := 5) (some 20) (.bool true) rfl rfl (by kernel_rfl) (by kernel_rfl) (by kernel_rfl) (fun _ _ _ h => h) (Or.inl ⟨by rfl, fun _ _ => rfl⟩) hHeld6 ?_
    simp only [Act.put, List.setIfInBounds_toArray, List.set_cons_zero, List.set_cons_succ]
    refine wpAnyH_ready (rs := [6]) (by kernel_rfl) (by decide) ?_
    refine AllReadyH.cons rfl (fun K' hK => ?_) AllReadyH.nil
    go_simp
    refine (awake_any w6 (HT.out.below BW6)).mono ?_
    rintro e7 w7 ⟨rfl, hb7⟩
    have B7 : Below wz.heap.size wz w7 := B6.trans (hb7.mono B6.size)
    have BW7 := hb0.trans (B7.mono hb0.size)
    refine hK.out _ _ (KP.out _ B7) (fun hHeld7 => ?_)
    clear hK
    (try simp only [Act.put, List.setIfInBounds_toArray, List.set_cons_zero, List.set_cons_succ])
    refine takeD (i := 7) (some 22) (.bool true) rfl rfl (by kernel_rfl) (by kernel_rfl) (by kernel_rfl) (fun _ _ _ h => h) (Or.inl ⟨by rfl, fun _ _ => rfl⟩) hHeld7 ?_
    simp only [Act.put, List.setIfInBounds_toArray, List.set_cons_zero, List.set_cons_succ]
    refine takeD (i := 8) (some 4) (.bool true) rfl rfl (by kernel_rfl) (by kernel_rfl) (by kernel_rfl) (fun _ _ _ h => h) (Or.inl ⟨by rfl, fun _ _ => rfl⟩) hHeld7 ?_
    simp only [Act.put, List.setIfInBounds_toArray, List.set_cons_zero, List.set_cons_succ]
    (try simp only [Act.put, List.setIfInBounds_toArray])
    refine wpAnyH_done (by kernel_rfl) ?_ _
    refine NoPanic.normal ?_
    go_wp2_with fail
    go_ret
    exact ⟨rfl, BW7⟩
set_option maxRecDepth 100000 in
set_option maxHeartbeats 4000000 in
theorem walk_in (w : World) (a0 : Option Addr) (len0 cap0 : Nat) (l0 : List (List UInt8)) (w0 : Ds w a0 len0 l0) (s0 : len0 ≤ cap0) (s1 : List UInt8) (w1 : s1.length = 32) (h200 : len0 ≤ 200) (h2 : 2 ≤ len0) (hT : Tab 2 w) :
    Calls Tryd.prog 9 #[.slice a0 len0 cap0, .agg (bcells s1)] w fun e w' => e = .returned (.bool true) ∧ Below w.heap.size w w' := by
  have HT := Lib.hid hT
  have HL1 := Lib.hid w1
  have HD := Lib.hid w0
  have i0 : ¬ 200 < (len0 : Int) := by omega
  have i1 : ¬ (len0 : Int) < 2 := by omega
  have HRL := Lib.hid (rootL_length l0 w0.2.1)
  have HRT := Lib.hid (fun A c wq hc hD hT => root_ok A len0 c l0 wq (by omega) hc hD hT)
  have HRS := Lib.hid (show (bcells (rootL l0)).size = 32 by rw [bcells_size]; exact rootL_length l0 w0.2.1)
  have HRX := Lib.hid (rootL_length (l0.take (splitN len0)) (w0.2.1.take _))
  have HRY := Lib.hid (rootL_length (l0.drop (splitN len0)) (w0.2.1.drop _))
  have HTX := Lib.hid (fun A c wq hc hD hT => root_ok A (splitN len0) c (l0.take (splitN len0)) wq (by have := splitN_lt h2; omega) hc hD hT)
  have HTY := Lib.hid (fun A c wq hc hD hT => root_ok A (len0 - splitN len0) c (l0.drop (splitN len0)) wq (by omega) hc hD hT)
  have HEQ := Lib.hid (show rootL l0 = nodeL (rootL (l0.take (splitN len0))) (rootL (l0.drop (splitN len0))) by have q := rootP_two nodeL (sumL []) (L := l0) (by rw [w0.1]; exact h2); rwa [w0.1] at q)
  have HGR := Lib.hid (fun s (h : len0 = 2 ^ (s + 1)) => grow_root (L := l0) s1 (w0.1.trans h))
  have HGL := Lib.hid (show Digs (l0 ++ [s1]) from w0.2.1.app (Digs.one w1))
  obtain ⟨R, hR⟩ : ∃ R, rootL l0 = R := ⟨_, rfl⟩
  rw [hR] at HRL HRT HRS HEQ HGR
  obtain ⟨X, hX⟩ : ∃ X, rootL (l0.take (splitN len0)) = X := ⟨_, rfl⟩
  rw [hX] at HRX HTX HEQ
  obtain ⟨Y, hY⟩ : ∃ Y, rootL (l0.drop (splitN len0)) = Y := ⟨_, rfl⟩
  rw [hY] at HRY HTY HEQ
  have HNXY := Lib.hid (fun wq hT => show Calls Tryd.prog 14 #[.agg (bcells X), .agg (bcells Y)] wq fun e w' => e = .returned (.agg (bcells R)) ∧ Below wq.heap.size wq w' by have q := Node_any X Y wq HRX.out HRY.out hT; rwa [← HEQ.out] at q)
  have HNR := Lib.hid (fun wq hT => Node_any R s1 wq HRL.out HL1.out hT)
  have HNRL := Lib.hid (nodeL_length R s1)
  have hb0 := (Below.refl w.heap.size w).alloc (Nat.le_refl _) (.cells (bcells s1) 24)
  have HR1 := Lib.hid (Row.new w 24 (bcells s1))
  obtain ⟨wz, hwz⟩ : ∃ wz, w.alloc (.cells (bcells s1) 24) = wz := ⟨_, rfl⟩
  rw [hwz] at hb0 HR1
  have H2 := Lib.hid h2
  clear hT w1 w0 hR hX hY h2
  go_enter Tryd.func9, Tryd.ntmps9
  go_wp2
  clear hwz
  go_loopw [5] (fun v wr => ∃ s T : Nat, T = 2 ^ s ∧ v = .int .i64 (T : Int) ∧ T < len0 ∧ wr = wz) (fun v _ => len0 - (intOf v).toNat)
  case atStart => exact ⟨0, 1, rfl, rfl, by have := H2.out; omega, rfl⟩
  case round =>
    obtain ⟨s, T, hTs, rfl, hlt, rfl⟩ := hrel
    have HTS := Lib.hid hTs
    have hT0 : 0 < T := by rw [hTs]; exact Nat.pos_of_ne_zero (by simp)
    clear hTs
    by_cases h2T : 2 * T < len0
    · have i2 : 2 * (T : Int) < (len0 : Int) := by omega
      have HLT := Lib.hid h2T
      clear h2T
      go_wp2
      refine ⟨⟨s + 1, 2 * T, by rw [Nat.pow_succ, HTS.out]; omega, by go_num, HLT.out, trivial⟩, ?_⟩
      have := HLT.out
      simp [intOf]
      omega
    · have i2 : ¬ 2 * (T : Int) < (len0 : Int) := by omega
      have hsp : splitN len0 = T := by
        have := HTS.out
        rw [this]
        exact splitN_eq (by omega) (by rw [Nat.pow_succ]; omega)
      rw [hsp] at HTX HTY
      have HLE := Lib.hid h2T
      obtain ⟨A1, r1, d1, _⟩ := cutD_head a0 len0 cap0 T (T : Int) rfl (by omega) s0
      obtain ⟨A2, r2, d2, _⟩ := cutD_from a0 len0 cap0 T (T : Int) rfl (by omega) s0
      have HSP := Lib.hid hsp
      obtain ⟨c2, hc2⟩ : ∃ c2, cap0 - T = c2 := ⟨_, rfl⟩
      obtain ⟨m, hm⟩ : ∃ m, len0 - T = m := ⟨_, rfl⟩
      rw [hc2, hm] at r2
      rw [hm] at d2 HTY
      have HR1' := Lib.hid r1
      have HR2' := Lib.hid r2
      have HD1 := Lib.hid (fun w' (hb : Below w.heap.size w w') => d1 w' l0 (HD.out.below hb))
      have HD2 := Lib.hid (fun w' (hb : Below w.heap.size w w') => d2 w' l0 (HD.out.below hb))
      have hTc : T ≤ cap0 := by omega
      have hmc : m ≤ c2 := by omega
      have hm2 : m ≤ 200 := by omega
      have hT200 : T ≤ 200 := by omega
      rw [← HSP.out] at HTX
      rw [HSP.out] at HTX
      clear r1 r2 d1 d2 hc2 hm hsp h2T
      go_wp2_with (first
        | (go_at_call 12; refine (own_any a0 len0 cap0 l0 _ (HD.out.below hb0) (by omega)).mono ?_; rintro e2 w2 ⟨B2, c3, rfl, hc3, hd2, hb2⟩; have HD2x := Lib.hid hd2; have hb2' := hb0.trans (hb2.mono hb0.size); have HR12 := Lib.hid (HR1.out.below hb2 HR1.out.lt); clear hd2)
        | (go_at_call 11; refine (HRT.out B2 c3 w2 hc3 HD2x.out (HT.out.below hb2')).mono ?_; rintro e3 w3 ⟨rfl, hb3⟩; have hb3' := hb2'.trans (hb3.mono hb2'.size); have HR13 := Lib.hid (HR12.out.below hb3 HR12.out.lt))
        | (with_reducible refine wpList_store_row Tryd.agg25 rfl (.tmp 6) (.tmp 32) rfl _ _ rfl rfl 24 lit32 (Row.new w3 24 lit32) HRS.out lit32_size (bcells_one _) ?_; intro w4 hr4 ho4; have HQ4 := Lib.hid hr4; have b4 : Below w3.heap.size w3 w4 := ((Below.refl _ _).alloc (Nat.le_refl _) _).trans (ho4.below (Nat.le_refl _) (by simp)); have hb4' := hb3'.trans (b4.mono hb3'.size); have HR14 := Lib.hid (HR13.out.below b4 HR13.out.lt); clear hr4))
      obtain ⟨g6, hg6⟩ : ∃ g, g = w3.heap.size := ⟨_, rfl⟩
      rw [← hg6] at HQ4 ⊢
      clear hg6
      have KP : Hid (∀ wq, Below w4.heap.size w4 wq → wq.rangeAt w.heap.size 0 (s1.map bcell) ∧ wq.rangeAt g6 0 (R.map bcell)) := Lib.hid (fun wq hb => ⟨range_row (HR14.out.below hb HR14.out.lt), range_row (HQ4.out.below hb HQ4.out.lt)⟩)
      have B0 : Below w4.heap.size w4 w4.drew := (Below.refl w4.heap.size w4).drew
      have BW0 := hb4'.trans (B0.mono hb4'.size)
      refine wp_region_noPanic ?_
      refine wp_region_held_drew (S := fun w' => w'.rangeAt w.heap.size 0 (s1.map bcell) ∧ w'.rangeAt g6 0 (R.map bcell)) (by kernel_rfl) (KP.out _ B0) (fun hHeld => ?_)
      refine takeD (i := 0) (some 33) (.agg (bcells R)) rfl rfl (by kernel_rfl) (by kernel_rfl) (by kernel_rfl) (fun _ _ _ h => h) (yields_loadW (by rfl) (.tmp 6) rfl _ 0 R rfl (fun _ h => h.2) HRL.out) hHeld ?_
      simp only [Act.put, List.setIfInBounds_toArray, List.set_cons_zero, List.set_cons_succ]
      refine takeD (i := 1) (some 34) (.slice a0 len0 cap0) rfl rfl (by kernel_rfl) (by kernel_rfl) (by kernel_rfl) (fun _ _ _ h => h) (Or.inl ⟨by rfl, fun _ _ => rfl⟩) hHeld ?_
      simp only [Act.put, List.setIfInBounds_toArray, List.set_cons_zero, List.set_cons_succ]
      refine takeD (i := 2) (some 35) (.int .i64 (T : Int)) rfl rfl (by kernel_rfl) (by kernel_rfl) (by kernel_rfl) (fun _ _ _ h => h) (Or.inl ⟨by rfl, fun _ _ => rfl⟩) hHeld ?_
      simp only [Act.put, List.setIfInBounds_toArray, List.set_cons_zero, List.set_cons_succ]
      refine takeD (i := 3) (some 36) (.slice A1 T cap0) rfl rfl (by kernel_rfl) (by kernel_rfl) (by kernel_rfl) (fun _ _ _ h => h) (yields_sliceH rfl (.tmp 34) (.tmp 35) rfl _ _ _ rfl rfl HR1'.out) hHeld ?_
      simp only [Act.put, List.setIfInBounds_toArray, List.set_cons_zero, List.set_cons_succ]
      refine takeD (i := 6) (some 39) (.slice a0 len0 cap0) rfl rfl (by kernel_rfl) (by kernel_rfl) (by kernel_rfl) (fun _ _ _ h => h) (Or.inl ⟨by rfl, fun _ _ => rfl⟩) hHeld ?_
      simp only [Act.put, List.setIfInBounds_toArray, List.set_cons_zero, List.set_cons_succ]
      refine takeD (i := 7) (some 40) (.int .i64 (T : Int)) rfl rfl (by kernel_rfl) (by kernel_rfl) (by kernel_rfl) (fun _ _ _ h => h) (Or.inl ⟨by rfl, fun _ _ => rfl⟩) hHeld ?_
      simp only [Act.put, List.setIfInBounds_toArray, List.set_cons_zero, List.set_cons_succ]
      refine takeD (i := 8) (some 41) (.slice A2 m c2) rfl rfl (by kernel_rfl) (by kernel_rfl) (by kernel_rfl) (fun _ _ _ h => h) (yields_sliceF rfl (.tmp 39) (.tmp 40) rfl _ _ _ rfl rfl HR2'.out) hHeld ?_
      simp only [Act.put, List.setIfInBounds_toArray, List.set_cons_zero, List.set_cons_succ]
      refine wpAnyH_ready (rs := [4]) (by kernel_rfl) (by decide) ?_
      refine AllReadyH.cons rfl (fun K' hK => ?_) AllReadyH.nil
      go_simp
      refine (own_any A1 T cap0 _ w4.drew (HD1.out _ BW0) (by omega)).mono ?_
      rintro e5 w5 ⟨A5, c5, rfl, hc5, hd5, hb5⟩
      have HD5 := Lib.hid hd5
      have B5 : Below w4.heap.size w4 w5 := B0.trans (hb5.mono B0.size)
      have BW5 := hb4'.trans (B5.mono hb4'.size)
      clear hd5
      refine hK.out _ _ (KP.out _ B5) (fun hHeld5 => ?_)
      clear hK
      refine wpAnyH_ready (rs := [5]) (by kernel_rfl) (by decide) ?_
      refine AllReadyH.cons rfl (fun K' hK => ?_) AllReadyH.nil
      go_simp
      refine (HTX.out A5 c5 w5 hc5 HD5.out (HT.out.below BW5)).mono ?_
      rintro e6 w6 ⟨rfl, hb6⟩
      have B6 : Below w4.heap.size w4 w6 := B5.trans (hb6.mono B5.size)
      have BW6 := hb4'.trans (B6.mono hb4'.size)
      refine hK.out _ _ (KP.out _ B6) (fun hHeld6 => ?_)
      clear hK
      refine wpAnyH_ready (rs := [9]) (by kernel_rfl) (by decide) ?_
      refine AllReadyH.cons rfl (fun K' hK => ?_) AllReadyH.nil
      go_simp
      refine (own_any A2 m c2 _ w6 (HD2.out _ BW6) (by omega)).mono ?_
      rintro e7 w7 ⟨A7, c7, rfl, hc7, hd7, hb7⟩
      have HD7 := Lib.hid hd7
      have B7 : Below w4.heap.size w4 w7 := B6.trans (hb7.mono B6.size)
      have BW7 := hb4'.trans (B7.mono hb4'.size)
      clear hd7
      refine hK.out _ _ (KP.out _ B7) (fun hHeld7 => ?_)
      clear hK
      refine wpAnyH_ready (rs := [10]) (by kernel_rfl) (by decide) ?_
      refine AllReadyH.cons rfl (fun K' hK => ?_) AllReadyH.nil
      go_simp
      refine (HTY.out A7 c7 w7 hc7 HD7.out (HT.out.below BW7)).mono ?_
      rintro e8 w8 ⟨rfl, hb8⟩
      have B8 : Below w4.heap.size w4 w8 := B7.trans (hb8.mono B7.size)
      have BW8 := hb4'.trans (B8.mono hb4'.size)
      refine hK.out _ _ (KP.out _ B8) (fun hHeld8 => ?_)
      clear hK
      refine wpAnyH_ready (rs := [11]) (by kernel_rfl) (by decide) ?_
      refine AllReadyH.cons rfl (fun K' hK => ?_) AllReadyH.nil
      go_simp
      refine (HNXY.out w8 (HT.out.below BW8)).mono ?_
      rintro e9 w9 ⟨rfl, hb9⟩
      have B9 : Below w4.heap.size w4 w9 := B8.trans (hb9.mono B8.size)
      have BW9 := hb4'.trans (B9.mono hb4'.size)
      refine hK.out _ _ (KP.out _ B9) (fun hHeld9 => ?_)
      clear hK
      (try simp only [Act.put, List.setIfInBounds_toArray, List.set_cons_zero, List.set_cons_succ])
      refine takeD (i := 12) (some 45) (.bool false) rfl rfl (by kernel_rfl) (by kernel_rfl) (by kernel_rfl) (fun _ _ _ h => h) (yields_neqD rfl (.tmp 33) (.tmp 44) rfl R rfl rfl HRL.out) hHeld9 ?_
      simp only [Act.put, List.setIfInBounds_toArray, List.set_cons_zero, List.set_cons_succ]
      (try simp only [Act.put, List.setIfInBounds_toArray])
      refine wpAnyH_done (by kernel_rfl) ?_ _
      refine NoPanic.normal ?_
      have HR19 := Lib.hid (HR14.out.below B9 HR14.out.lt)
      have HQ9 := Lib.hid (HQ4.out.below B9 HQ4.out.lt)
      have KQ : Hid (∀ wq, Below w9.heap.size w9 wq → wq.rangeAt w.heap.size 0 (s1.map bcell) ∧ wq.rangeAt g6 0 (R.map bcell)) := Lib.hid (fun wq hb => ⟨range_row (HR19.out.below hb HR19.out.lt), range_row (HQ9.out.below hb HQ9.out.lt)⟩)
      have C0 : Below w9.heap.size w9 w9.drew := (Below.refl w9.heap.size w9).drew
      have CW0 := BW9.trans (C0.mono BW9.size)
      by_cases h2e : 2 * T = len0
      · have hne : (2 * (T : Int) != (len0 : Int)) = false := by simp; omega
        have HGE := Lib.hid (HGR.out s (by rw [Nat.pow_succ, ← HTS.out]; omega))
        have HRA := Lib.hid (fun A c wq hc hD hT => show Calls Tryd.prog 11 #[.slice A (len0 + 1) c] wq fun e w' => e = .returned (.agg (bcells (nodeL R s1))) ∧ Below wq.heap.size wq w' by have q := root_ok A (len0 + 1) c (l0 ++ [s1]) wq (by omega) hc hD hT; rwa [HGE.out] at q)
        obtain ⟨Z, hZ⟩ : ∃ Z, nodeL R s1 = Z := ⟨_, rfl⟩
        rw [hZ] at HNR HNRL HRA
        clear h2e hZ
        go_wp2_with fail
        refine wp_region_noPanic ?_
        refine wp_region_held_drew (S := fun w' => w'.rangeAt w.heap.size 0 (s1.map bcell) ∧ w'.rangeAt g6 0 (R.map bcell)) (by kernel_rfl) (KQ.out _ C0) (fun hHeld => ?_)
        refine takeD (i := 0) (some 46) (.int .i64 (T : Int)) rfl rfl (by kernel_rfl) (by kernel_rfl) (by kernel_rfl) (fun _ _ _ h => h) (Or.inl ⟨by rfl, fun _ _ => rfl⟩) hHeld ?_
        simp only [Act.put, List.setIfInBounds_toArray, List.set_cons_zero, List.set_cons_succ]
        refine takeD (i := 1) (some 47) (.int .i64 (2 * (T : Int))) rfl rfl (by kernel_rfl) (by kernel_rfl) (by kernel_rfl) (fun _ _ _ h => h) (yields_mul rfl _ (.tmp 46) rfl 2 (T : Int) (2 * (T : Int)) rfl rfl rfl (by omega) (by omega)) hHeld ?_
        simp only [Act.put, List.setIfInBounds_toArray, List.set_cons_zero, List.set_cons_succ]
        refine takeD (i := 2) (some 48) (.slice a0 len0 cap0) rfl rfl (by kernel_rfl) (by kernel_rfl) (by kernel_rfl) (fun _ _ _ h => h) (Or.inl ⟨by rfl, fun _ _ => rfl⟩) hHeld ?_
        simp only [Act.put, List.setIfInBounds_toArray, List.set_cons_zero, List.set_cons_succ]
        refine takeD (i := 3) (some 49) (.int .i64 (len0 : Int)) rfl rfl (by kernel_rfl) (by kernel_rfl) (by kernel_rfl) (fun _ _ _ h => h) (yields_len (by rfl) (.tmp 48) rfl a0 len0 cap0 rfl) hHeld ?_
        simp only [Act.put, List.setIfInBounds_toArray, List.set_cons_zero, List.set_cons_succ]
        refine takeD (i := 4) (some 50) (.bool false) rfl rfl (by kernel_rfl) (by kernel_rfl) (by kernel_rfl) (fun _ _ _ h => h) (yields_neI rfl (.tmp 47) (.tmp 49) rfl (2 * (T : Int)) (len0 : Int) _ rfl rfl hne) hHeld ?_
        simp only [Act.put, List.setIfInBounds_toArray, List.set_cons_zero, List.set_cons_succ]
        refine takeD (i := 5) (some 51) (.bool false) rfl rfl (by kernel_rfl) (by kernel_rfl) (by kernel_rfl) (fun _ _ _ h => h) (Or.inl ⟨by rfl, fun _ _ => rfl⟩) hHeld ?_
        simp only [Act.put, List.setIfInBounds_toArray, List.set_cons_zero, List.set_cons_succ]
        refine takeD (i := 6) (some 52) (.slice a0 len0 cap0) rfl rfl (by kernel_rfl) (by kernel_rfl) (by kernel_rfl) (fun _ _ _ h => h) (Or.inl ⟨by rfl, fun _ _ => rfl⟩) hHeld ?_
        simp only [Act.put, List.setIfInBounds_toArray, List.set_cons_zero, List.set_cons_succ]
        refine takeD (i := 8) (some 54) (.agg (bcells s1)) rfl rfl (by kernel_rfl) (by kernel_rfl) (by kernel_rfl) (fun _ _ _ h => h) (yields_loadW (by rfl) (.tmp 3) rfl _ 0 s1 rfl (fun _ h => h.1) HL1.out) hHeld ?_
        simp only [Act.put, List.setIfInBounds_toArray, List.set_cons_zero, List.set_cons_succ]
        refine takeD (i := 12) (some 58) (.agg (bcells R)) rfl rfl (by kernel_rfl) (by kernel_rfl) (by kernel_rfl) (fun _ _ _ h => h) (yields_loadW (by rfl) (.tmp 6) rfl _ 0 R rfl (fun _ h => h.2) HRL.out) hHeld ?_
        simp only [Act.put, List.setIfInBounds_toArray, List.set_cons_zero, List.set_cons_succ]
        refine takeD (i := 13) (some 59) (.agg (bcells s1)) rfl rfl (by kernel_rfl) (by kernel_rfl) (by kernel_rfl) (fun _ _ _ h => h) (yields_loadW (by rfl) (.tmp 3) rfl _ 0 s1 rfl (fun _ h => h.1) HL1.out) hHeld ?_
        simp only [Act.put, List.setIfInBounds_toArray, List.set_cons_zero, List.set_cons_succ]
        refine wpAnyH_ready (rs := [7, 9]) (by kernel_rfl) (by decide) ?_
        refine AllReadyH.cons rfl (fun K' hK => ?_) (AllReadyH.cons rfl (fun K' hK => ?_) AllReadyH.nil)
        · go_simp
          refine (own_own a0 len0 cap0 l0 w9.drew (HD.out.below CW0) (by omega)).mono ?_
          rintro e10 v10 ⟨A10, c10, rfl, ho10, hc10⟩
          have C10 : Below w9.heap.size w9 v10 := C0.trans (hc10.mono C0.size)
          have CW10 := BW9.trans (C10.mono BW9.size)
          have HO10 := Lib.hid (ho10.mono (base' := w9.heap.size) C0.size)
          clear ho10
          refine hK.out _ _ (KQ.out _ C10) (fun hHeld10 => ?_)
          clear hK
          refine wpAnyH_ready (rs := [9]) (by kernel_rfl) (by decide) ?_
          refine AllReadyH.cons rfl (fun K' hK => ?_) AllReadyH.nil
          refine step_ofW (by rfl) (wp_build1 (.tmp 54) rfl s1 rfl HL1.out ?_)
          intro gb v11 hdb hc11
          have C11 : Below w9.heap.size w9 v11 := C10.trans (hc11.mono C10.size)
          have CW11 := BW9.trans (C11.mono BW9.size)
          have HE11 := Lib.hid hdb
          clear hdb
          have HP11 := Lib.hid (HO10.out.below hc11)
          refine hK.out _ _ (KQ.out _ C11) (fun hHeld11 => ?_)
          clear hK
          refine wpAnyH_ready (rs := [10]) (by kernel_rfl) (by decide) ?_
          refine AllReadyH.cons rfl (fun K' hK => ?_) AllReadyH.nil
          refine step_ofW (by rfl) (wp_appD (.tmp 53) (.tmp 55) rfl w9.heap.size _ len0 l0 rfl HP11.out _ 1 1 [s1] rfl HE11.out (by omega) C11.size ?_)
          intro A12 c12 v12 ho12 hc12
          have HO12 := Lib.hid ho12
          have C12 : Below w9.heap.size w9 v12 := C11.trans hc12
          have CW12 := BW9.trans (C12.mono BW9.size)
          obtain ⟨A12q, c12q, hf1, hf2⟩ := ho12.form
          injection hf1 with hfa hfb hfc
          subst hfa hfc
          clear ho12 hfb
          refine hK.out _ _ (KQ.out _ C12) (fun hHeld12 => ?_)
          clear hK
          refine wpAnyH_ready (rs := [11]) (by kernel_rfl) (by decide) ?_
          refine AllReadyH.cons rfl (fun K' hK => ?_) AllReadyH.nil
          go_simp
          refine (HRA.out A12 _ v12 hf2 HO12.out.ds (HT.out.below CW12)).mono ?_
          rintro e13 v13 ⟨rfl, hc13⟩
          have C13 : Below w9.heap.size w9 v13 := C12.trans (hc13.mono C12.size)
          have CW13 := BW9.trans (C13.mono BW9.size)
          refine hK.out _ _ (KQ.out _ C13) (fun hHeld13 => ?_)
          clear hK
          refine wpAnyH_ready (rs := [14]) (by kernel_rfl) (by decide) ?_
          refine AllReadyH.cons rfl (fun K' hK => ?_) AllReadyH.nil
          go_simp
          refine (HNR.out v13 (HT.out.below CW13)).mono ?_
          rintro e14 v14 ⟨rfl, hc14⟩
          have C14 : Below w9.heap.size w9 v14 := C13.trans (hc14.mono C13.size)
          have CW14 := BW9.trans (C14.mono BW9.size)
          refine hK.out _ _ (KQ.out _ C14) (fun hHeld14 => ?_)
          clear hK
          (try simp only [Act.put, List.getElem_toArray, List.getElem_cons_succ, List.getElem_cons_zero, List.setIfInBounds_toArray, List.set_cons_zero, List.set_cons_succ])
          refine takeD (i := 15) (some 61) (.bool true) rfl rfl (by kernel_rfl) (by kernel_rfl) (by kernel_rfl) (fun _ _ _ h => h) (yields_eqlW (by rfl) (.tmp 57) (.tmp 60) rfl Z Z true rfl rfl HNRL.out HNRL.out (by simp)) hHeld14 ?_
          simp only [Act.put, List.setIfInBounds_toArray, List.set_cons_zero, List.set_cons_succ]
          refine takeD (i := 16) (some 62) (.bool true) rfl rfl (by kernel_rfl) (by kernel_rfl) (by kernel_rfl) (fun _ _ _ h => h) (Or.inl ⟨by rfl, fun _ _ => rfl⟩) hHeld14 ?_
          simp only [Act.put, List.setIfInBounds_toArray, List.set_cons_zero, List.set_cons_succ]
          refine takeD (i := 17) (some 63) (.bool true) rfl rfl (by kernel_rfl) (by kernel_rfl) (by kernel_rfl) (fun _ _ _ h => h) (Or.inl ⟨by rfl, fun _ _ => rfl⟩) hHeld14 ?_
          simp only [Act.put, List.setIfInBounds_toArray, List.set_cons_zero, List.set_cons_succ]
          refine wpAnyH_ready (rs := [18]) (by kernel_rfl) (by decide) ?_
          refine AllReadyH.cons rfl (fun K' hK => ?_) AllReadyH.nil
          go_simp
          refine (awake_any v14 (HT.out.below CW14)).mono ?_
          rintro e15 v15 ⟨rfl, hc15⟩
          have C15 : Below w9.heap.size w9 v15 := C14.trans (hc15.mono C14.size)
          have CW15 := BW9.trans (C15.mono BW9.size)
          refine hK.out _ _ (KQ.out _ C15) (fun hHeld15 => ?_)
          clear hK
          (try simp only [Act.put, List.setIfInBounds_toArray, List.set_cons_zero, List.set_cons_succ])
          refine takeD (i := 19) (some 65) (.bool true) rfl rfl (by kernel_rfl) (by kernel_rfl) (by kernel_rfl) (fun _ _ _ h => h) (Or.inl ⟨by rfl, fun _ _ => rfl⟩) hHeld15 ?_
          simp only [Act.put, List.setIfInBounds_toArray, List.set_cons_zero, List.set_cons_succ]
          refine takeD (i := 20) (some 4) (.bool true) rfl rfl (by kernel_rfl) (by kernel_rfl) (by kernel_rfl) (fun _ _ _ h => h) (Or.inl ⟨by rfl, fun _ _ => rfl⟩) hHeld15 ?_
          simp only [Act.put, List.setIfInBounds_toArray, List.set_cons_zero, List.set_cons_succ]
          (try simp only [Act.put, List.setIfInBounds_toArray])
          refine wpAnyH_done (by kernel_rfl) ?_ _
          refine NoPanic.normal ?_
          go_wp2_with fail
          go_ret
          exact ⟨rfl, CW15⟩
        · refine step_ofW (by rfl) (wp_build1 (.tmp 54) rfl s1 rfl HL1.out ?_)
          intro gb v10 hdb hc10
          have C10 : Below w9.heap.size w9 v10 := C0.trans (hc10.mono C0.size)
          have CW10 := BW9.trans (C10.mono BW9.size)
          have HE10 := Lib.hid hdb
          clear hdb
          refine hK.out _ _ (KQ.out _ C10) (fun hHeld10 => ?_)
          clear hK
          refine wpAnyH_ready (rs := [7]) (by kernel_rfl) (by decide) ?_
          refine AllReadyH.cons rfl (fun K' hK => ?_) AllReadyH.nil
          go_simp
          refine (own_own a0 len0 cap0 l0 v10 (HD.out.below CW10) (by omega)).mono ?_
          rintro e11 v11 ⟨A10, c10, rfl, ho10, hc11⟩
          have C11 : Below w9.heap.size w9 v11 := C10.trans (hc11.mono C10.size)
          have CW11 := BW9.trans (C11.mono BW9.size)
          have HO11 := Lib.hid (ho10.mono (base' := w9.heap.size) C10.size)
          clear ho10
          have HF11 := Lib.hid (HE10.out.below hc11)
          refine hK.out _ _ (KQ.out _ C11) (fun hHeld11 => ?_)
          clear hK
          refine wpAnyH_ready (rs := [10]) (by kernel_rfl) (by decide) ?_
          refine AllReadyH.cons rfl (fun K' hK => ?_) AllReadyH.nil
          refine step_ofW (by rfl) (wp_appD (.tmp 53) (.tmp 55) rfl w9.heap.size _ len0 l0 rfl HO11.out _ 1 1 [s1] rfl HF11.out (by omega) C11.size ?_)
          intro A12 c12 v12 ho12 hc12
          have HO12 := Lib.hid ho12
          have C12 : Below w9.heap.size w9 v12 := C11.trans hc12
          have CW12 := BW9.trans (C12.mono BW9.size)
          obtain ⟨A12q, c12q, hf1, hf2⟩ := ho12.form
          injection hf1 with hfa hfb hfc
          subst hfa hfc
          clear ho12 hfb
          refine hK.out _ _ (KQ.out _ C12) (fun hHeld12 => ?_)
          clear hK
          refine wpAnyH_ready (rs := [11]) (by kernel_rfl) (by decide) ?_
          refine AllReadyH.cons rfl (fun K' hK => ?_) AllReadyH.nil
          go_simp
          refine (HRA.out A12 _ v12 hf2 HO12.out.ds (HT.out.below CW12)).mono ?_
          rintro e13 v13 ⟨rfl, hc13⟩
          have C13 : Below w9.heap.size w9 v13 := C12.trans (hc13.mono C12.size)
          have CW13 := BW9.trans (C13.mono BW9.size)
          refine hK.out _ _ (KQ.out _ C13) (fun hHeld13 => ?_)
          clear hK
          refine wpAnyH_ready (rs := [14]) (by kernel_rfl) (by decide) ?_
          refine AllReadyH.cons rfl (fun K' hK => ?_) AllReadyH.nil
          go_simp
          refine (HNR.out v13 (HT.out.below CW13)).mono ?_
          rintro e14 v14 ⟨rfl, hc14⟩
          have C14 : Below w9.heap.size w9 v14 := C13.trans (hc14.mono C13.size)
          have CW14 := BW9.trans (C14.mono BW9.size)
          refine hK.out _ _ (KQ.out _ C14) (fun hHeld14 => ?_)
          clear hK
          (try simp only [Act.put, List.getElem_toArray, List.getElem_cons_succ, List.getElem_cons_zero, List.setIfInBounds_toArray, List.set_cons_zero, List.set_cons_succ])
          refine takeD (i := 15) (some 61) (.bool true) rfl rfl (by kernel_rfl) (by kernel_rfl) (by kernel_rfl) (fun _ _ _ h => h) (yields_eqlW (by rfl) (.tmp 57) (.tmp 60) rfl Z Z true rfl rfl HNRL.out HNRL.out (by simp)) hHeld14 ?_
          simp only [Act.put, List.setIfInBounds_toArray, List.set_cons_zero, List.set_cons_succ]
          refine takeD (i := 16) (some 62) (.bool true) rfl rfl (by kernel_rfl) (by kernel_rfl) (by kernel_rfl) (fun _ _ _ h => h) (Or.inl ⟨by rfl, fun _ _ => rfl⟩) hHeld14 ?_
          simp only [Act.put, List.setIfInBounds_toArray, List.set_cons_zero, List.set_cons_succ]
          refine takeD (i := 17) (some 63) (.bool true) rfl rfl (by kernel_rfl) (by kernel_rfl) (by kernel_rfl) (fun _ _ _ h => h) (Or.inl ⟨by rfl, fun _ _ => rfl⟩) hHeld14 ?_
          simp only [Act.put, List.setIfInBounds_toArray, List.set_cons_zero, List.set_cons_succ]
          refine wpAnyH_ready (rs := [18]) (by kernel_rfl) (by decide) ?_
          refine AllReadyH.cons rfl (fun K' hK => ?_) AllReadyH.nil
          go_simp
          refine (awake_any v14 (HT.out.below CW14)).mono ?_
          rintro e15 v15 ⟨rfl, hc15⟩
          have C15 : Below w9.heap.size w9 v15 := C14.trans (hc15.mono C14.size)
          have CW15 := BW9.trans (C15.mono BW9.size)
          refine hK.out _ _ (KQ.out _ C15) (fun hHeld15 => ?_)
          clear hK
          (try simp only [Act.put, List.setIfInBounds_toArray, List.set_cons_zero, List.set_cons_succ])
          refine takeD (i := 19) (some 65) (.bool true) rfl rfl (by kernel_rfl) (by kernel_rfl) (by kernel_rfl) (fun _ _ _ h => h) (Or.inl ⟨by rfl, fun _ _ => rfl⟩) hHeld15 ?_
          simp only [Act.put, List.setIfInBounds_toArray, List.set_cons_zero, List.set_cons_succ]
          refine takeD (i := 20) (some 4) (.bool true) rfl rfl (by kernel_rfl) (by kernel_rfl) (by kernel_rfl) (fun _ _ _ h => h) (Or.inl ⟨by rfl, fun _ _ => rfl⟩) hHeld15 ?_
          simp only [Act.put, List.setIfInBounds_toArray, List.set_cons_zero, List.set_cons_succ]
          (try simp only [Act.put, List.setIfInBounds_toArray])
          refine wpAnyH_done (by kernel_rfl) ?_ _
          refine NoPanic.normal ?_
          go_wp2_with fail
          go_ret
          exact ⟨rfl, CW15⟩
      · have hne : (2 * (T : Int) != (len0 : Int)) = true := by simp; omega
        clear h2e
        go_wp2_with fail
        refine wp_region_noPanic ?_
        refine wp_region_held_drew (S := fun w' => w'.rangeAt w.heap.size 0 (s1.map bcell) ∧ w'.rangeAt g6 0 (R.map bcell)) (by kernel_rfl) (KQ.out _ C0) (fun hHeld => ?_)
        refine takeD (i := 0) (some 46) (.int .i64 (T : Int)) rfl rfl (by kernel_rfl) (by kernel_rfl) (by kernel_rfl) (fun _ _ _ h => h) (Or.inl ⟨by rfl, fun _ _ => rfl⟩) hHeld ?_
        simp only [Act.put, List.setIfInBounds_toArray, List.set_cons_zero, List.set_cons_succ]
        refine takeD (i := 1) (some 47) (.int .i64 (2 * (T : Int))) rfl rfl (by kernel_rfl) (by kernel_rfl) (by kernel_rfl) (fun _ _ _ h => h) (yields_mul rfl _ (.tmp 46) rfl 2 (T : Int) (2 * (T : Int)) rfl rfl rfl (by omega) (by omega)) hHeld ?_
        simp only [Act.put, List.setIfInBounds_toArray, List.set_cons_zero, List.set_cons_succ]
        refine takeD (i := 2) (some 48) (.slice a0 len0 cap0) rfl rfl (by kernel_rfl) (by kernel_rfl) (by kernel_rfl) (fun _ _ _ h => h) (Or.inl ⟨by rfl, fun _ _ => rfl⟩) hHeld ?_
        simp only [Act.put, List.setIfInBounds_toArray, List.set_cons_zero, List.set_cons_succ]
        refine takeD (i := 3) (some 49) (.int .i64 (len0 : Int)) rfl rfl (by kernel_rfl) (by kernel_rfl) (by kernel_rfl) (fun _ _ _ h => h) (yields_len (by rfl) (.tmp 48) rfl a0 len0 cap0 rfl) hHeld ?_
        simp only [Act.put, List.setIfInBounds_toArray, List.set_cons_zero, List.set_cons_succ]
        refine takeD (i := 4) (some 50) (.bool true) rfl rfl (by kernel_rfl) (by kernel_rfl) (by kernel_rfl) (fun _ _ _ h => h) (yields_neI rfl (.tmp 47) (.tmp 49) rfl (2 * (T : Int)) (len0 : Int) _ rfl rfl hne) hHeld ?_
        simp only [Act.put, List.setIfInBounds_toArray, List.set_cons_zero, List.set_cons_succ]
        refine takeD (i := 5) (some 51) (.bool true) rfl rfl (by kernel_rfl) (by kernel_rfl) (by kernel_rfl) (fun _ _ _ h => h) (Or.inl ⟨by rfl, fun _ _ => rfl⟩) hHeld ?_
        simp only [Act.put, List.setIfInBounds_toArray, List.set_cons_zero, List.set_cons_succ]
        refine takeD (i := 6) (some 52) (undef) rfl rfl (by kernel_rfl) (by kernel_rfl) (by kernel_rfl) (fun _ _ _ h => h) (Or.inr ⟨by rfl, rfl⟩) hHeld ?_
        simp only [Act.put, List.setIfInBounds_toArray, List.set_cons_zero, List.set_cons_succ]
        refine takeD (i := 7) (some 53) (undef) rfl rfl (by kernel_rfl) (by kernel_rfl) (by kernel_rfl) (fun _ _ _ h => h) (Or.inr ⟨by rfl, rfl⟩) hHeld ?_
        simp only [Act.put, List.setIfInBounds_toArray, List.set_cons_zero, List.set_cons_succ]
        refine takeD (i := 8) (some 54) (undef) rfl rfl (by kernel_rfl) (by kernel_rfl) (by kernel_rfl) (fun _ _ _ h => h) (Or.inr ⟨by rfl, rfl⟩) hHeld ?_
        simp only [Act.put, List.setIfInBounds_toArray, List.set_cons_zero, List.set_cons_succ]
        refine takeD (i := 9) (some 55) (undef) rfl rfl (by kernel_rfl) (by kernel_rfl) (by kernel_rfl) (fun _ _ _ h => h) (Or.inr ⟨by rfl, rfl⟩) hHeld ?_
        simp only [Act.put, List.setIfInBounds_toArray, List.set_cons_zero, List.set_cons_succ]
        refine takeD (i := 10) (some 56) (undef) rfl rfl (by kernel_rfl) (by kernel_rfl) (by kernel_rfl) (fun _ _ _ h => h) (Or.inr ⟨by rfl, rfl⟩) hHeld ?_
        simp only [Act.put, List.setIfInBounds_toArray, List.set_cons_zero, List.set_cons_succ]
        refine takeD (i := 11) (some 57) (undef) rfl rfl (by kernel_rfl) (by kernel_rfl) (by kernel_rfl) (fun _ _ _ h => h) (Or.inr ⟨by rfl, rfl⟩) hHeld ?_
        simp only [Act.put, List.setIfInBounds_toArray, List.set_cons_zero, List.set_cons_succ]
        refine takeD (i := 12) (some 58) (undef) rfl rfl (by kernel_rfl) (by kernel_rfl) (by kernel_rfl) (fun _ _ _ h => h) (Or.inr ⟨by rfl, rfl⟩) hHeld ?_
        simp only [Act.put, List.setIfInBounds_toArray, List.set_cons_zero, List.set_cons_succ]
        refine takeD (i := 13) (some 59) (undef) rfl rfl (by kernel_rfl) (by kernel_rfl) (by kernel_rfl) (fun _ _ _ h => h) (Or.inr ⟨by rfl, rfl⟩) hHeld ?_
        simp only [Act.put, List.setIfInBounds_toArray, List.set_cons_zero, List.set_cons_succ]
        refine takeD (i := 14) (some 60) (undef) rfl rfl (by kernel_rfl) (by kernel_rfl) (by kernel_rfl) (fun _ _ _ h => h) (Or.inr ⟨by rfl, rfl⟩) hHeld ?_
        simp only [Act.put, List.setIfInBounds_toArray, List.set_cons_zero, List.set_cons_succ]
        refine takeD (i := 15) (some 61) (undef) rfl rfl (by kernel_rfl) (by kernel_rfl) (by kernel_rfl) (fun _ _ _ h => h) (Or.inr ⟨by rfl, rfl⟩) hHeld ?_
        simp only [Act.put, List.setIfInBounds_toArray, List.set_cons_zero, List.set_cons_succ]
        refine takeD (i := 16) (some 62) (.bool true) rfl rfl (by kernel_rfl) (by kernel_rfl) (by kernel_rfl) (fun _ _ _ h => h) (Or.inl ⟨by rfl, fun _ _ => rfl⟩) hHeld ?_
        simp only [Act.put, List.setIfInBounds_toArray, List.set_cons_zero, List.set_cons_succ]
        refine takeD (i := 17) (some 63) (.bool true) rfl rfl (by kernel_rfl) (by kernel_rfl) (by kernel_rfl) (fun _ _ _ h => h) (Or.inl ⟨by rfl, fun _ _ => rfl⟩) hHeld ?_
        simp only [Act.put, List.setIfInBounds_toArray, List.set_cons_zero, List.set_cons_succ]
        refine wpAnyH_ready (rs := [18]) (by kernel_rfl) (by decide) ?_
        refine AllReadyH.cons rfl (fun K' hK => ?_) AllReadyH.nil
        go_simp
        refine (awake_any w9.drew (HT.out.below CW0)).mono ?_
        rintro e15 v15 ⟨rfl, hc15⟩
        have C15 : Below w9.heap.size w9 v15 := C0.trans (hc15.mono C0.size)
        have CW15 := BW9.trans (C15.mono BW9.size)
        refine hK.out _ _ (KQ.out _ C15) (fun hHeld15 => ?_)
        clear hK
        (try simp only [Act.put, List.setIfInBounds_toArray, List.set_cons_zero, List.set_cons_succ])
        refine takeD (i := 19) (some 65) (.bool true) rfl rfl (by kernel_rfl) (by kernel_rfl) (by kernel_rfl) (fun _ _ _ h => h) (Or.inl ⟨by rfl, fun _ _ => rfl⟩) hHeld15 ?_
        simp only [Act.put, List.setIfInBounds_toArray, List.set_cons_zero, List.set_cons_succ]
        refine takeD (i := 20) (some 4) (.bool true) rfl rfl (by kernel_rfl) (by kernel_rfl) (by kernel_rfl) (fun _ _ _ h => h) (Or.inl ⟨by rfl, fun _ _ => rfl⟩) hHeld15 ?_
        simp only [Act.put, List.setIfInBounds_toArray, List.set_cons_zero, List.set_cons_succ]
        (try simp only [Act.put, List.setIfInBounds_toArray])
        refine wpAnyH_done (by kernel_rfl) ?_ _
        refine NoPanic.normal ?_
        go_wp2_with fail
        go_ret
        exact ⟨rfl, CW15⟩
theorem walk (w : World) (a0 : Option Addr) (len0 cap0 : Nat) (l0 : List (List UInt8)) (w0 : Ds w a0 len0 l0) (s0 : len0 ≤ cap0) (s1 : List UInt8) (w1 : s1.length = 32) (hT : Tab 2 w) :
    Calls Tryd.prog 9 #[.slice a0 len0 cap0, .agg (bcells s1)] w fun e w' => e = .returned (.bool true) ∧ Below w.heap.size w w' := by
  by_cases h : 200 < len0 ∨ len0 < 2
  · exact walk_few w a0 len0 cap0 s1 w1 h hT
  · exact walk_in w a0 len0 cap0 l0 w0 s0 s1 w1 (by omega) (by omega) hT

set_option maxRecDepth 100000 in
theorem lifted (os : Os) (started : os.Started) (H : Type) (enc : TypeId × Value → H) :
    ReturnsInHanded {} Tryd.checked os 9 .any (fun w args => (Rows.proofGrowsSpec.pre enc Tryd.prog Tryd.f9 Rows.proofGrowsRow.domain false w args ∧ laidMetH Tryd.prog lay1 w) ∧ sizedMet enc Tryd.prog Tryd.f9 (OpenSpec.ofChange Rows.proofGrowsSpec) false w args)
      (Rows.proofGrowsSpec.post enc Tryd.prog Tryd.f9 false true false false) := by
  refine returnsInHanded_of_change_and (C := Tryd.checked) (X := fun w _ => laidMetH Tryd.prog lay1 w) (fun _ _ _ hh h => h.of_heap hh) own started (by kernel_rfl) Tryd.func9
    (ChangeSpec.witness_shaped (enc := enc) (C := Tryd.checked) (os := os) (X := fun w _ => laidMetH Tryd.prog lay1 w) false (World.laidAll Tryd.prog os lay1) #[.slice none 0 0, .agg #[.int .u8 0, .int .u8 0, .int .u8 0, .int .u8 0, .int .u8 0, .int .u8 0, .int .u8 0, .int .u8 0, .int .u8 0, .int .u8 0, .int .u8 0, .int .u8 0, .int .u8 0, .int .u8 0, .int .u8 0, .int .u8 0, .int .u8 0, .int .u8 0, .int .u8 0, .int .u8 0, .int .u8 0, .int .u8 0, .int .u8 0, .int .u8 0, .int .u8 0, .int .u8 0, .int .u8 0, .int .u8 0, .int .u8 0, .int .u8 0, .int .u8 0, .int .u8 0]] 8 rfl (World.shaped_of_ZipB (by kernel_rfl) (by kernel_rfl)) (by kernel_rfl) (by kernel_rfl) (by kernel_rfl) (met1 os _)) ?_
  intro W base args ds gs before hval0 hW hcnd hsz0 hL _
  have hval : ∀ (j : Nat) t v, Tryd.f9.params[j]? = some t → args[j]? = some v → Value.okWide Tryd.prog W .any base t v := hval0
  have hW' := hW
  obtain ⟨p, q, hA0, hV, rfl, hfz, hnd⟩ := hW
  have hA : DataW.TrodAll enc Tryd.prog W 0 (fun _ => true) true Tryd.f9.params.toList args.toList ds p := hA0
  have hsz : (DataW.weightsEach Tryd.prog (Tryd.f9.params.toList ++ Rows.proofGrowsSpec.plain.varTypes Tryd.prog) (ds ++ gs)).all (· ≤ reachBytes) = true := hsz0
  rw [Tryd.params9] at hA hval hsz
  obtain ⟨v0, vs0, d0, ds0, p0, q0, hargs, rfl, rfl, h0, r0⟩ := trodAll_cons hA
  obtain ⟨v1, vs1, d1, ds1, p1, q1, rfl, rfl, rfl, h1, r1⟩ := trodAll_cons r0
  obtain ⟨rfl, rfl, rfl⟩ := trodAll_nil r1
  obtain rfl : args = #[v0, v1] := by cases args; simp_all
  obtain ⟨rfl, rfl⟩ := trodVars_none hV
  have k0 := h0
  have lt0 : ∀ x ∈ p0, x.block < W.heap.size := by obtain ⟨m, hm⟩ := k0; exact DataW.trod_lt m _ _ _ hm
  obtain ⟨a0, len0, cap0, l0, rfl, w0, s0⟩ := open_ds (hval 0 22 v0 rfl rfl) h0
  have k1 := h1
  have lt1 : ∀ x ∈ p1, x.block < W.heap.size := by obtain ⟨m, hm⟩ := k1; exact DataW.trod_lt m _ _ _ hm
  obtain ⟨s1, w1, rfl⟩ : ∃ s : List UInt8, s.length = 32 ∧ v1 = .agg (bcells s) := open_digest (hval 1 24 v1 rfl rfl) h1
  have hTab := of_lay1 hL
  clear hA0 hval0
  refine (walk W a0 len0 cap0 l0 w0 s0 s1 w1 hTab).mono fun e W' ⟨he, bel⟩ => ?_
  subst he
  exact ⟨_, rfl, _, _, _, [], _, [], hW', trodAll_mk1 (shut_bool Tryd.underlying4 _), (trodAll_cons_mk (Below.trod laidOut (by kernel_rfl) (of_decide_eq_true (by kernel_rfl)) k0 bel lt0) (trodAll_cons_mk (Below.trod laidOut (by kernel_rfl) (of_decide_eq_true (by kernel_rfl)) k1 bel lt1) trodAll_mk0)), rfl, bel.frame _, fun h => by cases h⟩
theorem over : Rows.proofGrowsRow.holds Tryd.pinned (OpenSpec.ofChange Rows.proofGrowsSpec) :=
  OpenClaim.holds_of_wide 9 Tryd.f9 rfl rfl rfl rfl rfl rfl rfl ⟨rfl, rfl, rfl, rfl, rfl⟩ rfl rfl rfl rfl rfl (by kernel_rfl) Tryd.func9 (by kernel_rfl)
    (of_decide_eq_true (by kernel_rfl)) (by unfold Func.isWrapper; first | (rw [if_pos (by decide +kernel)]; kernel_rfl) | (rw [if_neg (by decide +kernel)]; exact ⟨rfl, rfl⟩))
    (fun os started H enc _ => lifted os started H enc)
theorem proofGrows_holds : Rows.ProofGrowsCardSaid :=
  Claim7.holds_tied_plain_at .later [] [.data] true (true, "94cbc27510e38751a60ab1ffe97d8db4da220d4986d50e976b7ed11b3ca8a243") false
    over (fun _ h => by cases h) (by kernel_rfl) (fun _ h => by cases h) proofGrows_row_tie rfl ⟨rfl, rfl⟩ (by kernel_rfl) rfl
    (fun f fn hf hfn => by
      obtain rfl : f = 9 := Option.some.inj ((show Tryd.prog.funcNamed "jurat/juratlaw08.ProofGrows" = some 9 by kernel_rfl).symm.trans hf) |>.symm
      obtain rfl : fn = Tryd.f9 := (Option.some.inj (Tryd.func9.symm.trans hfn)).symm
      exact ⟨by kernel_rfl, fun j t ht => by
        rw [Tryd.params9] at ht
        have hm : t ∈ [22, 24] := by simpa using Array.mem_of_getElem? ht
        have hall : ([22, 24].all fun u => !Tryd.prog.wantsStandIn u) = true := by kernel_rfl
        exact (show Tryd.prog.wantsStandIn t = false by simpa using List.all_eq_true.1 hall t hm)⟩)
    (by kernel_rfl)
#print axioms proofGrows_holds
end Go.Proofs.YtojepkhooabjiaaDoor.proofGrows
