/-
  LedgerIncludes, whole, as the tied card (Rows.LedgerIncludesCardSaid): for every list of up to 100 leaves of up to 500 bytes, every length n of a beginning of 1 to all of them, and every place i in it (both reckoned of any two numbers), the head of n and the proof of i in n are told without an error, and the proof is included: it leads from the leaf's digest to the head's root; and the document's example of two leaves. Conditions: the table sha.constants reads as its initialiser lays it (tied to the program's text).
-/
import Derived.Test.YtbpbpdaohganaaaDoorRows
import Derived.Test.YtbpbpdaohganaaaDoorCards
import Derived.Test.YtbpbpdaohganaaaDoorTie
import Derived.WalkKit
import Derived.ProofKit
import Derived.OpenShut
import Derived.ChangeMaps5
import Derived.ShutString
import Derived.ChangeOld
import Derived.Below
import Derived.SizedLaws
import Derived.SevenTiedAt
import Derived.Lay
import Derived.LaidLaws
import Derived.Test.YtbpbpdaohganaaaDoorLedJ
namespace Go.Proofs.YtbpbpdaohganaaaDoor.ledgerIncludes
open Go.ChangeShapes Go.WideShapes Go.ChangeAt Go.RowKit
open Go.ChangeMaps (open_string shut_string)
set_option linter.unusedVariables false
theorem own : ownKnob Tryd.prog.godebug = none := by kernel_rfl
theorem laidOut : laidOutB Tryd.prog = true := by kernel_rfl
set_option maxRecDepth 100000 in
set_option maxHeartbeats 1000000 in
theorem walk_no (w : World) (a0 : Option Addr) (len0 cap0 : Nat) (L0 : List (List UInt8)) (w0 : Bss w a0 len0 L0) (a1 a2 : Int) (h : longL L0 = true) (hT : Tab 1 w) :
    Calls Tryd.prog 5 #[.slice a0 len0 cap0, .int .i64 a1, .int .i64 a2] w fun e w' => e = .returned (.bool true) ∧ Below w.heap.size w w' := by
  have HM := Lib.hid (made_no a0 len0 cap0 L0 w w0 hT h)
  have HT := Lib.hid hT
  clear hT w0 h
  go_enter Tryd.func5, Tryd.ntmps5
  go_wp2_with (first
    | (go_at_call 26; refine HM.out.mono ?_; rintro e1 w1 ⟨g, rfl, hb1⟩)
    | (go_at_call 10; refine (awake_any _ (HT.out.below hb1)).mono ?_; rintro e2 w2 ⟨rfl, hb2⟩))
  go_ret
  exact ⟨rfl, hb1.trans (hb2.mono hb1.size)⟩
set_option maxRecDepth 100000 in
set_option maxHeartbeats 1000000 in
theorem walk_nil (w : World) (a0 : Option Addr) (cap0 : Nat) (w0 : Bss w a0 0 []) (a1 a2 : Int) (hT : Tab 1 w) :
    Calls Tryd.prog 5 #[.slice a0 0 cap0, .int .i64 a1, .int .i64 a2] w fun e w' => e = .returned (.bool true) ∧ Below w.heap.size w w' := by
  have HM := Lib.hid (made_ok a0 0 cap0 [] w w0 hT rfl)
  have HT := Lib.hid hT
  clear hT w0
  go_enter Tryd.func5, Tryd.ntmps5
  go_wp2_with (first
    | (go_at_call 26; refine HM.out.mono ?_; rintro e1 w1 ⟨g, F, rfl, hb1, -⟩)
    | (go_at_call 10; refine (awake_any _ (HT.out.below hb1)).mono ?_; rintro e2 w2 ⟨rfl, hb2⟩))
  go_ret
  exact ⟨rfl, hb1.trans (hb2.mono hb1.size)⟩
set_option maxRecDepth 100000 in
set_option maxHeartbeats 4000000 in
theorem walk_ok (w : World) (a0 : Option Addr) (len0 cap0 : Nat) (L0 : List (List UInt8)) (w0 : Bss w a0 len0 L0) (a1 a2 : Int) (h : longL L0 = false) (h1 : 1 ≤ len0) (hT : Tab 1 w) :
    Calls Tryd.prog 5 #[.slice a0 len0 cap0, .int .i64 a1, .int .i64 a2] w fun e w' => e = .returned (.bool true) ∧ Below w.heap.size w w' := by
  have hlen := w0.1
  have h100 : len0 ≤ 100 := by rw [← hlen]; exact (longL_no h).1
  have hle := (longL_no h).2
  have HM := Lib.hid (made_ok a0 len0 cap0 L0 w w0 hT h)
  obtain ⟨j, hj, hjm⟩ := mod_in a2 len0 h1
  have HJ := Lib.hid hj
  clear hj
  obtain ⟨n, hn⟩ : ∃ n, j + 1 = n := ⟨_, rfl⟩
  obtain ⟨i, hi, hin⟩ := mod_in a1 n (by omega)
  have HI1 := Lib.hid hi
  clear hi
  obtain ⟨b, off, A', c', l, rfl, hbl, hl, hcl, hlc, hBl⟩ := w0.get (k := i) (by omega)
  have HLE := Lib.hid (hle l (List.mem_of_getElem? hl))
  obtain ⟨m, hm⟩ : ∃ m, l.length = m := ⟨_, rfl⟩
  rw [hm] at hcl hlc hBl HLE
  obtain ⟨hE, hI⟩ := led_inc L0 n i l (by omega) hin hl
  have HHd := Lib.hid (fun g F w h hT => Head_ok g len0 n F L0 w h (by omega) (by omega) hT)
  have HIn := Lib.hid (fun g F w h hT => show Calls Tryd.prog 20 #[.pointer (some ⟨g, 0, none⟩), .int .i64 (i : Int), .int .i64 (n : Int)] w (NewD w (incI ((L0.map leafL).take n) (i : Int)) 0) by have q := LInclude_ok g len0 n (i : Int) F L0 w h (by omega) (by omega) hT; rwa [hE] at q)
  have hDg : Digs ((L0.map leafL).take n) := Digs.take (fun d hd => by simp only [List.mem_map] at hd; obtain ⟨l, _, rfl⟩ := hd; exact leafL_length l) n
  have HRL := Lib.hid (rootL_length _ hDg)
  have hPL := incI_length ((L0.map leafL).take n) (i : Int) (by rw [List.length_take, List.length_map]; omega)
  have HPL := Lib.hid hPL
  generalize incI ((L0.map leafL).take n) (i : Int) = P at *
  generalize rootL ((L0.map leafL).take n) = R at *
  have HSZ := Lib.hid (headC_size (n : Int) R HRL.out)
  have HOw := Lib.hid (fun w hB => ownB_any A' m c' l w hB (by have := HLE.out; omega))
  have HLf := Lib.hid (fun A c w hB hc hT => Leaf_any A m c l w hB hc (by have := HLE.out; omega) hT)
  have HDL := Lib.hid (leafL_length l)
  have HIc := Lib.hid (fun A c w hc hD hT => show Calls Tryd.prog 27 #[.agg (bcells (leafL l)), .int .i64 (i : Int), .int .i64 (n : Int), .slice A P.length c, .agg (bcells R)] w fun e w' => e = .returned (.bool true) ∧ Below w.heap.size w w' by have q := Included_any (leafL l) R (i : Int) (n : Int) A P.length c P w HDL.out HRL.out (by omega) hc (by omega) hD hT; rwa [hI] at q)
  generalize leafL l = d at *
  have i0 : ((len0 : Int) == 0) = false := by simp; omega
  have i0b : ¬ len0 = 0 := by omega
  have i1b : ¬ n = 0 := by omega
  have i1c : ¬ (n : Int) = 0 := by omega
  have i0c : ¬ (len0 : Int) = 0 := by omega
  have HE1 := Lib.hid (u64_small len0 (by omega))
  have HE2 := Lib.hid (wrap_small (j : Int) (by omega) (by omega))
  have HE3 := Lib.hid (w64_small (j : Int) (by omega) (by omega))
  have HE4 := Lib.hid (show wrap64 (1 + (j : Int)) = (n : Int) from (w64_small _ (by omega) (by omega)).trans (by omega))
  have HE5 := Lib.hid (u64_small n (by omega))
  have HE6 := Lib.hid (wrap_small (i : Int) (by omega) (by omega))
  have HE7 := Lib.hid (w64_small (i : Int) (by omega) (by omega))
  have HB := Lib.hid w0
  have HBl := Lib.hid hBl
  have HCl := Lib.hid hcl
  have HBLT := Lib.hid hbl
  have HIN := Lib.hid (show i < len0 by omega)
  have HT := Lib.hid hT
  clear hT w0 hBl h hlen h100 hle hE hI hDg hPL hl hcl hlc hm h1 hjm hin hn hbl
  have hj := HJ.out
  have e1 := HE1.out
  have e2 := HE2.out
  have e3 := HE3.out
  have e4 := HE4.out
  have e5 := HE5.out
  have e6 := HE6.out
  have e7 := HE7.out
  have hi := HI1.out
  go_enter Tryd.func5, Tryd.ntmps5
  go_wp2_with (first
    | (go_at_call 26; refine HM.out.mono ?_; rintro e1' w1 ⟨g, F, rfl, hb1, -, hl1⟩; have HL1 := Lib.hid hl1; clear hl1)
    | (go_at_call 18; refine (HHd.out g F _ HL1.out (HT.out.below hb1)).mono ?_; rintro e4' w4 ⟨rfl, hb4⟩; have b4 := hb1.trans (hb4.mono hb1.size); have HL4 := Lib.hid (HL1.out.below hb4))
    | (with_reducible refine wpList_allocH rfl rfl ?_; intro gh w5 hgh hrh hbh; have HRh := Lib.hid hrh; have hge : w4.heap.size ≤ gh := (by omega); clear hgh hrh)
    | (with_reducible refine wpList_store_row Tryd.aggHead rfl (.tmp 9) (.tmp 44) rfl _ (headC (n : Int) R) rfl rfl 48 head0 HRh.out HSZ.out head0_size (headC_one _ _) ?_; intro w6 hr6 ho6; have HR6 := Lib.hid hr6; have b46 : Below w4.heap.size w4 w6 := hbh.trans (ho6.below hge hbh.size); have b6 := b4.trans (b46.mono b4.size); have HL6 := Lib.hid (HL4.out.below b46); have hlt6 := hr6.lt; clear hr6)
    | (go_at_call 20; refine (HIn.out g F _ HL6.out (HT.out.below b6)).mono ?_; rintro e7' w7 ⟨A7, c7, rfl, hc7, ho7, hb7⟩; have b7 := b6.trans (hb7.mono b6.size); have HR7 := Lib.hid (HR6.out.below hb7 hlt6); have hlt7 := HR7.out.lt; have HO7 := Lib.hid ho7.ds; clear ho7))
  have B0 : Below w7.heap.size w7 w7.drew := (Below.refl w7.heap.size w7).drew
  have KP : Hid (∀ wq, Below w7.heap.size w7 wq → Row wq gh 48 (headC (n : Int) R) ∧ wq.cell? ⟨b, off + i, none⟩ = some (.slice A' m c')) := Lib.hid (fun wq hb => ⟨HR7.out.below hb hlt7, ((b7.trans (hb.mono b7.size)).cell (p := ⟨b, off + i, none⟩) HBLT.out).trans HCl.out⟩)
  refine wp_region_noPanic ?_
  refine wp_region_held_drew (S := fun w' => Row w' gh 48 (headC (n : Int) R) ∧ w'.cell? ⟨b, off + i, none⟩ = some (.slice A' m c')) (by kernel_rfl) (KP.out _ B0) (fun hHeld => ?_)
  refine takeD (i := 0) (some 53) (.int .i64 0) rfl rfl (by kernel_rfl) (by kernel_rfl) (by kernel_rfl) (fun _ _ _ h => h) (Or.inl ⟨by rfl, fun _ _ => rfl⟩) hHeld ?_
  simp only [Act.put, List.setIfInBounds_toArray, List.set_cons_zero, List.set_cons_succ]
  refine takeD (i := 1) (some 54) (.bool true) rfl rfl (by kernel_rfl) (by kernel_rfl) (by kernel_rfl) (fun _ _ _ h => h) (yields_eqE (by rfl) _ _ rfl (0) (0) true rfl rfl (by simp)) hHeld ?_
  simp only [Act.put, List.setIfInBounds_toArray, List.set_cons_zero, List.set_cons_succ]
  refine takeD (i := 2) (some 55) (.bool true) rfl rfl (by kernel_rfl) (by kernel_rfl) (by kernel_rfl) (fun _ _ _ h => h) (Or.inl ⟨by rfl, fun _ _ => rfl⟩) hHeld ?_
  simp only [Act.put, List.setIfInBounds_toArray, List.set_cons_zero, List.set_cons_succ]
  refine takeD (i := 3) (some 56) (.int .i64 0) rfl rfl (by kernel_rfl) (by kernel_rfl) (by kernel_rfl) (fun _ _ _ h => h) (Or.inl ⟨by rfl, fun _ _ => rfl⟩) hHeld ?_
  simp only [Act.put, List.setIfInBounds_toArray, List.set_cons_zero, List.set_cons_succ]
  refine takeD (i := 4) (some 57) (.bool true) rfl rfl (by kernel_rfl) (by kernel_rfl) (by kernel_rfl) (fun _ _ _ h => h) (yields_eqE (by rfl) _ _ rfl (0) (0) true rfl rfl (by simp)) hHeld ?_
  simp only [Act.put, List.setIfInBounds_toArray, List.set_cons_zero, List.set_cons_succ]
  refine takeD (i := 5) (some 58) (.bool true) rfl rfl (by kernel_rfl) (by kernel_rfl) (by kernel_rfl) (fun _ _ _ h => h) (Or.inl ⟨by rfl, fun _ _ => rfl⟩) hHeld ?_
  simp only [Act.put, List.setIfInBounds_toArray, List.set_cons_zero, List.set_cons_succ]
  refine takeD (i := 6) (some 59) (.bool true) rfl rfl (by kernel_rfl) (by kernel_rfl) (by kernel_rfl) (fun _ _ _ h => h) (Or.inl ⟨by rfl, fun _ _ => rfl⟩) hHeld ?_
  simp only [Act.put, List.setIfInBounds_toArray, List.set_cons_zero, List.set_cons_succ]
  refine takeD (i := 7) (some 60) (.slice (some ⟨b, off, none⟩) len0 cap0) rfl rfl (by kernel_rfl) (by kernel_rfl) (by kernel_rfl) (fun _ _ _ h => h) (Or.inl ⟨by rfl, fun _ _ => rfl⟩) hHeld ?_
  simp only [Act.put, List.setIfInBounds_toArray, List.set_cons_zero, List.set_cons_succ]
  refine takeD (i := 8) (some 61) (.int .i64 (i : Int)) rfl rfl (by kernel_rfl) (by kernel_rfl) (by kernel_rfl) (fun _ _ _ h => h) (Or.inl ⟨by rfl, fun _ _ => rfl⟩) hHeld ?_
  simp only [Act.put, List.setIfInBounds_toArray, List.set_cons_zero, List.set_cons_succ]
  refine takeD (i := 9) (some 62) (.pointer (some ⟨b, off + i, none⟩)) rfl rfl (by kernel_rfl) (by kernel_rfl) (by kernel_rfl) (fun _ _ _ h => h) (yields_indexS (by rfl) (.tmp 60) (.tmp 61) rfl b off len0 cap0 i _ rfl rfl rfl HIN.out) hHeld ?_
  simp only [Act.put, List.setIfInBounds_toArray, List.set_cons_zero, List.set_cons_succ]
  refine takeD (i := 10) (some 63) (.slice A' m c') rfl rfl (by kernel_rfl) (by kernel_rfl) (by kernel_rfl) (fun _ _ _ h => h) (yields_loadT (by rfl) (.tmp 62) rfl b (off + i) _ rfl (fun _ h => h.2)) hHeld ?_
  simp only [Act.put, List.setIfInBounds_toArray, List.set_cons_zero, List.set_cons_succ]
  refine takeD (i := 13) (some 66) (.int .i64 (i : Int)) rfl rfl (by kernel_rfl) (by kernel_rfl) (by kernel_rfl) (fun _ _ _ h => h) (Or.inl ⟨by rfl, fun _ _ => rfl⟩) hHeld ?_
  simp only [Act.put, List.setIfInBounds_toArray, List.set_cons_zero, List.set_cons_succ]
  refine takeD (i := 14) (some 67) (.int .i64 (n : Int)) rfl rfl (by kernel_rfl) (by kernel_rfl) (by kernel_rfl) (fun _ _ _ h => h) (Or.inl ⟨by rfl, fun _ _ => rfl⟩) hHeld ?_
  simp only [Act.put, List.setIfInBounds_toArray, List.set_cons_zero, List.set_cons_succ]
  refine takeD (i := 15) (some 68) (.slice A7 P.length c7) rfl rfl (by kernel_rfl) (by kernel_rfl) (by kernel_rfl) (fun _ _ _ h => h) (Or.inl ⟨by rfl, fun _ _ => rfl⟩) hHeld ?_
  simp only [Act.put, List.setIfInBounds_toArray, List.set_cons_zero, List.set_cons_succ]
  refine takeD (i := 16) (some 69) (.pointer (some ⟨gh, 1, none⟩)) rfl rfl (by kernel_rfl) (by kernel_rfl) (by kernel_rfl) (fun _ _ _ h => h) (yields_fldH (by rfl) 48 (.tmp 9) 1 rfl (by decide) (gh) rfl) hHeld ?_
  simp only [Act.put, List.setIfInBounds_toArray, List.set_cons_zero, List.set_cons_succ]
  refine takeD (i := 17) (some 70) (.agg (bcells R)) rfl rfl (by kernel_rfl) (by kernel_rfl) (by kernel_rfl) (fun _ _ _ h => h) (yields_headD (by rfl) (.tmp 69) rfl (gh) ((n : Int)) (R) rfl HRL.out (fun _ h => h.1)) hHeld ?_
  simp only [Act.put, List.setIfInBounds_toArray, List.set_cons_zero, List.set_cons_succ]
  refine wpAnyH_ready (rs := [11]) (by kernel_rfl) (by decide) ?_
  refine AllReadyH.cons rfl (fun K' hK => ?_) AllReadyH.nil
  go_simp
  refine (HOw.out w7.drew (HBl.out.below (b7.trans (B0.mono b7.size)))).mono ?_
  rintro e8 w8 ⟨A8, c8, rfl, hc8, ho8, hb8⟩
  have HO8 := Lib.hid ho8
  have B8 := B0.trans (hb8.mono B0.size)
  clear ho8
  refine hK.out _ _ (KP.out _ B8) (fun hHeld1 => ?_)
  clear hK
  refine wpAnyH_ready (rs := [12]) (by kernel_rfl) (by decide) ?_
  refine AllReadyH.cons rfl (fun K' hK => ?_) AllReadyH.nil
  go_simp
  refine (HLf.out A8 c8 w8 HO8.out.bs hc8 (HT.out.below (b7.trans (B8.mono b7.size)))).mono ?_
  rintro e9 w9 ⟨rfl, hb9⟩
  have B9 := B8.trans (hb9.mono B8.size)
  refine hK.out _ _ (KP.out _ B9) (fun hHeld2 => ?_)
  clear hK
  refine wpAnyH_ready (rs := [18]) (by kernel_rfl) (by decide) ?_
  refine AllReadyH.cons rfl (fun K' hK => ?_) AllReadyH.nil
  go_simp
  refine (HIc.out A7 c7 w9 hc7 (HO7.out.below B9) (HT.out.below (b7.trans (B9.mono b7.size)))).mono ?_
  rintro e10 w10 ⟨rfl, hb10⟩
  have B10 := B9.trans (hb10.mono B9.size)
  refine hK.out _ _ (KP.out _ B10) (fun hHeld3 => ?_)
  clear hK
  refine takeD (i := 19) (some 72) (.bool true) rfl rfl (by kernel_rfl) (by kernel_rfl) (by kernel_rfl) (fun _ _ _ h => h) (Or.inl ⟨by rfl, fun _ _ => rfl⟩) hHeld3 ?_
  simp only [Act.put, List.setIfInBounds_toArray, List.set_cons_zero, List.set_cons_succ]
  refine takeD (i := 20) (some 73) (.bool true) rfl rfl (by kernel_rfl) (by kernel_rfl) (by kernel_rfl) (fun _ _ _ h => h) (Or.inl ⟨by rfl, fun _ _ => rfl⟩) hHeld3 ?_
  simp only [Act.put, List.setIfInBounds_toArray, List.set_cons_zero, List.set_cons_succ]
  refine wpAnyH_ready (rs := [21]) (by kernel_rfl) (by decide) ?_
  refine AllReadyH.cons rfl (fun K' hK => ?_) AllReadyH.nil
  go_simp
  refine (awake_any w10 (HT.out.below (b7.trans (B10.mono b7.size)))).mono ?_
  rintro e11 w11 ⟨rfl, hb11⟩
  have B11 := B10.trans (hb11.mono B10.size)
  refine hK.out _ _ (KP.out _ B11) (fun hHeld4 => ?_)
  clear hK
  refine takeD (i := 22) (some 75) (.bool true) rfl rfl (by kernel_rfl) (by kernel_rfl) (by kernel_rfl) (fun _ _ _ h => h) (Or.inl ⟨by rfl, fun _ _ => rfl⟩) hHeld4 ?_
  simp only [Act.put, List.setIfInBounds_toArray, List.set_cons_zero, List.set_cons_succ]
  refine takeD (i := 23) (some 6) (.bool true) rfl rfl (by kernel_rfl) (by kernel_rfl) (by kernel_rfl) (fun _ _ _ h => h) (Or.inl ⟨by rfl, fun _ _ => rfl⟩) hHeld4 ?_
  simp only [Act.put, List.setIfInBounds_toArray, List.set_cons_zero, List.set_cons_succ]
  (try simp only [Act.put, List.setIfInBounds_toArray])
  refine wpAnyH_done (by kernel_rfl) ?_ _
  refine NoPanic.normal ?_
  go_wp2_with fail
  go_ret
  exact ⟨rfl, b7.trans (B11.mono b7.size)⟩
theorem walk (w : World) (a0 : Option Addr) (len0 cap0 : Nat) (L0 : List (List UInt8)) (w0 : Bss w a0 len0 L0) (a1 : Int) (_w1 : (Lit.int .i64 a1).wf = true) (a2 : Int) (_w2 : (Lit.int .i64 a2).wf = true) (hT : Tab 1 w) :
    Calls Tryd.prog 5 #[.slice a0 len0 cap0, .int .i64 a1, .int .i64 a2] w fun e w' => e = .returned (.bool true) ∧ Below w.heap.size w w' := by
  cases h : longL L0
  · rcases Nat.eq_zero_or_pos len0 with h0 | h0
    · subst h0
      obtain rfl : L0 = [] := List.eq_nil_of_length_eq_zero w0.1
      exact walk_nil w a0 cap0 w0 a1 a2 hT
    · exact walk_ok w a0 len0 cap0 L0 w0 a1 a2 h h0 hT
  · exact walk_no w a0 len0 cap0 L0 w0 a1 a2 h hT

set_option maxRecDepth 100000 in
theorem lifted (os : Os) (started : os.Started) (H : Type) (enc : TypeId × Value → H) :
    ReturnsInHanded {} Tryd.checked os 5 .any (fun w args => (Rows.ledgerIncludesSpec.pre enc Tryd.prog Tryd.f5 Rows.ledgerIncludesRow.domain false w args ∧ laidMetH Tryd.prog lay1 w) ∧ sizedMet enc Tryd.prog Tryd.f5 (OpenSpec.ofChange Rows.ledgerIncludesSpec) false w args)
      (Rows.ledgerIncludesSpec.post enc Tryd.prog Tryd.f5 false true false false) := by
  refine returnsInHanded_of_change_and (C := Tryd.checked) (X := fun w _ => laidMetH Tryd.prog lay1 w) (fun _ _ _ hh h => h.of_heap hh) own started (by kernel_rfl) Tryd.func5
    (ChangeSpec.witness_shaped (enc := enc) (C := Tryd.checked) (os := os) (X := fun w _ => laidMetH Tryd.prog lay1 w) false (World.laidAll Tryd.prog os lay1) #[.slice none 0 0, .int .i64 0, .int .i64 0] 8 rfl (World.shaped_of_ZipB (by kernel_rfl) (by kernel_rfl)) (by kernel_rfl) (by kernel_rfl) (by kernel_rfl) (met1 os _)) ?_
  intro W base args ds gs before hval0 hW hcnd hsz0 hL _
  have hval : ∀ (j : Nat) t v, Tryd.f5.params[j]? = some t → args[j]? = some v → Value.okWide Tryd.prog W .any base t v := hval0
  have hW' := hW
  obtain ⟨p, q, hA0, hV, rfl, hfz, hnd⟩ := hW
  have hA : DataW.TrodAll enc Tryd.prog W 0 (fun _ => true) true Tryd.f5.params.toList args.toList ds p := hA0
  have hsz : (DataW.weightsEach Tryd.prog (Tryd.f5.params.toList ++ Rows.ledgerIncludesSpec.plain.varTypes Tryd.prog) (ds ++ gs)).all (· ≤ reachBytes) = true := hsz0
  rw [Tryd.params5] at hA hval hsz
  obtain ⟨v0, vs0, d0, ds0, p0, q0, hargs, rfl, rfl, h0, r0⟩ := trodAll_cons hA
  obtain ⟨v1, vs1, d1, ds1, p1, q1, rfl, rfl, rfl, h1, r1⟩ := trodAll_cons r0
  obtain ⟨v2, vs2, d2, ds2, p2, q2, rfl, rfl, rfl, h2, r2⟩ := trodAll_cons r1
  obtain ⟨rfl, rfl, rfl⟩ := trodAll_nil r2
  obtain rfl : args = #[v0, v1, v2] := by cases args; simp_all
  obtain ⟨rfl, rfl⟩ := trodVars_none hV
  have k0 := h0
  have lt0 : ∀ x ∈ p0, x.block < W.heap.size := by obtain ⟨m, hm⟩ := k0; exact DataW.trod_lt m _ _ _ hm
  obtain ⟨a0, len0, cap0, L0, rfl, w0⟩ := open_bss (hval 0 27 v0 rfl rfl) h0
  obtain ⟨a1, rfl, rfl, rfl, w1⟩ := open_int Tryd.underlying3 (hval 1 3 v1 rfl rfl) h1
  obtain ⟨a2, rfl, rfl, rfl, w2⟩ := open_int Tryd.underlying3 (hval 2 3 v2 rfl rfl) h2
  have hTab := of_lay1 hL
  clear hA0 hval0
  refine (walk W a0 len0 cap0 L0 w0 a1 w1 a2 w2 hTab).mono fun e W' ⟨he, bel⟩ => ?_
  subst he
  exact ⟨_, rfl, _, _, _, [], _, [], hW', trodAll_mk1 (shut_bool Tryd.underlying4 _), (trodAll_cons_mk (Below.trod laidOut (by kernel_rfl) (of_decide_eq_true (by kernel_rfl)) k0 bel lt0) (trodAll_cons_mk (shut_int Tryd.underlying3 w1) (trodAll_cons_mk (shut_int Tryd.underlying3 w2) trodAll_mk0))), rfl, bel.frame _, fun h => by cases h⟩
theorem over : Rows.ledgerIncludesRow.holds Tryd.pinned (OpenSpec.ofChange Rows.ledgerIncludesSpec) :=
  OpenClaim.holds_of_wide 5 Tryd.f5 rfl rfl rfl rfl rfl rfl rfl ⟨rfl, rfl, rfl, rfl, rfl⟩ rfl rfl rfl rfl rfl (by kernel_rfl) Tryd.func5 (by kernel_rfl)
    (of_decide_eq_true (by kernel_rfl)) (by unfold Func.isWrapper; first | (rw [if_pos (by decide +kernel)]; kernel_rfl) | (rw [if_neg (by decide +kernel)]; exact ⟨rfl, rfl⟩))
    (fun os started H enc _ => lifted os started H enc)
theorem ledgerIncludes_holds : Rows.LedgerIncludesCardSaid :=
  Claim7.holds_tied_plain_at .later [] [.data] true (true, "f8c962b95d10cf3f48b702edcbd29cecae4a1f65726c23e3d9eda044e33029ae") false
    over (fun _ h => by cases h) (by kernel_rfl) (fun _ h => by cases h) ledgerIncludes_row_tie rfl ⟨rfl, rfl⟩ (by kernel_rfl) rfl
    (fun f fn hf hfn => by
      obtain rfl : f = 5 := Option.some.inj ((show Tryd.prog.funcNamed "jurat/juratlaw09.LedgerIncludes" = some 5 by kernel_rfl).symm.trans hf) |>.symm
      obtain rfl : fn = Tryd.f5 := (Option.some.inj (Tryd.func5.symm.trans hfn)).symm
      exact ⟨by kernel_rfl, fun j t ht => by
        rw [Tryd.params5] at ht
        have hm : t ∈ [27, 3] := by simpa using Array.mem_of_getElem? ht
        have hall : ([27, 3].all fun u => !Tryd.prog.wantsStandIn u) = true := by kernel_rfl
        exact (show Tryd.prog.wantsStandIn t = false by simpa using List.all_eq_true.1 hall t hm)⟩)
    (by kernel_rfl)
#print axioms ledgerIncludes_holds
end Go.Proofs.YtbpbpdaohganaaaDoor.ledgerIncludes
