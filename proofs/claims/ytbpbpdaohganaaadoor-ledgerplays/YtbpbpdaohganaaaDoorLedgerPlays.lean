/-
  LedgerPlays, whole, as the tied card (Rows.LedgerPlaysCardSaid): for every list of up to 60 calls (append a leaf, a leaf, a head, the proof of a place, the proof of a beginning, with any numbers; leaves of up to 5000 bytes) a ledger answers what the document's own does: the same places, leaves, heads, proofs and errors, and it has as many leaves behind each; and the document's example of two leaves. Conditions: the tables sha.constants, juratref02.constants and juratref02.first read as their initialisers lay them (tied to the program's text).
-/
import Derived.Test.YtbpbpdaohganaaaDoorRows
import Derived.Test.YtbpbpdaohganaaaDoorCards
import Derived.Test.YtbpbpdaohganaaaDoorTie
import Derived.WalkKit
import Derived.ProofKit
import Derived.OpenShut
import Derived.ChangeMaps5
import Derived.ShutString
import Derived.ChangeOld
import Derived.Below
import Derived.SizedLaws
import Derived.SevenTiedAt
import Derived.Lay
import Derived.LaidLaws
import Derived.Test.YtbpbpdaohganaaaDoorLedM
namespace Go.Proofs.YtbpbpdaohganaaaDoor.ledgerPlays
open Go.ChangeShapes Go.WideShapes Go.ChangeAt Go.RowKit
open Go.ChangeMaps (open_string shut_string)
set_option linter.unusedVariables false
theorem own : ownKnob Tryd.prog.godebug = none := by kernel_rfl
theorem laidOut : laidOutB Tryd.prog = true := by kernel_rfl
set_option maxRecDepth 100000 in
set_option maxHeartbeats 1000000 in
theorem walk_no (w : World) (a0 : Option Addr) (len0 cap0 : Nat) (h : 60 < len0) (hT : Tab 1 w) :
    Calls Tryd.prog 3 #[.slice a0 len0 cap0] w fun e w' => e = .returned (.bool true) ∧ Below w.heap.size w w' := by
  have HT := Lib.hid hT
  have i1 : (60 : Int) < (len0 : Int) := by omega
  clear hT h
  go_enter Tryd.func3, Tryd.ntmps3
  go_wp2_with (go_at_call 10; refine (awake_any _ HT.out).mono ?_; rintro e2 w2 ⟨rfl, hb2⟩)
  go_ret
  exact ⟨rfl, hb2⟩
set_option maxRecDepth 100000 in
set_option maxHeartbeats 16000000 in
theorem walk_ok (w : World) (a0 : Option Addr) (len0 cap0 : Nat) (w0 : Asks w a0 len0) (h : len0 ≤ 60) (hT : First w ∧ Tab 4 w ∧ Tab 1 w) :
    Calls Tryd.prog 3 #[.slice a0 len0 cap0] w fun e w' => e = .returned (.bool true) ∧ Below w.heap.size w w' := by
  have hT4 := hT.2.1.1
  have hT1 := hT.2.2.1
  have HF := Lib.hid hT.1
  have HT4 := Lib.hid hT.2.1
  have HT := Lib.hid hT.2.2
  have HAs := Lib.hid w0
  have i1 : ¬ (60 : Int) < (len0 : Int) := by omega
  clear hT w0
  go_enter Tryd.func3, Tryd.ntmps3
  go_wp2_with (go_at_call 11; refine (LNew_any _).mono ?_; rintro e1 w1 ⟨g, rfl, hg, hl1, hb1⟩; have HL1 := Lib.hid hl1; have hs1 := hb1.size; clear hl1)
  obtain ⟨w2, hw2⟩ : ∃ w2, w1.alloc (.cells #[.slice none 0 0, .slice none 0 0] 30) = w2 := ⟨_, rfl⟩
  obtain ⟨gm, hgm⟩ : ∃ gm, gm = w1.heap.size := ⟨_, rfl⟩
  have hr2 : Row w2 gm 30 #[.slice none 0 0, .slice none 0 0] := by rw [← hw2, hgm]; exact Row.new w1 30 _
  have HM2 := Lib.hid (show LedM w2 gm (· = gm) 0 [] from ⟨rfl, fun b q => by have q2 : b = gm := q; rw [q2]; exact hr2.lt, none, 0, none, 0, hr2, Dgst.nil _ _, Texts.nil _ _⟩)
  have b2' : Below w1.heap.size w1 w2 := by rw [← hw2]; exact (Below.refl _ _).alloc (Nat.le_refl _) _
  have b2 := hb1.trans (b2'.mono hs1)
  have HL2 := Lib.hid (HL1.out.below b2')
  have hg1 := HL1.out.2.1 g rfl
  rw [hw2, ← hgm]
  have hgg : g ≠ gm := by omega
  have hgmw : w.heap.size ≤ gm := by omega
  clear hw2 hr2 hgm
  go_loopw [5] (fun i wr => ∃ (j N : Nat) (F F' : Nat → Prop) (L : List (List UInt8)), j ≤ len0 ∧ i = .int .i64 j ∧ Hid (N ≤ j) ∧ Led wr g F N L ∧ LedM wr gm F' N L ∧ Hid (∀ b, F b → w.heap.size ≤ b) ∧ Hid (∀ b, F' b → w.heap.size ≤ b) ∧ Hid (∀ b, F b → ¬ F' b) ∧ Hid (∀ x ∈ L, x.length ≤ 4096) ∧ Below w.heap.size w wr) (fun i _ => len0 - (intOf i).toNat)
  case atStart => exact ⟨0, 0, _, _, [], Nat.zero_le _, rfl, Lib.hid (Nat.le_refl _), HL2.out, HM2.out, Lib.hid (fun b q => by have q2 : b = g := q; omega), Lib.hid (fun b q => by have q2 : b = gm := q; omega), Lib.hid (fun b q1 q2 => hgg (by have q3 : b = g := q1; have q4 : b = gm := q2; omega)), Lib.hid (fun x hx => by simp at hx), b2⟩
  case round =>
    obtain ⟨j, N, F, F', L, hj, rfl, HN, hl, hm', HFb, HFm, HDj, HLe, pk⟩ := hrel
    have HLd := Lib.hid hl
    have HMd := Lib.hid hm'
    have hpk := pk.size
    clear hl hm'
    by_cases hjn : j < len0
    · obtain ⟨b, off, ki, ai, an, T, m, c, l, rfl, hbl, hrg, hB, hmc⟩ := HAs.out j hjn
      have j1 : (j : Int) < (len0 : Int) := by omega
      obtain ⟨at1, hat⟩ : ∃ at1, off + 4 * j = at1 := ⟨_, rfl⟩
      have HAT := Lib.hid hat
      have HRG := Lib.hid (show wr.rangeAt b at1 (askC ki ai an T m c).toList from fun q v hv => (pk.cell (p := ⟨b, at1 + q, none⟩) hbl).trans (by rw [← hat]; exact hrg q v hv))
      have HB := Lib.hid hB
      have HMl := Lib.hid hB.1
      have HNj := Lib.hid (show N ≤ 60 by have := HN.out; omega)
      clear hat hrg hB hmc
      by_cases h5 : 5000 < m
      · have i5 : (5000 : Int) < (m : Int) := by omega
        clear h5
        go_wp2_with (first
          | (with_reducible refine wpList_indexK rfl (.tmp 41) (.tmp 42) rfl b off len0 cap0 j at1 _ rfl rfl rfl hjn HAT.out ?_)
          | (with_reducible refine wpList_loadK rfl (.tmp 43) rfl b at1 ki ai an T m c rfl HRG.out ?_)
          | (with_reducible refine wpList_allocK rfl rfl ?_; intro gc w3 hgc hrc hbc; have HRc := Lib.hid hrc; have HGc := Lib.hid hgc; clear hgc hrc)
          | (with_reducible refine wpList_store_row Tryd.aggAsk rfl (.tmp 6) (.tmp 44) rfl _ (askC ki ai an T m c) rfl rfl 33 ask0 HRc.out (askC_size _ _ _ _ _ _) ask0_size (askC_one _ _ _ _ _ _) ?_; intro w4 hr4 ho4; have k4 := ask_cells hr4; have k0 := k4.1; have k1 := k4.2.1; have k2 := k4.2.2.1; have k3 := k4.2.2.2; clear k4; have HR4 := Lib.hid hr4; have b4' : Below wr.heap.size wr w4 := hbc.trans (ho4.below (by have := HGc.out; omega) hbc.size); have b4 := pk.trans (b4'.mono hpk); have HL4 := Lib.hid (HLd.out.below b4'); have HM4 := Lib.hid (HMd.out.below b4'); have HB4 := Lib.hid (HB.out.below b4); have hgc4 := hr4.lt; clear hr4)
          | (go_at_call 10; refine (awake_any _ (HT.out.below b4)).mono ?_; rintro e9' w9 ⟨rfl, hb9⟩))
        go_ret
        exact ⟨rfl, b4.trans (hb9.mono b4.size)⟩
      have i5 : ¬ (5000 : Int) < (m : Int) := by omega
      by_cases hk0 : ki = 0
      · subst hk0
        obtain ⟨p, E, N2, L2, hN2, hL2, HA1, HA2⟩ := app_pair g gm N m L l HNj.out HMl.out HLe.out
        have HA1 := Lib.hid HA1
        have HA2 := Lib.hid HA2
        have HN2 := Lib.hid hN2
        have HL2 := Lib.hid hL2
        clear hN2 hL2
        go_wp2_with (first
          | (with_reducible refine wpList_indexK rfl (.tmp 41) (.tmp 42) rfl b off len0 cap0 j at1 _ rfl rfl rfl hjn HAT.out ?_)
          | (with_reducible refine wpList_loadK rfl (.tmp 43) rfl b at1 0 ai an T m c rfl HRG.out ?_)
          | (with_reducible refine wpList_allocK rfl rfl ?_; intro gc w3 hgc hrc hbc; have HRc := Lib.hid hrc; have HGc := Lib.hid hgc; clear hgc hrc)
          | (with_reducible refine wpList_store_row Tryd.aggAsk rfl (.tmp 6) (.tmp 44) rfl _ (askC 0 ai an T m c) rfl rfl 33 ask0 HRc.out (askC_size _ _ _ _ _ _) ask0_size (askC_one _ _ _ _ _ _) ?_; intro w4 hr4 ho4; have k4 := ask_cells hr4; have k0 := k4.1; have k1 := k4.2.1; have k2 := k4.2.2.1; have k3 := k4.2.2.2; clear k4; have HR4 := Lib.hid hr4; have b4' : Below wr.heap.size wr w4 := hbc.trans (ho4.below (by have := HGc.out; omega) hbc.size); have b4 := pk.trans (b4'.mono hpk); have HL4 := Lib.hid (HLd.out.below b4'); have HM4 := Lib.hid (HMd.out.below b4'); have HB4 := Lib.hid (HB.out.below b4); have hgc4 := hr4.lt; clear hr4)
          | (go_at_call 13; refine (ownB_any T m c l _ HB4.out (by omega)).mono ?_; rintro e5 w5 ⟨A5, c5, rfl, hc5, ho5, hb5⟩; have HO5 := Lib.hid ho5; have b5 := b4.trans (hb5.mono b4.size); have HL5 := Lib.hid (HL4.out.below hb5); have HM5 := Lib.hid (HM4.out.below hb5); have HR5 := Lib.hid (HR4.out.below hb5 hgc4); clear ho5)
          | (go_at_call 12; refine (HA1.out A5 c5 F w5 HL5.out HO5.out.bs (fun b' o' q1 q2 => absurd (HO5.out.fresh b' o' q1) (Nat.not_le_of_lt (HL4.out.2.1 b' q2))) hc5 (HT.out.below b5) (fun q => absurd (HFb.out 1 q) (by omega))).mono ?_; rintro e6 w6 ⟨rfl, ⟨F6, hF6, hl6⟩, ho6⟩; have HG6 := Lib.hid hF6; have HL6 := Lib.hid hl6; have HO6 := Lib.hid ho6; have b6 := b5.trans (ho6.below HFb.out b5.size); have HM6 := Lib.hid (HM5.out.off ho6 (fun x q1 q2 => HDj.out x q2 q1)); have k3' : w6.cell? ⟨gc, 3, none⟩ = some (.slice T m c) := (World.cell?_of_block (a := ⟨gc, 3, none⟩) (ho6.block gc HR5.out.lt (fun q => absurd (HLd.out.2.1 gc q) (by have := HGc.out; omega)))).trans (ask_cells HR5.out).2.2.2; clear hF6 hl6 ho6)
          | (go_at_call 14; refine (HA2.out T c F' w6 HM6.out (HB.out.below b6) (fun w' ho => HB.out.below (b6.trans (ho.below HFm.out b6.size))) (HF.out.below b6) (HT4.out.below b6) (fun q => absurd (HFm.out 0 q) (by omega)) (fun q => absurd (HFm.out 4 q) (by omega))).mono ?_; rintro e7 w7 ⟨rfl, ⟨F7, hF7, hm7⟩, ho7⟩; have HG7 := Lib.hid hF7; have HM7 := Lib.hid hm7; have HO7 := Lib.hid ho7; have b7 := b6.trans (ho7.below HFm.out b6.size); clear hF7 hm7 ho7))
        have s4 := HL4.out.2.1
        have s5 := HM4.out.2.1
        have hb5s := hb5.size
        have HX7 := Lib.hid (HL6.out.off HO7.out (fun x q1 q2 => (HG6.out x q1).elim (fun q => HDj.out x q q2) (fun q => absurd (s5 x q2) (by omega))))
        have HFb7 := Lib.hid (show ∀ b, F6 b → w.heap.size ≤ b from fun x q => (HG6.out x q).elim (HFb.out x) (fun q2 => Nat.le_trans b5.size q2))
        have HFm7 := Lib.hid (show ∀ b, F7 b → w.heap.size ≤ b from fun x q => (HG7.out x q).elim (HFm.out x) (fun q2 => Nat.le_trans b6.size q2))
        have HDj7 := Lib.hid (show ∀ b, F6 b → ¬ F7 b from fun x q1 q2 => (HG7.out x q2).elim (fun q3 => (HG6.out x q1).elim (fun q => HDj.out x q q3) (fun q => absurd (s5 x q3) (by omega))) (fun q3 => absurd (HL6.out.2.1 x q1) (by omega)))
        obtain ⟨Adx, cdx, Alx, clx, hc0x, _⟩ := HM7.out.cell
        have HCx := Lib.hid hc0x
        have hgmx := HM7.out.2.1 gm HM7.out.1
        have B0 : Below w7.heap.size w7 w7.drew := (Below.refl w7.heap.size w7).drew
        have KP : Hid (∀ wq, Below w7.heap.size w7 wq → wq.cell? ⟨gm, 0, none⟩ = some (.slice Alx (N2) clx)) := Lib.hid (fun wq hb => (hb.cell (p := ⟨gm, 0, none⟩) hgmx).trans HCx.out)
        clear hc0x
        refine wp_region_noPanic ?_
        refine wp_region_held_drew (S := fun w' => w'.cell? ⟨gm, 0, none⟩ = some (.slice Alx (N2) clx)) (by kernel_rfl) (KP.out _ B0) (fun hHeld => ?_)
        refine takeD (i := 0) (some 179) (.bool true) rfl rfl (by kernel_rfl) (by kernel_rfl) (by kernel_rfl) (fun _ _ _ h => h) (Or.inl ⟨by rfl, fun _ _ => rfl⟩) hHeld ?_
        simp only [Act.put, List.setIfInBounds_toArray, List.set_cons_zero, List.set_cons_succ]
        refine takeD (i := 1) (some 180) (.bool false) rfl rfl (by kernel_rfl) (by kernel_rfl) (by kernel_rfl) (fun _ _ _ h => h) (Or.inl ⟨by rfl, fun _ _ => rfl⟩) hHeld ?_
        simp only [Act.put, List.setIfInBounds_toArray, List.set_cons_zero, List.set_cons_succ]
        refine takeD (i := 2) (some 181) (.bool false) rfl rfl (by kernel_rfl) (by kernel_rfl) (by kernel_rfl) (fun _ _ _ h => h) (Or.inl ⟨by rfl, fun _ _ => rfl⟩) hHeld ?_
        simp only [Act.put, List.setIfInBounds_toArray, List.set_cons_zero, List.set_cons_succ]
        refine takeD (i := 3) (some 182) (.pointer (some ⟨g, 0, none⟩)) rfl rfl (by kernel_rfl) (by kernel_rfl) (by kernel_rfl) (fun _ _ _ h => h) (Or.inl ⟨by rfl, fun _ _ => rfl⟩) hHeld ?_
        simp only [Act.put, List.setIfInBounds_toArray, List.set_cons_zero, List.set_cons_succ]
        refine takeD (i := 5) (some 184) (.pointer (some ⟨gm, 0, none⟩)) rfl rfl (by kernel_rfl) (by kernel_rfl) (by kernel_rfl) (fun _ _ _ h => h) (Or.inl ⟨by rfl, fun _ _ => rfl⟩) hHeld ?_
        simp only [Act.put, List.setIfInBounds_toArray, List.set_cons_zero, List.set_cons_succ]
        refine takeD (i := 6) (some 185) (.pointer (some ⟨gm, 0, none⟩)) rfl rfl (by kernel_rfl) (by kernel_rfl) (by kernel_rfl) (fun _ _ _ h => h) (yields_nil (by rfl) (.tmp 184) rfl _ rfl) hHeld ?_
        simp only [Act.put, List.setIfInBounds_toArray, List.set_cons_zero, List.set_cons_succ]
        refine takeD (i := 7) (some 186) (.pointer (some ⟨gm, 0, none⟩)) rfl rfl (by kernel_rfl) (by kernel_rfl) (by kernel_rfl) (fun _ _ _ h => h) (yields_fldH (by rfl) 30 (.tmp 185) 0 rfl (by decide) (gm) rfl) hHeld ?_
        simp only [Act.put, List.setIfInBounds_toArray, List.set_cons_zero, List.set_cons_succ]
        refine takeD (i := 8) (some 187) (.slice Alx (N2) clx) rfl rfl (by kernel_rfl) (by kernel_rfl) (by kernel_rfl) (fun _ _ _ h => h) (yields_loadL (by rfl) (.tmp 186) rfl gm 0 _ rfl (fun _ h => h)) hHeld ?_
        simp only [Act.put, List.setIfInBounds_toArray, List.set_cons_zero, List.set_cons_succ]
        refine takeD (i := 9) (some 188) (.int .i64 ((N2 : Nat) : Int)) rfl rfl (by kernel_rfl) (by kernel_rfl) (by kernel_rfl) (fun _ _ _ h => h) (yields_len27 (by rfl) (.tmp 187) rfl Alx (N2) clx rfl) hHeld ?_
        simp only [Act.put, List.setIfInBounds_toArray, List.set_cons_zero, List.set_cons_succ]
        refine wpAnyH_ready (rs := [4]) (by kernel_rfl) (by decide) ?_
        refine AllReadyH.cons rfl (fun K' hK => ?_) AllReadyH.nil
        go_simp
        refine (Size_any g (N2) F6 (L2) w7.drew (HX7.out.below B0)).mono ?_
        rintro ex wx ⟨rfl, rfl⟩
        refine hK.out _ _ (KP.out _ B0) (fun hHeld1 => ?_)
        clear hK
        refine takeD (i := 10) (some 189) (.bool false) rfl rfl (by kernel_rfl) (by kernel_rfl) (by kernel_rfl) (fun _ _ _ h => h) (yields_neN (by rfl) _ _ rfl (((N2 : Nat) : Int)) (((N2 : Nat) : Int)) false rfl rfl (by simp)) hHeld1 ?_
        simp only [Act.put, List.setIfInBounds_toArray, List.set_cons_zero, List.set_cons_succ]
        refine takeD (i := 11) (some 190) (.bool false) rfl rfl (by kernel_rfl) (by kernel_rfl) (by kernel_rfl) (fun _ _ _ h => h) (Or.inl ⟨by rfl, fun _ _ => rfl⟩) hHeld1 ?_
        simp only [Act.put, List.setIfInBounds_toArray, List.set_cons_zero, List.set_cons_succ]
        (try simp only [Act.put, List.setIfInBounds_toArray])
        refine wpAnyH_done (by kernel_rfl) ?_ _
        refine NoPanic.normal ?_
        go_wp2_with fail
        go_roundw
        case rel => exact ⟨j + 1, N2, F6, F7, L2, by omega, by go_num, Lib.hid (by have := HN.out; have := HN2.out; omega), HX7.out.below B0, HM7.out.below B0, HFb7, HFm7, HDj7, HL2, b7.drew⟩
        case measure => simp [intOf]; omega
      have q0 : (ki == 0) = false := by simpa using hk0
      clear hk0
      by_cases hk1 : ki = 1
      · subst hk1
        obtain ⟨mm, ll, E, hmm, HA1, HA2⟩ := leaf_pair g gm N ai L HLd.out.length HLe.out
        have HA1 := Lib.hid HA1
        have HA2 := Lib.hid HA2
        go_wp2_with (first
          | (with_reducible refine wpList_indexK rfl (.tmp 41) (.tmp 42) rfl b off len0 cap0 j at1 _ rfl rfl rfl hjn HAT.out ?_)
          | (with_reducible refine wpList_loadK rfl (.tmp 43) rfl b at1 1 ai an T m c rfl HRG.out ?_)
          | (with_reducible refine wpList_allocK rfl rfl ?_; intro gc w3 hgc hrc hbc; have HRc := Lib.hid hrc; have HGc := Lib.hid hgc; clear hgc hrc)
          | (with_reducible refine wpList_store_row Tryd.aggAsk rfl (.tmp 6) (.tmp 44) rfl _ (askC 1 ai an T m c) rfl rfl 33 ask0 HRc.out (askC_size _ _ _ _ _ _) ask0_size (askC_one _ _ _ _ _ _) ?_; intro w4 hr4 ho4; have k4 := ask_cells hr4; have k0 := k4.1; have k1 := k4.2.1; have k2 := k4.2.2.1; have k3 := k4.2.2.2; clear k4; have HR4 := Lib.hid hr4; have b4' : Below wr.heap.size wr w4 := hbc.trans (ho4.below (by have := HGc.out; omega) hbc.size); have b4 := pk.trans (b4'.mono hpk); have HL4 := Lib.hid (HLd.out.below b4'); have HM4 := Lib.hid (HMd.out.below b4'); have HB4 := Lib.hid (HB.out.below b4); have hgc4 := hr4.lt; clear hr4)
          | (go_at_call 15; refine (HA1.out F w4 HL4.out).mono ?_; rintro e5 w5 ⟨A5, c5, rfl, ho5, hb5⟩; have HO5 := Lib.hid ho5; have b5 := b4.trans (hb5.mono b4.size); have HL5 := Lib.hid (HL4.out.below hb5); have HM5 := Lib.hid (HM4.out.below hb5); have k5 := ask_cells (HR4.out.below hb5 hgc4); have k1a := k5.2.1; clear k5; clear ho5)
          | (go_at_call 16; refine (HA2.out F' w5 HM5.out).mono ?_; rintro e6 w6 ⟨A6, c6, rfl, ho6, rfl⟩; have HO6 := Lib.hid ho6; clear ho6)
          | (go_at_call 17; refine (Same_yes A5 A6 mm c5 c6 ll _ HO5.out HO6.out (by omega)).mono ?_; rintro e7 w7 ⟨rfl, x7, rfl⟩))
        obtain ⟨w8, hw8⟩ : ∃ w8, w5.drewN x7 = w8 := ⟨_, rfl⟩
        have b58 : Below w5.heap.size w5 w8 := by rw [← hw8]; exact below_drewN (Below.refl _ _) x7
        have b8 := b5.trans (b58.mono b5.size)
        have HL8 := Lib.hid (HL5.out.below b58)
        have HM8 := Lib.hid (HM5.out.below b58)
        rw [hw8]
        clear hw8
        obtain ⟨Adx, cdx, Alx, clx, hc0x, _⟩ := HM8.out.cell
        have HCx := Lib.hid hc0x
        have hgmx := HM8.out.2.1 gm HM8.out.1
        have B0 : Below w8.heap.size w8 w8.drew := (Below.refl w8.heap.size w8).drew
        have KP : Hid (∀ wq, Below w8.heap.size w8 wq → wq.cell? ⟨gm, 0, none⟩ = some (.slice Alx (N) clx)) := Lib.hid (fun wq hb => (hb.cell (p := ⟨gm, 0, none⟩) hgmx).trans HCx.out)
        clear hc0x
        refine wp_region_noPanic ?_
        refine wp_region_held_drew (S := fun w' => w'.cell? ⟨gm, 0, none⟩ = some (.slice Alx (N) clx)) (by kernel_rfl) (KP.out _ B0) (fun hHeld => ?_)
        refine takeD (i := 0) (some 179) (.bool true) rfl rfl (by kernel_rfl) (by kernel_rfl) (by kernel_rfl) (fun _ _ _ h => h) (Or.inl ⟨by rfl, fun _ _ => rfl⟩) hHeld ?_
        simp only [Act.put, List.setIfInBounds_toArray, List.set_cons_zero, List.set_cons_succ]
        refine takeD (i := 1) (some 180) (.bool false) rfl rfl (by kernel_rfl) (by kernel_rfl) (by kernel_rfl) (fun _ _ _ h => h) (Or.inl ⟨by rfl, fun _ _ => rfl⟩) hHeld ?_
        simp only [Act.put, List.setIfInBounds_toArray, List.set_cons_zero, List.set_cons_succ]
        refine takeD (i := 2) (some 181) (.bool false) rfl rfl (by kernel_rfl) (by kernel_rfl) (by kernel_rfl) (fun _ _ _ h => h) (Or.inl ⟨by rfl, fun _ _ => rfl⟩) hHeld ?_
        simp only [Act.put, List.setIfInBounds_toArray, List.set_cons_zero, List.set_cons_succ]
        refine takeD (i := 3) (some 182) (.pointer (some ⟨g, 0, none⟩)) rfl rfl (by kernel_rfl) (by kernel_rfl) (by kernel_rfl) (fun _ _ _ h => h) (Or.inl ⟨by rfl, fun _ _ => rfl⟩) hHeld ?_
        simp only [Act.put, List.setIfInBounds_toArray, List.set_cons_zero, List.set_cons_succ]
        refine takeD (i := 5) (some 184) (.pointer (some ⟨gm, 0, none⟩)) rfl rfl (by kernel_rfl) (by kernel_rfl) (by kernel_rfl) (fun _ _ _ h => h) (Or.inl ⟨by rfl, fun _ _ => rfl⟩) hHeld ?_
        simp only [Act.put, List.setIfInBounds_toArray, List.set_cons_zero, List.set_cons_succ]
        refine takeD (i := 6) (some 185) (.pointer (some ⟨gm, 0, none⟩)) rfl rfl (by kernel_rfl) (by kernel_rfl) (by kernel_rfl) (fun _ _ _ h => h) (yields_nil (by rfl) (.tmp 184) rfl _ rfl) hHeld ?_
        simp only [Act.put, List.setIfInBounds_toArray, List.set_cons_zero, List.set_cons_succ]
        refine takeD (i := 7) (some 186) (.pointer (some ⟨gm, 0, none⟩)) rfl rfl (by kernel_rfl) (by kernel_rfl) (by kernel_rfl) (fun _ _ _ h => h) (yields_fldH (by rfl) 30 (.tmp 185) 0 rfl (by decide) (gm) rfl) hHeld ?_
        simp only [Act.put, List.setIfInBounds_toArray, List.set_cons_zero, List.set_cons_succ]
        refine takeD (i := 8) (some 187) (.slice Alx (N) clx) rfl rfl (by kernel_rfl) (by kernel_rfl) (by kernel_rfl) (fun _ _ _ h => h) (yields_loadL (by rfl) (.tmp 186) rfl gm 0 _ rfl (fun _ h => h)) hHeld ?_
        simp only [Act.put, List.setIfInBounds_toArray, List.set_cons_zero, List.set_cons_succ]
        refine takeD (i := 9) (some 188) (.int .i64 ((N : Nat) : Int)) rfl rfl (by kernel_rfl) (by kernel_rfl) (by kernel_rfl) (fun _ _ _ h => h) (yields_len27 (by rfl) (.tmp 187) rfl Alx (N) clx rfl) hHeld ?_
        simp only [Act.put, List.setIfInBounds_toArray, List.set_cons_zero, List.set_cons_succ]
        refine wpAnyH_ready (rs := [4]) (by kernel_rfl) (by decide) ?_
        refine AllReadyH.cons rfl (fun K' hK => ?_) AllReadyH.nil
        go_simp
        refine (Size_any g (N) F (L) w8.drew (HL8.out.below B0)).mono ?_
        rintro ex wx ⟨rfl, rfl⟩
        refine hK.out _ _ (KP.out _ B0) (fun hHeld1 => ?_)
        clear hK
        refine takeD (i := 10) (some 189) (.bool false) rfl rfl (by kernel_rfl) (by kernel_rfl) (by kernel_rfl) (fun _ _ _ h => h) (yields_neN (by rfl) _ _ rfl (((N : Nat) : Int)) (((N : Nat) : Int)) false rfl rfl (by simp)) hHeld1 ?_
        simp only [Act.put, List.setIfInBounds_toArray, List.set_cons_zero, List.set_cons_succ]
        refine takeD (i := 11) (some 190) (.bool false) rfl rfl (by kernel_rfl) (by kernel_rfl) (by kernel_rfl) (fun _ _ _ h => h) (Or.inl ⟨by rfl, fun _ _ => rfl⟩) hHeld1 ?_
        simp only [Act.put, List.setIfInBounds_toArray, List.set_cons_zero, List.set_cons_succ]
        (try simp only [Act.put, List.setIfInBounds_toArray])
        refine wpAnyH_done (by kernel_rfl) ?_ _
        refine NoPanic.normal ?_
        go_wp2_with fail
        go_roundw
        case rel => exact ⟨j + 1, N, F, F', L, by omega, by go_num, Lib.hid (by have := HN.out; omega), HL8.out.below B0, HM8.out.below B0, HFb, HFm, HDj, HLe, b8.drew⟩
        case measure => simp [intOf]; omega
      have q1 : (ki == 1) = false := by simpa using hk1
      clear hk1
      by_cases hk2 : ki = 2
      · subst hk2
        obtain ⟨hn, hd, E, hdl, HA1, HA2⟩ := head_pair g gm N an L (by have := HNj.out; omega)
        have HA1 := Lib.hid HA1
        have HA2 := Lib.hid HA2
        have HDL := Lib.hid hdl
        have HSZ := Lib.hid (headC_size hn hd hdl)
        clear hdl
        go_wp2_with (first
          | (with_reducible refine wpList_indexK rfl (.tmp 41) (.tmp 42) rfl b off len0 cap0 j at1 _ rfl rfl rfl hjn HAT.out ?_)
          | (with_reducible refine wpList_loadK rfl (.tmp 43) rfl b at1 2 ai an T m c rfl HRG.out ?_)
          | (with_reducible refine wpList_allocK rfl rfl ?_; intro gc w3 hgc hrc hbc; have HRc := Lib.hid hrc; have HGc := Lib.hid hgc; clear hgc hrc)
          | (with_reducible refine wpList_store_row Tryd.aggAsk rfl (.tmp 6) (.tmp 44) rfl _ (askC 2 ai an T m c) rfl rfl 33 ask0 HRc.out (askC_size _ _ _ _ _ _) ask0_size (askC_one _ _ _ _ _ _) ?_; intro w4 hr4 ho4; have k4 := ask_cells hr4; have k0 := k4.1; have k1 := k4.2.1; have k2 := k4.2.2.1; have k3 := k4.2.2.2; clear k4; have HR4 := Lib.hid hr4; have b4' : Below wr.heap.size wr w4 := hbc.trans (ho4.below (by have := HGc.out; omega) hbc.size); have b4 := pk.trans (b4'.mono hpk); have HL4 := Lib.hid (HLd.out.below b4'); have HM4 := Lib.hid (HMd.out.below b4'); have HB4 := Lib.hid (HB.out.below b4); have hgc4 := hr4.lt; clear hr4)
          | (go_at_call 18; refine (HA1.out F w4 HL4.out (HT.out.below b4)).mono ?_; rintro e5 w5 ⟨rfl, hb5⟩; have b5 := b4.trans (hb5.mono b4.size); have HL5 := Lib.hid (HL4.out.below hb5); have HM5 := Lib.hid (HM4.out.below hb5); have HR5 := Lib.hid (HR4.out.below hb5 hgc4); have hgc5 := HR5.out.lt)
          | (with_reducible refine wpList_allocH (w := w5) rfl rfl ?_; intro gh w6 hgh hrh hbh; have HRh := Lib.hid hrh; have HGh := Lib.hid hgh; clear hgh hrh)
          | (with_reducible refine wpList_store_row Tryd.aggHead rfl (.tmp 16) (.tmp 134) rfl _ (headC hn hd) rfl rfl 48 head0 HRh.out HSZ.out head0_size (headC_one _ _) ?_; intro w7 hr7 ho7; have HH7 := Lib.hid hr7; have b57 : Below w5.heap.size w5 w7 := hbh.trans (ho7.below (by have := HGh.out; omega) hbh.size); have b7 := b5.trans (b57.mono b5.size); have HL7 := Lib.hid (HL5.out.below b57); have HM7 := Lib.hid (HM5.out.below b57); have k5 := ask_cells (HR5.out.below b57 hgc5); have k2a := k5.2.2.1; clear k5; have hgh7 := hr7.lt; clear hr7)
          | (go_at_call 19; refine (HA2.out F' w7 HM7.out (HF.out.below b7) (HT4.out.below b7)).mono ?_; rintro e8 w8 ⟨rfl, hb8⟩; have b8 := b7.trans (hb8.mono b7.size); have HL8 := Lib.hid (HL7.out.below hb8); have HM8 := Lib.hid (HM7.out.below hb8); have HH8 := Lib.hid (HH7.out.below hb8 hgh7); have hgh8 := HH8.out.lt)
          | (with_reducible refine wpList_allocH (w := w8) rfl rfl ?_; intro gi w9 hgi hri hbi; have HRi := Lib.hid hri; have HGi := Lib.hid hgi; clear hgi hri)
          | (with_reducible refine wpList_store_row Tryd.aggHead rfl (.tmp 18) (.tmp 141) rfl _ (headC hn hd) rfl rfl 48 head0 HRi.out HSZ.out head0_size (headC_one _ _) ?_; intro w10 hr10 ho10; have HI10 := Lib.hid hr10; have b810 : Below w8.heap.size w8 w10 := hbi.trans (ho10.below (by have := HGi.out; omega) hbi.size); have b10 := b8.trans (b810.mono b8.size); have HL10 := Lib.hid (HL8.out.below b810); have HM10 := Lib.hid (HM8.out.below b810); have HH10 := Lib.hid (HH8.out.below b810 hgh8); clear hr10)
          | (with_reducible refine wpList_loadHG (by with_unfolding_all rfl) (.tmp 16) rfl gh hn hd rfl HH10.out HSZ.out ?_)
          | (with_reducible refine wpList_loadHG (by with_unfolding_all rfl) (.tmp 18) rfl gi hn hd rfl HI10.out HSZ.out ?_)
          | (with_reducible refine wpList_eqHG (by with_unfolding_all rfl) (.tmp 143) (.tmp 144) rfl hn hd rfl rfl HDL.out ?_))
        obtain ⟨Adx, cdx, Alx, clx, hc0x, _⟩ := HM10.out.cell
        have HCx := Lib.hid hc0x
        have hgmx := HM10.out.2.1 gm HM10.out.1
        have B0 : Below w10.heap.size w10 w10.drew := (Below.refl w10.heap.size w10).drew
        have KP : Hid (∀ wq, Below w10.heap.size w10 wq → wq.cell? ⟨gm, 0, none⟩ = some (.slice Alx (N) clx)) := Lib.hid (fun wq hb => (hb.cell (p := ⟨gm, 0, none⟩) hgmx).trans HCx.out)
        clear hc0x
        refine wp_region_noPanic ?_
        refine wp_region_held_drew (S := fun w' => w'.cell? ⟨gm, 0, none⟩ = some (.slice Alx (N) clx)) (by kernel_rfl) (KP.out _ B0) (fun hHeld => ?_)
        refine takeD (i := 0) (some 179) (.bool true) rfl rfl (by kernel_rfl) (by kernel_rfl) (by kernel_rfl) (fun _ _ _ h => h) (Or.inl ⟨by rfl, fun _ _ => rfl⟩) hHeld ?_
        simp only [Act.put, List.setIfInBounds_toArray, List.set_cons_zero, List.set_cons_succ]
        refine takeD (i := 1) (some 180) (.bool false) rfl rfl (by kernel_rfl) (by kernel_rfl) (by kernel_rfl) (fun _ _ _ h => h) (Or.inl ⟨by rfl, fun _ _ => rfl⟩) hHeld ?_
        simp only [Act.put, List.setIfInBounds_toArray, List.set_cons_zero, List.set_cons_succ]
        refine takeD (i := 2) (some 181) (.bool false) rfl rfl (by kernel_rfl) (by kernel_rfl) (by kernel_rfl) (fun _ _ _ h => h) (Or.inl ⟨by rfl, fun _ _ => rfl⟩) hHeld ?_
        simp only [Act.put, List.setIfInBounds_toArray, List.set_cons_zero, List.set_cons_succ]
        refine takeD (i := 3) (some 182) (.pointer (some ⟨g, 0, none⟩)) rfl rfl (by kernel_rfl) (by kernel_rfl) (by kernel_rfl) (fun _ _ _ h => h) (Or.inl ⟨by rfl, fun _ _ => rfl⟩) hHeld ?_
        simp only [Act.put, List.setIfInBounds_toArray, List.set_cons_zero, List.set_cons_succ]
        refine takeD (i := 5) (some 184) (.pointer (some ⟨gm, 0, none⟩)) rfl rfl (by kernel_rfl) (by kernel_rfl) (by kernel_rfl) (fun _ _ _ h => h) (Or.inl ⟨by rfl, fun _ _ => rfl⟩) hHeld ?_
        simp only [Act.put, List.setIfInBounds_toArray, List.set_cons_zero, List.set_cons_succ]
        refine takeD (i := 6) (some 185) (.pointer (some ⟨gm, 0, none⟩)) rfl rfl (by kernel_rfl) (by kernel_rfl) (by kernel_rfl) (fun _ _ _ h => h) (yields_nil (by rfl) (.tmp 184) rfl _ rfl) hHeld ?_
        simp only [Act.put, List.setIfInBounds_toArray, List.set_cons_zero, List.set_cons_succ]
        refine takeD (i := 7) (some 186) (.pointer (some ⟨gm, 0, none⟩)) rfl rfl (by kernel_rfl) (by kernel_rfl) (by kernel_rfl) (fun _ _ _ h => h) (yields_fldH (by rfl) 30 (.tmp 185) 0 rfl (by decide) (gm) rfl) hHeld ?_
        simp only [Act.put, List.setIfInBounds_toArray, List.set_cons_zero, List.set_cons_succ]
        refine takeD (i := 8) (some 187) (.slice Alx (N) clx) rfl rfl (by kernel_rfl) (by kernel_rfl) (by kernel_rfl) (fun _ _ _ h => h) (yields_loadL (by rfl) (.tmp 186) rfl gm 0 _ rfl (fun _ h => h)) hHeld ?_
        simp only [Act.put, List.setIfInBounds_toArray, List.set_cons_zero, List.set_cons_succ]
        refine takeD (i := 9) (some 188) (.int .i64 ((N : Nat) : Int)) rfl rfl (by kernel_rfl) (by kernel_rfl) (by kernel_rfl) (fun _ _ _ h => h) (yields_len27 (by rfl) (.tmp 187) rfl Alx (N) clx rfl) hHeld ?_
        simp only [Act.put, List.setIfInBounds_toArray, List.set_cons_zero, List.set_cons_succ]
        refine wpAnyH_ready (rs := [4]) (by kernel_rfl) (by decide) ?_
        refine AllReadyH.cons rfl (fun K' hK => ?_) AllReadyH.nil
        go_simp
        refine (Size_any g (N) F (L) w10.drew (HL10.out.below B0)).mono ?_
        rintro ex wx ⟨rfl, rfl⟩
        refine hK.out _ _ (KP.out _ B0) (fun hHeld1 => ?_)
        clear hK
        refine takeD (i := 10) (some 189) (.bool false) rfl rfl (by kernel_rfl) (by kernel_rfl) (by kernel_rfl) (fun _ _ _ h => h) (yields_neN (by rfl) _ _ rfl (((N : Nat) : Int)) (((N : Nat) : Int)) false rfl rfl (by simp)) hHeld1 ?_
        simp only [Act.put, List.setIfInBounds_toArray, List.set_cons_zero, List.set_cons_succ]
        refine takeD (i := 11) (some 190) (.bool false) rfl rfl (by kernel_rfl) (by kernel_rfl) (by kernel_rfl) (fun _ _ _ h => h) (Or.inl ⟨by rfl, fun _ _ => rfl⟩) hHeld1 ?_
        simp only [Act.put, List.setIfInBounds_toArray, List.set_cons_zero, List.set_cons_succ]
        (try simp only [Act.put, List.setIfInBounds_toArray])
        refine wpAnyH_done (by kernel_rfl) ?_ _
        refine NoPanic.normal ?_
        go_wp2_with fail
        go_roundw
        case rel => exact ⟨j + 1, N, F, F', L, by omega, by go_num, Lib.hid (by have := HN.out; omega), HL10.out.below B0, HM10.out.below B0, HFb, HFm, HDj, HLe, b10.drew⟩
        case measure => simp [intOf]; omega
      have q2 : (ki == 2) = false := by simpa using hk2
      clear hk2
      by_cases hk3 : ki = 3
      · subst hk3
        obtain ⟨P, E, hPl, HA1, HA2⟩ := inc_pair g gm N ai an L (by have := HNj.out; omega)
        obtain ⟨np, hnp⟩ : ∃ np, P.length = np := ⟨_, rfl⟩
        unfold NewD at HA1 HA2
        rw [hnp] at hPl HA1 HA2
        have HA1 := Lib.hid HA1
        have HA2 := Lib.hid HA2
        clear hnp
        go_wp2_with (first
          | (with_reducible refine wpList_indexK rfl (.tmp 41) (.tmp 42) rfl b off len0 cap0 j at1 _ rfl rfl rfl hjn HAT.out ?_)
          | (with_reducible refine wpList_loadK rfl (.tmp 43) rfl b at1 3 ai an T m c rfl HRG.out ?_)
          | (with_reducible refine wpList_allocK rfl rfl ?_; intro gc w3 hgc hrc hbc; have HRc := Lib.hid hrc; have HGc := Lib.hid hgc; clear hgc hrc)
          | (with_reducible refine wpList_store_row Tryd.aggAsk rfl (.tmp 6) (.tmp 44) rfl _ (askC 3 ai an T m c) rfl rfl 33 ask0 HRc.out (askC_size _ _ _ _ _ _) ask0_size (askC_one _ _ _ _ _ _) ?_; intro w4 hr4 ho4; have k4 := ask_cells hr4; have k0 := k4.1; have k1 := k4.2.1; have k2 := k4.2.2.1; have k3 := k4.2.2.2; clear k4; have HR4 := Lib.hid hr4; have b4' : Below wr.heap.size wr w4 := hbc.trans (ho4.below (by have := HGc.out; omega) hbc.size); have b4 := pk.trans (b4'.mono hpk); have HL4 := Lib.hid (HLd.out.below b4'); have HM4 := Lib.hid (HMd.out.below b4'); have HB4 := Lib.hid (HB.out.below b4); have hgc4 := hr4.lt; clear hr4)
          | (go_at_call 20; refine (HA1.out F w4 HL4.out (HT.out.below b4)).mono ?_; rintro e5 w5 ⟨A5, c5, rfl, -, ho5, hb5⟩; have HO5 := Lib.hid ho5.ds; have b5 := b4.trans (hb5.mono b4.size); have HL5 := Lib.hid (HL4.out.below hb5); have HM5 := Lib.hid (HM4.out.below hb5); have k5 := ask_cells (HR4.out.below hb5 hgc4); have k1a := k5.2.1; have k2a := k5.2.2.1; clear k5; clear ho5)
          | (go_at_call 21; refine (HA2.out F' w5 HM5.out (HF.out.below b5) (HT4.out.below b5)).mono ?_; rintro e6 w6 ⟨A6, c6, rfl, -, ho6, hb6⟩; have HO6 := Lib.hid ho6.ds; have HO56 := Lib.hid (HO5.out.below hb6); have b6 := b5.trans (hb6.mono b5.size); have HL6 := Lib.hid (HL5.out.below hb6); have HM6 := Lib.hid (HM5.out.below hb6); clear ho6)
          | (go_at_call 22; refine (RSame_yes A5 A6 np c5 c6 P _ HO56.out HO6.out (by omega)).mono ?_; rintro e7 w7 ⟨rfl, x7, rfl⟩))
        obtain ⟨w8, hw8⟩ : ∃ w8, w6.drewN x7 = w8 := ⟨_, rfl⟩
        have b68 : Below w6.heap.size w6 w8 := by rw [← hw8]; exact below_drewN (Below.refl _ _) x7
        have b8 := b6.trans (b68.mono b6.size)
        have HL8 := Lib.hid (HL6.out.below b68)
        have HM8 := Lib.hid (HM6.out.below b68)
        rw [hw8]
        clear hw8
        obtain ⟨Adx, cdx, Alx, clx, hc0x, _⟩ := HM8.out.cell
        have HCx := Lib.hid hc0x
        have hgmx := HM8.out.2.1 gm HM8.out.1
        have B0 : Below w8.heap.size w8 w8.drew := (Below.refl w8.heap.size w8).drew
        have KP : Hid (∀ wq, Below w8.heap.size w8 wq → wq.cell? ⟨gm, 0, none⟩ = some (.slice Alx (N) clx)) := Lib.hid (fun wq hb => (hb.cell (p := ⟨gm, 0, none⟩) hgmx).trans HCx.out)
        clear hc0x
        refine wp_region_noPanic ?_
        refine wp_region_held_drew (S := fun w' => w'.cell? ⟨gm, 0, none⟩ = some (.slice Alx (N) clx)) (by kernel_rfl) (KP.out _ B0) (fun hHeld => ?_)
        refine takeD (i := 0) (some 179) (.bool true) rfl rfl (by kernel_rfl) (by kernel_rfl) (by kernel_rfl) (fun _ _ _ h => h) (Or.inl ⟨by rfl, fun _ _ => rfl⟩) hHeld ?_
        simp only [Act.put, List.setIfInBounds_toArray, List.set_cons_zero, List.set_cons_succ]
        refine takeD (i := 1) (some 180) (.bool false) rfl rfl (by kernel_rfl) (by kernel_rfl) (by kernel_rfl) (fun _ _ _ h => h) (Or.inl ⟨by rfl, fun _ _ => rfl⟩) hHeld ?_
        simp only [Act.put, List.setIfInBounds_toArray, List.set_cons_zero, List.set_cons_succ]
        refine takeD (i := 2) (some 181) (.bool false) rfl rfl (by kernel_rfl) (by kernel_rfl) (by kernel_rfl) (fun _ _ _ h => h) (Or.inl ⟨by rfl, fun _ _ => rfl⟩) hHeld ?_
        simp only [Act.put, List.setIfInBounds_toArray, List.set_cons_zero, List.set_cons_succ]
        refine takeD (i := 3) (some 182) (.pointer (some ⟨g, 0, none⟩)) rfl rfl (by kernel_rfl) (by kernel_rfl) (by kernel_rfl) (fun _ _ _ h => h) (Or.inl ⟨by rfl, fun _ _ => rfl⟩) hHeld ?_
        simp only [Act.put, List.setIfInBounds_toArray, List.set_cons_zero, List.set_cons_succ]
        refine takeD (i := 5) (some 184) (.pointer (some ⟨gm, 0, none⟩)) rfl rfl (by kernel_rfl) (by kernel_rfl) (by kernel_rfl) (fun _ _ _ h => h) (Or.inl ⟨by rfl, fun _ _ => rfl⟩) hHeld ?_
        simp only [Act.put, List.setIfInBounds_toArray, List.set_cons_zero, List.set_cons_succ]
        refine takeD (i := 6) (some 185) (.pointer (some ⟨gm, 0, none⟩)) rfl rfl (by kernel_rfl) (by kernel_rfl) (by kernel_rfl) (fun _ _ _ h => h) (yields_nil (by rfl) (.tmp 184) rfl _ rfl) hHeld ?_
        simp only [Act.put, List.setIfInBounds_toArray, List.set_cons_zero, List.set_cons_succ]
        refine takeD (i := 7) (some 186) (.pointer (some ⟨gm, 0, none⟩)) rfl rfl (by kernel_rfl) (by kernel_rfl) (by kernel_rfl) (fun _ _ _ h => h) (yields_fldH (by rfl) 30 (.tmp 185) 0 rfl (by decide) (gm) rfl) hHeld ?_
        simp only [Act.put, List.setIfInBounds_toArray, List.set_cons_zero, List.set_cons_succ]
        refine takeD (i := 8) (some 187) (.slice Alx (N) clx) rfl rfl (by kernel_rfl) (by kernel_rfl) (by kernel_rfl) (fun _ _ _ h => h) (yields_loadL (by rfl) (.tmp 186) rfl gm 0 _ rfl (fun _ h => h)) hHeld ?_
        simp only [Act.put, List.setIfInBounds_toArray, List.set_cons_zero, List.set_cons_succ]
        refine takeD (i := 9) (some 188) (.int .i64 ((N : Nat) : Int)) rfl rfl (by kernel_rfl) (by kernel_rfl) (by kernel_rfl) (fun _ _ _ h => h) (yields_len27 (by rfl) (.tmp 187) rfl Alx (N) clx rfl) hHeld ?_
        simp only [Act.put, List.setIfInBounds_toArray, List.set_cons_zero, List.set_cons_succ]
        refine wpAnyH_ready (rs := [4]) (by kernel_rfl) (by decide) ?_
        refine AllReadyH.cons rfl (fun K' hK => ?_) AllReadyH.nil
        go_simp
        refine (Size_any g (N) F (L) w8.drew (HL8.out.below B0)).mono ?_
        rintro ex wx ⟨rfl, rfl⟩
        refine hK.out _ _ (KP.out _ B0) (fun hHeld1 => ?_)
        clear hK
        refine takeD (i := 10) (some 189) (.bool false) rfl rfl (by kernel_rfl) (by kernel_rfl) (by kernel_rfl) (fun _ _ _ h => h) (yields_neN (by rfl) _ _ rfl (((N : Nat) : Int)) (((N : Nat) : Int)) false rfl rfl (by simp)) hHeld1 ?_
        simp only [Act.put, List.setIfInBounds_toArray, List.set_cons_zero, List.set_cons_succ]
        refine takeD (i := 11) (some 190) (.bool false) rfl rfl (by kernel_rfl) (by kernel_rfl) (by kernel_rfl) (fun _ _ _ h => h) (Or.inl ⟨by rfl, fun _ _ => rfl⟩) hHeld1 ?_
        simp only [Act.put, List.setIfInBounds_toArray, List.set_cons_zero, List.set_cons_succ]
        (try simp only [Act.put, List.setIfInBounds_toArray])
        refine wpAnyH_done (by kernel_rfl) ?_ _
        refine NoPanic.normal ?_
        go_wp2_with fail
        go_roundw
        case rel => exact ⟨j + 1, N, F, F', L, by omega, by go_num, Lib.hid (by have := HN.out; omega), HL8.out.below B0, HM8.out.below B0, HFb, HFm, HDj, HLe, b8.drew⟩
        case measure => simp [intOf]; omega
      have q3 : (ki == 3) = false := by simpa using hk3
      clear hk3
      obtain ⟨P, E, hPl, HA1, HA2⟩ := con_pair g gm N ai an L (by have := HNj.out; omega)
      obtain ⟨np, hnp⟩ : ∃ np, P.length = np := ⟨_, rfl⟩
      unfold NewD at HA1 HA2
      rw [hnp] at hPl HA1 HA2
      have HA1 := Lib.hid HA1
      have HA2 := Lib.hid HA2
      clear hnp
      go_wp2_with (first
        | (with_reducible refine wpList_indexK rfl (.tmp 41) (.tmp 42) rfl b off len0 cap0 j at1 _ rfl rfl rfl hjn HAT.out ?_)
        | (with_reducible refine wpList_loadK rfl (.tmp 43) rfl b at1 ki ai an T m c rfl HRG.out ?_)
        | (with_reducible refine wpList_allocK rfl rfl ?_; intro gc w3 hgc hrc hbc; have HRc := Lib.hid hrc; have HGc := Lib.hid hgc; clear hgc hrc)
        | (with_reducible refine wpList_store_row Tryd.aggAsk rfl (.tmp 6) (.tmp 44) rfl _ (askC ki ai an T m c) rfl rfl 33 ask0 HRc.out (askC_size _ _ _ _ _ _) ask0_size (askC_one _ _ _ _ _ _) ?_; intro w4 hr4 ho4; have k4 := ask_cells hr4; have k0 := k4.1; have k1 := k4.2.1; have k2 := k4.2.2.1; have k3 := k4.2.2.2; clear k4; have HR4 := Lib.hid hr4; have b4' : Below wr.heap.size wr w4 := hbc.trans (ho4.below (by have := HGc.out; omega) hbc.size); have b4 := pk.trans (b4'.mono hpk); have HL4 := Lib.hid (HLd.out.below b4'); have HM4 := Lib.hid (HMd.out.below b4'); have HB4 := Lib.hid (HB.out.below b4); have hgc4 := hr4.lt; clear hr4)
        | (go_at_call 23; refine (HA1.out F w4 HL4.out (HT.out.below b4)).mono ?_; rintro e5 w5 ⟨A5, c5, rfl, -, ho5, hb5⟩; have HO5 := Lib.hid ho5.ds; have b5 := b4.trans (hb5.mono b4.size); have HL5 := Lib.hid (HL4.out.below hb5); have HM5 := Lib.hid (HM4.out.below hb5); have k5 := ask_cells (HR4.out.below hb5 hgc4); have k1a := k5.2.1; have k2a := k5.2.2.1; clear k5; clear ho5)
        | (go_at_call 24; refine (HA2.out F' w5 HM5.out (HF.out.below b5) (HT4.out.below b5)).mono ?_; rintro e6 w6 ⟨A6, c6, rfl, -, ho6, hb6⟩; have HO6 := Lib.hid ho6.ds; have HO56 := Lib.hid (HO5.out.below hb6); have b6 := b5.trans (hb6.mono b5.size); have HL6 := Lib.hid (HL5.out.below hb6); have HM6 := Lib.hid (HM5.out.below hb6); clear ho6)
        | (go_at_call 22; refine (RSame_yes A5 A6 np c5 c6 P _ HO56.out HO6.out (by omega)).mono ?_; rintro e7 w7 ⟨rfl, x7, rfl⟩))
      obtain ⟨w8, hw8⟩ : ∃ w8, w6.drewN x7 = w8 := ⟨_, rfl⟩
      have b68 : Below w6.heap.size w6 w8 := by rw [← hw8]; exact below_drewN (Below.refl _ _) x7
      have b8 := b6.trans (b68.mono b6.size)
      have HL8 := Lib.hid (HL6.out.below b68)
      have HM8 := Lib.hid (HM6.out.below b68)
      rw [hw8]
      clear hw8
      obtain ⟨Adx, cdx, Alx, clx, hc0x, _⟩ := HM8.out.cell
      have HCx := Lib.hid hc0x
      have hgmx := HM8.out.2.1 gm HM8.out.1
      have B0 : Below w8.heap.size w8 w8.drew := (Below.refl w8.heap.size w8).drew
      have KP : Hid (∀ wq, Below w8.heap.size w8 wq → wq.cell? ⟨gm, 0, none⟩ = some (.slice Alx (N) clx)) := Lib.hid (fun wq hb => (hb.cell (p := ⟨gm, 0, none⟩) hgmx).trans HCx.out)
      clear hc0x
      refine wp_region_noPanic ?_
      refine wp_region_held_drew (S := fun w' => w'.cell? ⟨gm, 0, none⟩ = some (.slice Alx (N) clx)) (by kernel_rfl) (KP.out _ B0) (fun hHeld => ?_)
      refine takeD (i := 0) (some 179) (.bool true) rfl rfl (by kernel_rfl) (by kernel_rfl) (by kernel_rfl) (fun _ _ _ h => h) (Or.inl ⟨by rfl, fun _ _ => rfl⟩) hHeld ?_
      simp only [Act.put, List.setIfInBounds_toArray, List.set_cons_zero, List.set_cons_succ]
      refine takeD (i := 1) (some 180) (.bool false) rfl rfl (by kernel_rfl) (by kernel_rfl) (by kernel_rfl) (fun _ _ _ h => h) (Or.inl ⟨by rfl, fun _ _ => rfl⟩) hHeld ?_
      simp only [Act.put, List.setIfInBounds_toArray, List.set_cons_zero, List.set_cons_succ]
      refine takeD (i := 2) (some 181) (.bool false) rfl rfl (by kernel_rfl) (by kernel_rfl) (by kernel_rfl) (fun _ _ _ h => h) (Or.inl ⟨by rfl, fun _ _ => rfl⟩) hHeld ?_
      simp only [Act.put, List.setIfInBounds_toArray, List.set_cons_zero, List.set_cons_succ]
      refine takeD (i := 3) (some 182) (.pointer (some ⟨g, 0, none⟩)) rfl rfl (by kernel_rfl) (by kernel_rfl) (by kernel_rfl) (fun _ _ _ h => h) (Or.inl ⟨by rfl, fun _ _ => rfl⟩) hHeld ?_
      simp only [Act.put, List.setIfInBounds_toArray, List.set_cons_zero, List.set_cons_succ]
      refine takeD (i := 5) (some 184) (.pointer (some ⟨gm, 0, none⟩)) rfl rfl (by kernel_rfl) (by kernel_rfl) (by kernel_rfl) (fun _ _ _ h => h) (Or.inl ⟨by rfl, fun _ _ => rfl⟩) hHeld ?_
      simp only [Act.put, List.setIfInBounds_toArray, List.set_cons_zero, List.set_cons_succ]
      refine takeD (i := 6) (some 185) (.pointer (some ⟨gm, 0, none⟩)) rfl rfl (by kernel_rfl) (by kernel_rfl) (by kernel_rfl) (fun _ _ _ h => h) (yields_nil (by rfl) (.tmp 184) rfl _ rfl) hHeld ?_
      simp only [Act.put, List.setIfInBounds_toArray, List.set_cons_zero, List.set_cons_succ]
      refine takeD (i := 7) (some 186) (.pointer (some ⟨gm, 0, none⟩)) rfl rfl (by kernel_rfl) (by kernel_rfl) (by kernel_rfl) (fun _ _ _ h => h) (yields_fldH (by rfl) 30 (.tmp 185) 0 rfl (by decide) (gm) rfl) hHeld ?_
      simp only [Act.put, List.setIfInBounds_toArray, List.set_cons_zero, List.set_cons_succ]
      refine takeD (i := 8) (some 187) (.slice Alx (N) clx) rfl rfl (by kernel_rfl) (by kernel_rfl) (by kernel_rfl) (fun _ _ _ h => h) (yields_loadL (by rfl) (.tmp 186) rfl gm 0 _ rfl (fun _ h => h)) hHeld ?_
      simp only [Act.put, List.setIfInBounds_toArray, List.set_cons_zero, List.set_cons_succ]
      refine takeD (i := 9) (some 188) (.int .i64 ((N : Nat) : Int)) rfl rfl (by kernel_rfl) (by kernel_rfl) (by kernel_rfl) (fun _ _ _ h => h) (yields_len27 (by rfl) (.tmp 187) rfl Alx (N) clx rfl) hHeld ?_
      simp only [Act.put, List.setIfInBounds_toArray, List.set_cons_zero, List.set_cons_succ]
      refine wpAnyH_ready (rs := [4]) (by kernel_rfl) (by decide) ?_
      refine AllReadyH.cons rfl (fun K' hK => ?_) AllReadyH.nil
      go_simp
      refine (Size_any g (N) F (L) w8.drew (HL8.out.below B0)).mono ?_
      rintro ex wx ⟨rfl, rfl⟩
      refine hK.out _ _ (KP.out _ B0) (fun hHeld1 => ?_)
      clear hK
      refine takeD (i := 10) (some 189) (.bool false) rfl rfl (by kernel_rfl) (by kernel_rfl) (by kernel_rfl) (fun _ _ _ h => h) (yields_neN (by rfl) _ _ rfl (((N : Nat) : Int)) (((N : Nat) : Int)) false rfl rfl (by simp)) hHeld1 ?_
      simp only [Act.put, List.setIfInBounds_toArray, List.set_cons_zero, List.set_cons_succ]
      refine takeD (i := 11) (some 190) (.bool false) rfl rfl (by kernel_rfl) (by kernel_rfl) (by kernel_rfl) (fun _ _ _ h => h) (Or.inl ⟨by rfl, fun _ _ => rfl⟩) hHeld1 ?_
      simp only [Act.put, List.setIfInBounds_toArray, List.set_cons_zero, List.set_cons_succ]
      (try simp only [Act.put, List.setIfInBounds_toArray])
      refine wpAnyH_done (by kernel_rfl) ?_ _
      refine NoPanic.normal ?_
      go_wp2_with fail
      go_roundw
      case rel => exact ⟨j + 1, N, F, F', L, by omega, by go_num, Lib.hid (by have := HN.out; omega), HL8.out.below B0, HM8.out.below B0, HFb, HFm, HDj, HLe, b8.drew⟩
      case measure => simp [intOf]; omega
    · have j1 : ¬ (j : Int) < (len0 : Int) := by omega
      go_wp2_with (go_at_call 10; refine (awake_any _ (HT.out.below pk)).mono ?_; rintro e9' w9 ⟨rfl, hb9⟩)
      go_ret
      exact ⟨rfl, pk.trans (hb9.mono hpk)⟩
theorem walk (w : World) (a0 : Option Addr) (len0 cap0 : Nat) (w0 : Asks w a0 len0) (hT : First w ∧ Tab 4 w ∧ Tab 1 w) :
    Calls Tryd.prog 3 #[.slice a0 len0 cap0] w fun e w' => e = .returned (.bool true) ∧ Below w.heap.size w w' := by
  rcases Nat.lt_or_ge 60 len0 with h | h
  · exact walk_no w a0 len0 cap0 h hT.2.2
  · exact walk_ok w a0 len0 cap0 w0 h hT

set_option maxRecDepth 100000 in
theorem lifted (os : Os) (started : os.Started) (H : Type) (enc : TypeId × Value → H) :
    ReturnsInHanded {} Tryd.checked os 3 .any (fun w args => (Rows.ledgerPlaysSpec.pre enc Tryd.prog Tryd.f3 Rows.ledgerPlaysRow.domain false w args ∧ laidMetH Tryd.prog lay3 w) ∧ sizedMet enc Tryd.prog Tryd.f3 (OpenSpec.ofChange Rows.ledgerPlaysSpec) false w args)
      (Rows.ledgerPlaysSpec.post enc Tryd.prog Tryd.f3 false true false false) := by
  refine returnsInHanded_of_change_and (C := Tryd.checked) (X := fun w _ => laidMetH Tryd.prog lay3 w) (fun _ _ _ hh h => h.of_heap hh) own started (by kernel_rfl) Tryd.func3
    (ChangeSpec.witness_shaped (enc := enc) (C := Tryd.checked) (os := os) (X := fun w _ => laidMetH Tryd.prog lay3 w) false (World.laidAll Tryd.prog os lay3) #[.slice none 0 0] 8 rfl (World.shaped_of_ZipB (by kernel_rfl) (by kernel_rfl)) (by kernel_rfl) (by kernel_rfl) (by kernel_rfl) (met3 os _)) ?_
  intro W base args ds gs before hval0 hW hcnd hsz0 hL _
  have hval : ∀ (j : Nat) t v, Tryd.f3.params[j]? = some t → args[j]? = some v → Value.okWide Tryd.prog W .any base t v := hval0
  have hW' := hW
  obtain ⟨p, q, hA0, hV, rfl, hfz, hnd⟩ := hW
  have hA : DataW.TrodAll enc Tryd.prog W 0 (fun _ => true) true Tryd.f3.params.toList args.toList ds p := hA0
  have hsz : (DataW.weightsEach Tryd.prog (Tryd.f3.params.toList ++ Rows.ledgerPlaysSpec.plain.varTypes Tryd.prog) (ds ++ gs)).all (· ≤ reachBytes) = true := hsz0
  rw [Tryd.params3] at hA hval hsz
  obtain ⟨v0, vs0, d0, ds0, p0, q0, hargs, rfl, rfl, h0, r0⟩ := trodAll_cons hA
  obtain ⟨rfl, rfl, rfl⟩ := trodAll_nil r0
  obtain rfl : args = #[v0] := by cases args; simp_all
  obtain ⟨rfl, rfl⟩ := trodVars_none hV
  have k0 := h0
  have lt0 : ∀ x ∈ p0, x.block < W.heap.size := by obtain ⟨m, hm⟩ := k0; exact DataW.trod_lt m _ _ _ hm
  obtain ⟨a0, len0, cap0, rfl, w0⟩ := open_asks (hval 0 22 v0 rfl rfl) h0
  have hTab := of_lay3 hL
  clear hA0 hval0
  refine (walk W a0 len0 cap0 w0 hTab).mono fun e W' ⟨he, bel⟩ => ?_
  subst he
  exact ⟨_, rfl, _, _, _, [], _, [], hW', trodAll_mk1 (shut_bool Tryd.underlying4 _), (trodAll_cons_mk (Below.trod laidOut (by kernel_rfl) (of_decide_eq_true (by kernel_rfl)) k0 bel lt0) trodAll_mk0), rfl, bel.frame _, fun h => by cases h⟩
theorem over : Rows.ledgerPlaysRow.holds Tryd.pinned (OpenSpec.ofChange Rows.ledgerPlaysSpec) :=
  OpenClaim.holds_of_wide 3 Tryd.f3 rfl rfl rfl rfl rfl rfl rfl ⟨rfl, rfl, rfl, rfl, rfl⟩ rfl rfl rfl rfl rfl (by kernel_rfl) Tryd.func3 (by kernel_rfl)
    (of_decide_eq_true (by kernel_rfl)) (by unfold Func.isWrapper; first | (rw [if_pos (by decide +kernel)]; kernel_rfl) | (rw [if_neg (by decide +kernel)]; exact ⟨rfl, rfl⟩))
    (fun os started H enc _ => lifted os started H enc)
theorem ledgerPlays_holds : Rows.LedgerPlaysCardSaid :=
  Claim7.holds_tied_plain_at .later [] [.data, .data, .data] true (true, "f8c962b95d10cf3f48b702edcbd29cecae4a1f65726c23e3d9eda044e33029ae") false
    over (fun _ h => by cases h) (by kernel_rfl) (fun _ h => by cases h) ledgerPlays_row_tie rfl ⟨rfl, rfl⟩ (by kernel_rfl) rfl
    (fun f fn hf hfn => by
      obtain rfl : f = 3 := Option.some.inj ((show Tryd.prog.funcNamed "jurat/juratlaw09.LedgerPlays" = some 3 by kernel_rfl).symm.trans hf) |>.symm
      obtain rfl : fn = Tryd.f3 := (Option.some.inj (Tryd.func3.symm.trans hfn)).symm
      exact ⟨by kernel_rfl, fun j t ht => by
        rw [Tryd.params3] at ht
        have hm : t ∈ [22] := by simpa using Array.mem_of_getElem? ht
        have hall : ([22].all fun u => !Tryd.prog.wantsStandIn u) = true := by kernel_rfl
        exact (show Tryd.prog.wantsStandIn t = false by simpa using List.all_eq_true.1 hall t hm)⟩)
    (by kernel_rfl)
#print axioms ledgerPlays_holds
end Go.Proofs.YtbpbpdaohganaaaDoor.ledgerPlays
