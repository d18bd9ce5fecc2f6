/-
  LedgerOwn, whole, as the tied card (Rows.LedgerOwnCardSaid): for every list of 1 to 100 leaves of up to 500 bytes and every place i of it (reckoned of any number): a copy of the leaf at i is appended; whoever then writes into what was handed in, into the leaf that is answered, or into the proof that is answered, changes nothing that the ledger tells: the leaf that is told is the one at i still, and the proof of i that is told is included in the head that was told before; and the document's example of two leaves. Conditions: the table sha.constants reads as its initialiser lays it (tied to the program's text).
-/
import Derived.Test.YtbpbpdaohganaaaDoorRows
import Derived.Test.YtbpbpdaohganaaaDoorCards
import Derived.Test.YtbpbpdaohganaaaDoorTie
import Derived.WalkKit
import Derived.ProofKit
import Derived.OpenShut
import Derived.ChangeMaps5
import Derived.ShutString
import Derived.ChangeOld
import Derived.Below
import Derived.SizedLaws
import Derived.SevenTiedAt
import Derived.Lay
import Derived.LaidLaws
import Derived.Test.YtbpbpdaohganaaaDoorLedJ
namespace Go.Proofs.YtbpbpdaohganaaaDoor.ledgerOwn
open Go.ChangeShapes Go.WideShapes Go.ChangeAt Go.RowKit
open Go.ChangeMaps (open_string shut_string)
set_option linter.unusedVariables false
theorem own : ownKnob Tryd.prog.godebug = none := by kernel_rfl
theorem laidOut : laidOutB Tryd.prog = true := by kernel_rfl
/-- the first n cells are bytes -/
def U8s (cs : Array Value) (n : Nat) : Prop := n ≤ cs.size ∧ ∀ j, j < n → ∃ y : Int, cs[j]? = some (.int .u8 y)
theorem U8s.set {cs : Array Value} {n : Nat} (h : U8s cs n) (k : Nat) (y : Int) : U8s (cs.setIfInBounds k (.int .u8 y)) n := by
  refine ⟨by rw [Array.size_setIfInBounds]; exact h.1, fun j hj => ?_⟩
  rw [Array.getElem?_setIfInBounds]
  by_cases hk : k = j
  · rw [if_pos hk, if_pos (by have := h.1; omega)]; exact ⟨y, rfl⟩
  · rw [if_neg hk]; exact h.2 j hj
theorem own_u8 {w : World} {base : Nat} {A : Option Addr} {n c : Nat} {l : List UInt8} (h : Own w base 5 (.slice A n c) n l) : n = 0 ∨ ∃ g cs, A = some ⟨g, 0, none⟩ ∧ base ≤ g ∧ Row w g 5 cs ∧ U8s cs n := by
  have hl := h.length
  rcases h.2 with ⟨_, hn⟩ | ⟨g, cap, cur, hv, hge, hg, hnc, _, hcs, ht⟩
  · exact .inl hn
  · injection hv with h1 _ h3
    subst h1 h3
    refine .inr ⟨g, cur, rfl, hge, hg, by omega, fun j hj => ?_⟩
    have hj2 : j < l.length := by omega
    have e := congrArg (fun m => m[j]?) ht
    simp only [List.getElem?_take, List.getElem?_map] at e
    rw [if_pos (by omega), List.getElem?_eq_getElem hj2] at e
    exact ⟨_, by simpa using e⟩
/-- bytes into which one may write, in a block for which X holds -/
def WrB (w : World) (A : Option Addr) (m : Nat) (X : Nat → Prop) : Prop := m = 0 ∨ ∃ g cs, A = some ⟨g, 0, none⟩ ∧ Row w g 5 cs ∧ U8s cs m ∧ X g
theorem WrB.of {w : World} {base : Nat} {A : Option Addr} {n c : Nat} {l : List UInt8} {X : Nat → Prop} (h : Own w base 5 (.slice A n c) n l) (hX : ∀ g, base ≤ g → g < w.heap.size → X g) : WrB w A n X := by
  rcases own_u8 h with h0 | ⟨g, cs, h1, h2, h3, h4⟩
  · exact .inl h0
  · exact .inr ⟨g, cs, h1, h3, h4, hX g h2 h3.lt⟩
theorem WrB.below {w w' : World} {A : Option Addr} {n : Nat} {X Y : Nat → Prop} (h : WrB w A n X) (hb : Below w.heap.size w w') (hX : ∀ g, g < w.heap.size → X g → Y g) : WrB w' A n Y := by
  rcases h with h0 | ⟨g, cs, h1, h2, h3, h4⟩
  · exact .inl h0
  · exact .inr ⟨g, cs, h1, h2.below hb h2.lt, h3, hX g h2.lt h4⟩
/-- digests into which one may write -/
def WrD (w : World) (A : Option Addr) (m : Nat) (X : Nat → Prop) : Prop := m = 0 ∨ ∃ g cs, A = some ⟨g, 0, none⟩ ∧ Row w g 46 cs ∧ 32 * m ≤ cs.size ∧ X g
theorem WrD.of {w : World} {base : Nat} {A : Option Addr} {n c : Nat} {L : List (List UInt8)} {X : Nat → Prop} (h : OwnD w base (.slice A n c) n L) (hX : ∀ g, base ≤ g → g < w.heap.size → X g) : WrD w A n X := by
  rcases h.2.2 with ⟨_, hn⟩ | ⟨g, cap, cur, hv, hge, hg, hnc, _, hcs, _⟩
  · exact .inl hn
  · injection hv with q1 q2 q3
    exact .inr ⟨g, cur, q1, hg, by omega, hX g hge (Array.getElem?_eq_some_iff.1 hg).1⟩
theorem spl_size (cs : Array Value) (o : Nat) (d : List UInt8) (h : o + d.length ≤ cs.size) : (spl cs o d).size = cs.size := by
  unfold spl splice
  simp
  omega
theorem ledWrite {w w' : World} {g n k : Nat} {F : Nat → Prop} {L : List (List UInt8)} (h : Led w g F n L) (ho : Only k w w') (hk : ¬ F k) : Led w' g F n L := h.same (fun b hb => ho.block b (h.2.1 b hb) (fun q => hk (by rw [← q]; exact hb))) ho.size
set_option maxRecDepth 100000 in
set_option maxHeartbeats 1000000 in
theorem walk_no (w : World) (a0 : Option Addr) (len0 cap0 : Nat) (L0 : List (List UInt8)) (w0 : Bss w a0 len0 L0) (a1 : Int) (h : longL L0 = true) (hT : Tab 1 w) :
    Calls Tryd.prog 8 #[.slice a0 len0 cap0, .int .i64 a1] w fun e w' => e = .returned (.bool true) ∧ Below w.heap.size w w' := by
  have HM := Lib.hid (made_no a0 len0 cap0 L0 w w0 hT h)
  have HT := Lib.hid hT
  clear hT w0 h
  go_enter Tryd.func8, Tryd.ntmps8
  go_wp2_with (first
    | (go_at_call 26; refine HM.out.mono ?_; rintro e1 w1 ⟨g, rfl, hb1⟩)
    | (go_at_call 10; refine (awake_any _ (HT.out.below hb1)).mono ?_; rintro e2 w2 ⟨rfl, hb2⟩))
  go_ret
  exact ⟨rfl, hb1.trans (hb2.mono hb1.size)⟩
set_option maxRecDepth 100000 in
set_option maxHeartbeats 1000000 in
theorem walk_nil (w : World) (a0 : Option Addr) (cap0 : Nat) (w0 : Bss w a0 0 []) (a1 : Int) (hT : Tab 1 w) :
    Calls Tryd.prog 8 #[.slice a0 0 cap0, .int .i64 a1] w fun e w' => e = .returned (.bool true) ∧ Below w.heap.size w w' := by
  have HM := Lib.hid (made_ok a0 0 cap0 [] w w0 hT rfl)
  have HT := Lib.hid hT
  clear hT w0
  go_enter Tryd.func8, Tryd.ntmps8
  go_wp2_with (first
    | (go_at_call 26; refine HM.out.mono ?_; rintro e1 w1 ⟨g, F, rfl, hb1, -⟩)
    | (go_at_call 10; refine (awake_any _ (HT.out.below hb1)).mono ?_; rintro e2 w2 ⟨rfl, hb2⟩))
  go_ret
  exact ⟨rfl, hb1.trans (hb2.mono hb1.size)⟩
set_option maxRecDepth 100000 in
set_option maxHeartbeats 8000000 in
theorem walk_ok (w : World) (a0 : Option Addr) (len0 cap0 : Nat) (L0 : List (List UInt8)) (w0 : Bss w a0 len0 L0) (a1 : Int) (h : longL L0 = false) (h1 : 1 ≤ len0) (hT : Tab 1 w) :
    Calls Tryd.prog 8 #[.slice a0 len0 cap0, .int .i64 a1] w fun e w' => e = .returned (.bool true) ∧ Below w.heap.size w w' := by
  have hlen := w0.1
  have hT1 := hT.1
  have h100 : len0 ≤ 100 := by rw [← hlen]; exact (longL_no h).1
  have hle := (longL_no h).2
  have HM := Lib.hid (made_ok a0 len0 cap0 L0 w w0 hT h)
  obtain ⟨i, hi, hin⟩ := mod_in a1 len0 (by omega)
  have HI1 := Lib.hid hi
  clear hi
  obtain ⟨b, off, A', c', l, rfl, hbl, hl, hcl, hlc, hBl⟩ := w0.get (k := i) (by omega)
  have HLE := Lib.hid (hle l (List.mem_of_getElem? hl))
  obtain ⟨m, hm⟩ : ∃ m, l.length = m := ⟨_, rfl⟩
  have HML := Lib.hid hm
  rw [hm] at hcl hlc hBl HLE
  obtain ⟨M, hM⟩ : ∃ M, L0 ++ [l] = M := ⟨_, rfl⟩
  have hMl : M.length = len0 + 1 := by rw [← hM, List.length_append, hlen]; rfl
  have hMi : M[i]? = some l := by rw [← hM, List.getElem?_append_left (by omega)]; exact hl
  have hMk : M[len0]? = some l := by rw [← hM, List.getElem?_append_right (by omega), hlen, Nat.sub_self]; rfl
  obtain ⟨n, hn⟩ : ∃ n, len0 + 1 = n := ⟨_, rfl⟩
  obtain ⟨hE, hI⟩ := led_inc M n i l (by omega) (by omega) hMi
  have HAp := Lib.hid (fun g A c F w h hB hA hc hT hT1 => show Calls Tryd.prog 12 #[.pointer (some ⟨g, 0, none⟩), .slice A m c] w fun e w' => e = .returned (.tuple #[.int .i64 (len0 : Int), .int .i64 0]) ∧ Grew w g n F M w' by have q := App_ok g len0 m c A F L0 l w h hB hA hc (by have := HLE.out; omega) (by omega) hT hT1; rwa [hM, hn] at q)
  have HSz := Lib.hid (fun g F w h => Size_any g n F M w h)
  have HHd := Lib.hid (fun g F w h hT => Head_ok g n n F M w h (Nat.le_refl _) (by omega) hT)
  have HLv := Lib.hid (fun g F w h => show Calls Tryd.prog 15 #[.pointer (some ⟨g, 0, none⟩), .int .i64 (len0 : Int)] w fun e w' => ∃ A c, e = .returned (.tuple #[.slice A m c, .int .i64 0]) ∧ m ≤ c ∧ Own w' w.heap.size 5 (.slice A m c) m l ∧ Below w.heap.size w w' by have q := LLeaf_ok g n len0 l F M w h hMk (by have := HLE.out; omega); unfold LeafR at q; rwa [hm] at q)
  have HIn := Lib.hid (fun g F w h hT => show Calls Tryd.prog 20 #[.pointer (some ⟨g, 0, none⟩), .int .i64 (i : Int), .int .i64 (n : Int)] w (NewD w (incI ((M.map leafL).take n) (i : Int)) 0) by have q := LInclude_ok g n n (i : Int) F M w h (Nat.le_refl _) (by omega) hT; rwa [hE] at q)
  have hDg : Digs ((M.map leafL).take n) := Digs.take (fun d hd => by simp only [List.mem_map] at hd; obtain ⟨l, _, rfl⟩ := hd; exact leafL_length l) n
  have HRL := Lib.hid (rootL_length _ hDg)
  have hPL := incI_length ((M.map leafL).take n) (i : Int) (by rw [List.length_take, List.length_map]; omega)
  generalize incI ((M.map leafL).take n) (i : Int) = P at *
  generalize rootL ((M.map leafL).take n) = R at *
  obtain ⟨np, hnp⟩ : ∃ np, P.length = np := ⟨_, rfl⟩
  rw [hnp] at hPL
  unfold NewD at HIn
  rw [hnp] at HIn
  have HSZ := Lib.hid (headC_size (n : Int) R HRL.out)
  have HOw := Lib.hid (fun w hB => ownB_any A' m c' l w hB (by have := HLE.out; omega))
  have HSm := Lib.hid (fun A c w h1 h2 => Same_yes A A' m c c' l w h1 h2 (by have := HLE.out; omega))
  have HLf := Lib.hid (fun A c w hB hc hT => Leaf_any A m c l w hB hc (by have := HLE.out; omega) hT)
  have HDL := Lib.hid (leafL_length l)
  have HIc := Lib.hid (fun A c w hc hD hT => show Calls Tryd.prog 27 #[.agg (bcells (leafL l)), .int .i64 (i : Int), .int .i64 (n : Int), .slice A np c, .agg (bcells R)] w fun e w' => e = .returned (.bool true) ∧ Below w.heap.size w w' by have q := Included_any (leafL l) R (i : Int) (n : Int) A np c P w HDL.out HRL.out (by omega) hc (by omega) hD hT; rwa [hI] at q)
  generalize leafL l = d at *
  have i0 : ((len0 : Int) == 0) = false := by simp; omega
  have i0b : ¬ len0 = 0 := by omega
  have i0c : ¬ (len0 : Int) = 0 := by omega
  have HE1 := Lib.hid (u64_small len0 (by omega))
  have HE6 := Lib.hid (wrap_small (i : Int) (by omega) (by omega))
  have HE7 := Lib.hid (w64_small (i : Int) (by omega) (by omega))
  have HB := Lib.hid w0
  have HBl := Lib.hid hBl
  have HCl := Lib.hid hcl
  have HBLT := Lib.hid hbl
  have HIN := Lib.hid (show i < len0 by omega)
  have HT := Lib.hid hT
  have HPL := Lib.hid hPL
  clear hT w0 hBl h hlen h100 hle hE hI hDg hPL hl hlc hm h1 hin hn hbl hM hMl hMi hMk hnp
  have hi := HI1.out
  have hm500 := HLE.out
  have hnp20 := HPL.out
  have e1 := HE1.out
  have e6 := HE6.out
  have e7 := HE7.out
  go_enter Tryd.func8, Tryd.ntmps8
  go_wp2_with (first
    | (go_at_call 26; refine HM.out.mono ?_; rintro e1' w1 ⟨g, F, rfl, hb1, hF1, hl1⟩; have HL1 := Lib.hid hl1; have HF1 := Lib.hid hF1; have hs1 := hb1.size; have hcl1 := (hb1.cell (p := ⟨b, off + i, none⟩) HBLT.out).trans HCl.out; clear hl1 hF1)
    | (go_at_call 13; refine (HOw.out _ (HBl.out.below hb1)).mono ?_; rintro e2' w2 ⟨A2, c2, rfl, hc2, ho2, hb2⟩; have HO2 := Lib.hid ho2; have b2 := hb1.trans (hb2.mono hs1); have HL2 := Lib.hid (HL1.out.below hb2); clear ho2)
    | (go_at_call 12; refine (HAp.out g A2 c2 F w2 HL2.out HO2.out.bs (fun b' o' q1 q2 => absurd (HO2.out.fresh b' o' q1) (Nat.not_le_of_lt (HL1.out.2.1 b' q2))) hc2 (HT.out.below b2) (fun q => absurd (HF1.out 1 q) (by omega))).mono ?_; rintro e3' w3 ⟨rfl, ⟨F3, hF3, hl3⟩, ho3⟩; have HF3 := Lib.hid (show ∀ b, F3 b → w.heap.size ≤ b from fun b q => (hF3 b q).elim (HF1.out b) (fun q2 => Nat.le_trans b2.size q2)); have HL3 := Lib.hid hl3; have HG3 := Lib.hid hF3; have HO3 := Lib.hid ho3; have b3 := b2.trans (ho3.below HF1.out b2.size); clear hF3 hl3 ho3)
    | (go_at_call 25; refine (HSz.out g F3 _ HL3.out).mono ?_; rintro e4' w4 ⟨rfl, rfl⟩)
    | (go_at_call 18; refine (HHd.out g F3 _ HL3.out (HT.out.below b3)).mono ?_; rintro e5' w5 ⟨rfl, hb5⟩; have b5 := b3.trans (hb5.mono b3.size); have HL5 := Lib.hid (HL3.out.below hb5))
    | (with_reducible refine wpList_allocH (w := w5) rfl rfl ?_; intro gh w6 hgh hrh hbh; have HRh := Lib.hid hrh; have hge : w5.heap.size ≤ gh := (by omega); clear hgh hrh)
    | (with_reducible refine wpList_store_row Tryd.aggHead rfl (.tmp 10) (.tmp 59) rfl _ (headC (n : Int) R) rfl rfl 48 head0 HRh.out HSZ.out head0_size (headC_one _ _) ?_; intro w7 hr7 ho7; have HR7 := Lib.hid hr7; have HO7 := Lib.hid ho7; clear hr7 ho7))
  have b57 : Below w5.heap.size w5 w7 := hbh.trans (HO7.out.below hge hbh.size)
  have b7 := b5.trans (b57.mono b5.size)
  have HL7 := Lib.hid (HL5.out.below b57)
  have hs5 := hb5.size
  have HW2 : WrB w2 A2 m (fun k => w1.heap.size ≤ k ∧ k < w2.heap.size) := WrB.of HO2.out (fun k q1 q2 => ⟨q1, q2⟩)
  have HW3 : Hid (WrB w3 A2 m (fun k => w.heap.size ≤ k ∧ k < w3.heap.size ∧ ¬ F3 k)) := by
    rcases HW2 with q | ⟨k, cs, q1, q2, q3, q4⟩
    · exact .inl q
    · have hk := q2.lt
      have h3 := HO3.out.size
      have hnF : ¬ F k := fun q => absurd (HL1.out.2.1 k q) (by omega)
      exact .inr ⟨k, cs, q1, (HO3.out.block k hk hnF).trans q2, q3, by omega, by omega, fun q => (HG3.out k q).elim hnF (fun q5 => absurd hk (by omega))⟩
  have HW7 := Lib.hid (HW3.out.below (Y := fun k => w.heap.size ≤ k ∧ k ≠ gh ∧ ¬ F3 k) (hb5.trans (b57.mono hs5)) (fun k q1 q2 => ⟨q2.1, by omega, q2.2.2⟩))
  have HGF := Lib.hid (show ¬ F3 gh from fun q => absurd (HL5.out.2.1 gh q) (by omega))
  have hgw : w.heap.size ≤ gh := by have := b5.size; omega
  go_loopw [12] (fun i wr => ∃ (k : Nat), k ≤ m ∧ i = .int .i64 k ∧ Below w.heap.size w wr ∧ Led wr g F3 n M ∧ Row wr gh 48 (headC (n : Int) R) ∧ WrB wr A2 m (fun k => w.heap.size ≤ k ∧ k ≠ gh ∧ ¬ F3 k)) (fun i _ => m - (intOf i).toNat)
  case atStart => exact ⟨0, Nat.zero_le _, rfl, b7, HL7.out, HR7.out, HW7.out⟩
  case round =>
    obtain ⟨k, hk, rfl, pk, hld, hrow, hwr⟩ := hrel
    have HLd := Lib.hid hld
    have HRw := Lib.hid hrow
    clear hld hrow
    by_cases hlt : k < m
    · obtain ⟨gb, cs, rfl, hrb, hu, hX⟩ := hwr.resolve_left (by omega)
      obtain ⟨y, hy⟩ := hu.2 k hlt
      have hcell := (hrb.cell k).trans hy
      have hfz := hrb.frozen k
      have j1 : (k : Int) < (m : Int) := by omega
      have HRb := Lib.hid hrb
      have HU := Lib.hid hu
      have HX := Lib.hid hX
      clear hrb hu hX hy
      go_wp2
      go_roundw
      case rel => exact ⟨k + 1, by omega, by go_num, pk.setCell HX.out.1 _, ledWrite HLd.out (Only.setCell gb k wr _) HX.out.2.2, HRw.out.only (Only.setCell gb k wr _) (fun q => HX.out.2.1 q.symm), .inr ⟨gb, _, rfl, HRb.out.set _ _, HU.out.set _ _, HX.out⟩⟩
      case measure => simp [intOf]; omega
    · have j1 : ¬ (k : Int) < (m : Int) := by omega
      have hpk := pk.size
      clear hwr
      go_wp2_with (go_at_call 15; refine (HLv.out g F3 _ HLd.out).mono ?_; rintro e8' w8 ⟨A8, c8, rfl, hc8, ho8, hb8⟩; have b8 := pk.trans (hb8.mono hpk); have hrl := HRw.out.lt; have HL8 := Lib.hid (HLd.out.below hb8); have HR8 := Lib.hid (HRw.out.below hb8 hrl); have HW8 := Lib.hid (WrB.of (X := fun k => w.heap.size ≤ k ∧ k ≠ gh ∧ ¬ F3 k) ho8 (fun k q1 _ => ⟨Nat.le_trans hpk q1, by omega, fun q => absurd (HLd.out.2.1 k q) (by omega)⟩)); clear ho8)
      go_loopw [15] (fun i wr => ∃ (k : Nat), k ≤ m ∧ i = .int .i64 k ∧ Below w.heap.size w wr ∧ Led wr g F3 n M ∧ Row wr gh 48 (headC (n : Int) R) ∧ WrB wr A8 m (fun k => w.heap.size ≤ k ∧ k ≠ gh ∧ ¬ F3 k)) (fun i _ => m - (intOf i).toNat)
      case atStart => exact ⟨0, Nat.zero_le _, rfl, b8, HL8.out, HR8.out, HW8.out⟩
      case round =>
        clear HLd HRw pk hpk HL8 HR8 HW8 b8 hb8
        obtain ⟨k, hk, rfl, pk, hld, hrow, hwr⟩ := hrel
        have HLd := Lib.hid hld
        have HRw := Lib.hid hrow
        clear hld hrow
        by_cases hlt : k < m
        · obtain ⟨gb, cs, rfl, hrb, hu, hX⟩ := hwr.resolve_left (by omega)
          obtain ⟨y, hy⟩ := hu.2 k hlt
          have hcell := (hrb.cell k).trans hy
          have hfz := hrb.frozen k
          have j2 : (k : Int) < (m : Int) := by omega
          have HRb := Lib.hid hrb
          have HU := Lib.hid hu
          have HX := Lib.hid hX
          clear hrb hu hX hy
          go_wp2
          go_roundw
          case rel => exact ⟨k + 1, by omega, by go_num, pk.setCell HX.out.1 _, ledWrite HLd.out (Only.setCell gb k _ _) HX.out.2.2, HRw.out.only (Only.setCell gb k _ _) (fun q => HX.out.2.1 q.symm), .inr ⟨gb, _, rfl, HRb.out.set _ _, HU.out.set _ _, HX.out⟩⟩
          case measure => simp [intOf]; omega
        · have j2 : ¬ (k : Int) < (m : Int) := by omega
          have hpk := pk.size
          clear hwr
          go_wp2_with (first
            | (go_at_call 25; refine (HSz.out g F3 _ HLd.out).mono ?_; rintro e9' w9 ⟨rfl, rfl⟩)
            | (go_at_call 20; refine (HIn.out g F3 _ HLd.out (HT.out.below pk)).mono ?_; rintro e10' w10 ⟨A10, c10, rfl, hc10, ho10, hb10⟩; have b10 := pk.trans (hb10.mono hpk); have hrl := HRw.out.lt; have HL10 := Lib.hid (HLd.out.below hb10); have HR10 := Lib.hid (HRw.out.below hb10 hrl); have HW10 := Lib.hid (WrD.of (X := fun k => w.heap.size ≤ k ∧ k ≠ gh ∧ ¬ F3 k) ho10 (fun k q1 _ => ⟨Nat.le_trans hpk q1, by omega, fun q => absurd (HLd.out.2.1 k q) (by omega)⟩)); clear ho10))
          go_loopw [18] (fun i wr => ∃ (k : Nat), k ≤ np ∧ i = .int .i64 k ∧ Below w.heap.size w wr ∧ Led wr g F3 n M ∧ Row wr gh 48 (headC (n : Int) R) ∧ WrD wr A10 np (fun k => w.heap.size ≤ k ∧ k ≠ gh ∧ ¬ F3 k)) (fun i _ => np - (intOf i).toNat)
          case atStart => exact ⟨0, Nat.zero_le _, rfl, b10, HL10.out, HR10.out, HW10.out⟩
          case round =>
            clear HLd HRw pk hpk HL10 HR10 HW10 b10 hb10
            obtain ⟨k, hk, rfl, pk, hld, hrow, hwr⟩ := hrel
            have HLd := Lib.hid hld
            have HRw := Lib.hid hrow
            clear hld hrow
            by_cases hlt : k < np
            · obtain ⟨gb, cs, rfl, hrb, hu, hX⟩ := hwr.resolve_left (by omega)
              have j3 : (k : Int) < (np : Int) := by omega
              have HRb := Lib.hid hrb
              have HU := Lib.hid hu
              have HX := Lib.hid hX
              obtain ⟨ok, hok⟩ : ∃ ok, 0 + 32 * k = ok := ⟨_, rfl⟩
              have HOK := Lib.hid hok
              have HFT := Lib.hid (show ok + 32 ≤ cs.size by omega)
              clear hrb hu hX hok
              go_wp2_with (first
                | (with_reducible refine wpList_zeroD rfl rfl ?_)
                | (with_reducible refine wpList_indexO rfl (.tmp 105) (.tmp 106) rfl gb 0 np c10 k ok _ rfl rfl rfl hlt HOK.out ?_)
                | (with_reducible refine wpList_storeD rfl (.tmp 108) (.tmp 107) rfl gb ok zero32 rfl rfl 46 cs HRb.out zero32_length HFT.out ?_; intro w11 hr11 ho11; have HR11 := Lib.hid hr11; have HO11 := Lib.hid ho11; clear hr11 ho11))
              go_roundw
              case rel => exact ⟨k + 1, by omega, by go_num, pk.trans (HO11.out.below HX.out.1 pk.size), ledWrite HLd.out HO11.out HX.out.2.2, HRw.out.only HO11.out (fun q => HX.out.2.1 q.symm), .inr ⟨gb, _, rfl, HR11.out, by rw [spl_size _ _ _ (by rw [zero32_length]; exact HFT.out)]; exact HU.out, HX.out⟩⟩
              case measure => simp [intOf]; omega
            · have j3 : ¬ (k : Int) < (np : Int) := by omega
              have hpk := pk.size
              clear hwr
              go_wp2_with (first
                | (go_at_call 15; refine (HLv.out g F3 _ HLd.out).mono ?_; rintro e12' w12 ⟨A12, c12, rfl, hc12, ho12, hb12⟩; have b12 := pk.trans (hb12.mono hpk); have hrl := HRw.out.lt; have HL12 := Lib.hid (HLd.out.below hb12); have HR12 := Lib.hid (HRw.out.below hb12 hrl); have HD12 := Lib.hid ho12.bs; clear ho12)
                | (go_at_call 25; refine (HSz.out g F3 _ HL12.out).mono ?_; rintro e13' w13 ⟨rfl, rfl⟩)
                | (go_at_call 20; refine (HIn.out g F3 _ HL12.out (HT.out.below b12)).mono ?_; rintro e14' w14 ⟨A14, c14, rfl, hc14, ho14, hb14⟩; have b14 := b12.trans (hb14.mono b12.size); have hrl12 := HR12.out.lt; have HL14 := Lib.hid (HL12.out.below hb14); have HR14 := Lib.hid (HR12.out.below hb14 hrl12); have HD14 := Lib.hid (HD12.out.below hb14); have HQ14 := Lib.hid ho14.ds; have hlt14 := HR14.out.lt; clear ho14))
              have B0 : Below w14.heap.size w14 w14.drew := (Below.refl w14.heap.size w14).drew
              have KP : Hid (∀ wq, Below w14.heap.size w14 wq → Row wq gh 48 (headC (n : Int) R) ∧ wq.cell? ⟨b, off + i, none⟩ = some (.slice A' m c')) := Lib.hid (fun wq hb => ⟨HR14.out.below hb hlt14, ((b14.trans (hb.mono b14.size)).cell (p := ⟨b, off + i, none⟩) HBLT.out).trans HCl.out⟩)
              refine wp_region_noPanic ?_
              refine wp_region_held_drew (S := fun w' => Row w' gh 48 (headC (n : Int) R) ∧ w'.cell? ⟨b, off + i, none⟩ = some (.slice A' m c')) (by kernel_rfl) (KP.out _ B0) (fun hHeld => ?_)
              refine takeD (i := 0) (some 123) (.int .i64 0) rfl rfl (by kernel_rfl) (by kernel_rfl) (by kernel_rfl) (fun _ _ _ h => h) (Or.inl ⟨by rfl, fun _ _ => rfl⟩) hHeld ?_
              simp only [Act.put, List.setIfInBounds_toArray, List.set_cons_zero, List.set_cons_succ]
              refine takeD (i := 1) (some 124) (.bool true) rfl rfl (by kernel_rfl) (by kernel_rfl) (by kernel_rfl) (fun _ _ _ h => h) (yields_eqE (by rfl) _ _ rfl (0) (0) true rfl rfl (by simp)) hHeld ?_
              simp only [Act.put, List.setIfInBounds_toArray, List.set_cons_zero, List.set_cons_succ]
              refine takeD (i := 2) (some 125) (.bool true) rfl rfl (by kernel_rfl) (by kernel_rfl) (by kernel_rfl) (fun _ _ _ h => h) (Or.inl ⟨by rfl, fun _ _ => rfl⟩) hHeld ?_
              simp only [Act.put, List.setIfInBounds_toArray, List.set_cons_zero, List.set_cons_succ]
              refine takeD (i := 3) (some 126) (.int .i64 0) rfl rfl (by kernel_rfl) (by kernel_rfl) (by kernel_rfl) (fun _ _ _ h => h) (Or.inl ⟨by rfl, fun _ _ => rfl⟩) hHeld ?_
              simp only [Act.put, List.setIfInBounds_toArray, List.set_cons_zero, List.set_cons_succ]
              refine takeD (i := 4) (some 127) (.bool true) rfl rfl (by kernel_rfl) (by kernel_rfl) (by kernel_rfl) (fun _ _ _ h => h) (yields_eqE (by rfl) _ _ rfl (0) (0) true rfl rfl (by simp)) hHeld ?_
              simp only [Act.put, List.setIfInBounds_toArray, List.set_cons_zero, List.set_cons_succ]
              refine takeD (i := 5) (some 128) (.bool true) rfl rfl (by kernel_rfl) (by kernel_rfl) (by kernel_rfl) (fun _ _ _ h => h) (Or.inl ⟨by rfl, fun _ _ => rfl⟩) hHeld ?_
              simp only [Act.put, List.setIfInBounds_toArray, List.set_cons_zero, List.set_cons_succ]
              refine takeD (i := 6) (some 129) (.bool true) rfl rfl (by kernel_rfl) (by kernel_rfl) (by kernel_rfl) (fun _ _ _ h => h) (Or.inl ⟨by rfl, fun _ _ => rfl⟩) hHeld ?_
              simp only [Act.put, List.setIfInBounds_toArray, List.set_cons_zero, List.set_cons_succ]
              refine takeD (i := 7) (some 130) (.int .i64 0) rfl rfl (by kernel_rfl) (by kernel_rfl) (by kernel_rfl) (fun _ _ _ h => h) (Or.inl ⟨by rfl, fun _ _ => rfl⟩) hHeld ?_
              simp only [Act.put, List.setIfInBounds_toArray, List.set_cons_zero, List.set_cons_succ]
              refine takeD (i := 8) (some 131) (.bool true) rfl rfl (by kernel_rfl) (by kernel_rfl) (by kernel_rfl) (fun _ _ _ h => h) (yields_eqE (by rfl) _ _ rfl (0) (0) true rfl rfl (by simp)) hHeld ?_
              simp only [Act.put, List.setIfInBounds_toArray, List.set_cons_zero, List.set_cons_succ]
              refine takeD (i := 9) (some 132) (.bool true) rfl rfl (by kernel_rfl) (by kernel_rfl) (by kernel_rfl) (fun _ _ _ h => h) (Or.inl ⟨by rfl, fun _ _ => rfl⟩) hHeld ?_
              simp only [Act.put, List.setIfInBounds_toArray, List.set_cons_zero, List.set_cons_succ]
              refine takeD (i := 10) (some 133) (.bool true) rfl rfl (by kernel_rfl) (by kernel_rfl) (by kernel_rfl) (fun _ _ _ h => h) (Or.inl ⟨by rfl, fun _ _ => rfl⟩) hHeld ?_
              simp only [Act.put, List.setIfInBounds_toArray, List.set_cons_zero, List.set_cons_succ]
              refine takeD (i := 11) (some 134) (.int .i64 0) rfl rfl (by kernel_rfl) (by kernel_rfl) (by kernel_rfl) (fun _ _ _ h => h) (Or.inl ⟨by rfl, fun _ _ => rfl⟩) hHeld ?_
              simp only [Act.put, List.setIfInBounds_toArray, List.set_cons_zero, List.set_cons_succ]
              refine takeD (i := 12) (some 135) (.bool true) rfl rfl (by kernel_rfl) (by kernel_rfl) (by kernel_rfl) (fun _ _ _ h => h) (yields_eqE (by rfl) _ _ rfl (0) (0) true rfl rfl (by simp)) hHeld ?_
              simp only [Act.put, List.setIfInBounds_toArray, List.set_cons_zero, List.set_cons_succ]
              refine takeD (i := 13) (some 136) (.bool true) rfl rfl (by kernel_rfl) (by kernel_rfl) (by kernel_rfl) (fun _ _ _ h => h) (Or.inl ⟨by rfl, fun _ _ => rfl⟩) hHeld ?_
              simp only [Act.put, List.setIfInBounds_toArray, List.set_cons_zero, List.set_cons_succ]
              refine takeD (i := 14) (some 137) (.bool true) rfl rfl (by kernel_rfl) (by kernel_rfl) (by kernel_rfl) (fun _ _ _ h => h) (Or.inl ⟨by rfl, fun _ _ => rfl⟩) hHeld ?_
              simp only [Act.put, List.setIfInBounds_toArray, List.set_cons_zero, List.set_cons_succ]
              refine takeD (i := 15) (some 138) (.int .i64 0) rfl rfl (by kernel_rfl) (by kernel_rfl) (by kernel_rfl) (fun _ _ _ h => h) (Or.inl ⟨by rfl, fun _ _ => rfl⟩) hHeld ?_
              simp only [Act.put, List.setIfInBounds_toArray, List.set_cons_zero, List.set_cons_succ]
              refine takeD (i := 16) (some 139) (.bool true) rfl rfl (by kernel_rfl) (by kernel_rfl) (by kernel_rfl) (fun _ _ _ h => h) (yields_eqE (by rfl) _ _ rfl (0) (0) true rfl rfl (by simp)) hHeld ?_
              simp only [Act.put, List.setIfInBounds_toArray, List.set_cons_zero, List.set_cons_succ]
              refine takeD (i := 17) (some 140) (.bool true) rfl rfl (by kernel_rfl) (by kernel_rfl) (by kernel_rfl) (fun _ _ _ h => h) (Or.inl ⟨by rfl, fun _ _ => rfl⟩) hHeld ?_
              simp only [Act.put, List.setIfInBounds_toArray, List.set_cons_zero, List.set_cons_succ]
              refine takeD (i := 18) (some 141) (.bool true) rfl rfl (by kernel_rfl) (by kernel_rfl) (by kernel_rfl) (fun _ _ _ h => h) (Or.inl ⟨by rfl, fun _ _ => rfl⟩) hHeld ?_
              simp only [Act.put, List.setIfInBounds_toArray, List.set_cons_zero, List.set_cons_succ]
              refine takeD (i := 19) (some 142) (.slice A12 m c12) rfl rfl (by kernel_rfl) (by kernel_rfl) (by kernel_rfl) (fun _ _ _ h => h) (Or.inl ⟨by rfl, fun _ _ => rfl⟩) hHeld ?_
              simp only [Act.put, List.setIfInBounds_toArray, List.set_cons_zero, List.set_cons_succ]
              refine takeD (i := 20) (some 143) (.slice (some ⟨b, off, none⟩) len0 cap0) rfl rfl (by kernel_rfl) (by kernel_rfl) (by kernel_rfl) (fun _ _ _ h => h) (Or.inl ⟨by rfl, fun _ _ => rfl⟩) hHeld ?_
              simp only [Act.put, List.setIfInBounds_toArray, List.set_cons_zero, List.set_cons_succ]
              refine takeD (i := 21) (some 144) (.int .i64 (i : Int)) rfl rfl (by kernel_rfl) (by kernel_rfl) (by kernel_rfl) (fun _ _ _ h => h) (Or.inl ⟨by rfl, fun _ _ => rfl⟩) hHeld ?_
              simp only [Act.put, List.setIfInBounds_toArray, List.set_cons_zero, List.set_cons_succ]
              refine takeD (i := 22) (some 145) (.pointer (some ⟨b, off + i, none⟩)) rfl rfl (by kernel_rfl) (by kernel_rfl) (by kernel_rfl) (fun _ _ _ h => h) (yields_indexS (by rfl) (.tmp 143) (.tmp 144) rfl b off len0 cap0 i _ rfl rfl rfl HIN.out) hHeld ?_
              simp only [Act.put, List.setIfInBounds_toArray, List.set_cons_zero, List.set_cons_succ]
              refine takeD (i := 23) (some 146) (.slice A' m c') rfl rfl (by kernel_rfl) (by kernel_rfl) (by kernel_rfl) (fun _ _ _ h => h) (yields_loadT (by rfl) (.tmp 145) rfl b (off + i) _ rfl (fun _ h => h.2)) hHeld ?_
              simp only [Act.put, List.setIfInBounds_toArray, List.set_cons_zero, List.set_cons_succ]
              refine wpAnyH_ready (rs := [24]) (by kernel_rfl) (by decide) ?_
              refine AllReadyH.cons rfl (fun K' hK => ?_) AllReadyH.nil
              go_simp
              refine (HSm.out A12 c12 w14.drew (HD14.out.below B0) (HBl.out.below (b14.trans (B0.mono b14.size)))).mono ?_
              rintro e15 w15 ⟨rfl, x15, rfl⟩
              have B15 : Below w14.heap.size w14 (w14.drew.drewN x15) := below_drewN B0 x15
              refine hK.out _ _ (KP.out _ B15) (fun hHeld1 => ?_)
              clear hK
              obtain ⟨w16, hw16⟩ : ∃ w16, w14.drew.drewN x15 = w16 := ⟨_, rfl⟩
              rw [hw16] at B15 hHeld1 ⊢
              refine takeD (i := 25) (some 148) (.bool true) rfl rfl (by kernel_rfl) (by kernel_rfl) (by kernel_rfl) (fun _ _ _ h => h) (Or.inl ⟨by rfl, fun _ _ => rfl⟩) hHeld1 ?_
              simp only [Act.put, List.setIfInBounds_toArray, List.set_cons_zero, List.set_cons_succ]
              refine takeD (i := 26) (some 149) (.bool true) rfl rfl (by kernel_rfl) (by kernel_rfl) (by kernel_rfl) (fun _ _ _ h => h) (Or.inl ⟨by rfl, fun _ _ => rfl⟩) hHeld1 ?_
              simp only [Act.put, List.setIfInBounds_toArray, List.set_cons_zero, List.set_cons_succ]
              refine takeD (i := 27) (some 150) (.slice (some ⟨b, off, none⟩) len0 cap0) rfl rfl (by kernel_rfl) (by kernel_rfl) (by kernel_rfl) (fun _ _ _ h => h) (Or.inl ⟨by rfl, fun _ _ => rfl⟩) hHeld1 ?_
              simp only [Act.put, List.setIfInBounds_toArray, List.set_cons_zero, List.set_cons_succ]
              refine takeD (i := 28) (some 151) (.int .i64 (i : Int)) rfl rfl (by kernel_rfl) (by kernel_rfl) (by kernel_rfl) (fun _ _ _ h => h) (Or.inl ⟨by rfl, fun _ _ => rfl⟩) hHeld1 ?_
              simp only [Act.put, List.setIfInBounds_toArray, List.set_cons_zero, List.set_cons_succ]
              refine takeD (i := 29) (some 152) (.pointer (some ⟨b, off + i, none⟩)) rfl rfl (by kernel_rfl) (by kernel_rfl) (by kernel_rfl) (fun _ _ _ h => h) (yields_indexS (by rfl) (.tmp 150) (.tmp 151) rfl b off len0 cap0 i _ rfl rfl rfl HIN.out) hHeld1 ?_
              simp only [Act.put, List.setIfInBounds_toArray, List.set_cons_zero, List.set_cons_succ]
              refine takeD (i := 30) (some 153) (.slice A' m c') rfl rfl (by kernel_rfl) (by kernel_rfl) (by kernel_rfl) (fun _ _ _ h => h) (yields_loadT (by rfl) (.tmp 152) rfl b (off + i) _ rfl (fun _ h => h.2)) hHeld1 ?_
              simp only [Act.put, List.setIfInBounds_toArray, List.set_cons_zero, List.set_cons_succ]
              refine takeD (i := 33) (some 156) (.int .i64 (i : Int)) rfl rfl (by kernel_rfl) (by kernel_rfl) (by kernel_rfl) (fun _ _ _ h => h) (Or.inl ⟨by rfl, fun _ _ => rfl⟩) hHeld1 ?_
              simp only [Act.put, List.setIfInBounds_toArray, List.set_cons_zero, List.set_cons_succ]
              refine takeD (i := 34) (some 157) (.pointer (some ⟨g, 0, none⟩)) rfl rfl (by kernel_rfl) (by kernel_rfl) (by kernel_rfl) (fun _ _ _ h => h) (Or.inl ⟨by rfl, fun _ _ => rfl⟩) hHeld1 ?_
              simp only [Act.put, List.setIfInBounds_toArray, List.set_cons_zero, List.set_cons_succ]
              refine takeD (i := 36) (some 159) (.slice A14 np c14) rfl rfl (by kernel_rfl) (by kernel_rfl) (by kernel_rfl) (fun _ _ _ h => h) (Or.inl ⟨by rfl, fun _ _ => rfl⟩) hHeld1 ?_
              simp only [Act.put, List.setIfInBounds_toArray, List.set_cons_zero, List.set_cons_succ]
              refine takeD (i := 37) (some 160) (.pointer (some ⟨gh, 1, none⟩)) rfl rfl (by kernel_rfl) (by kernel_rfl) (by kernel_rfl) (fun _ _ _ h => h) (yields_fldH (by rfl) 48 (.tmp 10) 1 rfl (by decide) (gh) rfl) hHeld1 ?_
              simp only [Act.put, List.setIfInBounds_toArray, List.set_cons_zero, List.set_cons_succ]
              refine takeD (i := 38) (some 161) (.agg (bcells R)) rfl rfl (by kernel_rfl) (by kernel_rfl) (by kernel_rfl) (fun _ _ _ h => h) (yields_headD (by rfl) (.tmp 160) rfl (gh) ((n : Int)) (R) rfl HRL.out (fun _ h => h.1)) hHeld1 ?_
              simp only [Act.put, List.setIfInBounds_toArray, List.set_cons_zero, List.set_cons_succ]
              refine wpAnyH_ready (rs := [31]) (by kernel_rfl) (by decide) ?_
              refine AllReadyH.cons rfl (fun K' hK => ?_) AllReadyH.nil
              go_simp
              refine (HOw.out w16 (HBl.out.below (b14.trans (B15.mono b14.size)))).mono ?_
              rintro e17 w17 ⟨A17, c17, rfl, hc17, ho17, hb17⟩
              have HO17 := Lib.hid ho17
              have B17 := B15.trans (hb17.mono B15.size)
              clear ho17
              refine hK.out _ _ (KP.out _ B17) (fun hHeld2 => ?_)
              clear hK
              refine wpAnyH_ready (rs := [32]) (by kernel_rfl) (by decide) ?_
              refine AllReadyH.cons rfl (fun K' hK => ?_) AllReadyH.nil
              go_simp
              refine (HLf.out A17 c17 w17 HO17.out.bs hc17 (HT.out.below (b14.trans (B17.mono b14.size)))).mono ?_
              rintro e18 w18 ⟨rfl, hb18⟩
              have B18 := B17.trans (hb18.mono B17.size)
              refine hK.out _ _ (KP.out _ B18) (fun hHeld3 => ?_)
              clear hK
              refine wpAnyH_ready (rs := [35]) (by kernel_rfl) (by decide) ?_
              refine AllReadyH.cons rfl (fun K' hK => ?_) AllReadyH.nil
              go_simp
              refine (HSz.out g F3 w18 (HL14.out.below B18)).mono ?_
              rintro e19 w19 ⟨rfl, rfl⟩
              refine hK.out _ _ (KP.out _ B18) (fun hHeld4 => ?_)
              clear hK
              refine wpAnyH_ready (rs := [39]) (by kernel_rfl) (by decide) ?_
              refine AllReadyH.cons rfl (fun K' hK => ?_) AllReadyH.nil
              go_simp
              refine (HIc.out A14 c14 w18 hc14 (HQ14.out.below B18) (HT.out.below (b14.trans (B18.mono b14.size)))).mono ?_
              rintro e20 w20 ⟨rfl, hb20⟩
              have B20 := B18.trans (hb20.mono B18.size)
              refine hK.out _ _ (KP.out _ B20) (fun hHeld5 => ?_)
              clear hK
              refine takeD (i := 40) (some 163) (.bool true) rfl rfl (by kernel_rfl) (by kernel_rfl) (by kernel_rfl) (fun _ _ _ h => h) (Or.inl ⟨by rfl, fun _ _ => rfl⟩) hHeld5 ?_
              simp only [Act.put, List.setIfInBounds_toArray, List.set_cons_zero, List.set_cons_succ]
              refine takeD (i := 41) (some 164) (.bool true) rfl rfl (by kernel_rfl) (by kernel_rfl) (by kernel_rfl) (fun _ _ _ h => h) (Or.inl ⟨by rfl, fun _ _ => rfl⟩) hHeld5 ?_
              simp only [Act.put, List.setIfInBounds_toArray, List.set_cons_zero, List.set_cons_succ]
              refine wpAnyH_ready (rs := [42]) (by kernel_rfl) (by decide) ?_
              refine AllReadyH.cons rfl (fun K' hK => ?_) AllReadyH.nil
              go_simp
              refine (awake_any w20 (HT.out.below (b14.trans (B20.mono b14.size)))).mono ?_
              rintro e21 w21 ⟨rfl, hb21⟩
              have B21 := B20.trans (hb21.mono B20.size)
              refine hK.out _ _ (KP.out _ B21) (fun hHeld6 => ?_)
              clear hK
              refine takeD (i := 43) (some 166) (.bool true) rfl rfl (by kernel_rfl) (by kernel_rfl) (by kernel_rfl) (fun _ _ _ h => h) (Or.inl ⟨by rfl, fun _ _ => rfl⟩) hHeld6 ?_
              simp only [Act.put, List.setIfInBounds_toArray, List.set_cons_zero, List.set_cons_succ]
              refine takeD (i := 44) (some 4) (.bool true) rfl rfl (by kernel_rfl) (by kernel_rfl) (by kernel_rfl) (fun _ _ _ h => h) (Or.inl ⟨by rfl, fun _ _ => rfl⟩) hHeld6 ?_
              simp only [Act.put, List.setIfInBounds_toArray, List.set_cons_zero, List.set_cons_succ]
              (try simp only [Act.put, List.setIfInBounds_toArray])
              refine wpAnyH_done (by kernel_rfl) ?_ _
              refine NoPanic.normal ?_
              go_wp2_with fail
              go_ret
              exact ⟨rfl, b14.trans (B21.mono b14.size)⟩
theorem walk (w : World) (a0 : Option Addr) (len0 cap0 : Nat) (L0 : List (List UInt8)) (w0 : Bss w a0 len0 L0) (a1 : Int) (_w1 : (Lit.int .i64 a1).wf = true) (hT : Tab 1 w) :
    Calls Tryd.prog 8 #[.slice a0 len0 cap0, .int .i64 a1] w fun e w' => e = .returned (.bool true) ∧ Below w.heap.size w w' := by
  cases h : longL L0
  · rcases Nat.eq_zero_or_pos len0 with h0 | h0
    · subst h0
      obtain rfl : L0 = [] := List.eq_nil_of_length_eq_zero w0.1
      exact walk_nil w a0 cap0 w0 a1 hT
    · exact walk_ok w a0 len0 cap0 L0 w0 a1 h h0 hT
  · exact walk_no w a0 len0 cap0 L0 w0 a1 h hT

set_option maxRecDepth 100000 in
theorem lifted (os : Os) (started : os.Started) (H : Type) (enc : TypeId × Value → H) :
    ReturnsInHanded {} Tryd.checked os 8 .any (fun w args => (Rows.ledgerOwnSpec.pre enc Tryd.prog Tryd.f8 Rows.ledgerOwnRow.domain false w args ∧ laidMetH Tryd.prog lay1 w) ∧ sizedMet enc Tryd.prog Tryd.f8 (OpenSpec.ofChange Rows.ledgerOwnSpec) false w args)
      (Rows.ledgerOwnSpec.post enc Tryd.prog Tryd.f8 false true false false) := by
  refine returnsInHanded_of_change_and (C := Tryd.checked) (X := fun w _ => laidMetH Tryd.prog lay1 w) (fun _ _ _ hh h => h.of_heap hh) own started (by kernel_rfl) Tryd.func8
    (ChangeSpec.witness_shaped (enc := enc) (C := Tryd.checked) (os := os) (X := fun w _ => laidMetH Tryd.prog lay1 w) false (World.laidAll Tryd.prog os lay1) #[.slice none 0 0, .int .i64 0] 8 rfl (World.shaped_of_ZipB (by kernel_rfl) (by kernel_rfl)) (by kernel_rfl) (by kernel_rfl) (by kernel_rfl) (met1 os _)) ?_
  intro W base args ds gs before hval0 hW hcnd hsz0 hL _
  have hval : ∀ (j : Nat) t v, Tryd.f8.params[j]? = some t → args[j]? = some v → Value.okWide Tryd.prog W .any base t v := hval0
  have hW' := hW
  obtain ⟨p, q, hA0, hV, rfl, hfz, hnd⟩ := hW
  have hA : DataW.TrodAll enc Tryd.prog W 0 (fun _ => true) true Tryd.f8.params.toList args.toList ds p := hA0
  have hsz : (DataW.weightsEach Tryd.prog (Tryd.f8.params.toList ++ Rows.ledgerOwnSpec.plain.varTypes Tryd.prog) (ds ++ gs)).all (· ≤ reachBytes) = true := hsz0
  rw [Tryd.params8] at hA hval hsz
  obtain ⟨v0, vs0, d0, ds0, p0, q0, hargs, rfl, rfl, h0, r0⟩ := trodAll_cons hA
  obtain ⟨v1, vs1, d1, ds1, p1, q1, rfl, rfl, rfl, h1, r1⟩ := trodAll_cons r0
  obtain ⟨rfl, rfl, rfl⟩ := trodAll_nil r1
  obtain rfl : args = #[v0, v1] := by cases args; simp_all
  obtain ⟨rfl, rfl⟩ := trodVars_none hV
  have k0 := h0
  have lt0 : ∀ x ∈ p0, x.block < W.heap.size := by obtain ⟨m, hm⟩ := k0; exact DataW.trod_lt m _ _ _ hm
  obtain ⟨a0, len0, cap0, L0, rfl, w0⟩ := open_bss (hval 0 27 v0 rfl rfl) h0
  obtain ⟨a1, rfl, rfl, rfl, w1⟩ := open_int Tryd.underlying3 (hval 1 3 v1 rfl rfl) h1
  have hTab := of_lay1 hL
  clear hA0 hval0
  refine (walk W a0 len0 cap0 L0 w0 a1 w1 hTab).mono fun e W' ⟨he, bel⟩ => ?_
  subst he
  exact ⟨_, rfl, _, _, _, [], _, [], hW', trodAll_mk1 (shut_bool Tryd.underlying4 _), (trodAll_cons_mk (Below.trod laidOut (by kernel_rfl) (of_decide_eq_true (by kernel_rfl)) k0 bel lt0) (trodAll_cons_mk (shut_int Tryd.underlying3 w1) trodAll_mk0)), rfl, bel.frame _, fun h => by cases h⟩
theorem over : Rows.ledgerOwnRow.holds Tryd.pinned (OpenSpec.ofChange Rows.ledgerOwnSpec) :=
  OpenClaim.holds_of_wide 8 Tryd.f8 rfl rfl rfl rfl rfl rfl rfl ⟨rfl, rfl, rfl, rfl, rfl⟩ rfl rfl rfl rfl rfl (by kernel_rfl) Tryd.func8 (by kernel_rfl)
    (of_decide_eq_true (by kernel_rfl)) (by unfold Func.isWrapper; first | (rw [if_pos (by decide +kernel)]; kernel_rfl) | (rw [if_neg (by decide +kernel)]; exact ⟨rfl, rfl⟩))
    (fun os started H enc _ => lifted os started H enc)
theorem ledgerOwn_holds : Rows.LedgerOwnCardSaid :=
  Claim7.holds_tied_plain_at .later [] [.data] true (true, "f8c962b95d10cf3f48b702edcbd29cecae4a1f65726c23e3d9eda044e33029ae") false
    over (fun _ h => by cases h) (by kernel_rfl) (fun _ h => by cases h) ledgerOwn_row_tie rfl ⟨rfl, rfl⟩ (by kernel_rfl) rfl
    (fun f fn hf hfn => by
      obtain rfl : f = 8 := Option.some.inj ((show Tryd.prog.funcNamed "jurat/juratlaw09.LedgerOwn" = some 8 by kernel_rfl).symm.trans hf) |>.symm
      obtain rfl : fn = Tryd.f8 := (Option.some.inj (Tryd.func8.symm.trans hfn)).symm
      exact ⟨by kernel_rfl, fun j t ht => by
        rw [Tryd.params8] at ht
        have hm : t ∈ [27, 3] := by simpa using Array.mem_of_getElem? ht
        have hall : ([27, 3].all fun u => !Tryd.prog.wantsStandIn u) = true := by kernel_rfl
        exact (show Tryd.prog.wantsStandIn t = false by simpa using List.all_eq_true.1 hall t hm)⟩)
    (by kernel_rfl)
#print axioms ledgerOwn_holds
end Go.Proofs.YtbpbpdaohganaaaDoor.ledgerOwn
