/-
  LedgerStays, whole, as the tied card (Rows.LedgerStaysCardSaid): for every list of up to 100 leaves and every further list of up to 100 leaves, each of up to 500 bytes, every length n of a beginning of the first list (reckoned of any number) and every number i: the head of n, the proof of the place i in n and that of the first i in n, with their errors, and each leaf of the first list, are told behind the further leaves as they were ahead of them; and the document's example of two leaves. Conditions: the table sha.constants reads as its initialiser lays it (tied to the program's text).
-/
import Derived.Test.YtbpbpdaohganaaaDoorRows
import Derived.Test.YtbpbpdaohganaaaDoorCards
import Derived.Test.YtbpbpdaohganaaaDoorTie
import Derived.WalkKit
import Derived.ProofKit
import Derived.OpenShut
import Derived.ChangeMaps5
import Derived.ShutString
import Derived.ChangeOld
import Derived.Below
import Derived.SizedLaws
import Derived.SevenTiedAt
import Derived.Lay
import Derived.LaidLaws
import Derived.Test.YtbpbpdaohganaaaDoorLedJ
namespace Go.Proofs.YtbpbpdaohganaaaDoor.ledgerStays
open Go.ChangeShapes Go.WideShapes Go.ChangeAt Go.RowKit
open Go.ChangeMaps (open_string shut_string)
set_option linter.unusedVariables false
theorem own : ownKnob Tryd.prog.godebug = none := by kernel_rfl
theorem laidOut : laidOutB Tryd.prog = true := by kernel_rfl
theorem ownD_keep {w w' : World} {base s1 : Nat} {v : Value} {n : Nat} {L : List (List UInt8)} (h : OwnD w base v n L) (hs : s1 ≤ base) (hk : ∀ b, s1 ≤ b → b < w.heap.size → w'.heap[b]? = w.heap[b]?) : OwnD w' base v n L :=
  ⟨h.1, ownsRow_keep h.2 fun b cs hb hr => by
    have q := h.2.lt b hb
    rw [hk b (by omega) q.2]; exact hr⟩
theorem take_pre (L X : List (List UInt8)) (n : Nat) (h : n ≤ L.length) : ((L ++ X).map leafL).take n = (L.map leafL).take n := by
  rw [List.map_append, List.take_append_of_le_length (by rw [List.length_map]; exact h)]
set_option maxRecDepth 100000 in
set_option maxHeartbeats 1000000 in
theorem walk_no (w : World) (a0 : Option Addr) (len0 cap0 : Nat) (L0 : List (List UInt8)) (w0 : Bss w a0 len0 L0) (a1 : Option Addr) (len1 cap1 : Nat) (a2 a3 : Int) (h : longL L0 = true) (hT : Tab 1 w) :
    Calls Tryd.prog 4 #[.slice a0 len0 cap0, .slice a1 len1 cap1, .int .i64 a2, .int .i64 a3] w fun e w' => e = .returned (.bool true) ∧ Below w.heap.size w w' := by
  have HM := Lib.hid (made_no a0 len0 cap0 L0 w w0 hT h)
  have HT := Lib.hid hT
  clear hT w0 h
  go_enter Tryd.func4, Tryd.ntmps4
  go_wp2_with (first
    | (go_at_call 26; refine HM.out.mono ?_; rintro e1 w1 ⟨g, rfl, hb1⟩)
    | (go_at_call 10; refine (awake_any _ (HT.out.below hb1)).mono ?_; rintro e2 w2 ⟨rfl, hb2⟩))
  go_ret
  exact ⟨rfl, hb1.trans (hb2.mono hb1.size)⟩
set_option maxRecDepth 100000 in
set_option maxHeartbeats 1000000 in
theorem walk_big (w : World) (a0 : Option Addr) (len0 cap0 : Nat) (L0 : List (List UInt8)) (w0 : Bss w a0 len0 L0) (a1 : Option Addr) (len1 cap1 : Nat) (a2 a3 : Int) (h : longL L0 = false) (h1 : 100 < len1) (hT : Tab 1 w) :
    Calls Tryd.prog 4 #[.slice a0 len0 cap0, .slice a1 len1 cap1, .int .i64 a2, .int .i64 a3] w fun e w' => e = .returned (.bool true) ∧ Below w.heap.size w w' := by
  have HM := Lib.hid (made_ok a0 len0 cap0 L0 w w0 hT h)
  have HT := Lib.hid hT
  have i1 : (100 : Int) < (len1 : Int) := by omega
  clear hT w0 h h1
  go_enter Tryd.func4, Tryd.ntmps4
  go_wp2_with (first
    | (go_at_call 26; refine HM.out.mono ?_; rintro e1 w1 ⟨g, F, rfl, hb1, -⟩)
    | (go_at_call 10; refine (awake_any _ (HT.out.below hb1)).mono ?_; rintro e2 w2 ⟨rfl, hb2⟩))
  go_ret
  exact ⟨rfl, hb1.trans (hb2.mono hb1.size)⟩
set_option maxRecDepth 100000 in
set_option maxHeartbeats 8000000 in
theorem walk_ok (w : World) (a0 : Option Addr) (len0 cap0 : Nat) (L0 : List (List UInt8)) (w0 : Bss w a0 len0 L0) (a1 : Option Addr) (len1 cap1 : Nat) (L1 : List (List UInt8)) (w1 : Bss w a1 len1 L1) (a2 a3 : Int) (h : longL L0 = false) (h1 : len1 ≤ 100) (hT : Tab 1 w) :
    Calls Tryd.prog 4 #[.slice a0 len0 cap0, .slice a1 len1 cap1, .int .i64 a2, .int .i64 a3] w fun e w' => e = .returned (.bool true) ∧ Below w.heap.size w w' := by
  have hlen := w0.1
  have hT1 := hT.1
  have h100 : len0 ≤ 100 := by rw [← hlen]; exact (longL_no h).1
  have HLE := Lib.hid (longL_no h).2
  have HM := Lib.hid (made_ok a0 len0 cap0 L0 w w0 hT h)
  obtain ⟨N1, hN1⟩ : ∃ N1, len0 + 1 = N1 := ⟨_, rfl⟩
  obtain ⟨n, hj, hn1⟩ := mod_in a3 N1 (by omega)
  have HJ := Lib.hid (show (IntKind.u64.wrap a3).tmod ((len0 : Int) + 1) = (n : Int) by rw [← hN1] at hj; exact hj)
  clear hj
  obtain ⟨D, hD⟩ : ∃ D, (L0.map leafL).take n = D := ⟨_, rfl⟩
  have HPre := Lib.hid (fun X => show ((L0 ++ X).map leafL).take n = D from (take_pre L0 X n (by omega)).trans hD)
  have HP0 := Lib.hid hD
  have hDg : Digs D := by rw [← hD]; exact Digs.take (fun d hd => by simp only [List.mem_map] at hd; obtain ⟨l, _, rfl⟩ := hd; exact leafL_length l) n
  have hDl : D.length ≤ 100 := by rw [← hD, List.length_take, List.length_map]; omega
  have HHd := Lib.hid (fun g N F M w (h : Led w g F N M) (hN : n ≤ N) (hq : (M.map leafL).take n = D) hT => show Calls Tryd.prog 18 #[.pointer (some ⟨g, 0, none⟩), .int .i64 (n : Int)] w (HeadR w n (rootL D) 0) by have q := Head_ok g N n F M w h hN (by omega) hT; rwa [hq] at q)
  have HIn := Lib.hid (fun g N F M w (h : Led w g F N M) (hN : n ≤ N) (hq : (M.map leafL).take n = D) hT => show Calls Tryd.prog 20 #[.pointer (some ⟨g, 0, none⟩), .int .i64 a2, .int .i64 (n : Int)] w (NewD w (incI D a2) (errI n a2)) by have q := LInclude_ok g N n a2 F M w h hN (by omega) hT; rwa [hq] at q)
  have HCo := Lib.hid (fun g N F M w (h : Led w g F N M) (hN : n ≤ N) (hq : (M.map leafL).take n = D) hT => show Calls Tryd.prog 23 #[.pointer (some ⟨g, 0, none⟩), .int .i64 a2, .int .i64 (n : Int)] w (NewD w (conI D a2) (errC n a2)) by have q := LConsist_ok g N n a2 F M w h hN (by omega) hT; rwa [hq] at q)
  have HRL := Lib.hid (rootL_length D hDg)
  have hPL := incI_length D a2 (by omega)
  have hQL := conI_length D a2 (by omega)
  generalize incI D a2 = P at *
  generalize conI D a2 = Q at *
  generalize rootL D = R at *
  generalize errI n a2 = E1 at *
  generalize errC n a2 = E2 at *
  obtain ⟨np, hnp⟩ : ∃ np, P.length = np := ⟨_, rfl⟩
  obtain ⟨nq, hnq⟩ : ∃ nq, Q.length = nq := ⟨_, rfl⟩
  unfold NewD at HIn HCo
  rw [hnp] at HIn hPL
  rw [hnq] at HCo hQL
  have HSP := Lib.hid (fun A B c d w h1 h2 => RSame_yes A B np c d P w h1 h2 (by omega))
  have HSQ := Lib.hid (fun A B c d w h1 h2 => RSame_yes A B nq c d Q w h1 h2 (by omega))
  have HSZ := Lib.hid (headC_size (n : Int) R HRL.out)
  have i1 : ¬ (100 : Int) < (len1 : Int) := by omega
  have HE3 := Lib.hid (wrap_small (n : Int) (by omega) (by omega))
  have HE4 := Lib.hid (w64_small (n : Int) (by omega) (by omega))
  have HB0 := Lib.hid w0
  have HB1 := Lib.hid w1
  have HN := Lib.hid (show n ≤ len0 by omega)
  have HLEN := Lib.hid hlen
  have HT := Lib.hid hT
  clear hT w0 w1 h hlen hD hDg hDl hPL hQL hn1 hN1 hnp hnq
  have hj := HJ.out
  have e3 := HE3.out
  have e4 := HE4.out
  go_enter Tryd.func4, Tryd.ntmps4
  go_wp2_with (first
    | (go_at_call 26; refine HM.out.mono ?_; rintro e1' w1 ⟨g, F, rfl, hb1, hF1, hl1⟩; have HL1 := Lib.hid hl1; have HF1 := Lib.hid hF1; have hs1 := hb1.size; clear hl1 hF1)
    | (go_at_call 18; refine (HHd.out g len0 F L0 _ HL1.out HN.out HP0.out (HT.out.below hb1)).mono ?_; rintro e4' w4 ⟨rfl, hb4⟩; have b4 := hb1.trans (hb4.mono hs1); have HL4 := Lib.hid (HL1.out.below hb4))
    | (with_reducible refine wpList_allocH (w := w4) rfl rfl ?_; intro gh w5 hgh hrh hbh; have HRh := Lib.hid hrh; have hge : w4.heap.size ≤ gh := (by omega); clear hgh hrh)
    | (with_reducible refine wpList_store_row Tryd.aggHead rfl (.tmp 11) (.tmp 52) rfl _ (headC (n : Int) R) rfl rfl 48 head0 HRh.out HSZ.out head0_size (headC_one _ _) ?_; intro w6 hr6 ho6; have HR6 := Lib.hid hr6; have b46 : Below w4.heap.size w4 w6 := hbh.trans (ho6.below hge hbh.size); have b6 := b4.trans (b46.mono b4.size); have HL6 := Lib.hid (HL4.out.below b46); have hlt6 := hr6.lt; clear hr6)
    | (go_at_call 20; refine (HIn.out g len0 F L0 _ HL6.out HN.out HP0.out (HT.out.below b6)).mono ?_; rintro e7' w7 ⟨A7, c7, rfl, hc7, ho7, hb7⟩; have b7 := b6.trans (hb7.mono b6.size); have HR7 := Lib.hid (HR6.out.below hb7 hlt6); have HO7 := Lib.hid ho7; have HL7 := Lib.hid (HL6.out.below hb7); have hlt7 := HR7.out.lt; clear ho7)
    | (go_at_call 23; refine (HCo.out g len0 F L0 _ HL7.out HN.out HP0.out (HT.out.below b7)).mono ?_; rintro e8' w8 ⟨A8, c8, rfl, hc8, ho8, hb8⟩; have b8 := b7.trans (hb8.mono b7.size); have HR8 := Lib.hid (HR7.out.below hb8 hlt7); have HO78 := Lib.hid (HO7.out.below hb8); have HO8 := Lib.hid ho8; have HL8 := Lib.hid (HL7.out.below hb8); clear ho8))
  have hs4 := hb4.size
  have hs6 := b46.size
  have hs7 := hb7.size
  have hs8 := hb8.size
  have HGH := Lib.hid (show w1.heap.size ≤ gh by omega)
  have HF8 := Lib.hid (show ∀ b, F b → w.heap.size ≤ b ∧ (b < w1.heap.size ∨ w8.heap.size ≤ b) from fun b q => ⟨HF1.out b q, .inl (HL1.out.2.1 b q)⟩)
  go_loopw [17] (fun i wr => ∃ (k N : Nat) (F' : Nat → Prop) (X : List (List UInt8)), k ≤ len1 ∧ i = .int .i64 k ∧ Hid (N = len0 + k) ∧ Below w.heap.size w wr ∧ Led wr g F' N (L0 ++ X) ∧ Hid (∀ b, F' b → w.heap.size ≤ b ∧ (b < w1.heap.size ∨ w8.heap.size ≤ b)) ∧ Hid (∀ b, w1.heap.size ≤ b → b < w8.heap.size → wr.heap[b]? = w8.heap[b]?) ∧ Hid (w8.heap.size ≤ wr.heap.size)) (fun i _ => len1 - (intOf i).toNat)
  case atStart => exact ⟨0, len0, F, [], Nat.zero_le _, rfl, Lib.hid rfl, b8, by rw [List.append_nil]; exact HL8.out, HF8, Lib.hid (fun _ _ _ => rfl), Lib.hid (Nat.le_refl _)⟩
  case round =>
    obtain ⟨k, N, F', X, hk, rfl, HN', pk, hld, HF', HK, HSz⟩ := hrel
    have HLd := Lib.hid hld
    have hpk := pk.size
    clear hld
    by_cases hlt : k < len1
    · obtain ⟨b, off, A', c', l, rfl, hbl, hx, hc, hnc, hB'⟩ := (HB1.out.below pk).get hlt
      have j1 : (k : Int) < (len1 : Int) := by omega
      obtain ⟨m, hm⟩ : ∃ m, l.length = m := ⟨_, rfl⟩
      rw [hm] at hc hnc hB'
      by_cases h5 : 500 < m
      · have i5 : (500 : Int) < (m : Int) := by omega
        clear hx hB' h5 hm
        go_wp2_with (go_at_call 10; refine (awake_any _ (HT.out.below pk)).mono ?_; rintro e9' w9 ⟨rfl, hb9⟩)
        go_ret
        exact ⟨rfl, pk.trans (hb9.mono hpk)⟩
      · have i5 : ¬ (500 : Int) < (m : Int) := by omega
        have HB' := Lib.hid hB'
        clear hx hB' hm
        go_wp2_with (first
          | (go_at_call 13; refine (ownB_any A' m c' l _ HB'.out (by omega)).mono ?_; rintro e9' w9 ⟨A9, c9, rfl, hc9, ho9, hb9⟩; have HO9 := Lib.hid ho9; have b9 := pk.trans (hb9.mono hpk); have HL9 := Lib.hid (HLd.out.below hb9); clear ho9)
          | (go_at_call 12; refine (App_ok g N m c9 A9 F' (L0 ++ X) l w9 HL9.out HO9.out.bs (fun b' o' q1 q2 => absurd (HO9.out.fresh b' o' q1) (Nat.not_le_of_lt (HLd.out.2.1 b' q2))) hc9 (by omega) (by have := HN'.out; omega) (HT.out.below b9) (fun q => absurd (HF'.out 1 q).1 (by omega))).mono ?_; rintro e10' w10 ⟨rfl, ⟨F3, hF3, hl3⟩, ho3⟩; have HG3 := Lib.hid hF3; have HL3 := Lib.hid hl3; have HO3 := Lib.hid ho3; clear hF3 hl3 ho3))
        have h9s := hb9.size
        have hz9 := HSz.out
        have HF3 := Lib.hid (show ∀ b, F3 b → w.heap.size ≤ b ∧ (b < w1.heap.size ∨ w8.heap.size ≤ b) from fun b q => (HG3.out b q).elim (HF'.out b) (fun q2 => ⟨by omega, .inr (by omega)⟩))
        have b10 := b9.trans (HO3.out.below (fun x q => (HF'.out x q).1) b9.size)
        have HK3 := Lib.hid (show ∀ b, w1.heap.size ≤ b → b < w8.heap.size → w10.heap[b]? = w8.heap[b]? from fun b q1 q2 => ((HO3.out.block b (by omega) (fun q => by have := (HF'.out b q).2; omega)).trans (hb9.block b (by omega))).trans (HK.out b q1 q2))
        have HS3 := Lib.hid (show w8.heap.size ≤ w10.heap.size by have := HO3.out.size; omega)
        go_roundw
        case rel => exact ⟨k + 1, N + 1, F3, X ++ [l], by omega, by go_num, Lib.hid (by have := HN'.out; omega), b10, by rw [← List.append_assoc]; exact HL3.out, HF3, HK3, HS3⟩
        case measure => simp [intOf]; omega
    · have j1 : ¬ (k : Int) < (len1 : Int) := by omega
      have HNN := Lib.hid (show n ≤ N by have := HN'.out; have := HN.out; omega)
      have hlg := HR8.out.lt
      have HRk := Lib.hid (show Row wr gh 48 (headC (n : Int) R) from (HK.out gh HGH.out hlg).trans HR8.out)
      have HPk := Lib.hid ((ownD_keep (s1 := w1.heap.size) HO78.out (by omega) HK.out).ds)
      have HQk := Lib.hid ((ownD_keep (s1 := w1.heap.size) HO8.out (by omega) HK.out).ds)
      have hlk := HRk.out.lt
      go_wp2_with (first
        | (go_at_call 18; refine (HHd.out g N F' _ _ HLd.out HNN.out (HPre.out X) (HT.out.below pk)).mono ?_; rintro e14' w14 ⟨rfl, hb14⟩; have b14 := pk.trans (hb14.mono hpk); have HL14 := Lib.hid (HLd.out.below hb14))
        | (with_reducible refine wpList_allocH (w := w14) rfl rfl ?_; intro gi w15 hgi hri hbi; have HRi := Lib.hid hri; have hgi2 : w14.heap.size ≤ gi := (by omega); clear hgi hri)
        | (with_reducible refine wpList_store_row Tryd.aggHead rfl (.tmp 18) (.tmp 92) rfl _ (headC (n : Int) R) rfl rfl 48 head0 HRi.out HSZ.out head0_size (headC_one _ _) ?_; intro w16 hr16 ho16; have HI16 := Lib.hid hr16; have b416 : Below w14.heap.size w14 w16 := hbi.trans (ho16.below hgi2 hbi.size); have b16 := b14.trans (b416.mono b14.size); have HL16 := Lib.hid (HL14.out.below b416); have hlt16 := hr16.lt; clear hr16)
        | (go_at_call 20; refine (HIn.out g N F' _ _ HL16.out HNN.out (HPre.out X) (HT.out.below b16)).mono ?_; rintro e17' w17 ⟨A17, c17, rfl, hc17, ho17, hb17⟩; have b17 := b16.trans (hb17.mono b16.size); have HI17 := Lib.hid (HI16.out.below hb17 hlt16); have HO17 := Lib.hid ho17.ds; have HL17 := Lib.hid (HL16.out.below hb17); have hlt17 := HI17.out.lt; clear ho17)
        | (go_at_call 23; refine (HCo.out g N F' _ _ HL17.out HNN.out (HPre.out X) (HT.out.below b17)).mono ?_; rintro e18' w18 ⟨A18, c18, rfl, hc18, ho18, hb18⟩; have b18 := b17.trans (hb18.mono b17.size); have HI18 := Lib.hid (HI17.out.below hb18 hlt17); have HO178 := Lib.hid (HO17.out.below hb18); have HO18 := Lib.hid ho18.ds; have HL18 := Lib.hid (HL17.out.below hb18); have b1418 : Below wr.heap.size wr w18 := hb14.trans ((b416.trans ((hb17.mono b416.size).trans (hb18.mono (Nat.le_trans b416.size hb17.size)))).mono hb14.size); have HR18 := Lib.hid (HRk.out.below b1418 hlk); have HP18 := Lib.hid (HPk.out.below b1418); have HQ18 := Lib.hid (HQk.out.below b1418); clear ho18)
        | (with_reducible refine wpList_loadHG (by with_unfolding_all rfl) (.tmp 11) rfl gh (n : Int) R rfl HR18.out HSZ.out ?_)
        | (with_reducible refine wpList_loadHG (by with_unfolding_all rfl) (.tmp 18) rfl gi (n : Int) R rfl HI18.out HSZ.out ?_)
        | (with_reducible refine wpList_neHG (by with_unfolding_all rfl) (.tmp 122) (.tmp 123) rfl (n : Int) R rfl rfl HRL.out ?_)
        | (go_at_call 22; have hz := HX19; clear hz; refine (HSQ.out A8 A18 c8 c18 _ (HQ18.out.drewN x19) (HO18.out.drewN x19)).mono ?_; rintro e20' w20 ⟨rfl, x20, rfl⟩)
        | (go_at_call 22; refine (HSP.out A7 A17 c7 c17 _ HP18.out HO178.out).mono ?_; rintro e19' w19 ⟨rfl, x19, rfl⟩; have HX19 := Lib.hid (show x19 = x19 from rfl)))
      obtain ⟨w21, hw21⟩ : ∃ w21, w18.drewN (x19 + x20) = w21 := ⟨_, rfl⟩
      have b21 : Below w.heap.size w w21 := by rw [← hw21]; exact below_drewN b18 (x19 + x20)
      have HL21 := Lib.hid (show Led w21 g F' N (L0 ++ X) from by rw [← hw21]; exact HL18.out.below (below_drewN (Below.refl _ _) (x19 + x20)))
      rw [hw21]
      clear hw21
      go_loopw [24] (fun i wr => ∃ (k : Nat), k ≤ len0 ∧ i = .int .i64 k ∧ Below w.heap.size w wr ∧ Led wr g F' N (L0 ++ X)) (fun i _ => len0 - (intOf i).toNat)
      case atStart => exact ⟨0, Nat.zero_le _, rfl, b21, HL21.out⟩
      case round =>
        obtain ⟨k2, hk2, rfl, p2, hld2⟩ := hrel
        have HL22 := Lib.hid hld2
        have hp2 := p2.size
        clear hld2
        by_cases hlt2 : k2 < len0
        · obtain ⟨b, off, A', c', l, rfl, hbl, hx, hc, hnc, hB'⟩ := (HB0.out.below p2).get hlt2
          have hMk : (L0 ++ X)[k2]? = some l := by rw [List.getElem?_append_left (by rw [HLEN.out]; exact hlt2)]; exact hx
          have hl5 := HLE.out l (List.mem_of_getElem? hx)
          obtain ⟨m, hm⟩ : ∃ m, l.length = m := ⟨_, rfl⟩
          have HLv := Lib.hid (fun w h => show Calls Tryd.prog 15 #[.pointer (some ⟨g, 0, none⟩), .int .i64 (k2 : Int)] w fun e w' => ∃ A c, e = .returned (.tuple #[.slice A m c, .int .i64 0]) ∧ m ≤ c ∧ Own w' w.heap.size 5 (.slice A m c) m l ∧ Below w.heap.size w w' by have q := LLeaf_ok g N k2 l F' (L0 ++ X) w h hMk (by omega); unfold LeafR at q; rwa [hm] at q)
          rw [hm] at hc hnc hB' hl5
          have HSm := Lib.hid (fun A c w h1 h2 => Same_yes A A' m c c' l w h1 h2 (by omega))
          have HB' := Lib.hid hB'
          have HCc := Lib.hid hc
          have HBL := Lib.hid hbl
          have j3 : (k2 : Int) < (len0 : Int) := by omega
          clear hx hB' hMk hm hc
          go_wp2_with (first
            | (go_at_call 15; refine (HLv.out _ HL22.out).mono ?_; rintro e23' w23 ⟨A23, c23, rfl, hc23, ho23, hb23⟩; have b23 := p2.trans (hb23.mono hp2); have HL23 := Lib.hid (HL22.out.below hb23); have HO23 := Lib.hid ho23.bs; have hc1 := (hb23.cell (p := ⟨b, off + k2, none⟩) HBL.out).trans HCc.out; have HB23 := Lib.hid (HB'.out.below hb23); clear ho23)
            | (go_at_call 17; refine (HSm.out A23 c23 _ HO23.out HB23.out).mono ?_; rintro e24' w24 ⟨rfl, x24, rfl⟩))
          go_roundw
          case rel => exact ⟨k2 + 1, by omega, by go_num, below_drewN b23 x24, HL23.out.below (below_drewN (Below.refl _ _) x24)⟩
          case measure => simp [intOf]; omega
        · have j3 : ¬ (k2 : Int) < (len0 : Int) := by omega
          go_wp2_with (go_at_call 10; refine (awake_any _ (HT.out.below p2)).mono ?_; rintro e25' w25 ⟨rfl, hb25⟩)
          go_ret
          exact ⟨rfl, p2.trans (hb25.mono hp2)⟩
theorem walk (w : World) (a0 : Option Addr) (len0 cap0 : Nat) (L0 : List (List UInt8)) (w0 : Bss w a0 len0 L0) (a1 : Option Addr) (len1 cap1 : Nat) (L1 : List (List UInt8)) (w1 : Bss w a1 len1 L1) (a2 : Int) (_w2 : (Lit.int .i64 a2).wf = true) (a3 : Int) (_w3 : (Lit.int .i64 a3).wf = true) (hT : Tab 1 w) :
    Calls Tryd.prog 4 #[.slice a0 len0 cap0, .slice a1 len1 cap1, .int .i64 a2, .int .i64 a3] w fun e w' => e = .returned (.bool true) ∧ Below w.heap.size w w' := by
  cases h : longL L0
  · rcases Nat.lt_or_ge 100 len1 with h1 | h1
    · exact walk_big w a0 len0 cap0 L0 w0 a1 len1 cap1 a2 a3 h h1 hT
    · exact walk_ok w a0 len0 cap0 L0 w0 a1 len1 cap1 L1 w1 a2 a3 h h1 hT
  · exact walk_no w a0 len0 cap0 L0 w0 a1 len1 cap1 a2 a3 h hT

set_option maxRecDepth 100000 in
theorem lifted (os : Os) (started : os.Started) (H : Type) (enc : TypeId × Value → H) :
    ReturnsInHanded {} Tryd.checked os 4 .any (fun w args => (Rows.ledgerStaysSpec.pre enc Tryd.prog Tryd.f4 Rows.ledgerStaysRow.domain false w args ∧ laidMetH Tryd.prog lay1 w) ∧ sizedMet enc Tryd.prog Tryd.f4 (OpenSpec.ofChange Rows.ledgerStaysSpec) false w args)
      (Rows.ledgerStaysSpec.post enc Tryd.prog Tryd.f4 false true false false) := by
  refine returnsInHanded_of_change_and (C := Tryd.checked) (X := fun w _ => laidMetH Tryd.prog lay1 w) (fun _ _ _ hh h => h.of_heap hh) own started (by kernel_rfl) Tryd.func4
    (ChangeSpec.witness_shaped (enc := enc) (C := Tryd.checked) (os := os) (X := fun w _ => laidMetH Tryd.prog lay1 w) false (World.laidAll Tryd.prog os lay1) #[.slice none 0 0, .slice none 0 0, .int .i64 0, .int .i64 0] 8 rfl (World.shaped_of_ZipB (by kernel_rfl) (by kernel_rfl)) (by kernel_rfl) (by kernel_rfl) (by kernel_rfl) (met1 os _)) ?_
  intro W base args ds gs before hval0 hW hcnd hsz0 hL _
  have hval : ∀ (j : Nat) t v, Tryd.f4.params[j]? = some t → args[j]? = some v → Value.okWide Tryd.prog W .any base t v := hval0
  have hW' := hW
  obtain ⟨p, q, hA0, hV, rfl, hfz, hnd⟩ := hW
  have hA : DataW.TrodAll enc Tryd.prog W 0 (fun _ => true) true Tryd.f4.params.toList args.toList ds p := hA0
  have hsz : (DataW.weightsEach Tryd.prog (Tryd.f4.params.toList ++ Rows.ledgerStaysSpec.plain.varTypes Tryd.prog) (ds ++ gs)).all (· ≤ reachBytes) = true := hsz0
  rw [Tryd.params4] at hA hval hsz
  obtain ⟨v0, vs0, d0, ds0, p0, q0, hargs, rfl, rfl, h0, r0⟩ := trodAll_cons hA
  obtain ⟨v1, vs1, d1, ds1, p1, q1, rfl, rfl, rfl, h1, r1⟩ := trodAll_cons r0
  obtain ⟨v2, vs2, d2, ds2, p2, q2, rfl, rfl, rfl, h2, r2⟩ := trodAll_cons r1
  obtain ⟨v3, vs3, d3, ds3, p3, q3, rfl, rfl, rfl, h3, r3⟩ := trodAll_cons r2
  obtain ⟨rfl, rfl, rfl⟩ := trodAll_nil r3
  obtain rfl : args = #[v0, v1, v2, v3] := by cases args; simp_all
  obtain ⟨rfl, rfl⟩ := trodVars_none hV
  have k0 := h0
  have lt0 : ∀ x ∈ p0, x.block < W.heap.size := by obtain ⟨m, hm⟩ := k0; exact DataW.trod_lt m _ _ _ hm
  obtain ⟨a0, len0, cap0, L0, rfl, w0⟩ := open_bss (hval 0 27 v0 rfl rfl) h0
  have k1 := h1
  have lt1 : ∀ x ∈ p1, x.block < W.heap.size := by obtain ⟨m, hm⟩ := k1; exact DataW.trod_lt m _ _ _ hm
  obtain ⟨a1, len1, cap1, L1, rfl, w1⟩ := open_bss (hval 1 27 v1 rfl rfl) h1
  obtain ⟨a2, rfl, rfl, rfl, w2⟩ := open_int Tryd.underlying3 (hval 2 3 v2 rfl rfl) h2
  obtain ⟨a3, rfl, rfl, rfl, w3⟩ := open_int Tryd.underlying3 (hval 3 3 v3 rfl rfl) h3
  have hTab := of_lay1 hL
  clear hA0 hval0
  refine (walk W a0 len0 cap0 L0 w0 a1 len1 cap1 L1 w1 a2 w2 a3 w3 hTab).mono fun e W' ⟨he, bel⟩ => ?_
  subst he
  exact ⟨_, rfl, _, _, _, [], _, [], hW', trodAll_mk1 (shut_bool Tryd.underlying4 _), (trodAll_cons_mk (Below.trod laidOut (by kernel_rfl) (of_decide_eq_true (by kernel_rfl)) k0 bel lt0) (trodAll_cons_mk (Below.trod laidOut (by kernel_rfl) (of_decide_eq_true (by kernel_rfl)) k1 bel lt1) (trodAll_cons_mk (shut_int Tryd.underlying3 w2) (trodAll_cons_mk (shut_int Tryd.underlying3 w3) trodAll_mk0)))), rfl, bel.frame _, fun h => by cases h⟩
theorem over : Rows.ledgerStaysRow.holds Tryd.pinned (OpenSpec.ofChange Rows.ledgerStaysSpec) :=
  OpenClaim.holds_of_wide 4 Tryd.f4 rfl rfl rfl rfl rfl rfl rfl ⟨rfl, rfl, rfl, rfl, rfl⟩ rfl rfl rfl rfl rfl (by kernel_rfl) Tryd.func4 (by kernel_rfl)
    (of_decide_eq_true (by kernel_rfl)) (by unfold Func.isWrapper; first | (rw [if_pos (by decide +kernel)]; kernel_rfl) | (rw [if_neg (by decide +kernel)]; exact ⟨rfl, rfl⟩))
    (fun os started H enc _ => lifted os started H enc)
theorem ledgerStays_holds : Rows.LedgerStaysCardSaid :=
  Claim7.holds_tied_plain_at .later [] [.data] true (true, "f8c962b95d10cf3f48b702edcbd29cecae4a1f65726c23e3d9eda044e33029ae") false
    over (fun _ h => by cases h) (by kernel_rfl) (fun _ h => by cases h) ledgerStays_row_tie rfl ⟨rfl, rfl⟩ (by kernel_rfl) rfl
    (fun f fn hf hfn => by
      obtain rfl : f = 4 := Option.some.inj ((show Tryd.prog.funcNamed "jurat/juratlaw09.LedgerStays" = some 4 by kernel_rfl).symm.trans hf) |>.symm
      obtain rfl : fn = Tryd.f4 := (Option.some.inj (Tryd.func4.symm.trans hfn)).symm
      exact ⟨by kernel_rfl, fun j t ht => by
        rw [Tryd.params4] at ht
        have hm : t ∈ [27, 3] := by simpa using Array.mem_of_getElem? ht
        have hall : ([27, 3].all fun u => !Tryd.prog.wantsStandIn u) = true := by kernel_rfl
        exact (show Tryd.prog.wantsStandIn t = false by simpa using List.all_eq_true.1 hall t hm)⟩)
    (by kernel_rfl)
#print axioms ledgerStays_holds
end Go.Proofs.YtbpbpdaohganaaaDoor.ledgerStays
