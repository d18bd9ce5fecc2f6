/-
  LedgerConsists, whole, as the tied card (Rows.LedgerConsistsCardSaid): for every list of up to 100 leaves of up to 500 bytes and every two lengths m, n of beginnings, m at most n (both reckoned of any two numbers), both heads and the proof of the first m in the first n are told without an error, and the proof is consistent with both roots; and the document's example of two leaves. Conditions: the tables math/bits.deBruijn32tab, math/bits.deBruijn64tab and sha.constants read as their initialisers lay them (tied to the program's text).
-/
import Derived.Test.YtbpbpdaohganaaaDoorRows
import Derived.Test.YtbpbpdaohganaaaDoorCards
import Derived.Test.YtbpbpdaohganaaaDoorTie
import Derived.WalkKit
import Derived.ProofKit
import Derived.OpenShut
import Derived.ChangeMaps5
import Derived.ShutString
import Derived.ChangeOld
import Derived.Below
import Derived.SizedLaws
import Derived.SevenTiedAt
import Derived.Lay
import Derived.LaidLaws
import Derived.Test.YtbpbpdaohganaaaDoorLedJ
namespace Go.Proofs.YtbpbpdaohganaaaDoor.ledgerConsists
open Go.ChangeShapes Go.WideShapes Go.ChangeAt Go.RowKit
open Go.ChangeMaps (open_string shut_string)
set_option linter.unusedVariables false
theorem own : ownKnob Tryd.prog.godebug = none := by kernel_rfl
theorem laidOut : laidOutB Tryd.prog = true := by kernel_rfl
set_option maxRecDepth 100000 in
set_option maxHeartbeats 1000000 in
theorem walk_no (w : World) (a0 : Option Addr) (len0 cap0 : Nat) (L0 : List (List UInt8)) (w0 : Bss w a0 len0 L0) (a1 a2 : Int) (h : longL L0 = true) (hT : Tab 1 w) :
    Calls Tryd.prog 6 #[.slice a0 len0 cap0, .int .i64 a1, .int .i64 a2] w fun e w' => e = .returned (.bool true) ∧ Below w.heap.size w w' := by
  have HM := Lib.hid (made_no a0 len0 cap0 L0 w w0 hT h)
  have HT := Lib.hid hT
  clear hT w0 h
  go_enter Tryd.func6, Tryd.ntmps6
  go_wp2_with (first
    | (go_at_call 26; refine HM.out.mono ?_; rintro e1 w1 ⟨g, rfl, hb1⟩)
    | (go_at_call 10; refine (awake_any _ (HT.out.below hb1)).mono ?_; rintro e2 w2 ⟨rfl, hb2⟩))
  go_ret
  exact ⟨rfl, hb1.trans (hb2.mono hb1.size)⟩
set_option maxRecDepth 100000 in
set_option maxHeartbeats 4000000 in
theorem walk_ok (w : World) (a0 : Option Addr) (len0 cap0 : Nat) (L0 : List (List UInt8)) (w0 : Bss w a0 len0 L0) (a1 a2 : Int) (h : longL L0 = false) (hT : TabB w ∧ Tab 1 w) :
    Calls Tryd.prog 6 #[.slice a0 len0 cap0, .int .i64 a1, .int .i64 a2] w fun e w' => e = .returned (.bool true) ∧ Below w.heap.size w w' := by
  have hlen := w0.1
  have h100 : len0 ≤ 100 := by rw [← hlen]; exact (longL_no h).1
  have HM := Lib.hid (made_ok a0 len0 cap0 L0 w w0 hT.2 h)
  obtain ⟨N1, hN1⟩ : ∃ N1, len0 + 1 = N1 := ⟨_, rfl⟩
  obtain ⟨n, hj, hn1⟩ := mod_in a2 N1 (by omega)
  have HJ := Lib.hid hj
  clear hj
  obtain ⟨N2, hN2⟩ : ∃ N2, n + 1 = N2 := ⟨_, rfl⟩
  obtain ⟨m, hm, hm2⟩ := mod_in a1 N2 (by omega)
  have HM2 := Lib.hid hm
  clear hm
  obtain ⟨hE, hI⟩ := led_con L0 m n (by omega) (by omega)
  have HH1 := Lib.hid (fun g F w h hT => Head_ok g len0 m F L0 w h (by omega) (by omega) hT)
  have HH2 := Lib.hid (fun g F w h hT => Head_ok g len0 n F L0 w h (by omega) (by omega) hT)
  have HCo := Lib.hid (fun g F w h hT => show Calls Tryd.prog 23 #[.pointer (some ⟨g, 0, none⟩), .int .i64 (m : Int), .int .i64 (n : Int)] w (NewD w (conI ((L0.map leafL).take n) (m : Int)) 0) by have q := LConsist_ok g len0 n (m : Int) F L0 w h (by omega) (by omega) hT; rwa [hE] at q)
  have hDg : Digs (L0.map leafL) := fun d hd => by simp only [List.mem_map] at hd; obtain ⟨l, _, rfl⟩ := hd; exact leafL_length l
  have HRL1 := Lib.hid (rootL_length _ (hDg.take m))
  have HRL2 := Lib.hid (rootL_length _ (hDg.take n))
  have hPL := conI_length ((L0.map leafL).take n) (m : Int) (by rw [List.length_take, List.length_map]; omega)
  have HPL := Lib.hid hPL
  generalize conI ((L0.map leafL).take n) (m : Int) = P at *
  generalize rootL ((L0.map leafL).take m) = R1 at *
  generalize rootL ((L0.map leafL).take n) = R2 at *
  have HS1 := Lib.hid (headC_size (m : Int) R1 HRL1.out)
  have HS2 := Lib.hid (headC_size (n : Int) R2 HRL2.out)
  have HIc := Lib.hid (fun A c w hc hD hB hT => show Calls Tryd.prog 29 #[.int .i64 (m : Int), .int .i64 (n : Int), .slice A P.length c, .agg (bcells R1), .agg (bcells R2)] w fun e w' => e = .returned (.bool true) ∧ Below w.heap.size w w' by have q := Consistent_any (m : Int) (n : Int) A P.length c P R1 R2 w HRL1.out HRL2.out (by have := HPL.out; omega) hc (by omega) hD hB hT; rwa [hI] at q)
  have i0b : ¬ N1 = 0 := by omega
  have i0c : ¬ (N1 : Int) = 0 := by omega
  have i1b : ¬ N2 = 0 := by omega
  have i1c : ¬ (N2 : Int) = 0 := by omega
  have HE1 := Lib.hid (show wrap64 ((len0 : Int) + 1) = (N1 : Int) from (w64_small _ (by omega) (by omega)).trans (by omega))
  have HE2 := Lib.hid (u64_small N1 (by omega))
  have HE3 := Lib.hid (wrap_small (n : Int) (by omega) (by omega))
  have HE4 := Lib.hid (w64_small (n : Int) (by omega) (by omega))
  have HE5 := Lib.hid (show wrap64 ((n : Int) + 1) = (N2 : Int) from (w64_small _ (by omega) (by omega)).trans (by omega))
  have HE6 := Lib.hid (u64_small N2 (by omega))
  have HE7 := Lib.hid (wrap_small (m : Int) (by omega) (by omega))
  have HE8 := Lib.hid (w64_small (m : Int) (by omega) (by omega))
  have HTB := Lib.hid hT.1
  have HT := Lib.hid hT.2
  clear hT w0 h hlen h100 hE hI hDg hPL hn1 hm2 hN1 hN2
  have hj := HJ.out
  have hm := HM2.out
  have e1 := HE1.out
  have e2 := HE2.out
  have e3 := HE3.out
  have e4 := HE4.out
  have e5 := HE5.out
  have e6 := HE6.out
  have e7 := HE7.out
  have e8 := HE8.out
  go_enter Tryd.func6, Tryd.ntmps6
  go_wp2_with (first
    | (go_at_call 26; refine HM.out.mono ?_; rintro e1' w1 ⟨g, F, rfl, hb1, -, hl1⟩; have HL1 := Lib.hid hl1; have hs1 := hb1.size; clear hl1)
    | (go_at_call 18; have hz := HR6; clear hz; refine (HH2.out g F _ HL6.out (HT.out.below b6)).mono ?_; rintro e7' w7 ⟨rfl, hb7⟩; have b7 := b6.trans (hb7.mono b6.size); have HL7 := Lib.hid (HL6.out.below hb7); have HR7 := Lib.hid (HR6.out.below hb7 hlt6); have hlt7 := HR7.out.lt)
    | (go_at_call 18; refine (HH1.out g F _ HL1.out (HT.out.below hb1)).mono ?_; rintro e4' w4 ⟨rfl, hb4⟩; have b4 := hb1.trans (hb4.mono hs1); have HL4 := Lib.hid (HL1.out.below hb4))
    | (with_reducible refine wpList_allocH (w := w4) rfl rfl ?_; intro gh w5 hgh hrh hbh; have HRh := Lib.hid hrh; have hge : w4.heap.size ≤ gh := (by omega); clear hgh hrh)
    | (with_reducible refine wpList_store_row Tryd.aggHead rfl (.tmp 9) (.tmp 42) rfl _ (headC (m : Int) R1) rfl rfl 48 head0 HRh.out HS1.out head0_size (headC_one _ _) ?_; intro w6 hr6 ho6; have HR6 := Lib.hid hr6; have b46 : Below w4.heap.size w4 w6 := hbh.trans (ho6.below hge hbh.size); have b6 := b4.trans (b46.mono b4.size); have HL6 := Lib.hid (HL4.out.below b46); have hlt6 := hr6.lt; clear hr6)
    | (with_reducible refine wpList_allocH (w := w7) rfl rfl ?_; intro gi w8 hgi hri hbi; have HRi := Lib.hid hri; have hgi2 : w7.heap.size ≤ gi := (by omega); clear hgi hri)
    | (with_reducible refine wpList_store_row Tryd.aggHead rfl (.tmp 11) (.tmp 48) rfl _ (headC (n : Int) R2) rfl rfl 48 head0 HRi.out HS2.out head0_size (headC_one _ _) ?_; intro w9 hr9 ho9; have HI9 := Lib.hid hr9; have b79 : Below w7.heap.size w7 w9 := hbi.trans (ho9.below hgi2 hbi.size); have b9 := b7.trans (b79.mono b7.size); have HL9 := Lib.hid (HL7.out.below b79); have HR9 := Lib.hid (HR7.out.below b79 hlt7); have hlt9 := hr9.lt; have hlu9 := HR9.out.lt; clear hr9)
    | (go_at_call 23; refine (HCo.out g F _ HL9.out (HT.out.below b9)).mono ?_; rintro e10' w10 ⟨A7, c7, rfl, hc7, ho7, hb10⟩; have b10 := b9.trans (hb10.mono b9.size); have HR10 := Lib.hid (HR9.out.below hb10 hlu9); have HI10 := Lib.hid (HI9.out.below hb10 hlt9); have HO7 := Lib.hid ho7.ds; have HG10 := Lib.hid (head_range HR10.out); have HG11 := Lib.hid (head_range HI10.out); clear ho7)
    | (with_reducible refine wpList_loadG (by with_unfolding_all rfl) (.tmp 71) rfl gh 1 R1 rfl HG10.out HRL1.out ?_)
    | (with_reducible refine wpList_loadG (by with_unfolding_all rfl) (.tmp 73) rfl gi 1 R2 rfl HG11.out HRL2.out ?_)
    | (go_at_call 29; refine (HIc.out A7 c7 _ hc7 HO7.out (HTB.out.below b10) (HT.out.below b10)).mono ?_; rintro e12' w12 ⟨rfl, hb12⟩; have b12 := b10.trans (hb12.mono b10.size))
    | (go_at_call 10; refine (awake_any _ (HT.out.below b12)).mono ?_; rintro e13' w13 ⟨rfl, hb13⟩))
  go_ret
  exact ⟨rfl, b12.trans (hb13.mono b12.size)⟩
theorem walk (w : World) (a0 : Option Addr) (len0 cap0 : Nat) (L0 : List (List UInt8)) (w0 : Bss w a0 len0 L0) (a1 : Int) (_w1 : (Lit.int .i64 a1).wf = true) (a2 : Int) (_w2 : (Lit.int .i64 a2).wf = true) (hT : TabB w ∧ Tab 1 w) :
    Calls Tryd.prog 6 #[.slice a0 len0 cap0, .int .i64 a1, .int .i64 a2] w fun e w' => e = .returned (.bool true) ∧ Below w.heap.size w w' := by
  cases h : longL L0
  · exact walk_ok w a0 len0 cap0 L0 w0 a1 a2 h hT
  · exact walk_no w a0 len0 cap0 L0 w0 a1 a2 h hT.2

set_option maxRecDepth 100000 in
theorem lifted (os : Os) (started : os.Started) (H : Type) (enc : TypeId × Value → H) :
    ReturnsInHanded {} Tryd.checked os 6 .any (fun w args => (Rows.ledgerConsistsSpec.pre enc Tryd.prog Tryd.f6 Rows.ledgerConsistsRow.domain false w args ∧ laidMetH Tryd.prog layB w) ∧ sizedMet enc Tryd.prog Tryd.f6 (OpenSpec.ofChange Rows.ledgerConsistsSpec) false w args)
      (Rows.ledgerConsistsSpec.post enc Tryd.prog Tryd.f6 false true false false) := by
  refine returnsInHanded_of_change_and (C := Tryd.checked) (X := fun w _ => laidMetH Tryd.prog layB w) (fun _ _ _ hh h => h.of_heap hh) own started (by kernel_rfl) Tryd.func6
    (ChangeSpec.witness_shaped (enc := enc) (C := Tryd.checked) (os := os) (X := fun w _ => laidMetH Tryd.prog layB w) false (World.laidAll Tryd.prog os layB) #[.slice none 0 0, .int .i64 0, .int .i64 0] 8 rfl (World.shaped_of_ZipB (by kernel_rfl) (by kernel_rfl)) (by kernel_rfl) (by kernel_rfl) (by kernel_rfl) (metB os _)) ?_
  intro W base args ds gs before hval0 hW hcnd hsz0 hL _
  have hval : ∀ (j : Nat) t v, Tryd.f6.params[j]? = some t → args[j]? = some v → Value.okWide Tryd.prog W .any base t v := hval0
  have hW' := hW
  obtain ⟨p, q, hA0, hV, rfl, hfz, hnd⟩ := hW
  have hA : DataW.TrodAll enc Tryd.prog W 0 (fun _ => true) true Tryd.f6.params.toList args.toList ds p := hA0
  have hsz : (DataW.weightsEach Tryd.prog (Tryd.f6.params.toList ++ Rows.ledgerConsistsSpec.plain.varTypes Tryd.prog) (ds ++ gs)).all (· ≤ reachBytes) = true := hsz0
  rw [Tryd.params6] at hA hval hsz
  obtain ⟨v0, vs0, d0, ds0, p0, q0, hargs, rfl, rfl, h0, r0⟩ := trodAll_cons hA
  obtain ⟨v1, vs1, d1, ds1, p1, q1, rfl, rfl, rfl, h1, r1⟩ := trodAll_cons r0
  obtain ⟨v2, vs2, d2, ds2, p2, q2, rfl, rfl, rfl, h2, r2⟩ := trodAll_cons r1
  obtain ⟨rfl, rfl, rfl⟩ := trodAll_nil r2
  obtain rfl : args = #[v0, v1, v2] := by cases args; simp_all
  obtain ⟨rfl, rfl⟩ := trodVars_none hV
  have k0 := h0
  have lt0 : ∀ x ∈ p0, x.block < W.heap.size := by obtain ⟨m, hm⟩ := k0; exact DataW.trod_lt m _ _ _ hm
  obtain ⟨a0, len0, cap0, L0, rfl, w0⟩ := open_bss (hval 0 27 v0 rfl rfl) h0
  obtain ⟨a1, rfl, rfl, rfl, w1⟩ := open_int Tryd.underlying3 (hval 1 3 v1 rfl rfl) h1
  obtain ⟨a2, rfl, rfl, rfl, w2⟩ := open_int Tryd.underlying3 (hval 2 3 v2 rfl rfl) h2
  have hTab := of_layB hL
  clear hA0 hval0
  refine (walk W a0 len0 cap0 L0 w0 a1 w1 a2 w2 hTab).mono fun e W' ⟨he, bel⟩ => ?_
  subst he
  exact ⟨_, rfl, _, _, _, [], _, [], hW', trodAll_mk1 (shut_bool Tryd.underlying4 _), (trodAll_cons_mk (Below.trod laidOut (by kernel_rfl) (of_decide_eq_true (by kernel_rfl)) k0 bel lt0) (trodAll_cons_mk (shut_int Tryd.underlying3 w1) (trodAll_cons_mk (shut_int Tryd.underlying3 w2) trodAll_mk0))), rfl, bel.frame _, fun h => by cases h⟩
theorem over : Rows.ledgerConsistsRow.holds Tryd.pinned (OpenSpec.ofChange Rows.ledgerConsistsSpec) :=
  OpenClaim.holds_of_wide 6 Tryd.f6 rfl rfl rfl rfl rfl rfl rfl ⟨rfl, rfl, rfl, rfl, rfl⟩ rfl rfl rfl rfl rfl (by kernel_rfl) Tryd.func6 (by kernel_rfl)
    (of_decide_eq_true (by kernel_rfl)) (by unfold Func.isWrapper; first | (rw [if_pos (by decide +kernel)]; kernel_rfl) | (rw [if_neg (by decide +kernel)]; exact ⟨rfl, rfl⟩))
    (fun os started H enc _ => lifted os started H enc)
theorem ledgerConsists_holds : Rows.LedgerConsistsCardSaid :=
  Claim7.holds_tied_plain_at .later [] [.data, .data, .data] true (true, "f8c962b95d10cf3f48b702edcbd29cecae4a1f65726c23e3d9eda044e33029ae") false
    over (fun _ h => by cases h) (by kernel_rfl) (fun _ h => by cases h) ledgerConsists_row_tie rfl ⟨rfl, rfl⟩ (by kernel_rfl) rfl
    (fun f fn hf hfn => by
      obtain rfl : f = 6 := Option.some.inj ((show Tryd.prog.funcNamed "jurat/juratlaw09.LedgerConsists" = some 6 by kernel_rfl).symm.trans hf) |>.symm
      obtain rfl : fn = Tryd.f6 := (Option.some.inj (Tryd.func6.symm.trans hfn)).symm
      exact ⟨by kernel_rfl, fun j t ht => by
        rw [Tryd.params6] at ht
        have hm : t ∈ [27, 3] := by simpa using Array.mem_of_getElem? ht
        have hall : ([27, 3].all fun u => !Tryd.prog.wantsStandIn u) = true := by kernel_rfl
        exact (show Tryd.prog.wantsStandIn t = false by simpa using List.all_eq_true.1 hall t hm)⟩)
    (by kernel_rfl)
#print axioms ledgerConsists_holds
end Go.Proofs.YtbpbpdaohganaaaDoor.ledgerConsists
