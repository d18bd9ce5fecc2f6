/-
  VaultForged, whole, as the tied card (Rows.VaultForgedCardSaid): for every three slices of bytes (up to 3000 each are played) put onto a new tape as its files: what is opened is what the document's Open says, the journal is cut to its right bytes, and opened again it is the same; and the document's example. Conditions: the tables juratref02.first, juratref02.constants and sha.constants read as their initialisers lay them (tied to the program's text).
-/
import Derived.Test.YtgiobcpljbpmiaaDoorRows
import Derived.Test.YtgiobcpljbpmiaaDoorCards
import Derived.Test.YtgiobcpljbpmiaaDoorTie
import Derived.WalkKit
import Derived.ProofKit
import Derived.OpenShut
import Derived.ChangeMaps5
import Derived.ShutString
import Derived.ChangeOld
import Derived.Below
import Derived.SizedLaws
import Derived.SevenTiedAt
import Derived.Lay
import Derived.LaidLaws
import Derived.Test.YtgiobcpljbpmiaaDoorVltFg
namespace Go.Proofs.YtgiobcpljbpmiaaDoor.vaultForged
open Go.ChangeShapes Go.WideShapes Go.ChangeAt Go.RowKit
open Go.ChangeMaps (open_string shut_string)
set_option linter.unusedVariables false
theorem own : ownKnob Tryd.prog.godebug = none := by kernel_rfl
theorem laidOut : laidOutB Tryd.prog = true := by kernel_rfl
set_option maxRecDepth 100000 in
set_option maxHeartbeats 2000000 in
theorem walk_no (w : World) (a0 : Option Addr) (len0 cap0 : Nat) (a1 : Option Addr) (len1 cap1 : Nat) (a2 : Option Addr) (len2 cap2 : Nat) (h : 3000 < len0 ∨ (len0 ≤ 3000 ∧ 3000 < len1) ∨ (len0 ≤ 3000 ∧ len1 ≤ 3000 ∧ 3000 < len2)) (hT : Tab 2 w) :
    Calls Tryd.prog 6 #[.slice a0 len0 cap0, .slice a1 len1 cap1, .slice a2 len2 cap2] w fun e w' => e = .returned (.bool true) ∧ Below w.heap.size w w' := by
  have HT := Lib.hid hT
  clear hT
  rcases h with h1 | ⟨h1, h2⟩ | ⟨h1, h2, h3⟩
  · have i0 : (3000 : Int) < (len0 : Int) := by omega
    go_enter Tryd.func6, Tryd.ntmps6
    go_wp2_with (go_at_call 11; refine (awake_any w HT.out).mono ?_; rintro e9 w9 ⟨rfl, hb9⟩; have B9 := hb9; clear hb9)
    go_ret
    exact ⟨rfl, B9⟩
  · have i0 : ¬ (3000 : Int) < (len0 : Int) := by omega
    have i1 : (3000 : Int) < (len1 : Int) := by omega
    go_enter Tryd.func6, Tryd.ntmps6
    go_wp2_with (go_at_call 11; refine (awake_any w HT.out).mono ?_; rintro e9 w9 ⟨rfl, hb9⟩; have B9 := hb9; clear hb9)
    go_ret
    exact ⟨rfl, B9⟩
  · have i0 : ¬ (3000 : Int) < (len0 : Int) := by omega
    have i1 : ¬ (3000 : Int) < (len1 : Int) := by omega
    have i2 : (3000 : Int) < (len2 : Int) := by omega
    go_enter Tryd.func6, Tryd.ntmps6
    go_wp2_with (go_at_call 11; refine (awake_any w HT.out).mono ?_; rintro e9 w9 ⟨rfl, hb9⟩; have B9 := hb9; clear hb9)
    go_ret
    exact ⟨rfl, B9⟩
set_option maxRecDepth 100000 in
set_option maxHeartbeats 4000000 in
theorem walk_yes (w : World) (a0 : Option Addr) (len0 cap0 : Nat) (l0 : List UInt8) (w0 : Bs w a0 len0 l0) (s0 : len0 ≤ cap0 ∧ cap0 ≤ 140737488351232) (a1 : Option Addr) (len1 cap1 : Nat) (l1 : List UInt8) (w1 : Bs w a1 len1 l1) (s1 : len1 ≤ cap1 ∧ cap1 ≤ 140737488351232) (a2 : Option Addr) (len2 cap2 : Nat) (l2 : List UInt8) (w2 : Bs w a2 len2 l2) (s2 : len2 ≤ cap2 ∧ cap2 ≤ 140737488351232) (n0 : len0 ≤ 3000) (n1 : len1 ≤ 3000) (n2 : len2 ≤ 3000) (hF : First w) (hT1 : Tab 1 w) (hT : Tab 2 w) :
    Calls Tryd.prog 6 #[.slice a0 len0 cap0, .slice a1 len1 cap1, .slice a2 len2 cap2] w fun e w' => e = .returned (.bool true) ∧ Below w.heap.size w w' := by
  have i0 : ¬ (3000 : Int) < (len0 : Int) := by omega
  have i1 : ¬ (3000 : Int) < (len1 : Int) := by omega
  have i2 : ¬ (3000 : Int) < (len2 : Int) := by omega
  obtain ⟨s0, -⟩ := s0
  obtain ⟨s1, -⟩ := s1
  obtain ⟨s2, -⟩ := s2
  have q0 := w0.1
  have q1 := w1.1
  have q2 := w2.1
  obtain ⟨S, hS, hl, hok, e0, e1, e2⟩ := three l0 l1 l2 (by omega) (by omega) (by omega)
  obtain ⟨V, n, hH⟩ := Opened.vs l0 l1 l2
  have hnle := hH.le
  have hm := live_mend_cont n hl (by rw [e0]; exact hnle)
  obtain ⟨X, hX⟩ : ∃ X, (S.mendV n).1 = X := ⟨_, rfl⟩
  have hok2 := mendV_ok n hok
  rw [hX] at hm hok2
  have HS := Lib.hid hS
  have HL := Lib.hid hl
  have HOk := Lib.hid hok
  have HL2 := Lib.hid hm.2.2
  have HOk2 := Lib.hid hok2
  have HX := Lib.hid hX
  have HH := Lib.hid (show Opened (S.cont 0) (S.cont 1) (S.cont 2) V.gen V.text V.recs n by rw [e0, e1, e2]; exact hH)
  have HC0 := Lib.hid (show X.cont 0 = l0.take n by rw [hm.1, put_same, e0])
  have HH2 := Lib.hid (show Opened (X.cont 0) (X.cont 1) (X.cont 2) V.gen V.text V.recs n by rw [hm.1, put_same, put_other _ _ (by omega), put_other _ _ (by omega), e0, e1, e2]; exact hH.mend)
  have HHd := Lib.hid hH
  have HSm := Lib.hid (show Small V by
    have h := hH.small (by omega)
    exact ⟨by omega, by omega, fun t q => by have := h.1 t q; omega⟩)
  have HN := Lib.hid (show n ≤ len0 by omega)
  have HLT := Lib.hid (show (l0.take n).length = n by rw [List.length_take]; omega)
  have HB0 := Lib.hid w0
  have HB1 := Lib.hid w1
  have HB2 := Lib.hid w2
  have HF := Lib.hid hF
  have HT1 := Lib.hid hT1
  have HT := Lib.hid hT
  have HQ0 := Lib.hid (show l0.length ≤ 3000 by omega)
  have HQ1 := Lib.hid (show l1.length ≤ 3000 by omega)
  have HQ2 := Lib.hid (show l2.length ≤ 3000 by omega)
  clear hS hl hok e0 e1 e2 hH hnle hm hX hok2 w0 w1 w2 hF hT1 hT q0 q1 q2
  go_enter Tryd.func6, Tryd.ntmps6
  go_wp2_with fail
  refine (VNew w HT.out).mono ?_
  rintro e1 w1 ⟨g, P1, rfl, hP1, ht1, hb1⟩
  have G1 := Lib.hid hP1
  have TP1 := Lib.hid ht1
  have B1 := hb1
  clear hP1 ht1 hb1
  go_wp2_with fail
  refine (own_any a0 len0 cap0 l0 w1 (HB0.out.below B1) (by omega)).mono ?_
  rintro e2 w2 ⟨A2, c2, rfl, hc2, hb2, ho2⟩
  have B2 : Below w.heap.size w w2 := B1.trans (hb2.mono B1.size)
  have HO2 := Lib.hid ho2
  have TP2 := Lib.hid (TP1.out.below hb2)
  have HA2 := Lib.hid (show ∀ b off, A2 = some ⟨b, off, none⟩ → ¬ P1 b from fun b off e q => by have h1 := ho2.fresh b off e; have h2 := TP1.out.1 b q; omega)
  clear hb2 ho2
  go_wp2_with fail
  refine (TP.append (S := Tp.new) g 0 l0.length c2 0 A2 l0 P1 w2 TP2.out (ok_new 0) (by have h0 := HQ0.out; have h1 := HQ1.out; have h2 := HQ2.out; omega) (HT.out.below B2) HO2.out.bs HA2.out).mono ?_
  rintro e3 w3 ⟨x3, P3, rfl, hg3, ht3, ho3⟩
  have B3 : Below w.heap.size w w3 := B2.trans (ho3.below G1.out B2.size)
  have TP3 := Lib.hid ht3
  have G3 := Lib.hid (hg3.base G1.out B2.size)
  clear hg3 ht3 ho3
  go_wp2_with fail
  refine (own_any a1 len1 cap1 l1 w3 (HB1.out.below B3) (by omega)).mono ?_
  rintro e4 w4 ⟨A4, c4, rfl, hc4, hb4, ho4⟩
  have B4 : Below w.heap.size w w4 := B3.trans (hb4.mono B3.size)
  have HO4 := Lib.hid ho4
  have TP4 := Lib.hid (TP3.out.below hb4)
  have HA4 := Lib.hid (show ∀ b off, A4 = some ⟨b, off, none⟩ → ¬ P3 b from fun b off e q => by have h1 := ho4.fresh b off e; have h2 := TP3.out.1 b q; omega)
  clear hb4 ho4
  go_wp2_with fail
  refine (TP.append (S := (Tp.new.append 0 l0).1) g (0 + l0.length) l1.length c4 1 A4 l1 P3 w4 TP4.out (append_ok 0 l0 (ok_new 0)) (by have h0 := HQ0.out; have h1 := HQ1.out; have h2 := HQ2.out; omega) (HT.out.below B4) HO4.out.bs HA4.out).mono ?_
  rintro e5 w5 ⟨x5, P5, rfl, hg5, ht5, ho5⟩
  have B5 : Below w.heap.size w w5 := B4.trans (ho5.below G3.out B4.size)
  have TP5 := Lib.hid ht5
  have G5 := Lib.hid (hg5.base G3.out B4.size)
  clear hg5 ht5 ho5
  go_wp2_with fail
  refine (own_any a2 len2 cap2 l2 w5 (HB2.out.below B5) (by omega)).mono ?_
  rintro e6 w6 ⟨A6, c6, rfl, hc6, hb6, ho6⟩
  have B6 : Below w.heap.size w w6 := B5.trans (hb6.mono B5.size)
  have HO6 := Lib.hid ho6
  have TP6 := Lib.hid (TP5.out.below hb6)
  have HA6 := Lib.hid (show ∀ b off, A6 = some ⟨b, off, none⟩ → ¬ P5 b from fun b off e q => by have h1 := ho6.fresh b off e; have h2 := TP5.out.1 b q; omega)
  clear hb6 ho6
  go_wp2_with fail
  refine (TP.append (S := ((Tp.new.append 0 l0).1.append 1 l1).1) g (0 + l0.length + l1.length) l2.length c6 2 A6 l2 P5 w6 TP6.out (append_ok 1 l1 (append_ok 0 l0 (ok_new 0))) (by have h0 := HQ0.out; have h1 := HQ1.out; have h2 := HQ2.out; omega) (HT.out.below B6) HO6.out.bs HA6.out).mono ?_
  rintro e7 w7 ⟨x7, P7, rfl, hg7, ht7, ho7⟩
  have B7 : Below w.heap.size w w7 := B6.trans (ho7.below G5.out B6.size)
  have TP7 := Lib.hid ht7
  have G7 := Lib.hid (hg7.base G5.out B6.size)
  clear hg7 ht7 ho7
  rw [← HS.out] at TP7
  go_wp2_with fail
  refine (VOpenA (S := S) g n P7 V w7 TP7.out HOk.out (by omega) HL.out (HT.out.below B7) HH.out).mono ?_
  rintro e8 w8 ⟨v, H8, P8, rfl, ho8, hv8, hH8, hg8, ht8, hd8⟩
  have B8 : Below w.heap.size w w8 := B7.trans (ho8.below G7.out B7.size)
  rw [HX.out] at ht8
  have TP8 := Lib.hid ht8
  have G8 := Lib.hid (hg8.base G7.out B7.size)
  have HV8 := Lib.hid hv8
  have HD8 := Lib.hid hd8
  clear ho8 hv8 hH8 hg8 ht8 hd8
  go_wp2_with fail
  refine (ROpen_any a0 a1 a2 len0 cap0 len1 cap1 len2 cap2 n l0 l1 l2 V w8 (HB0.out.below B8) (HB1.out.below B8) (HB2.out.below B8) s0 s1 s2 (by omega) (by omega) (by omega) (HF.out.below B8) (HT1.out.below B8) HHd.out).mono ?_
  rintro e9 w9 ⟨m, D, rfl, hD9, hm9, hb9⟩
  have B9 : Below w.heap.size w w9 := B8.trans (hb9.mono B8.size)
  have TP9 := Lib.hid (TP8.out.below hb9)
  have HV9 := Lib.hid (HV8.out.below hb9)
  have HM9 := Lib.hid hm9
  have HD9 := Lib.hid (show ∀ b, D b → ¬ P8 b from fun b q r => by have h1 := hD9 b q; have h2 := TP8.out.1 b r; omega)
  have HZ9 := Lib.hid hb9.size
  clear hD9 hm9 hb9
  go_wp2_with fail
  refine (show Calls Tryd.prog 31 #[.pointer (some ⟨g, 0, none⟩), .int .i64 0] w9 (Got w9 (X.cont 0) 0) from TP.read (S := X) g 9001 0 (by omega) P8 w9 TP9.out HOk2.out (by omega) HL2.out.1).mono ?_
  rintro e10 w10 ⟨A10, n10, c10, rfl, ho10, hb10⟩
  rw [HC0.out] at ho10
  obtain rfl : n10 = n := ho10.length.symm.trans HLT.out
  have B10 : Below w.heap.size w w10 := B9.trans (hb10.mono B9.size)
  have TP10 := Lib.hid (TP9.out.below hb10)
  have HV10 := Lib.hid (HV9.out.below hb10)
  have HM10 := Lib.hid (HM9.out.below hb10)
  have HA10 := Lib.hid (show ∀ b off, A10 = some ⟨b, off, none⟩ → ¬ P8 b from fun b off e q => by have h1 := ho10.fresh b off e; have h2 := TP8.out.1 b q; have h3 := HZ9.out; omega)
  have HO10 := Lib.hid ho10.bs
  clear ho10 hb10
  go_wp2_with fail
  refine (VOpenA (S := X) g n10 P8 V w10 TP10.out HOk2.out (by omega) HL2.out (HT.out.below B10) HH2.out).mono ?_
  rintro e11 w11 ⟨v2, H11, P11, rfl, ho11, hv11, hH11, hg11, ht11, hd11⟩
  have B11 : Below w.heap.size w w11 := B10.trans (ho11.below G8.out B10.size)
  have HV11 := Lib.hid (HV10.out.off ho11 HD8.out)
  have HM11 := Lib.hid (HM10.out.off ho11 HD9.out)
  have HO11 := Lib.hid (HO10.out.off HA10.out ho11)
  have HW11 := Lib.hid hv11
  clear ho11 hv11 hH11 hg11 ht11 hd11
  go_wp2_with fail
  refine (same_yes v g m H8 D V w11 HV11.out HM11.out HSm.out).mono ?_
  rintro e12 w12 ⟨rfl, hb12⟩
  have B12 : Below w.heap.size w w12 := B11.trans (hb12.mono B11.size)
  have HO12 := Lib.hid (HO11.out.below hb12)
  have HM12 := Lib.hid (HM11.out.below hb12)
  have HW12 := Lib.hid (HW11.out.below hb12)
  clear hb12
  have hcap : n10 ≤ cap0 := by have := HN.out; omega
  go_wp2_with fail
  refine (Same_yes A10 a0 n10 c10 cap0 (l0.take n10) w12 HO12.out ((HB0.out.below B12).take HN.out) (by have := HN.out; omega)).mono ?_
  rintro e13 w13 ⟨rfl, k13, rfl⟩
  have B13 : Below w.heap.size w (w12.drewN k13) := below_drewN B12 k13
  have HM13 := Lib.hid (show DM (w12.drewN k13) m D V from HM12.out)
  have HW13 := Lib.hid (show Vlt (w12.drewN k13) v2 g H11 V from HW12.out)
  obtain ⟨w14, hw14⟩ : ∃ w14, w12.drewN k13 = w14 := ⟨_, rfl⟩
  rw [hw14] at B13 HM13 HW13
  go_wp2_with fail
  refine (same_yes v2 g m H11 D V w14 HW13.out HM13.out HSm.out).mono ?_
  rintro e15 w15 ⟨rfl, hb15⟩
  have B15 : Below w.heap.size w w15 := B13.trans (hb15.mono B13.size)
  clear hb15
  go_wp2_with fail
  refine (awake_any w15 (HT.out.below B15)).mono ?_
  rintro e16 w16 ⟨rfl, hb16⟩
  have B16 : Below w.heap.size w w16 := B15.trans (hb16.mono B15.size)
  clear hb16
  go_wp2_with fail
  go_ret
  exact ⟨rfl, B16⟩
theorem walk (w : World) (a0 : Option Addr) (len0 cap0 : Nat) (l0 : List UInt8) (w0 : Bs w a0 len0 l0) (s0 : len0 ≤ cap0 ∧ cap0 ≤ 140737488351232) (a1 : Option Addr) (len1 cap1 : Nat) (l1 : List UInt8) (w1 : Bs w a1 len1 l1) (s1 : len1 ≤ cap1 ∧ cap1 ≤ 140737488351232) (a2 : Option Addr) (len2 cap2 : Nat) (l2 : List UInt8) (w2 : Bs w a2 len2 l2) (s2 : len2 ≤ cap2 ∧ cap2 ≤ 140737488351232) (hT : First w ∧ Tab 1 w ∧ Tab 2 w) :
    Calls Tryd.prog 6 #[.slice a0 len0 cap0, .slice a1 len1 cap1, .slice a2 len2 cap2] w fun e w' => e = .returned (.bool true) ∧ Below w.heap.size w w' := by
  by_cases n0 : len0 ≤ 3000
  · by_cases n1 : len1 ≤ 3000
    · by_cases n2 : len2 ≤ 3000
      · exact walk_yes w a0 len0 cap0 l0 w0 s0 a1 len1 cap1 l1 w1 s1 a2 len2 cap2 l2 w2 s2 n0 n1 n2 hT.1 hT.2.1 hT.2.2
      · exact walk_no w a0 len0 cap0 a1 len1 cap1 a2 len2 cap2 (.inr (.inr ⟨n0, n1, by omega⟩)) hT.2.2
    · exact walk_no w a0 len0 cap0 a1 len1 cap1 a2 len2 cap2 (.inr (.inl ⟨n0, by omega⟩)) hT.2.2
  · exact walk_no w a0 len0 cap0 a1 len1 cap1 a2 len2 cap2 (.inl (by omega)) hT.2.2

set_option maxRecDepth 100000 in
theorem lifted (os : Os) (started : os.Started) (H : Type) (enc : TypeId × Value → H) :
    ReturnsInHanded {} Tryd.checked os 6 .any (fun w args => (Rows.vaultForgedSpec.pre enc Tryd.prog Tryd.f6 Rows.vaultForgedRow.domain false w args ∧ laidMetH Tryd.prog lay3 w) ∧ sizedMet enc Tryd.prog Tryd.f6 (OpenSpec.ofChange Rows.vaultForgedSpec) false w args)
      (Rows.vaultForgedSpec.post enc Tryd.prog Tryd.f6 false true false false) := by
  refine returnsInHanded_of_change_and (C := Tryd.checked) (X := fun w _ => laidMetH Tryd.prog lay3 w) (fun _ _ _ hh h => h.of_heap hh) own started (by kernel_rfl) Tryd.func6
    (ChangeSpec.witness_shaped (enc := enc) (C := Tryd.checked) (os := os) (X := fun w _ => laidMetH Tryd.prog lay3 w) false (World.laidAll Tryd.prog os lay3) #[.slice none 0 0, .slice none 0 0, .slice none 0 0] 8 rfl (World.shaped_of_ZipB (by kernel_rfl) (by kernel_rfl)) (by kernel_rfl) (by kernel_rfl) (by kernel_rfl) (met3 os _)) ?_
  intro W base args ds gs before hval0 hW hcnd hsz0 hL _
  have hval : ∀ (j : Nat) t v, Tryd.f6.params[j]? = some t → args[j]? = some v → Value.okWide Tryd.prog W .any base t v := hval0
  have hW' := hW
  obtain ⟨p, q, hA0, hV, rfl, hfz, hnd⟩ := hW
  have hA : DataW.TrodAll enc Tryd.prog W 0 (fun _ => true) true Tryd.f6.params.toList args.toList ds p := hA0
  have hsz : (DataW.weightsEach Tryd.prog (Tryd.f6.params.toList ++ Rows.vaultForgedSpec.plain.varTypes Tryd.prog) (ds ++ gs)).all (· ≤ reachBytes) = true := hsz0
  rw [Tryd.params6] at hA hval hsz
  obtain ⟨v0, vs0, d0, ds0, p0, q0, hargs, rfl, rfl, h0, r0⟩ := trodAll_cons hA
  obtain ⟨v1, vs1, d1, ds1, p1, q1, rfl, rfl, rfl, h1, r1⟩ := trodAll_cons r0
  obtain ⟨v2, vs2, d2, ds2, p2, q2, rfl, rfl, rfl, h2, r2⟩ := trodAll_cons r1
  obtain ⟨rfl, rfl, rfl⟩ := trodAll_nil r2
  obtain rfl : args = #[v0, v1, v2] := by cases args; simp_all
  obtain ⟨rfl, rfl⟩ := trodVars_none hV
  obtain ⟨a0, len0, cap0, rfl⟩ := okWide_slice Tryd.underlying32 (hval 0 32 v0 rfl rfl)
  have k0 := h0
  have lt0 : ∀ x ∈ p0, x.block < W.heap.size := by obtain ⟨m, hm⟩ := k0; exact DataW.trod_lt m _ _ _ hm
  obtain ⟨l0, w0, s0⟩ : ∃ l, Bs W a0 len0 l ∧ len0 ≤ cap0 ∧ cap0 ≤ 140737488351232 := by
    obtain ⟨fuel, hf⟩ := h0
    rcases open_ints Tryd.underlying32 Tryd.underlying5 (by kernel_rfl) hf with ⟨hcs, _⟩ | ⟨x, l, c, zs, hcs, _, hl, hm, hz, hx, hcell, hwz⟩
    · simp [Value.cells] at hcs
      obtain ⟨rfl, rfl, rfl⟩ := hcs
      exact ⟨[], Bs.nil _ _, by omega, by omega⟩
    · simp [Value.cells] at hcs
      obtain ⟨rfl, rfl, rfl⟩ := hcs
      simp only [Prod.mk.injEq] at hx
      obtain ⟨rfl, _⟩ := hx
      have hb := sized_slice hsz (j := 0) (t := 32) (e := 5) rfl rfl Tryd.underlying32
      rw [show Tryd.prog.bytesOf 5 = 1 from by kernel_rfl] at hb
      simp only [lits, List.length_map, List.length_take, List.length_drop, reachBytes] at hb
      have hz' : zs.length = cap0 := by simpa using hz
      exact ⟨_, Bs.of_ints hl hz' hcell hwz, hl, by omega⟩
  obtain ⟨a1, len1, cap1, rfl⟩ := okWide_slice Tryd.underlying32 (hval 1 32 v1 rfl rfl)
  have k1 := h1
  have lt1 : ∀ x ∈ p1, x.block < W.heap.size := by obtain ⟨m, hm⟩ := k1; exact DataW.trod_lt m _ _ _ hm
  obtain ⟨l1, w1, s1⟩ : ∃ l, Bs W a1 len1 l ∧ len1 ≤ cap1 ∧ cap1 ≤ 140737488351232 := by
    obtain ⟨fuel, hf⟩ := h1
    rcases open_ints Tryd.underlying32 Tryd.underlying5 (by kernel_rfl) hf with ⟨hcs, _⟩ | ⟨x, l, c, zs, hcs, _, hl, hm, hz, hx, hcell, hwz⟩
    · simp [Value.cells] at hcs
      obtain ⟨rfl, rfl, rfl⟩ := hcs
      exact ⟨[], Bs.nil _ _, by omega, by omega⟩
    · simp [Value.cells] at hcs
      obtain ⟨rfl, rfl, rfl⟩ := hcs
      simp only [Prod.mk.injEq] at hx
      obtain ⟨rfl, _⟩ := hx
      have hb := sized_slice hsz (j := 1) (t := 32) (e := 5) rfl rfl Tryd.underlying32
      rw [show Tryd.prog.bytesOf 5 = 1 from by kernel_rfl] at hb
      simp only [lits, List.length_map, List.length_take, List.length_drop, reachBytes] at hb
      have hz' : zs.length = cap1 := by simpa using hz
      exact ⟨_, Bs.of_ints hl hz' hcell hwz, hl, by omega⟩
  obtain ⟨a2, len2, cap2, rfl⟩ := okWide_slice Tryd.underlying32 (hval 2 32 v2 rfl rfl)
  have k2 := h2
  have lt2 : ∀ x ∈ p2, x.block < W.heap.size := by obtain ⟨m, hm⟩ := k2; exact DataW.trod_lt m _ _ _ hm
  obtain ⟨l2, w2, s2⟩ : ∃ l, Bs W a2 len2 l ∧ len2 ≤ cap2 ∧ cap2 ≤ 140737488351232 := by
    obtain ⟨fuel, hf⟩ := h2
    rcases open_ints Tryd.underlying32 Tryd.underlying5 (by kernel_rfl) hf with ⟨hcs, _⟩ | ⟨x, l, c, zs, hcs, _, hl, hm, hz, hx, hcell, hwz⟩
    · simp [Value.cells] at hcs
      obtain ⟨rfl, rfl, rfl⟩ := hcs
      exact ⟨[], Bs.nil _ _, by omega, by omega⟩
    · simp [Value.cells] at hcs
      obtain ⟨rfl, rfl, rfl⟩ := hcs
      simp only [Prod.mk.injEq] at hx
      obtain ⟨rfl, _⟩ := hx
      have hb := sized_slice hsz (j := 2) (t := 32) (e := 5) rfl rfl Tryd.underlying32
      rw [show Tryd.prog.bytesOf 5 = 1 from by kernel_rfl] at hb
      simp only [lits, List.length_map, List.length_take, List.length_drop, reachBytes] at hb
      have hz' : zs.length = cap2 := by simpa using hz
      exact ⟨_, Bs.of_ints hl hz' hcell hwz, hl, by omega⟩
  have hTab := of_lay3 hL
  clear hA0 hval0
  refine (walk W a0 len0 cap0 l0 w0 s0 a1 len1 cap1 l1 w1 s1 a2 len2 cap2 l2 w2 s2 hTab).mono fun e W' ⟨he, bel⟩ => ?_
  subst he
  exact ⟨_, rfl, _, _, _, [], _, [], hW', trodAll_mk1 (shut_bool Tryd.underlying4 _), (trodAll_cons_mk (Below.trod laidOut (by kernel_rfl) (of_decide_eq_true (by kernel_rfl)) k0 bel lt0) (trodAll_cons_mk (Below.trod laidOut (by kernel_rfl) (of_decide_eq_true (by kernel_rfl)) k1 bel lt1) (trodAll_cons_mk (Below.trod laidOut (by kernel_rfl) (of_decide_eq_true (by kernel_rfl)) k2 bel lt2) trodAll_mk0))), rfl, bel.frame _, fun h => by cases h⟩
theorem over : Rows.vaultForgedRow.holds Tryd.pinned (OpenSpec.ofChange Rows.vaultForgedSpec) :=
  OpenClaim.holds_of_wide 6 Tryd.f6 rfl rfl rfl rfl rfl rfl rfl ⟨rfl, rfl, rfl, rfl, rfl⟩ rfl rfl rfl rfl rfl (by kernel_rfl) Tryd.func6 (by kernel_rfl)
    (of_decide_eq_true (by kernel_rfl)) (by unfold Func.isWrapper; first | (rw [if_pos (by decide +kernel)]; kernel_rfl) | (rw [if_neg (by decide +kernel)]; exact ⟨rfl, rfl⟩))
    (fun os started H enc _ => lifted os started H enc)
theorem vaultForged_holds : Rows.VaultForgedCardSaid :=
  Claim7.holds_tied_plain_at .later [] [.data, .data, .data] true (true, "3918f1ddf02261ad0a93f38998c4f98da4da0b9053f84aceed042060bea0f41d") false
    over (fun _ h => by cases h) (by kernel_rfl) (fun _ h => by cases h) vaultForged_row_tie rfl ⟨rfl, rfl⟩ (by kernel_rfl) rfl
    (fun f fn hf hfn => by
      obtain rfl : f = 6 := Option.some.inj ((show Tryd.prog.funcNamed "jurat/juratlaw12.VaultForged" = some 6 by kernel_rfl).symm.trans hf) |>.symm
      obtain rfl : fn = Tryd.f6 := (Option.some.inj (Tryd.func6.symm.trans hfn)).symm
      exact ⟨by kernel_rfl, fun j t ht => by
        rw [Tryd.params6] at ht
        have hm : t ∈ [32] := by simpa using Array.mem_of_getElem? ht
        have hall : ([32].all fun u => !Tryd.prog.wantsStandIn u) = true := by kernel_rfl
        exact (show Tryd.prog.wantsStandIn t = false by simpa using List.all_eq_true.1 hall t hm)⟩)
    (by kernel_rfl)
#print axioms vaultForged_holds
end Go.Proofs.YtgiobcpljbpmiaaDoor.vaultForged
