/-
  ShaApart, whole, as the tied card (Rows.ShaApartCardSaid): for all bytes a, b and c, up to 500 each, a clone of a hash of a has the same bytes, and what is written to the one changes nothing of the other: their sums and lengths are the document's of a and b, of a and c; the sum of abc is the document's. Conditions: the tables sha.constants, juratref02.constants and juratref02.first read as their initialisers lay them (tied to the program's text).
-/
import Derived.Test.YtbekdlnoikkkbaaDoorRows
import Derived.Test.YtbekdlnoikkkbaaDoorCards
import Derived.Test.YtbekdlnoikkkbaaDoorTie
import Derived.WalkKit
import Derived.ProofKit
import Derived.OpenShut
import Derived.ShutString
import Derived.ChangeOld
import Derived.Below
import Derived.SizedLaws
import Derived.SevenTiedAt
import Derived.Lay
import Derived.LaidLaws
import Derived.Test.YtbekdlnoikkkbaaDoorLaid
import Derived.Test.YtbekdlnoikkkbaaDoorRefJoin
namespace Go.Proofs.YtbekdlnoikkkbaaDoor.shaApart
open Go.ChangeShapes Go.WideShapes Go.ChangeAt Go.RowKit
set_option linter.unusedVariables false
theorem own : ownKnob Tryd.prog.godebug = none := by kernel_rfl
theorem laidOut : laidOutB Tryd.prog = true := by kernel_rfl
theorem Len_z (g : Nat) (m : List UInt8) (w : World) (z : Int) (h : HashAt w g m) (hz : (m.length : Int) = z) :
    Calls Tryd.prog 20 #[.pointer (some ⟨g, 0, none⟩)] w fun e w' => e = .returned (.int .i64 z) ∧ w = w' := by
  subst hz; exact Len_any g m w h
set_option maxRecDepth 100000 in
set_option maxHeartbeats 1000000 in
theorem walk_big (w : World) (a0 a1 a2 : Option Addr) (n0 n1 n2 c0 c1 c2 : Nat) (hT : Tab 2 w) (h : 500 < n0 ∨ 500 < n1 ∨ 500 < n2) :
    Calls Tryd.prog 7 #[.slice a0 n0 c0, .slice a1 n1 c1, .slice a2 n2 c2] w fun e w' => e = .returned (.bool true) ∧ Below w.heap.size w w' := by
  have HT := Lib.hid hT
  clear hT
  by_cases h0 : 500 < n0
  · have d0 : decide (500 < (n0 : Int)) = true := by simp; omega
    clear h
    go_enter Tryd.func7, Tryd.ntmps7
    go_wp2_with (go_at_call 9; refine (awake_any _ HT.out).mono ?_; rintro e4 w4 ⟨rfl, hb4⟩)
    go_ret
    exact ⟨rfl, hb4⟩
  · have d0 : decide (500 < (n0 : Int)) = false := by simp; omega
    by_cases h1 : 500 < n1
    · have d1 : decide (500 < (n1 : Int)) = true := by simp; omega
      clear h
      go_enter Tryd.func7, Tryd.ntmps7
      go_wp2_with (go_at_call 9; refine (awake_any _ HT.out).mono ?_; rintro e4 w4 ⟨rfl, hb4⟩)
      go_ret
      exact ⟨rfl, hb4⟩
    · have d1 : decide (500 < (n1 : Int)) = false := by simp; omega
      have d2 : decide (500 < (n2 : Int)) = true := by simp; omega
      clear h
      go_enter Tryd.func7, Tryd.ntmps7
      go_wp2_with (go_at_call 9; refine (awake_any _ HT.out).mono ?_; rintro e4 w4 ⟨rfl, hb4⟩)
      go_ret
      exact ⟨rfl, hb4⟩
set_option maxRecDepth 100000 in
set_option maxHeartbeats 2000000 in
theorem walk_ok (w : World) (a0 a1 a2 : Option Addr) (n0 n1 n2 c0 c1 c2 : Nat) (l0 l1 l2 : List UInt8) (b0 : Bs w a0 n0 l0) (b1 : Bs w a1 n1 l1) (b2 : Bs w a2 n2 l2) (hF : First w) (hT1 : Tab 1 w) (hT2 : Tab 2 w) (h0 : n0 ≤ 500) (h1 : n1 ≤ 500) (h2 : n2 ≤ 500) :
    Calls Tryd.prog 7 #[.slice a0 n0 c0, .slice a1 n1 c1, .slice a2 n2 c2] w fun e w' => e = .returned (.bool true) ∧ Below w.heap.size w w' := by
  have d0 : decide (500 < (n0 : Int)) = false := by simp; omega
  have d1 : decide (500 < (n1 : Int)) = false := by simp; omega
  have d2 : decide (500 < (n2 : Int)) = false := by simp; omega
  have HB0 := Lib.hid b0
  have HB1 := Lib.hid b1
  have HB2 := Lib.hid b2
  have HF := Lib.hid hF
  have HT1 := Lib.hid hT1
  have HT2 := Lib.hid hT2
  have HL01 := Lib.hid (show ((l0 ++ l1).length : Int) = (n0 : Int) + (n1 : Int) by rw [List.length_append, b0.1, b1.1]; omega)
  have HL02 := Lib.hid (show ((l0 ++ l2).length : Int) = (n0 : Int) + (n2 : Int) by rw [List.length_append, b0.1, b2.1]; omega)
  have heq1 := eq_digest (sumL (l0 ++ l1)) (sumL_length _)
  have heq2 := eq_digest (sumL (l0 ++ l2)) (sumL_length _)
  have hlt2 := hT2.1
  have hlen0 := b0.1
  have HLen0 := Lib.hid hlen0
  clear b0 b1 b2 hF hT1 hT2 hlen0
  go_enter Tryd.func7, Tryd.ntmps7
  go_wp2_with (first
    | (go_at_call 17; refine (New_any _).mono ?_; rintro e1 w1 ⟨g1, rfl, hg1, hh1, hb1⟩; have HH1 := Lib.hid hh1; have hgl1 := hh1.lt; clear hh1)
    | (at_builtin; refine wpList_copy Tryd.byteTypes rfl (.tmp 25) (.tmp 26) rfl rfl a0 n0 c0 l0 rfl (HB0.out.below hb1) (by omega) ?_; intro A2 k2 w2 hB2 hc2 hb2 ho2; have H2 := Lib.hid hB2; have HA2 := Lib.hid (own_apart ho2 hgl1); have HH2 := Lib.hid (HH1.out.below hb2); have B2 := hb1.trans (hb2.mono hb1.size); clear hB2 ho2))
  refine (Write_any g1 [] A2 n0 k2 l0 w2 HH2.out H2.out HA2.out hc2 (HT2.out.below B2) (by omega) (by simp; omega)).mono ?_
  rintro e3 w3 ⟨rfl, hh3, ho3⟩
  have HH3 := Lib.hid (show HashAt w3 g1 l0 by simpa using hh3)
  have B3 := B2.trans (ho3.below hg1 B2.size)
  clear hh3
  go_wp2_with (first
    | (go_at_call 21; (refine (Clone_any g1 l0 _ HH3.out).mono ?_; rintro e4 w4 ⟨g2, rfl, hg2, hh4, hb4⟩; have HK4 := Lib.hid hh4; have HH4 := Lib.hid (HH3.out.below hb4); have B4 := B3.trans (hb4.mono B3.size); have hgl4 := hh4.lt; have hgh4 := (HH3.out.below hb4).lt; have hne : g2 ≠ g1 := Nat.ne_of_gt (Nat.lt_of_lt_of_le HH3.out.lt hg2); clear hh4))
    | (at_builtin; refine wpList_copy Tryd.byteTypes rfl (.tmp 32) (.tmp 33) rfl rfl a1 n1 c1 l1 rfl (HB1.out.below B4) (by omega) ?_; intro A5 k5 w5 hB5 hc5 hb5 ho5; have H5 := Lib.hid hB5; have HA5 := Lib.hid (own_apart ho5 hgh4); have HH5 := Lib.hid (HH4.out.below hb5); have HK5 := Lib.hid (HK4.out.below hb5); have B5 := B4.trans (hb5.mono B4.size); clear hB5 ho5))
  refine (Write_any g1 l0 A5 n1 k5 l1 w5 HH5.out H5.out HA5.out hc5 (HT2.out.below B5) (by omega) (by rw [HLen0.out]; omega)).mono ?_
  rintro e6 w6 ⟨rfl, hh6, ho6⟩
  have HH6 := Lib.hid hh6
  have HK6 := Lib.hid (HK5.out.only ho6 hne)
  have B6 := B5.trans (ho6.below hg1 B5.size)
  have hgk6 := (HK5.out.only ho6 hne).lt
  clear hh6
  go_wp2_with (at_builtin; refine wpList_copy Tryd.byteTypes rfl (.tmp 37) (.tmp 38) rfl rfl a2 n2 c2 l2 rfl (HB2.out.below B6) (by omega) ?_; intro A7 k7 w7 hB7 hc7 hb7 ho7; have H7 := Lib.hid hB7; have HA7 := Lib.hid (own_apart ho7 hgk6); have HH7 := Lib.hid (HH6.out.below hb7); have HK7 := Lib.hid (HK6.out.below hb7); have B7 := B6.trans (hb7.mono B6.size); clear hB7 ho7)
  have hgw2 : w.heap.size ≤ g2 := Nat.le_trans B3.size hg2
  refine (Write_any g2 l0 A7 n2 k7 l2 w7 HK7.out H7.out HA7.out hc7 (HT2.out.below B7) (by omega) (by rw [HLen0.out]; omega)).mono ?_
  rintro e8 w8 ⟨rfl, hh8, ho8⟩
  have HK8 := Lib.hid hh8
  have HH8 := Lib.hid (HH7.out.only ho8 (Ne.symm hne))
  have B8 := B7.trans (ho8.below hgw2 B7.size)
  clear hh8
  go_wp2_with fail
  refine (HSum_any g1 (l0 ++ l1) w8 HH8.out (HT2.out.below B8) (by have := HL01.out; omega)).mono ?_
  rintro e9 w9 ⟨rfl, hb9⟩
  have B9 := B8.trans (hb9.mono B8.size)
  go_wp2_with fail
  refine (RefJoin_any a0 a1 n0 n1 c0 c1 l0 l1 w9 (HB0.out.below B9) (HB1.out.below B9) (by omega)).mono ?_
  rintro e10 w10 ⟨A10, n10, k10, rfl, hB10, hc10, hb10, ho10⟩
  have H10 := Lib.hid hB10
  have hn10 : n10 ≤ 1000 := by have := hB10.1; have := HL01.out; omega
  have B10 := B9.trans (hb10.mono B9.size)
  clear hB10 ho10
  go_wp2_with fail
  refine (RefSum_any A10 n10 k10 (l0 ++ l1) w10 H10.out hc10 (HF.out.below B10) (HT1.out.below B10) (by omega)).mono ?_
  rintro e11 w11 ⟨rfl, hb11⟩
  have B11 := B10.trans (hb11.mono B10.size)
  have HK11 := Lib.hid (((HK8.out.below hb9).below hb10).below hb11)
  have HH11 := Lib.hid (((HH8.out.below hb9).below hb10).below hb11)
  go_wp2_with fail
  refine (HSum_any g2 (l0 ++ l2) w11 HK11.out (HT2.out.below B11) (by have := HL02.out; omega)).mono ?_
  rintro e12 w12 ⟨rfl, hb12⟩
  have B12 := B11.trans (hb12.mono B11.size)
  go_wp2_with fail
  refine (RefJoin_any a0 a2 n0 n2 c0 c2 l0 l2 w12 (HB0.out.below B12) (HB2.out.below B12) (by omega)).mono ?_
  rintro e13 w13 ⟨A13, n13, k13, rfl, hB13, hc13, hb13, ho13⟩
  have H13 := Lib.hid hB13
  have hn13 : n13 ≤ 1000 := by have := hB13.1; have := HL02.out; omega
  have B13 := B12.trans (hb13.mono B12.size)
  clear hB13 ho13
  go_wp2_with fail
  refine (RefSum_any A13 n13 k13 (l0 ++ l2) w13 H13.out hc13 (HF.out.below B13) (HT1.out.below B13) (by omega)).mono ?_
  rintro e14 w14 ⟨rfl, hb14⟩
  have B14 := B13.trans (hb14.mono B13.size)
  have HK14 := Lib.hid (((HK11.out.below hb12).below hb13).below hb14)
  have HH14 := Lib.hid (((HH11.out.below hb12).below hb13).below hb14)
  go_wp2_with fail
  refine (Len_z g1 (l0 ++ l1) w14 _ HH14.out HL01.out).mono ?_
  rintro e15 w15 ⟨rfl, rfl⟩
  go_wp2_with fail
  refine (Len_z g2 (l0 ++ l2) w14 _ HK14.out HL02.out).mono ?_
  rintro e16 w16 ⟨rfl, rfl⟩
  go_wp2_with fail
  refine (awake_any w14 (HT2.out.below B14)).mono ?_
  rintro e17 w17 ⟨rfl, hb17⟩
  go_wp2_with fail
  go_ret
  exact ⟨rfl, B14.trans (hb17.mono B14.size)⟩
theorem walk (w : World) (a0 : Option Addr) (len0 cap0 : Nat) (l0 : List UInt8) (w0 : Bs w a0 len0 l0) (s0 : len0 ≤ cap0 ∧ cap0 ≤ 140737488351232) (a1 : Option Addr) (len1 cap1 : Nat) (l1 : List UInt8) (w1 : Bs w a1 len1 l1) (s1 : len1 ≤ cap1 ∧ cap1 ≤ 140737488351232) (a2 : Option Addr) (len2 cap2 : Nat) (l2 : List UInt8) (w2 : Bs w a2 len2 l2) (s2 : len2 ≤ cap2 ∧ cap2 ≤ 140737488351232) (hT : First w ∧ Tab 1 w ∧ Tab 2 w) :
    Calls Tryd.prog 7 #[.slice a0 len0 cap0, .slice a1 len1 cap1, .slice a2 len2 cap2] w fun e w' => e = .returned (.bool true) ∧ Below w.heap.size w w' := by
  by_cases h : len0 ≤ 500 ∧ len1 ≤ 500 ∧ len2 ≤ 500
  · exact walk_ok w a0 a1 a2 len0 len1 len2 cap0 cap1 cap2 l0 l1 l2 w0 w1 w2 hT.1 hT.2.1 hT.2.2 h.1 h.2.1 h.2.2
  · exact walk_big w a0 a1 a2 len0 len1 len2 cap0 cap1 cap2 hT.2.2 (by omega)

set_option maxRecDepth 100000 in
theorem lifted (os : Os) (started : os.Started) (H : Type) (enc : TypeId × Value → H) :
    ReturnsInHanded {} Tryd.checked os 7 .any (fun w args => (Rows.shaApartSpec.pre enc Tryd.prog Tryd.f7 Rows.shaApartRow.domain false w args ∧ laidMetH Tryd.prog lay3 w) ∧ sizedMet enc Tryd.prog Tryd.f7 (OpenSpec.ofChange Rows.shaApartSpec) false w args)
      (Rows.shaApartSpec.post enc Tryd.prog Tryd.f7 false true false false) := by
  refine returnsInHanded_of_change_and (C := Tryd.checked) (X := fun w _ => laidMetH Tryd.prog lay3 w) (fun _ _ _ hh h => h.of_heap hh) own started (by kernel_rfl) Tryd.func7
    (ChangeSpec.witness_shaped (enc := enc) (C := Tryd.checked) (os := os) (X := fun w _ => laidMetH Tryd.prog lay3 w) false (World.laidAll Tryd.prog os lay3) #[.slice none 0 0, .slice none 0 0, .slice none 0 0] 8 rfl (World.shaped_of_ZipB (by kernel_rfl) (by kernel_rfl)) (by kernel_rfl) (by kernel_rfl) (by kernel_rfl) (met3 os _)) ?_
  intro W base args ds gs before hval0 hW hcnd hsz0 hL _
  have hval : ∀ (j : Nat) t v, Tryd.f7.params[j]? = some t → args[j]? = some v → Value.okWide Tryd.prog W .any base t v := hval0
  have hW' := hW
  obtain ⟨p, q, hA0, hV, rfl, hfz, hnd⟩ := hW
  have hA : DataW.TrodAll enc Tryd.prog W 0 (fun _ => true) true Tryd.f7.params.toList args.toList ds p := hA0
  have hsz : (DataW.weightsEach Tryd.prog (Tryd.f7.params.toList ++ Rows.shaApartSpec.plain.varTypes Tryd.prog) (ds ++ gs)).all (· ≤ reachBytes) = true := hsz0
  rw [Tryd.params7] at hA hval hsz
  obtain ⟨v0, vs0, d0, ds0, p0, q0, hargs, rfl, rfl, h0, r0⟩ := trodAll_cons hA
  obtain ⟨v1, vs1, d1, ds1, p1, q1, rfl, rfl, rfl, h1, r1⟩ := trodAll_cons r0
  obtain ⟨v2, vs2, d2, ds2, p2, q2, rfl, rfl, rfl, h2, r2⟩ := trodAll_cons r1
  obtain ⟨rfl, rfl, rfl⟩ := trodAll_nil r2
  obtain rfl : args = #[v0, v1, v2] := by cases args; simp_all
  obtain ⟨rfl, rfl⟩ := trodVars_none hV
  obtain ⟨a0, len0, cap0, rfl⟩ := okWide_slice Tryd.underlying22 (hval 0 22 v0 rfl rfl)
  have k0 := h0
  have lt0 : ∀ x ∈ p0, x.block < W.heap.size := by obtain ⟨m, hm⟩ := k0; exact DataW.trod_lt m _ _ _ hm
  obtain ⟨l0, w0, s0⟩ : ∃ l, Bs W a0 len0 l ∧ len0 ≤ cap0 ∧ cap0 ≤ 140737488351232 := by
    obtain ⟨fuel, hf⟩ := h0
    rcases open_ints Tryd.underlying22 Tryd.underlying5 (by kernel_rfl) hf with ⟨hcs, _⟩ | ⟨x, l, c, zs, hcs, _, hl, hm, hz, hx, hcell, hwz⟩
    · simp [Value.cells] at hcs
      obtain ⟨rfl, rfl, rfl⟩ := hcs
      exact ⟨[], Bs.nil _ _, by omega, by omega⟩
    · simp [Value.cells] at hcs
      obtain ⟨rfl, rfl, rfl⟩ := hcs
      simp only [Prod.mk.injEq] at hx
      obtain ⟨rfl, _⟩ := hx
      have hb := sized_slice hsz (j := 0) (t := 22) (e := 5) rfl rfl Tryd.underlying22
      rw [show Tryd.prog.bytesOf 5 = 1 from by kernel_rfl] at hb
      simp only [lits, List.length_map, List.length_take, List.length_drop, reachBytes] at hb
      have hz' : zs.length = cap0 := by simpa using hz
      exact ⟨_, Bs.of_ints hl hz' hcell hwz, hl, by omega⟩
  obtain ⟨a1, len1, cap1, rfl⟩ := okWide_slice Tryd.underlying22 (hval 1 22 v1 rfl rfl)
  have k1 := h1
  have lt1 : ∀ x ∈ p1, x.block < W.heap.size := by obtain ⟨m, hm⟩ := k1; exact DataW.trod_lt m _ _ _ hm
  obtain ⟨l1, w1, s1⟩ : ∃ l, Bs W a1 len1 l ∧ len1 ≤ cap1 ∧ cap1 ≤ 140737488351232 := by
    obtain ⟨fuel, hf⟩ := h1
    rcases open_ints Tryd.underlying22 Tryd.underlying5 (by kernel_rfl) hf with ⟨hcs, _⟩ | ⟨x, l, c, zs, hcs, _, hl, hm, hz, hx, hcell, hwz⟩
    · simp [Value.cells] at hcs
      obtain ⟨rfl, rfl, rfl⟩ := hcs
      exact ⟨[], Bs.nil _ _, by omega, by omega⟩
    · simp [Value.cells] at hcs
      obtain ⟨rfl, rfl, rfl⟩ := hcs
      simp only [Prod.mk.injEq] at hx
      obtain ⟨rfl, _⟩ := hx
      have hb := sized_slice hsz (j := 1) (t := 22) (e := 5) rfl rfl Tryd.underlying22
      rw [show Tryd.prog.bytesOf 5 = 1 from by kernel_rfl] at hb
      simp only [lits, List.length_map, List.length_take, List.length_drop, reachBytes] at hb
      have hz' : zs.length = cap1 := by simpa using hz
      exact ⟨_, Bs.of_ints hl hz' hcell hwz, hl, by omega⟩
  obtain ⟨a2, len2, cap2, rfl⟩ := okWide_slice Tryd.underlying22 (hval 2 22 v2 rfl rfl)
  have k2 := h2
  have lt2 : ∀ x ∈ p2, x.block < W.heap.size := by obtain ⟨m, hm⟩ := k2; exact DataW.trod_lt m _ _ _ hm
  obtain ⟨l2, w2, s2⟩ : ∃ l, Bs W a2 len2 l ∧ len2 ≤ cap2 ∧ cap2 ≤ 140737488351232 := by
    obtain ⟨fuel, hf⟩ := h2
    rcases open_ints Tryd.underlying22 Tryd.underlying5 (by kernel_rfl) hf with ⟨hcs, _⟩ | ⟨x, l, c, zs, hcs, _, hl, hm, hz, hx, hcell, hwz⟩
    · simp [Value.cells] at hcs
      obtain ⟨rfl, rfl, rfl⟩ := hcs
      exact ⟨[], Bs.nil _ _, by omega, by omega⟩
    · simp [Value.cells] at hcs
      obtain ⟨rfl, rfl, rfl⟩ := hcs
      simp only [Prod.mk.injEq] at hx
      obtain ⟨rfl, _⟩ := hx
      have hb := sized_slice hsz (j := 2) (t := 22) (e := 5) rfl rfl Tryd.underlying22
      rw [show Tryd.prog.bytesOf 5 = 1 from by kernel_rfl] at hb
      simp only [lits, List.length_map, List.length_take, List.length_drop, reachBytes] at hb
      have hz' : zs.length = cap2 := by simpa using hz
      exact ⟨_, Bs.of_ints hl hz' hcell hwz, hl, by omega⟩
  have hTab := of_lay3 hL
  clear hA0 hval0
  refine (walk W a0 len0 cap0 l0 w0 s0 a1 len1 cap1 l1 w1 s1 a2 len2 cap2 l2 w2 s2 hTab).mono fun e W' ⟨he, bel⟩ => ?_
  subst he
  exact ⟨_, rfl, _, _, _, [], _, [], hW', trodAll_mk1 (shut_bool Tryd.underlying4 _), (trodAll_cons_mk (Below.trod laidOut (by kernel_rfl) (of_decide_eq_true (by kernel_rfl)) k0 bel lt0) (trodAll_cons_mk (Below.trod laidOut (by kernel_rfl) (of_decide_eq_true (by kernel_rfl)) k1 bel lt1) (trodAll_cons_mk (Below.trod laidOut (by kernel_rfl) (of_decide_eq_true (by kernel_rfl)) k2 bel lt2) trodAll_mk0))), rfl, bel.frame _, fun h => by cases h⟩
theorem over : Rows.shaApartRow.holds Tryd.pinned (OpenSpec.ofChange Rows.shaApartSpec) :=
  OpenClaim.holds_of_wide 7 Tryd.f7 rfl rfl rfl rfl rfl rfl rfl ⟨rfl, rfl, rfl, rfl, rfl⟩ rfl rfl rfl rfl rfl (by kernel_rfl) Tryd.func7 (by kernel_rfl)
    (of_decide_eq_true (by kernel_rfl)) (by unfold Func.isWrapper; first | (rw [if_pos (by decide +kernel)]; kernel_rfl) | (rw [if_neg (by decide +kernel)]; exact ⟨rfl, rfl⟩))
    (fun os started H enc _ => lifted os started H enc)
theorem shaApart_holds : Rows.ShaApartCardSaid :=
  Claim7.holds_tied_plain_at .later [] [.data, .data, .data] true (true, "cd5223bcd05b994fe2076e12c14aa4b5dcc109b39c990a01de11415a3af69244") false
    over (fun _ h => by cases h) (by kernel_rfl) (fun _ h => by cases h) shaApart_row_tie rfl ⟨rfl, rfl⟩ (by kernel_rfl) rfl
    (fun f fn hf hfn => by
      obtain rfl : f = 7 := Option.some.inj ((show Tryd.prog.funcNamed "jurat/juratlaw02.ShaApart" = some 7 by kernel_rfl).symm.trans hf) |>.symm
      obtain rfl : fn = Tryd.f7 := (Option.some.inj (Tryd.func7.symm.trans hfn)).symm
      exact ⟨by kernel_rfl, fun j t ht => by
        rw [Tryd.params7] at ht
        have hm : t ∈ [22] := by simpa using Array.mem_of_getElem? ht
        have hall : ([22].all fun u => !Tryd.prog.wantsStandIn u) = true := by kernel_rfl
        exact (show Tryd.prog.wantsStandIn t = false by simpa using List.all_eq_true.1 hall t hm)⟩)
    (by kernel_rfl)
#print axioms shaApart_holds
end Go.Proofs.YtbekdlnoikkkbaaDoor.shaApart
