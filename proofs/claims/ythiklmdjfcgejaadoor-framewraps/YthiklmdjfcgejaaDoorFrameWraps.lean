/-
  FrameWraps, whole, as the tied card (Rows.FrameWrapsCardSaid): for every slice of bytes (up to 2000 are played) Wrap answers the document's frame and no error; zeros of 2^18 - 1 and of 2^18 bytes are wrapped in 12 bytes more, of one more they are refused with ErrLong and no bytes; and the example of one record. Conditions: the tables juratref02.first, juratref02.constants and sha.constants read as their initialisers lay them (tied to the program's text).
-/
import Derived.Test.YthiklmdjfcgejaaDoorRows
import Derived.Test.YthiklmdjfcgejaaDoorCards
import Derived.Test.YthiklmdjfcgejaaDoorTie
import Derived.WalkKit
import Derived.ProofKit
import Derived.OpenShut
import Derived.ChangeMaps5
import Derived.ShutString
import Derived.ChangeOld
import Derived.Below
import Derived.SizedLaws
import Derived.SevenTiedAt
import Derived.Lay
import Derived.LaidLaws
import Derived.Test.YthiklmdjfcgejaaDoorFrG
namespace Go.Proofs.YthiklmdjfcgejaaDoor.frameWraps
open Go.ChangeShapes Go.WideShapes Go.ChangeAt Go.RowKit
open Go.ChangeMaps (open_string shut_string)
set_option linter.unusedVariables false
theorem own : ownKnob Tryd.prog.godebug = none := by kernel_rfl
theorem laidOut : laidOutB Tryd.prog = true := by kernel_rfl
theorem zeros_len (N : Nat) (h1 : 65536 ≤ N) (h2 : N < 16777216) : (frB (List.replicate N 0)).length = N + 12 := by
  rw [frB_length, List.length_replicate, wide_eq (k := 2) h1 h2]; omega
set_option maxRecDepth 100000 in
set_option maxHeartbeats 4000000 in
theorem walk_neg (w : World) (a0 : Option Addr) (len0 cap0 : Nat) (l0 : List UInt8) (w0 : Bs w a0 len0 l0) (s0 : len0 ≤ cap0) (hn : len0 ≤ 2000) (a1 : Int) (h1 : a1 < 0) (hF : First w) (hT1 : Tab 1 w) (hT : Tab 2 w) :
    Calls Tryd.prog 3 #[.slice a0 len0 cap0, .int .i64 a1] w fun e w' => e = .returned (.bool true) ∧ Below w.heap.size w w' := by
  have HF := Lib.hid hF
  have HT1 := Lib.hid hT1
  have HT := Lib.hid hT
  have HB := Lib.hid w0
  have hni : ¬ (2000 : Int) < (len0 : Int) := by omega
  have HO := Lib.hid (own_any a0 len0 cap0 l0 w w0 (by omega))
  have hl := w0.1
  have HLn := Lib.hid hl
  have HW := Lib.hid (fun A c w hB hT => Wrap_any A len0 c l0 w hB (by omega) hT)
  have HRW := Lib.hid (fun w hB hF hT => RefWrap_any a0 len0 cap0 l0 w hB (by omega) hF hT)
  have hfl : (frB l0).length ≤ 3000 := by have := wide8 (N := l0.length) (by omega); rw [frB_length]; omega
  unfold S4NewSlice at HO
  unfold NewErr at HW HRW
  rw [hl] at HO
  generalize frB l0 = F at *
  obtain ⟨f, hf⟩ : ∃ f, F.length = f := ⟨_, rfl⟩
  rw [hf] at HW HRW hfl
  clear w0 hl hF hT1 hT hf
  go_enter Tryd.func3, Tryd.ntmps3
  go_wp2_with (first
    | (go_at_call 10; refine HO.out.mono ?_; rintro e1 w1 ⟨A1, c1, rfl, hc1, hb1, ho1⟩; have hs1 := hb1.size; have HO1 := Lib.hid ho1; have tok1 := Lib.hid True.intro; clear ho1)
    | (go_at_call 9; have _t := tok1; clear _t tok1; refine (HW.out A1 c1 w1 HO1.out.bs (HT.out.below hb1)).mono ?_; rintro e2 w2 ⟨A2, c2, rfl, hc2, hb2, ho2⟩; have b2 := hb1.trans (hb2.mono hs1); have hs2 := b2.size; have HO2 := Lib.hid ho2; clear ho2)
    | (go_at_call 11; refine (HRW.out w2 (HB.out.below b2) (HF.out.below b2) (HT1.out.below b2)).mono ?_; rintro e3 w3 ⟨A3, c3, rfl, hc3, hb3, ho3⟩; have b3 := b2.trans (hb3.mono hs2); have hs3 := b3.size; have HA2 := Lib.hid (HO2.out.bs.below hb3); have HA3 := Lib.hid ho3.bs; clear ho3)
    | (go_at_call 12; refine (Same_yes A2 A3 f c2 c3 F w3 (HA2.out) (HA3.out) (by omega)).mono ?_; rintro e6 w6 ⟨rfl, m6, rfl⟩)
    | (go_at_call 8; refine (awake_any (w3.drewN m6) (HT.out.below (below_drewN b3 m6))).mono ?_; rintro e7 w7 ⟨rfl, hb7⟩))
  go_ret
  exact ⟨rfl, (below_drewN b3 m6).trans (hb7.mono b3.size)⟩
set_option maxRecDepth 100000 in
set_option maxHeartbeats 4000000 in
theorem walk_big (w : World) (a0 : Option Addr) (len0 cap0 : Nat) (l0 : List UInt8) (w0 : Bs w a0 len0 l0) (s0 : len0 ≤ cap0) (hn : len0 ≤ 2000) (a1 : Int) (h1 : 3 ≤ a1) (hF : First w) (hT1 : Tab 1 w) (hT : Tab 2 w) :
    Calls Tryd.prog 3 #[.slice a0 len0 cap0, .int .i64 a1] w fun e w' => e = .returned (.bool true) ∧ Below w.heap.size w w' := by
  have HF := Lib.hid hF
  have HT1 := Lib.hid hT1
  have HT := Lib.hid hT
  have HB := Lib.hid w0
  have hni : ¬ (2000 : Int) < (len0 : Int) := by omega
  have HO := Lib.hid (own_any a0 len0 cap0 l0 w w0 (by omega))
  have hl := w0.1
  have HLn := Lib.hid hl
  have HW := Lib.hid (fun A c w hB hT => Wrap_any A len0 c l0 w hB (by omega) hT)
  have HRW := Lib.hid (fun w hB hF hT => RefWrap_any a0 len0 cap0 l0 w hB (by omega) hF hT)
  have hfl : (frB l0).length ≤ 3000 := by have := wide8 (N := l0.length) (by omega); rw [frB_length]; omega
  unfold S4NewSlice at HO
  unfold NewErr at HW HRW
  rw [hl] at HO
  generalize frB l0 = F at *
  obtain ⟨f, hf⟩ : ∃ f, F.length = f := ⟨_, rfl⟩
  rw [hf] at HW HRW hfl
  clear w0 hl hF hT1 hT hf
  have h0 : 0 ≤ a1 := by omega
  have h3 : ¬ a1 < 3 := by omega
  go_enter Tryd.func3, Tryd.ntmps3
  go_wp2_with (first
    | (go_at_call 10; refine HO.out.mono ?_; rintro e1 w1 ⟨A1, c1, rfl, hc1, hb1, ho1⟩; have hs1 := hb1.size; have HO1 := Lib.hid ho1; have tok1 := Lib.hid True.intro; clear ho1)
    | (go_at_call 9; have _t := tok1; clear _t tok1; refine (HW.out A1 c1 w1 HO1.out.bs (HT.out.below hb1)).mono ?_; rintro e2 w2 ⟨A2, c2, rfl, hc2, hb2, ho2⟩; have b2 := hb1.trans (hb2.mono hs1); have hs2 := b2.size; have HO2 := Lib.hid ho2; clear ho2)
    | (go_at_call 11; refine (HRW.out w2 (HB.out.below b2) (HF.out.below b2) (HT1.out.below b2)).mono ?_; rintro e3 w3 ⟨A3, c3, rfl, hc3, hb3, ho3⟩; have b3 := b2.trans (hb3.mono hs2); have hs3 := b3.size; have HA2 := Lib.hid (HO2.out.bs.below hb3); have HA3 := Lib.hid ho3.bs; clear ho3)
    | (go_at_call 12; refine (Same_yes A2 A3 f c2 c3 F w3 (HA2.out) (HA3.out) (by omega)).mono ?_; rintro e6 w6 ⟨rfl, m6, rfl⟩)
    | (go_at_call 8; refine (awake_any (w3.drewN m6) (HT.out.below (below_drewN b3 m6))).mono ?_; rintro e7 w7 ⟨rfl, hb7⟩))
  go_ret
  exact ⟨rfl, (below_drewN b3 m6).trans (hb7.mono b3.size)⟩
set_option maxRecDepth 100000 in
set_option maxHeartbeats 4000000 in
theorem walk_0 (w : World) (a0 : Option Addr) (len0 cap0 : Nat) (l0 : List UInt8) (w0 : Bs w a0 len0 l0) (s0 : len0 ≤ cap0) (hn : len0 ≤ 2000) (hF : First w) (hT1 : Tab 1 w) (hT : Tab 2 w) :
    Calls Tryd.prog 3 #[.slice a0 len0 cap0, .int .i64 0] w fun e w' => e = .returned (.bool true) ∧ Below w.heap.size w w' := by
  have HF := Lib.hid hF
  have HT1 := Lib.hid hT1
  have HT := Lib.hid hT
  have HB := Lib.hid w0
  have hni : ¬ (2000 : Int) < (len0 : Int) := by omega
  have HO := Lib.hid (own_any a0 len0 cap0 l0 w w0 (by omega))
  have hl := w0.1
  have HLn := Lib.hid hl
  have HW := Lib.hid (fun A c w hB hT => Wrap_any A len0 c l0 w hB (by omega) hT)
  have HRW := Lib.hid (fun w hB hF hT => RefWrap_any a0 len0 cap0 l0 w hB (by omega) hF hT)
  have hfl : (frB l0).length ≤ 3000 := by have := wide8 (N := l0.length) (by omega); rw [frB_length]; omega
  unfold S4NewSlice at HO
  unfold NewErr at HW HRW
  rw [hl] at HO
  generalize frB l0 = F at *
  obtain ⟨f, hf⟩ : ∃ f, F.length = f := ⟨_, rfl⟩
  rw [hf] at HW HRW hfl
  clear w0 hl hF hT1 hT hf
  obtain ⟨N, hN⟩ : ∃ N : Nat, (262143 : Int) = (N : Int) := ⟨262143, rfl⟩
  have HN := Lib.hid hN
  have hN1 : N ≤ 262145 := by omega
  have HW2 := Lib.hid (fun A c w hB hT => Wrap_any A N c (List.replicate N 0) w hB (by have := HN.out; omega) hT)
  unfold NewErr at HW2
  rw [zeros_len N (by omega) (by omega), show N + 12 = 262155 by omega] at HW2
  generalize frB (List.replicate N 0) = Z at *
  clear hN
  go_enter Tryd.func3, Tryd.ntmps3
  go_wp2_with (first
    | (go_at_call 10; refine HO.out.mono ?_; rintro e1 w1 ⟨A1, c1, rfl, hc1, hb1, ho1⟩; have hs1 := hb1.size; have HO1 := Lib.hid ho1; have tok1 := Lib.hid True.intro; clear ho1)
    | (go_at_call 9; have _t := tok1; clear _t tok1; refine (HW.out A1 c1 w1 HO1.out.bs (HT.out.below hb1)).mono ?_; rintro e2 w2 ⟨A2, c2, rfl, hc2, hb2, ho2⟩; have b2 := hb1.trans (hb2.mono hs1); have hs2 := b2.size; have HO2 := Lib.hid ho2; clear ho2)
    | (go_at_call 11; refine (HRW.out w2 (HB.out.below b2) (HF.out.below b2) (HT1.out.below b2)).mono ?_; rintro e3 w3 ⟨A3, c3, rfl, hc3, hb3, ho3⟩; have b3 := b2.trans (hb3.mono hs2); have hs3 := b3.size; have HA2 := Lib.hid (HO2.out.bs.below hb3); have HA3 := Lib.hid ho3.bs; clear ho3)
    | (with_reducible refine wpList_makeB Tryd.byteTypes rfl (.tmp 34) (.tmp 34) rfl N _ rfl rfl HN.out (by have := HN.out; omega) ?_; intro g w4 hg hB4 hb4; have HB4 := Lib.hid hB4; have b4 := b3.trans (hb4.mono hs3); have hs4 := hb4.size; have tok4 := Lib.hid True.intro; clear hB4)
    | (go_at_call 9; have _t := tok4; clear _t tok4; refine (HW2.out _ N w4 HB4.out (HT.out.below b4)).mono ?_; rintro e5 w5 ⟨A5, c5, rfl, hc5, hb5, ho5⟩; have b35 : Below w3.heap.size w3 w5 := hb4.trans (hb5.mono hs4); have b5 := b3.trans (b35.mono hs3); clear ho5)
    | (go_at_call 12; refine (Same_yes A2 A3 f c2 c3 F w5 (HA2.out.below b35) (HA3.out.below b35) (by omega)).mono ?_; rintro e6 w6 ⟨rfl, m6, rfl⟩)
    | (go_at_call 8; refine (awake_any (w5.drewN m6) (HT.out.below (below_drewN b5 m6))).mono ?_; rintro e7 w7 ⟨rfl, hb7⟩))
  go_ret
  exact ⟨rfl, (below_drewN b5 m6).trans (hb7.mono b5.size)⟩
set_option maxRecDepth 100000 in
set_option maxHeartbeats 4000000 in
theorem walk_1 (w : World) (a0 : Option Addr) (len0 cap0 : Nat) (l0 : List UInt8) (w0 : Bs w a0 len0 l0) (s0 : len0 ≤ cap0) (hn : len0 ≤ 2000) (hF : First w) (hT1 : Tab 1 w) (hT : Tab 2 w) :
    Calls Tryd.prog 3 #[.slice a0 len0 cap0, .int .i64 1] w fun e w' => e = .returned (.bool true) ∧ Below w.heap.size w w' := by
  have HF := Lib.hid hF
  have HT1 := Lib.hid hT1
  have HT := Lib.hid hT
  have HB := Lib.hid w0
  have hni : ¬ (2000 : Int) < (len0 : Int) := by omega
  have HO := Lib.hid (own_any a0 len0 cap0 l0 w w0 (by omega))
  have hl := w0.1
  have HLn := Lib.hid hl
  have HW := Lib.hid (fun A c w hB hT => Wrap_any A len0 c l0 w hB (by omega) hT)
  have HRW := Lib.hid (fun w hB hF hT => RefWrap_any a0 len0 cap0 l0 w hB (by omega) hF hT)
  have hfl : (frB l0).length ≤ 3000 := by have := wide8 (N := l0.length) (by omega); rw [frB_length]; omega
  unfold S4NewSlice at HO
  unfold NewErr at HW HRW
  rw [hl] at HO
  generalize frB l0 = F at *
  obtain ⟨f, hf⟩ : ∃ f, F.length = f := ⟨_, rfl⟩
  rw [hf] at HW HRW hfl
  clear w0 hl hF hT1 hT hf
  obtain ⟨N, hN⟩ : ∃ N : Nat, (262144 : Int) = (N : Int) := ⟨262144, rfl⟩
  have HN := Lib.hid hN
  have hN1 : N ≤ 262145 := by omega
  have HW2 := Lib.hid (fun A c w hB hT => Wrap_any A N c (List.replicate N 0) w hB (by have := HN.out; omega) hT)
  unfold NewErr at HW2
  rw [zeros_len N (by omega) (by omega), show N + 12 = 262156 by omega] at HW2
  generalize frB (List.replicate N 0) = Z at *
  clear hN
  go_enter Tryd.func3, Tryd.ntmps3
  go_wp2_with (first
    | (go_at_call 10; refine HO.out.mono ?_; rintro e1 w1 ⟨A1, c1, rfl, hc1, hb1, ho1⟩; have hs1 := hb1.size; have HO1 := Lib.hid ho1; have tok1 := Lib.hid True.intro; clear ho1)
    | (go_at_call 9; have _t := tok1; clear _t tok1; refine (HW.out A1 c1 w1 HO1.out.bs (HT.out.below hb1)).mono ?_; rintro e2 w2 ⟨A2, c2, rfl, hc2, hb2, ho2⟩; have b2 := hb1.trans (hb2.mono hs1); have hs2 := b2.size; have HO2 := Lib.hid ho2; clear ho2)
    | (go_at_call 11; refine (HRW.out w2 (HB.out.below b2) (HF.out.below b2) (HT1.out.below b2)).mono ?_; rintro e3 w3 ⟨A3, c3, rfl, hc3, hb3, ho3⟩; have b3 := b2.trans (hb3.mono hs2); have hs3 := b3.size; have HA2 := Lib.hid (HO2.out.bs.below hb3); have HA3 := Lib.hid ho3.bs; clear ho3)
    | (with_reducible refine wpList_makeB Tryd.byteTypes rfl (.tmp 34) (.tmp 34) rfl N _ rfl rfl HN.out (by have := HN.out; omega) ?_; intro g w4 hg hB4 hb4; have HB4 := Lib.hid hB4; have b4 := b3.trans (hb4.mono hs3); have hs4 := hb4.size; have tok4 := Lib.hid True.intro; clear hB4)
    | (go_at_call 9; have _t := tok4; clear _t tok4; refine (HW2.out _ N w4 HB4.out (HT.out.below b4)).mono ?_; rintro e5 w5 ⟨A5, c5, rfl, hc5, hb5, ho5⟩; have b35 : Below w3.heap.size w3 w5 := hb4.trans (hb5.mono hs4); have b5 := b3.trans (b35.mono hs3); clear ho5)
    | (go_at_call 12; refine (Same_yes A2 A3 f c2 c3 F w5 (HA2.out.below b35) (HA3.out.below b35) (by omega)).mono ?_; rintro e6 w6 ⟨rfl, m6, rfl⟩)
    | (go_at_call 8; refine (awake_any (w5.drewN m6) (HT.out.below (below_drewN b5 m6))).mono ?_; rintro e7 w7 ⟨rfl, hb7⟩))
  go_ret
  exact ⟨rfl, (below_drewN b5 m6).trans (hb7.mono b5.size)⟩
set_option maxRecDepth 100000 in
set_option maxHeartbeats 4000000 in
theorem walk_2 (w : World) (a0 : Option Addr) (len0 cap0 : Nat) (l0 : List UInt8) (w0 : Bs w a0 len0 l0) (s0 : len0 ≤ cap0) (hn : len0 ≤ 2000) (hF : First w) (hT1 : Tab 1 w) (hT : Tab 2 w) :
    Calls Tryd.prog 3 #[.slice a0 len0 cap0, .int .i64 2] w fun e w' => e = .returned (.bool true) ∧ Below w.heap.size w w' := by
  have HF := Lib.hid hF
  have HT1 := Lib.hid hT1
  have HT := Lib.hid hT
  have HB := Lib.hid w0
  have hni : ¬ (2000 : Int) < (len0 : Int) := by omega
  have HO := Lib.hid (own_any a0 len0 cap0 l0 w w0 (by omega))
  have hl := w0.1
  have HLn := Lib.hid hl
  have HW := Lib.hid (fun A c w hB hT => Wrap_any A len0 c l0 w hB (by omega) hT)
  have HRW := Lib.hid (fun w hB hF hT => RefWrap_any a0 len0 cap0 l0 w hB (by omega) hF hT)
  have hfl : (frB l0).length ≤ 3000 := by have := wide8 (N := l0.length) (by omega); rw [frB_length]; omega
  unfold S4NewSlice at HO
  unfold NewErr at HW HRW
  rw [hl] at HO
  generalize frB l0 = F at *
  obtain ⟨f, hf⟩ : ∃ f, F.length = f := ⟨_, rfl⟩
  rw [hf] at HW HRW hfl
  clear w0 hl hF hT1 hT hf
  obtain ⟨N, hN⟩ : ∃ N : Nat, (262145 : Int) = (N : Int) := ⟨262145, rfl⟩
  have HN := Lib.hid hN
  have hN1 : N ≤ 262145 := by omega
  have hN2 : 262144 < N := by omega
  clear hN
  go_enter Tryd.func3, Tryd.ntmps3
  go_wp2_with (first
    | (go_at_call 10; refine HO.out.mono ?_; rintro e1 w1 ⟨A1, c1, rfl, hc1, hb1, ho1⟩; have hs1 := hb1.size; have HO1 := Lib.hid ho1; have tok1 := Lib.hid True.intro; clear ho1)
    | (go_at_call 9; have _t := tok1; clear _t tok1; refine (HW.out A1 c1 w1 HO1.out.bs (HT.out.below hb1)).mono ?_; rintro e2 w2 ⟨A2, c2, rfl, hc2, hb2, ho2⟩; have b2 := hb1.trans (hb2.mono hs1); have hs2 := b2.size; have HO2 := Lib.hid ho2; clear ho2)
    | (go_at_call 11; refine (HRW.out w2 (HB.out.below b2) (HF.out.below b2) (HT1.out.below b2)).mono ?_; rintro e3 w3 ⟨A3, c3, rfl, hc3, hb3, ho3⟩; have b3 := b2.trans (hb3.mono hs2); have hs3 := b3.size; have HA2 := Lib.hid (HO2.out.bs.below hb3); have HA3 := Lib.hid ho3.bs; clear ho3)
    | (with_reducible refine wpList_makeB Tryd.byteTypes rfl (.tmp 34) (.tmp 34) rfl N _ rfl rfl HN.out (by have := HN.out; omega) ?_; intro g w4 hg hB4 hb4; have HB4 := Lib.hid hB4; have b4 := b3.trans (hb4.mono hs3); have hs4 := hb4.size; have tok4 := Lib.hid True.intro; clear hB4)
    | (go_at_call 9; have _t := tok4; clear _t tok4; refine (Wrap_long (some ⟨g, 0, none⟩) N N w4 (by omega) (by omega)).mono ?_; rintro e5 w5 ⟨rfl, rfl⟩; have b35 := hb4; have b5 := b4)
    | (go_at_call 12; refine (Same_yes A2 A3 f c2 c3 F w4 (HA2.out.below hb4) (HA3.out.below hb4) (by omega)).mono ?_; rintro e6 w6 ⟨rfl, m6, rfl⟩)
    | (go_at_call 8; refine (awake_any (w4.drewN m6) (HT.out.below (below_drewN b4 m6))).mono ?_; rintro e7 w7 ⟨rfl, hb7⟩))
  go_ret
  exact ⟨rfl, (below_drewN b4 m6).trans (hb7.mono b4.size)⟩
set_option maxRecDepth 100000 in
set_option maxHeartbeats 1000000 in
theorem walk (w : World) (a0 : Option Addr) (len0 cap0 : Nat) (l0 : List UInt8) (w0 : Bs w a0 len0 l0) (s0 : len0 ≤ cap0 ∧ cap0 ≤ 140737488351232) (a1 : Int) (_w1 : (Lit.int .i64 a1).wf = true) (hT : First w ∧ Tab 1 w ∧ Tab 2 w) :
    Calls Tryd.prog 3 #[.slice a0 len0 cap0, .int .i64 a1] w fun e w' => e = .returned (.bool true) ∧ Below w.heap.size w w' := by
  by_cases hn : len0 ≤ 2000
  · obtain ⟨h1, h2, h3⟩ := hT
    by_cases q0 : a1 < 0
    · exact walk_neg w a0 len0 cap0 l0 w0 s0.1 hn a1 q0 h1 h2 h3
    · by_cases q3 : 3 ≤ a1
      · exact walk_big w a0 len0 cap0 l0 w0 s0.1 hn a1 q3 h1 h2 h3
      · have h : a1 = 0 ∨ a1 = 1 ∨ a1 = 2 := by omega
        rcases h with rfl | rfl | rfl
        · exact walk_0 w a0 len0 cap0 l0 w0 s0.1 hn h1 h2 h3
        · exact walk_1 w a0 len0 cap0 l0 w0 s0.1 hn h1 h2 h3
        · exact walk_2 w a0 len0 cap0 l0 w0 s0.1 hn h1 h2 h3
  · have HT := Lib.hid hT.2.2
    have hni : (2000 : Int) < (len0 : Int) := by omega
    clear w0 hT
    go_enter Tryd.func3, Tryd.ntmps3
    go_wp2_with (go_at_call 8; refine (awake_any w HT.out).mono ?_; rintro e5 w5 ⟨rfl, hb5⟩)
    go_ret
    exact ⟨rfl, hb5⟩

set_option maxRecDepth 100000 in
theorem lifted (os : Os) (started : os.Started) (H : Type) (enc : TypeId × Value → H) :
    ReturnsInHanded {} Tryd.checked os 3 .any (fun w args => (Rows.frameWrapsSpec.pre enc Tryd.prog Tryd.f3 Rows.frameWrapsRow.domain false w args ∧ laidMetH Tryd.prog lay3 w) ∧ sizedMet enc Tryd.prog Tryd.f3 (OpenSpec.ofChange Rows.frameWrapsSpec) false w args)
      (Rows.frameWrapsSpec.post enc Tryd.prog Tryd.f3 false true false false) := by
  refine returnsInHanded_of_change_and (C := Tryd.checked) (X := fun w _ => laidMetH Tryd.prog lay3 w) (fun _ _ _ hh h => h.of_heap hh) own started (by kernel_rfl) Tryd.func3
    (ChangeSpec.witness_shaped (enc := enc) (C := Tryd.checked) (os := os) (X := fun w _ => laidMetH Tryd.prog lay3 w) false (World.laidAll Tryd.prog os lay3) #[.slice none 0 0, .int .i64 0] 8 rfl (World.shaped_of_ZipB (by kernel_rfl) (by kernel_rfl)) (by kernel_rfl) (by kernel_rfl) (by kernel_rfl) (met3 os _)) ?_
  intro W base args ds gs before hval0 hW hcnd hsz0 hL _
  have hval : ∀ (j : Nat) t v, Tryd.f3.params[j]? = some t → args[j]? = some v → Value.okWide Tryd.prog W .any base t v := hval0
  have hW' := hW
  obtain ⟨p, q, hA0, hV, rfl, hfz, hnd⟩ := hW
  have hA : DataW.TrodAll enc Tryd.prog W 0 (fun _ => true) true Tryd.f3.params.toList args.toList ds p := hA0
  have hsz : (DataW.weightsEach Tryd.prog (Tryd.f3.params.toList ++ Rows.frameWrapsSpec.plain.varTypes Tryd.prog) (ds ++ gs)).all (· ≤ reachBytes) = true := hsz0
  rw [Tryd.params3] at hA hval hsz
  obtain ⟨v0, vs0, d0, ds0, p0, q0, hargs, rfl, rfl, h0, r0⟩ := trodAll_cons hA
  obtain ⟨v1, vs1, d1, ds1, p1, q1, rfl, rfl, rfl, h1, r1⟩ := trodAll_cons r0
  obtain ⟨rfl, rfl, rfl⟩ := trodAll_nil r1
  obtain rfl : args = #[v0, v1] := by cases args; simp_all
  obtain ⟨rfl, rfl⟩ := trodVars_none hV
  obtain ⟨a0, len0, cap0, rfl⟩ := okWide_slice Tryd.underlying22 (hval 0 22 v0 rfl rfl)
  have k0 := h0
  have lt0 : ∀ x ∈ p0, x.block < W.heap.size := by obtain ⟨m, hm⟩ := k0; exact DataW.trod_lt m _ _ _ hm
  obtain ⟨l0, w0, s0⟩ : ∃ l, Bs W a0 len0 l ∧ len0 ≤ cap0 ∧ cap0 ≤ 140737488351232 := by
    obtain ⟨fuel, hf⟩ := h0
    rcases open_ints Tryd.underlying22 Tryd.underlying5 (by kernel_rfl) hf with ⟨hcs, _⟩ | ⟨x, l, c, zs, hcs, _, hl, hm, hz, hx, hcell, hwz⟩
    · simp [Value.cells] at hcs
      obtain ⟨rfl, rfl, rfl⟩ := hcs
      exact ⟨[], Bs.nil _ _, by omega, by omega⟩
    · simp [Value.cells] at hcs
      obtain ⟨rfl, rfl, rfl⟩ := hcs
      simp only [Prod.mk.injEq] at hx
      obtain ⟨rfl, _⟩ := hx
      have hb := sized_slice hsz (j := 0) (t := 22) (e := 5) rfl rfl Tryd.underlying22
      rw [show Tryd.prog.bytesOf 5 = 1 from by kernel_rfl] at hb
      simp only [lits, List.length_map, List.length_take, List.length_drop, reachBytes] at hb
      have hz' : zs.length = cap0 := by simpa using hz
      exact ⟨_, Bs.of_ints hl hz' hcell hwz, hl, by omega⟩
  obtain ⟨a1, rfl, rfl, rfl, w1⟩ := open_int Tryd.underlying3 (hval 1 3 v1 rfl rfl) h1
  have hTab := of_lay3 hL
  clear hA0 hval0
  refine (walk W a0 len0 cap0 l0 w0 s0 a1 w1 hTab).mono fun e W' ⟨he, bel⟩ => ?_
  subst he
  exact ⟨_, rfl, _, _, _, [], _, [], hW', trodAll_mk1 (shut_bool Tryd.underlying4 _), (trodAll_cons_mk (Below.trod laidOut (by kernel_rfl) (of_decide_eq_true (by kernel_rfl)) k0 bel lt0) (trodAll_cons_mk (shut_int Tryd.underlying3 w1) trodAll_mk0)), rfl, bel.frame _, fun h => by cases h⟩
theorem over : Rows.frameWrapsRow.holds Tryd.pinned (OpenSpec.ofChange Rows.frameWrapsSpec) :=
  OpenClaim.holds_of_wide 3 Tryd.f3 rfl rfl rfl rfl rfl rfl rfl ⟨rfl, rfl, rfl, rfl, rfl⟩ rfl rfl rfl rfl rfl (by kernel_rfl) Tryd.func3 (by kernel_rfl)
    (of_decide_eq_true (by kernel_rfl)) (by unfold Func.isWrapper; first | (rw [if_pos (by decide +kernel)]; kernel_rfl) | (rw [if_neg (by decide +kernel)]; exact ⟨rfl, rfl⟩))
    (fun os started H enc _ => lifted os started H enc)
theorem frameWraps_holds : Rows.FrameWrapsCardSaid :=
  Claim7.holds_tied_plain_at .later [] [.data, .data, .data] true (true, "0dfdb452681147ab36feb87030e359a9ea2d751349dfb2aa735547e11ec60962") false
    over (fun _ h => by cases h) (by kernel_rfl) (fun _ h => by cases h) frameWraps_row_tie rfl ⟨rfl, rfl⟩ (by kernel_rfl) rfl
    (fun f fn hf hfn => by
      obtain rfl : f = 3 := Option.some.inj ((show Tryd.prog.funcNamed "jurat/juratlaw11.FrameWraps" = some 3 by kernel_rfl).symm.trans hf) |>.symm
      obtain rfl : fn = Tryd.f3 := (Option.some.inj (Tryd.func3.symm.trans hfn)).symm
      exact ⟨by kernel_rfl, fun j t ht => by
        rw [Tryd.params3] at ht
        have hm : t ∈ [22, 3] := by simpa using Array.mem_of_getElem? ht
        have hall : ([22, 3].all fun u => !Tryd.prog.wantsStandIn u) = true := by kernel_rfl
        exact (show Tryd.prog.wantsStandIn t = false by simpa using List.all_eq_true.1 hall t hm)⟩)
    (by kernel_rfl)
#print axioms frameWraps_holds
end Go.Proofs.YthiklmdjfcgejaaDoor.frameWraps
